/-
  The runes of any text are the document's: the statement itself, of the landed code, with no further condition.
-/
import Derived.Test.YtohlhjbnomknbaaUtfKept
import Derived.Test.YtohlhjbnomknbaaUtfLands
import Derived.Test.YtohlhjbnomknbaaUtfArgs
import Derived.Test.YtohlhjbnomknbaaFrame
namespace Go.Proofs.Ytohlhjbnomknbaa.utfRunes
open Go.ChangeShapes Go.WideShapes Go.ChangeAt Go.ChangeMaps Go.RowKit Go.Deep

set_option maxRecDepth 100000 in
set_option maxHeartbeats 1000000 in
theorem walk_all (K : Kept) (s : ByteArray) (hs : (s.size : Int) ≤ 9223372036854775807) (W : World) : Calls Try.prog 3 #[.string s] W fun e w' => e = .returned (.bool true) ∧ Below W.heap.size W w' := by
  by_cases hlen : (1000 : Int) < (s.size : Int)
  · have HF := Lib.hid (fixed_any K)
    go_enter Try.func3, Try.ntmps3
    go_wp2_with fail
    refine (HF.out _).mono ?_; rintro e w' ⟨rfl, hb⟩
    go_wp2_with fail
    go_ret
    exact ⟨rfl, hb⟩
  · have HF := Lib.hid (fixed_any K)
    have R1 := Lib.hid (K.runes_all s (by omega))
    have R2 := Lib.hid (ref_runes_read · s (by omega))
    have HM := Lib.hid (runesOf_many s).1
    obtain ⟨L, hL⟩ : ∃ L, L = ints (runesOf s) := ⟨_, rfl⟩
    have hll : L.length ≤ 1000000 := by rw [hL, ints_length]; have := HM.out; omega
    rw [← hL] at R1
    rw [show ((runesOf s).map fun (r : Nat) => (r : Int)) = L from hL.symm] at R2
    clear hL
    go_enter Try.func3, Try.ntmps3
    go_wp2_with fail
    refine (HF.out _).mono ?_; rintro e w1 ⟨rfl, hb⟩
    have HB := Lib.hid hb
    clear hb
    go_wp2_with fail
    refine (R1.out _).mono ?_; rintro e w2 ⟨oa, c, rfl, hc1, hc2, hr, hb⟩
    have HR := Lib.hid hr
    have HB := Lib.hid (HB.out.trans (hb.mono HB.out.size))
    clear hr hb
    go_wp2_with fail
    refine (R2.out _).mono ?_; rintro e w3 ⟨g, c', rfl, hc3, hc4, hr, hb⟩
    have HR := Lib.hid (HR.out.below hb)
    have HR' := Lib.hid hr
    have HB := Lib.hid (HB.out.trans (hb.mono HB.out.size))
    clear hr hb
    go_wp2_with fail
    refine (ref_same _ oa (some ⟨g, 0, none⟩) c c' L L HR.out HR'.out hll).mono ?_; rintro e w4 ⟨rfl, hb⟩
    have HB := Lib.hid (HB.out.trans (hb.mono HB.out.size))
    clear hb
    have hd : decide (L = L) = true := by simp
    rw [hd]
    go_wp2_with fail
    go_ret
    exact ⟨rfl, HB.out⟩
-- closing
set_option linter.unusedVariables false in
theorem walk (K : Kept) {H : Type} {enc : TypeId × Value → H} (W : World) (args : Array Value) (ds : List (DataW H)) (hin : ArgsIn enc Try.prog Try.f3.params.toList W args ds) :
    Calls Try.prog 3 args W fun e W' => e = .returned (.bool true) ∧ Below W.heap.size W W' := by
  obtain ⟨⟨p, hA, hlt⟩, ⟨base, hval⟩, hsz⟩ := hin
  rw [Try.params3] at hA hval hsz
  obtain ⟨v0, vs0, d0, ds0, p0, q0, hargs, rfl, rfl, h0, r0⟩ := trodAll_cons hA
  obtain ⟨rfl, rfl, rfl⟩ := trodAll_nil r0
  obtain rfl : args = #[v0] := by cases args; simp_all
  obtain ⟨a0, rfl, rfl, rfl, w0⟩ := open_string Try.underlying9 (hval 0 9 v0 rfl rfl) h0
  exact walk_all K a0 (size_int w0) W

set_option maxRecDepth 100000 in
theorem proved_of (K : Kept) : Rows.UtfRunesSaid :=
  OpenClaim.holds_of_wide 3 Try.f3 rfl rfl rfl rfl rfl rfl rfl ⟨rfl, rfl, rfl, rfl, rfl⟩ rfl rfl rfl rfl rfl (by kernel_rfl) Try.func3 (by kernel_rfl)
    (of_decide_eq_true (by kernel_rfl)) (by unfold Func.isWrapper; first | (rw [if_pos (by decide +kernel)]; kernel_rfl) | (rw [if_neg (by decide +kernel)]; exact ⟨rfl, rfl⟩))
    (fun os started H enc _ => law_lifted (s := Rows.utfRunesSpec) own started (by kernel_rfl) Try.func3 laidOut (by kernel_rfl) (by kernel_rfl) Try.underlying4 rfl
      (ChangeSpec.witness6 (enc := enc) (C := Try.checked) false ⟨#[], #[.string ByteArray.empty], []⟩ 8 (by kernel_rfl) (by kernel_rfl) (by kernel_rfl) (by kernel_rfl))
      (fun ds h => match ds, h with | [_], _ => rfl) (walk K))
theorem proved : Rows.UtfRunesSaid := proved_of kept
#print axioms proved
end Go.Proofs.Ytohlhjbnomknbaa.utfRunes
