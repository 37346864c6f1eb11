/-
  As many of the first runes as fit are the document's: the statement itself, of the landed code, with no further condition.
-/
import Derived.Test.YtohlhjbnomknbaaUtfKept
import Derived.Test.YtohlhjbnomknbaaUtfLands
import Derived.Test.YtohlhjbnomknbaaUtfArgs
import Derived.Test.YtohlhjbnomknbaaFrame
namespace Go.Proofs.Ytohlhjbnomknbaa.utfFits
open Go.ChangeShapes Go.WideShapes Go.ChangeAt Go.ChangeMaps Go.RowKit Go.Deep

set_option maxRecDepth 100000 in
set_option maxHeartbeats 1000000 in
theorem walk_all (K : Kept) (s : ByteArray) (n : Int) (hs : (s.size : Int) ≤ 9223372036854775807) (h1 : -9223372036854775808 ≤ n) (h2 : n ≤ 9223372036854775807) (W : World) : Calls Try.prog 5 #[.string s, .int .i64 n] W fun e w' => e = .returned (.bool true) ∧ Below W.heap.size W w' := by
  by_cases hlen : (300 : Int) < (s.size : Int)
  · have HF := Lib.hid (fixed_any K)
    go_enter Try.func5, Try.ntmps5
    go_wp2_with fail
    refine (HF.out _).mono ?_; rintro e w' ⟨rfl, hb⟩
    go_wp2_with fail
    go_ret
    exact ⟨rfl, hb⟩
  · have HF := Lib.hid (fixed_any K)
    have R1 := Lib.hid (K.fit · s n (by omega) h1 h2)
    have R2 := Lib.hid (ref_fit · s n (by omega))
    have HM := (runesOf_many s).1
    have hfit := fit_fits (ints (runesOf s)) n
    have hbest := best_is (ints (runesOf s)) n
    rw [ints_length] at hbest
    change (bestTo ((runesOf s).map fun (r : Nat) => (r : Int)) n ((runesOf s).length + 1) = _) at hbest
    have hnone : ¬ 0 ≤ n → textZ ((ints (runesOf s)).take (fitK (ints (runesOf s)) n)) = ⟨#[]⟩ := by
      intro h
      rw [fitK_neg _ _ (by omega)]
      rfl
    have hsz : (textZ ((ints (runesOf s)).take (fitK (ints (runesOf s)) n))).size ≤ 4000000 := by
      rw [textZ_size]
      have := textB_le ((ints (runesOf s)).take (fitK (ints (runesOf s)) n))
      rw [List.length_take, ints_length] at this
      omega
    rw [hbest] at R2
    generalize textZ ((ints (runesOf s)).take (fitK (ints (runesOf s)) n)) = t at R1 R2 hfit hnone hsz
    clear hbest HM
    have HC := Lib.hid (And.intro hfit hnone)
    clear hfit hnone
    by_cases hn : 0 ≤ n
    · have hle := HC.out.1 hn
      go_enter Try.func5, Try.ntmps5
      go_wp2_with fail
      refine (R1.out _).mono ?_; rintro e w1 ⟨rfl, hb⟩
      have HB := Lib.hid hb
      clear hb
      go_wp2_with fail
      refine (HF.out _).mono ?_; rintro e w2 ⟨rfl, hb⟩
      have HB := Lib.hid (HB.out.trans (hb.mono HB.out.size))
      clear hb
      go_wp2_with fail
      refine (R2.out _).mono ?_; rintro e w3 ⟨rfl, hb⟩
      have HB := Lib.hid (HB.out.trans (hb.mono HB.out.size))
      clear hb
      go_wp2_with fail
      go_ret
      exact ⟨rfl, HB.out⟩
    · obtain rfl := HC.out.2 hn
      have hle : ¬ (0 : Int) ≤ n := hn
      go_enter Try.func5, Try.ntmps5
      go_wp2_with fail
      refine (R1.out _).mono ?_; rintro e w1 ⟨rfl, hb⟩
      have HB := Lib.hid hb
      clear hb
      go_wp2_with fail
      refine (HF.out _).mono ?_; rintro e w2 ⟨rfl, hb⟩
      have HB := Lib.hid (HB.out.trans (hb.mono HB.out.size))
      clear hb
      go_wp2_with fail
      refine (R2.out _).mono ?_; rintro e w3 ⟨rfl, hb⟩
      have HB := Lib.hid (HB.out.trans (hb.mono HB.out.size))
      clear hb
      go_wp2_with fail
      go_ret
      exact ⟨rfl, HB.out⟩
-- closing
set_option linter.unusedVariables false in
theorem walk (K : Kept) {H : Type} {enc : TypeId × Value → H} (W : World) (args : Array Value) (ds : List (DataW H)) (hin : ArgsIn enc Try.prog Try.f5.params.toList W args ds) :
    Calls Try.prog 5 args W fun e W' => e = .returned (.bool true) ∧ Below W.heap.size W W' := by
  obtain ⟨⟨p, hA, hlt⟩, ⟨base, hval⟩, hsz⟩ := hin
  rw [Try.params5] at hA hval hsz
  obtain ⟨v0, vs0, d0, ds0, p0, q0, hargs, rfl, rfl, h0, r0⟩ := trodAll_cons hA
  obtain ⟨v1, vs1, d1, ds1, p1, q1, rfl, rfl, rfl, h1, r1⟩ := trodAll_cons r0
  obtain ⟨rfl, rfl, rfl⟩ := trodAll_nil r1
  obtain rfl : args = #[v0, v1] := by cases args; simp_all
  obtain ⟨a0, rfl, rfl, rfl, w0⟩ := open_string Try.underlying9 (hval 0 9 v0 rfl rfl) h0
  obtain ⟨a1, rfl, rfl, rfl, w1⟩ := open_int Try.underlying3 (hval 1 3 v1 rfl rfl) h1
  exact walk_all K a0 a1 (size_int w0) (i64_lo w1) (i64_hi w1) W

set_option maxRecDepth 100000 in
theorem proved_of (K : Kept) : Rows.UtfFitsSaid :=
  OpenClaim.holds_of_wide 5 Try.f5 rfl rfl rfl rfl rfl rfl rfl ⟨rfl, rfl, rfl, rfl, rfl⟩ rfl rfl rfl rfl rfl (by kernel_rfl) Try.func5 (by kernel_rfl)
    (of_decide_eq_true (by kernel_rfl)) (by unfold Func.isWrapper; first | (rw [if_pos (by decide +kernel)]; kernel_rfl) | (rw [if_neg (by decide +kernel)]; exact ⟨rfl, rfl⟩))
    (fun os started H enc _ => law_lifted (s := Rows.utfFitsSpec) own started (by kernel_rfl) Try.func5 laidOut (by kernel_rfl) (by kernel_rfl) Try.underlying4 rfl
      (ChangeSpec.witness6 (enc := enc) (C := Try.checked) false ⟨#[], #[.string ByteArray.empty, .int .i64 0], []⟩ 8 (by kernel_rfl) (by kernel_rfl) (by kernel_rfl) (by kernel_rfl))
      (fun ds h => match ds, h with | [_, _], _ => rfl) (walk K))
theorem proved : Rows.UtfFitsSaid := proved_of kept
#print axioms proved
end Go.Proofs.Ytohlhjbnomknbaa.utfFits
