/-
  A text of nothing but runes' bytes is its runes' text, and just such a text is: the statement itself, of the landed code, with no further condition.
-/
import Derived.Test.YtohlhjbnomknbaaUtfKept
import Derived.Test.YtohlhjbnomknbaaUtfLands
import Derived.Test.YtohlhjbnomknbaaUtfArgs
import Derived.Test.YtohlhjbnomknbaaFrame
namespace Go.Proofs.Ytohlhjbnomknbaa.utfBack
open Go.ChangeShapes Go.WideShapes Go.ChangeAt Go.ChangeMaps Go.RowKit Go.Deep

/-- No rune of the first ones is 65533. -/
def wholeB (l : List Int) : Bool := l.all fun r => r != 65533
theorem whole_snoc (l : List Int) (r : Int) : wholeB (l ++ [r]) = (wholeB l && (r != 65533)) := by simp [wholeB]
theorem whole_text (s : ByteArray) (h : wholeB (ints (runesOf s)) = true) : textZ (ints (runesOf s)) = s := by
  apply text_whole
  intro r hr e
  have := List.all_eq_true.1 h (r : Int) (by unfold ints; exact List.mem_map.2 ⟨r, hr, rfl⟩)
  subst e
  simp at this

set_option maxRecDepth 100000 in
set_option maxHeartbeats 2000000 in
theorem walk_all (K : Kept) (s : ByteArray) (hs : (s.size : Int) ≤ 9223372036854775807) (W : World) : Calls Try.prog 6 #[.string s] W fun e w' => e = .returned (.bool true) ∧ Below W.heap.size W w' := by
  by_cases hlen : (1000 : Int) < (s.size : Int)
  · have HF := Lib.hid (fixed_any K)
    go_enter Try.func6, Try.ntmps6
    go_wp2_with fail
    refine (HF.out _).mono ?_; rintro e w' ⟨rfl, hb⟩
    go_wp2_with fail
    go_ret
    exact ⟨rfl, hb⟩
  · have HF := Lib.hid (fixed_any K)
    have R1 := Lib.hid (K.runes_all s (by omega))
    have R2 := Lib.hid (ref_runes_read · s (by omega))
    have HM := (runesOf_many s).1
    have hback := runes_back s
    have hwhole := whole_text s
    have hints : ints (runesOf (textZ (ints (runesOf s)))) = ints (runesOf s) := by rw [hback]
    clear hback
    rw [show ((runesOf s).map fun (r : Nat) => (r : Int)) = ints (runesOf s) from rfl] at R2
    rw [← ints_length (runesOf s)] at HM
    have hsz : (textZ (ints (runesOf s))).size ≤ 1000000 := by
      rw [textZ_size]
      have := textB_le (ints (runesOf s))
      omega
    have R3 := Lib.hid (K.runes_of _ _ hsz hints)
    have HT := Lib.hid (fun (w : World) (oa : Option Addr) (c : Nat) (h1 : (ints (runesOf s)).length ≤ c) (h2 : c ≤ maxLen) (h3 : ReadI w oa (ints (runesOf s))) => K.text w oa c (ints (runesOf s)) (by omega) h1 h2 h3 (ints_i32 (runesOf_ok s)))
    generalize hT : textZ (ints (runesOf s)) = t at R3 HT hwhole hints hsz
    generalize hL : ints (runesOf s) = L at R1 R2 R3 HT hwhole hints HM
    clear hints hsz hT hL
    have HWh := Lib.hid hwhole
    clear hwhole
    go_enter Try.func6, Try.ntmps6
    go_wp2_with fail
    refine (R2.out _).mono ?_; rintro e w1 ⟨g, c, rfl, hc1, hc2, hr, hb⟩
    have HR := Lib.hid hr
    have HB := Lib.hid hb
    clear hr hb
    go_wp2_with fail
    go_loopw [3, 14] (fun bv iv wr => ∃ i : Nat, i ≤ L.length ∧ iv = .int .i64 i ∧ bv = .bool (wholeB (L.take i)) ∧ wr = w1) (fun _ iv _ => L.length - (intOf iv).toNat)
    case atStart => exact ⟨0, by omega, rfl, rfl, rfl⟩
    case round =>
      obtain ⟨i, hi, rfl, rfl, rfl⟩ := hrel
      by_cases hlt : i < L.length
      · obtain ⟨r, hr⟩ : ∃ r, L[i]? = some r := ⟨_, List.getElem?_eq_getElem hlt⟩
        obtain ⟨ad, had, hcell⟩ := HR.out i r hr
        obtain rfl : (⟨g, 0, none⟩ : Addr) = ad := by simpa using had
        simp only [Addr.add_lit, Nat.zero_add] at hcell
        clear had
        have HT1 := Lib.hid (show wholeB (L.take (i + 1)) = (wholeB (L.take i) && (r != 65533)) by rw [List.take_add_one, hr]; exact whole_snoc _ _)
        have hlt1 : (i : Int) < (L.length : Int) := by omega
        clear hr
        cases hwb : wholeB (L.take i)
        · rw [hwb] at HT1
          go_wp2_with fail
          go_roundw
          case rel => exact ⟨i + 1, by omega, by go_num, by rw [HT1.out]; rfl, trivial⟩
          case measure => simp [intOf]; omega
        · rw [hwb] at HT1
          go_wp2_with fail
          go_roundw
          case rel => exact ⟨i + 1, by omega, by go_num, by rw [HT1.out]; simp, trivial⟩
          case measure => simp [intOf]; omega
      · have hi' : i = L.length := by omega
        subst hi'
        rw [List.take_length]
        go_wp2_with fail
        refine (R1.out _).mono ?_; rintro e w2 ⟨oa, c2, rfl, hd1, hd2, hr, hb⟩
        have HR := Lib.hid hr
        have HB := Lib.hid (HB.out.trans (hb.mono HB.out.size))
        clear hr hb
        go_wp2_with fail
        refine (HT.out _ _ _ hd1 hd2 HR.out).mono ?_; rintro e w3 ⟨rfl, hb⟩
        have HB := Lib.hid (HB.out.trans (hb.mono HB.out.size))
        clear hb
        go_wp2_with fail
        refine (HF.out _).mono ?_; rintro e w4 ⟨rfl, hb⟩
        have HB := Lib.hid (HB.out.trans (hb.mono HB.out.size))
        clear hb
        cases hwb : wholeB L
        · go_wp2_with fail
          refine (R3.out _).mono ?_; rintro e w5 ⟨ob, c3, rfl, hd3, hd4, hr, hb⟩
          have HR := Lib.hid hr
          have HB := Lib.hid (HB.out.trans (hb.mono HB.out.size))
          clear hr hb
          go_wp2_with fail
          refine (HT.out _ _ _ hd3 hd4 HR.out).mono ?_; rintro e w6 ⟨rfl, hb⟩
          have HB := Lib.hid (HB.out.trans (hb.mono HB.out.size))
          clear hb
          go_wp2_with fail
          go_ret
          exact ⟨rfl, HB.out⟩
        · obtain rfl := HWh.out hwb
          go_wp2_with fail
          refine (R3.out _).mono ?_; rintro e w5 ⟨ob, c3, rfl, hd3, hd4, hr, hb⟩
          have HR := Lib.hid hr
          have HB := Lib.hid (HB.out.trans (hb.mono HB.out.size))
          clear hr hb
          go_wp2_with fail
          refine (HT.out _ _ _ hd3 hd4 HR.out).mono ?_; rintro e w6 ⟨rfl, hb⟩
          have HB := Lib.hid (HB.out.trans (hb.mono HB.out.size))
          clear hb
          go_wp2_with fail
          go_ret
          exact ⟨rfl, HB.out⟩
-- closing
set_option linter.unusedVariables false in
theorem walk (K : Kept) {H : Type} {enc : TypeId × Value → H} (W : World) (args : Array Value) (ds : List (DataW H)) (hin : ArgsIn enc Try.prog Try.f6.params.toList W args ds) :
    Calls Try.prog 6 args W fun e W' => e = .returned (.bool true) ∧ Below W.heap.size W W' := by
  obtain ⟨⟨p, hA, hlt⟩, ⟨base, hval⟩, hsz⟩ := hin
  rw [Try.params6] at hA hval hsz
  obtain ⟨v0, vs0, d0, ds0, p0, q0, hargs, rfl, rfl, h0, r0⟩ := trodAll_cons hA
  obtain ⟨rfl, rfl, rfl⟩ := trodAll_nil r0
  obtain rfl : args = #[v0] := by cases args; simp_all
  obtain ⟨a0, rfl, rfl, rfl, w0⟩ := open_string Try.underlying9 (hval 0 9 v0 rfl rfl) h0
  exact walk_all K a0 (size_int w0) W

set_option maxRecDepth 100000 in
theorem proved_of (K : Kept) : Rows.UtfBackSaid :=
  OpenClaim.holds_of_wide 6 Try.f6 rfl rfl rfl rfl rfl rfl rfl ⟨rfl, rfl, rfl, rfl, rfl⟩ rfl rfl rfl rfl rfl (by kernel_rfl) Try.func6 (by kernel_rfl)
    (of_decide_eq_true (by kernel_rfl)) (by unfold Func.isWrapper; first | (rw [if_pos (by decide +kernel)]; kernel_rfl) | (rw [if_neg (by decide +kernel)]; exact ⟨rfl, rfl⟩))
    (fun os started H enc _ => law_lifted (s := Rows.utfBackSpec) own started (by kernel_rfl) Try.func6 laidOut (by kernel_rfl) (by kernel_rfl) Try.underlying4 rfl
      (ChangeSpec.witness6 (enc := enc) (C := Try.checked) false ⟨#[], #[.string ByteArray.empty], []⟩ 8 (by kernel_rfl) (by kernel_rfl) (by kernel_rfl) (by kernel_rfl))
      (fun ds h => match ds, h with | [_], _ => rfl) (walk K))
theorem proved : Rows.UtfBackSaid := proved_of kept
#print axioms proved
end Go.Proofs.Ytohlhjbnomknbaa.utfBack
