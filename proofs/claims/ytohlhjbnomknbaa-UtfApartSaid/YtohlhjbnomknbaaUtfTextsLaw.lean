/-
  The bytes of any runes are the document's, and read again they are the runes: the statement itself, of the landed code, with no further condition.
-/
import Derived.Test.YtohlhjbnomknbaaUtfKept
import Derived.Test.YtohlhjbnomknbaaUtfLands
import Derived.Test.YtohlhjbnomknbaaUtfArgs
import Derived.Test.YtohlhjbnomknbaaFrame
namespace Go.Proofs.Ytohlhjbnomknbaa.utfTexts
open Go.ChangeShapes Go.WideShapes Go.ChangeAt Go.ChangeMaps Go.RowKit Go.Deep

/-- A row of runes of its own, or none, can be read. -/
theorem runes_reads {w : World} {base : Nat} {v : Value} {l : List Nat} (h : RunesIn w base v l) : ∃ oa cap, v = .slice oa l.length cap ∧ ReadI w oa (ints l) := by
  by_cases hn : v = .slice none 0 0
  · subst hn
    rcases h.2 with ⟨_, h0⟩ | ⟨g, cap, cur, e, _⟩
    · have : l = [] := List.eq_nil_of_length_eq_zero h0
      subst this
      exact ⟨none, 0, rfl, fun j r hj => by simp [ints] at hj⟩
    · cases e
  · obtain ⟨g, cap, rfl, _, _, _, _, hr⟩ := runes_read h hn
    exact ⟨_, _, rfl, hr⟩
theorem norm_yes {r : Int} (h : 0 ≤ r ∧ okR r.toNat) : ((normR r : Nat) : Int) = r := by
  unfold normR
  rw [if_pos h]
  omega
theorem norm_no {r : Int} (h : ¬ (0 ≤ r ∧ okR r.toNat)) : normR r = 65533 := by
  unfold normR
  rw [if_neg h]

set_option maxRecDepth 100000 in
set_option maxHeartbeats 2000000 in
theorem walk_all (K : Kept) (ao : Option Addr) (L : List Int) (cap : Nat) (W : World) (hA : ReadI W ao L) (hc : L.length ≤ cap) (hm : cap ≤ maxLen) (h32 : ∀ r ∈ L, -2147483648 ≤ r ∧ r ≤ 2147483647) : Calls Try.prog 4 #[.slice ao L.length cap] W fun e w' => e = .returned (.bool true) ∧ Below W.heap.size W w' := by
  by_cases hlen : (500 : Int) < (L.length : Int)
  · have HF := Lib.hid (fixed_any K)
    go_enter Try.func4, Try.ntmps4
    go_wp2_with fail
    refine (HF.out _).mono ?_; rintro e w' ⟨rfl, hb⟩
    go_wp2_with fail
    go_ret
    exact ⟨rfl, hb⟩
  · obtain ⟨i0, hi, hz0, hz1, hz2⟩ := info_parts info_i32
    have HI := Lib.hid (And.intro hi (And.intro hz0 (And.intro hz1 hz2)))
    have HF := Lib.hid (fixed_any K)
    have HV := Lib.hid hA
    have R1 := Lib.hid (fun w h => K.text w ao cap L (by omega) hc hm h h32)
    have R2 := Lib.hid (fun w hA => ref_text w ao cap L hA (by omega))
    have hints : ints (runesOf (textZ L)) = ints (L.map normR) := by rw [runes_textZ]
    have hsz : (textZ L).size ≤ 1000000 := by
      rw [textZ_size]
      have := textB_le L
      omega
    have hll : (ints (L.map normR)).length = L.length := by rw [ints_length, List.length_map]
    have h3 := K.runes_of _ _ hsz hints
    rw [hll] at h3
    have R3 := Lib.hid h3
    have HSm := Lib.hid (show ∀ (w : World) (ob oa : Option Addr) (cb ca : Nat), ReadI w ob (ints (L.map normR)) → ReadI w oa (ints (L.map normR)) → Calls Try.prog 10 #[.slice ob L.length cb, .slice oa L.length ca] w fun e w' => e = .returned (.bool true) ∧ Below w.heap.size w w' from by
      intro w ob oa cb ca h1 h2
      have h := ref_same w ob oa cb ca _ _ h1 h2 (by omega)
      rw [hll] at h
      simpa using h)
    clear h3 hll
    generalize textZ L = t at R1 R2 R3 hsz
    clear hi hz0 hz1 hz2 hA hints hsz h32
    go_enter Try.func4, Try.ntmps4
    go_wp2_with fail
    refine (R1.out _ HV.out).mono ?_; rintro e w1 ⟨rfl, hb⟩
    have HB := Lib.hid hb
    clear hb
    go_wp2_with fail
    go_loopw [4, 15] (fun v iv wr => ∃ i : Nat, i ≤ L.length ∧ iv = .int .i64 i ∧ RunesIn wr W.heap.size v ((L.take i).map normR) ∧ Below W.heap.size W wr) (fun _ iv _ => L.length - (intOf iv).toNat)
    case atStart => exact ⟨0, by omega, rfl, World.ownsRow_nil _ _ _ _, HB.out⟩
    case round =>
      obtain ⟨i, hi, rfl, hown, hlow⟩ := hrel
      by_cases hlt : i < L.length
      · have HO := Lib.hid hown
        have HW := Lib.hid hlow
        clear hown hlow
        obtain ⟨r, hr⟩ : ∃ r, L[i]? = some r := ⟨_, List.getElem?_eq_getElem hlt⟩
        obtain ⟨ad, rfl, hcell⟩ := (HV.out.below HW.out) i r hr
        have HT := Lib.hid (show (L.take (i + 1)).map normR = (L.take i).map normR ++ [normR r] by rw [List.take_add_one, hr]; simp)
        have hlt1 : (i : Int) < (L.length : Int) := by omega
        have HLen := Lib.hid (show ((L.take i).map normR).length ≤ 500 by simp; omega)
        clear hr
        by_cases hok : 0 ≤ r ∧ okR r.toNat
        · have hn := norm_yes hok
          obtain ⟨nr, hnr⟩ : ∃ nr, nr = normR r := ⟨_, rfl⟩
          rw [← hnr] at hn HT
          have HM := Lib.hid (fun w => may_yes w nr (by rw [hnr]; exact normR_ok r))
          subst hn
          clear hok hnr
          go_wp2_with (first
            | (go_at_call 14; refine (HM.out _).mono ?_; rintro e w' ⟨rfl, rfl⟩)
            | (at_builtin; refine wpList_append_own _ rfl (.tmp 22) (.tmp 24) 24 rfl W.heap.size 21 i0 _ 1 4 Try.underlying24 HI.out.1 HI.out.2.1 HI.out.2.2.1 HI.out.2.2.2 rfl (by decide) _ ((L.take i).map normR).length (((L.take i).map normR).map fun (r : Nat) => Value.int .i32 (r : Int)) rfl (World.ownsRow.alloc HO.out _) ⟨_, 0, none⟩ 1 1 [.int .i32 nr] rfl rfl one_cell (by simp [Value.oneCell']) (by have := HLen.out; unfold maxLen; omega) (by have := HLen.out; omega) (by have := HW.out.size; simp; omega) ?_; intro v' w5 ho hg _; have HO5 := Lib.hid (runes_more (r := nr) HW.out HO.out ho hg); clear ho hg))
          go_roundw
          case rel =>
            refine ⟨i + 1, by omega, by go_num, ?_, HO5.out.2⟩
            rw [HT.out]; exact HO5.out.1
          case measure => simp [intOf]; omega
        · have hn := norm_no hok
          rw [hn] at HT
          have HM := Lib.hid (fun w => may_no w r hok)
          clear hok hn
          go_wp2_with (first
            | (go_at_call 14; refine (HM.out _).mono ?_; rintro e w' ⟨rfl, rfl⟩)
            | (at_builtin; refine wpList_append_own _ rfl (.tmp 22) (.tmp 24) 24 rfl W.heap.size 21 i0 _ 1 4 Try.underlying24 HI.out.1 HI.out.2.1 HI.out.2.2.1 HI.out.2.2.2 rfl (by decide) _ ((L.take i).map normR).length (((L.take i).map normR).map fun (r : Nat) => Value.int .i32 (r : Int)) rfl (World.ownsRow.alloc HO.out _) ⟨_, 0, none⟩ 1 1 [.int .i32 65533] rfl rfl one_cell (by simp [Value.oneCell']) (by have := HLen.out; unfold maxLen; omega) (by have := HLen.out; omega) (by have := HW.out.size; simp; omega) ?_; intro v' w5 ho hg _; have HO5 := Lib.hid (runes_more (r := 65533) HW.out HO.out ho hg); clear ho hg))
          go_roundw
          case rel =>
            refine ⟨i + 1, by omega, by go_num, ?_, HO5.out.2⟩
            rw [HT.out]; exact HO5.out.1
          case measure => simp [intOf]; omega
      · have hi' : i = L.length := by omega
        subst hi'
        rw [List.take_length] at hown
        obtain ⟨ob, cb, rfl, hrb⟩ := runes_reads hown
        rw [List.length_map]
        have HR := Lib.hid hrb
        have HW := Lib.hid hlow
        clear hrb hlow hown HB
        go_wp2_with fail
        refine (HF.out _).mono ?_; rintro e w2 ⟨rfl, hb⟩
        have HR := Lib.hid (HR.out.below hb)
        have HW := Lib.hid (HW.out.trans (hb.mono HW.out.size))
        clear hb
        go_wp2_with fail
        refine (R2.out _ (HV.out.below HW.out)).mono ?_; rintro e w3 ⟨rfl, hb⟩
        have HR := Lib.hid (HR.out.below hb)
        have HW := Lib.hid (HW.out.trans (hb.mono HW.out.size))
        clear hb
        go_wp2_with fail
        refine (R3.out _).mono ?_; rintro e w4 ⟨oc, cc, rfl, hd1, hd2, hr, hb⟩
        have HR := Lib.hid (HR.out.below hb)
        have HR' := Lib.hid hr
        have HW := Lib.hid (HW.out.trans (hb.mono HW.out.size))
        clear hb hr
        go_wp2_with fail
        refine (HSm.out _ _ _ _ _ HR'.out HR.out).mono ?_; rintro e w5 ⟨rfl, hb⟩
        have HW := Lib.hid (HW.out.trans (hb.mono HW.out.size))
        clear hb
        go_wp2_with fail
        go_ret
        exact ⟨rfl, HW.out⟩
-- closing
set_option linter.unusedVariables false in
theorem walk (K : Kept) {H : Type} {enc : TypeId × Value → H} (W : World) (args : Array Value) (ds : List (DataW H)) (hin : ArgsIn enc Try.prog Try.f4.params.toList W args ds) :
    Calls Try.prog 4 args W fun e W' => e = .returned (.bool true) ∧ Below W.heap.size W W' := by
  obtain ⟨⟨p, hA, hlt⟩, ⟨base, hval⟩, hsz⟩ := hin
  rw [Try.params4] at hA hval hsz
  obtain ⟨v0, vs0, d0, ds0, p0, q0, hargs, rfl, rfl, h0, r0⟩ := trodAll_cons hA
  obtain ⟨rfl, rfl, rfl⟩ := trodAll_nil r0
  obtain rfl : args = #[v0] := by cases args; simp_all
  obtain ⟨ao0,L0,c0,rfl,hR0,hc0,hm0,hb0⟩ := open_runes (hval 0 24 v0 rfl rfl) h0
  exact walk_all K ao0 L0 c0 W hR0 hc0 hm0 hb0

set_option maxRecDepth 100000 in
theorem proved_of (K : Kept) : Rows.UtfTextsSaid :=
  OpenClaim.holds_of_wide 4 Try.f4 rfl rfl rfl rfl rfl rfl rfl ⟨rfl, rfl, rfl, rfl, rfl⟩ rfl rfl rfl rfl rfl (by kernel_rfl) Try.func4 (by kernel_rfl)
    (of_decide_eq_true (by kernel_rfl)) (by unfold Func.isWrapper; first | (rw [if_pos (by decide +kernel)]; kernel_rfl) | (rw [if_neg (by decide +kernel)]; exact ⟨rfl, rfl⟩))
    (fun os started H enc _ => law_lifted (s := Rows.utfTextsSpec) own started (by kernel_rfl) Try.func4 laidOut (by kernel_rfl) (by kernel_rfl) Try.underlying4 rfl
      (ChangeSpec.witness6 (enc := enc) (C := Try.checked) false ⟨#[], #[.slice none 0 0], []⟩ 8 (by kernel_rfl) (by kernel_rfl) (by kernel_rfl) (by kernel_rfl))
      (fun ds h => match ds, h with | [_], _ => rfl) (walk K))
theorem proved : Rows.UtfTextsSaid := proved_of kept
#print axioms proved
end Go.Proofs.Ytohlhjbnomknbaa.utfTexts
