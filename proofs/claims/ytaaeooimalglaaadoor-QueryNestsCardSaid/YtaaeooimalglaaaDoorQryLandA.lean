/-
  Layer 17 as it landed: the reader: next, pass, enter, fail. Over the program's own text.
-/
import Derived.Test.YtaaeooimalglaaaDoorQryPure
import Derived.Test.YtaaeooimalglaaaDoorTokLandC
namespace Go.Proofs.YtaaeooimalglaaaDoor
open Go.RowKit

/-- What is left of a text; op: how many brackets and signs that turn stand open. -/
structure Rdr (W0 w : World) (rb : Nat) (R : List Nat) (op : Int) : Prop where
  tabs : TabsIn W0
  low : Below W0.heap.size W0 w
  new : W0.heap.size ≤ rb
  okr : ∀ r ∈ R, okR r
  few : R.length ≤ 1000000
  less : R.length ≤ 1000
  rd : ∃ oa c, w.heap[rb]? = some (.cells #[.slice oa R.length c, .int .i64 op] 51 (0, 0)) ∧ R.length ≤ c ∧ c ≤ maxLen ∧ ReadI w oa (ints R) ∧ ∀ a, oa = some a → R ≠ [] → a.block < rb
set_option maxRecDepth 100000 in
theorem ints_ne {l : List Nat} (h : ints l ≠ []) : l ≠ [] := by rintro rfl; exact h rfl
set_option maxRecDepth 100000 in
theorem drop_ne {l : List Nat} {i : Nat} (h : l.drop i ≠ []) : l ≠ [] := by rintro rfl; simp at h
section
variable {W0 w w' : World} {rb : Nat} {R : List Nat} {op : Int}
set_option maxRecDepth 100000 in
theorem Rdr.tab (h : Rdr W0 w rb R op) : TabsIn w := h.tabs.below h.low
set_option maxRecDepth 100000 in
theorem Rdr.lt (h : Rdr W0 w rb R op) : rb < w.heap.size := by
  obtain ⟨oa, c, h1, _⟩ := h.rd
  exact lt_of_heap h1
set_option maxRecDepth 100000 in
theorem readI_mod {oa : Option Addr} {l : List Int} (h : ReadI w oa l) (hm : Mod (fun k => k = rb) w w') (hb : ∀ a, oa = some a → l ≠ [] → a.block ≠ rb) : ReadI w' oa l := fun j r hj => by
  obtain ⟨ad, h1, h2⟩ := h j r hj
  refine ⟨ad, h1, ?_⟩
  rw [World.cell?_of_block (hm.block _ ?_ ?_)]
  · exact h2
  · exact cell_lt h2
  · have := hb ad h1 (some_ne hj)
    unfold Addr.add; split <;> exact this
set_option maxRecDepth 100000 in
theorem Mod.lower {W0 : World} (h : Below W0.heap.size W0 w) (hm : Mod (fun k => k = rb) w w') (hb : W0.heap.size ≤ rb) : Below W0.heap.size W0 w' :=
  ⟨hm.os.trans h.os, hm.tape.trans h.tape, hm.output.trans h.output, Nat.le_trans h.size hm.size, fun k hk => (hm.block k (Nat.lt_of_lt_of_le hk h.size) (by omega)).trans (h.block k hk)⟩
set_option maxRecDepth 100000 in
theorem mod_set {w : World} {rb j : Nat} (v : Value) : Mod (fun k => k = rb) w (w.setCell ⟨rb, j, none⟩ v) := Mod.setCell (S := fun k => k = rb) (Mod.refl _ _) (.inr rfl) _
set_option maxRecDepth 100000 in
theorem below_mod {S : Nat → Prop} (h : Below w.heap.size w w') : Mod S w w' := ⟨h.os, h.tape, h.output, h.size, fun k hk _ => h.block k hk⟩
set_option maxRecDepth 100000 in
/-- Its own block has turned, and lies as told. -/
theorem Rdr.turn (h : Rdr W0 w rb R op) (hm : Mod (fun k => k = rb) w w') {R' : List Nat} {op' : Int} {oa : Option Addr} {c : Nat} (hs : R' <:+ R) (hh : w'.heap[rb]? = some (.cells #[.slice oa R'.length c, .int .i64 op'] 51 (0, 0))) (h1 : R'.length ≤ c) (h2 : c ≤ maxLen) (h3 : ReadI w oa (ints R')) (h4 : ∀ a, oa = some a → R' ≠ [] → a.block < rb) : Rdr W0 w' rb R' op' :=
  ⟨h.tabs, Mod.lower h.low hm h.new, h.new, fun r hr => h.okr r (hs.subset hr), Nat.le_trans hs.length_le h.few, Nat.le_trans hs.length_le h.less, oa, c, hh, h1, h2, readI_mod h3 hm (fun a ha hne => Nat.ne_of_lt (h4 a ha (ints_ne hne))), h4⟩
set_option maxRecDepth 100000 in
theorem Rdr.below (h : Rdr W0 w rb R op) (hb : Below w.heap.size w w') : Rdr W0 w' rb R op := by
  obtain ⟨oa, c, h1, h2, h3, h4, h5⟩ := h.rd
  exact ⟨h.tabs, low_trans h.low hb, h.new, h.okr, h.few, h.less, oa, c, (hb.block _ (lt_of_heap h1)).trans h1, h2, h3, h4.below hb, h5⟩
where
  low_trans {a b c : World} (h : Below a.heap.size a b) (k : Below b.heap.size b c) : Below a.heap.size a c := h.trans (k.mono h.size)
end
set_option maxRecDepth 100000 in
/-- What lies behind it has turned. -/
theorem Rdr.high {W0 w w' : World} {rb : Nat} {R : List Nat} {op : Int} (h : Rdr W0 w rb R op) (hb : Below (rb + 1) w w') : Rdr W0 w' rb R op := by
  obtain ⟨oa, c, h1, h2, h3, h4, h5⟩ := h.rd
  refine ⟨h.tabs, h.low.trans (hb.mono (by have := h.new; omega)), h.new, h.okr, h.few, h.less, oa, c, (hb.block _ (by omega)).trans h1, h2, h3, fun j r hj => ?_, h5⟩
  obtain ⟨ad, k1, k2⟩ := h4 j r hj
  refine ⟨ad, k1, ?_⟩
  rw [World.cell?_of_block (hb.block _ ?_)]
  · exact k2
  · have := h5 ad k1 (ints_ne (some_ne hj))
    have e : (ad.add j).block = ad.block := by unfold Addr.add; split <;> rfl
    omega
set_option maxRecDepth 100000 in
theorem mod_low {S : Nat → Prop} {a b c : World} {B : Nat} (h : Mod S a b) (hb : Below B b c) (hB : a.heap.size ≤ B) : Mod S a c :=
  ⟨hb.os.trans h.os, hb.tape.trans h.tape, hb.output.trans h.output, Nat.le_trans h.size hb.size, fun k hk hs => (hb.block k (by omega)).trans (h.block k hk hs)⟩
set_option maxRecDepth 100000 in
theorem slice_at {W : World} {oa : Option Addr} {R : List Nat} (n c i : Nat) (hn : R.length = n) (hi : i ≤ n) (hc : n ≤ c) (hm : c ≤ maxLen) (h : ReadI W oa (ints R)) :
    ∃ ob d, (∀ w : World, (Instr.slice 34 (.slice oa n c) (some (.int .i64 (i : Int))) none none).run Tryd.prog w = .ok (.slice ob (R.drop i).length d) w) ∧ (R.drop i).length ≤ d ∧ d ≤ maxLen ∧ ReadI W ob (ints (R.drop i)) ∧ ∀ a, ob = some a → ∃ a', oa = some a' ∧ a'.block = a.block := by
  refine ⟨if c = i then oa else oa.map (·.add i), c - i, fun w => ?_, by rw [List.length_drop]; omega, by omega, ?_, ?_⟩
  · rw [run_slice_l w 34 oa n c under_runes .i64 (i : Int) (by omega) (by omega), elem_runes, size_rune]
    have e : ((i : Int)).toNat = i := by omega
    simp [Result.andThen, sliced, e, hn]
  · intro j r hj
    have hj2 : (ints R)[i + j]? = some r := by
      unfold ints at hj ⊢
      rw [List.map_drop, List.getElem?_drop] at hj
      exact hj
    have hlt := (List.getElem?_eq_some_iff.1 hj2).1
    rw [ints_length] at hlt
    obtain ⟨ad, rfl, hc2⟩ := h _ r hj2
    rw [if_neg (by omega)]
    exact ⟨ad.add i, rfl, by rw [add_adds]; exact hc2⟩
  · intro a ha
    split at ha
    · exact ⟨a, ha, rfl⟩
    · cases oa with
      | none => cases ha
      | some a' =>
        injection ha with ha
        subst ha
        exact ⟨a', rfl, by unfold Addr.add; split <;> rfl⟩
set_option maxRecDepth 100000 in
/-- What stands first where it is no blank. -/
theorem skip_here {R : List Nat} {i c : Nat} (h : R[i]? = some c) : R.drop i = c :: R.drop (i + 1) := by
  obtain ⟨hi, rfl⟩ := List.getElem?_eq_some_iff.1 h
  exact (List.drop_eq_getElem_cons hi)
set_option maxRecDepth 100000 in
theorem skip_end {R : List Nat} {i : Nat} (h : R.length ≤ i) : R.drop i = [] := List.drop_eq_nil_of_le h
set_option maxRecDepth 100000 in
theorem ints_get {R : List Nat} {i c : Nat} (h : R[i]? = some c) : (ints R)[i]? = some (c : Int) := by unfold ints; rw [List.getElem?_map, h]; rfl
set_option maxRecDepth 100000 in
set_option maxHeartbeats 2000000 in
theorem next_any {W0 w : World} {rb : Nat} {R : List Nat} {op : Int} (h : Rdr W0 w rb R op) :
    Calls Tryd.prog 26 #[.pointer (some ⟨rb, 0, none⟩)] w fun e w' => e = .returned (.int .i32 (headZ (skipB R))) ∧ Rdr W0 w' rb (skipB R) op ∧ Mod (fun k => k = rb) w w' := by
  have H := Lib.hid h
  obtain ⟨oa, c, hh, hc, hm, hr, hb⟩ := h.rd
  have q0 := cell_at hh 0
  have f0 := free_at hh 0
  obtain ⟨n, hn⟩ : ∃ n, R.length = n := ⟨_, rfl⟩
  have hn2 := h.few
  rw [hn] at hh hc q0 hn2
  have HN := Lib.hid hn
  have HH := Lib.hid (And.intro hh (And.intro hc (And.intro hm (And.intro hr hb))))
  clear h hh hn hr hb hm
  go_enter Tryd.func26, Tryd.ntmps26
  go_wp2_with fail
  go_loopw [10] (fun iv wr => ∃ i : Nat, i ≤ n ∧ iv = .int .i64 i ∧ skipB R = skipB (R.drop i) ∧ wr = w) (fun iv _ => n - (intOf iv).toNat)
  case atStart => exact ⟨0, by omega, rfl, rfl, rfl⟩
  case round =>
    obtain ⟨i, hi, rfl, hsk, rfl⟩ := hrel
    by_cases hlt : i < n
    · obtain ⟨x, hx⟩ : ∃ x, R[i]? = some x := ⟨_, List.getElem?_eq_getElem (by rw [HN.out]; exact hlt)⟩
      obtain ⟨ad, rfl, hcell⟩ := HH.out.2.2.2.1 i _ (ints_get hx)
      have hdr := skip_here hx
      rw [hdr] at hsk
      have HS := Lib.hid hsk
      by_cases hb : blankB x = true
      · have HB := Lib.hid hb
        have hbb : x = 32 ∨ x = 9 ∨ x = 10 ∨ x = 13 := by unfold blankB at hb; simp at hb; omega
        clear hsk hdr hx hb
        rcases hbb with rfl | rfl | rfl | rfl
        all_goals go_wp2_with fail
        all_goals exact ⟨⟨i + 1, by omega, by go_num, HS.out.trans (by rw [skipB, HB.out]; rfl), trivial⟩, by simp [intOf]; omega⟩
      · have hn : skipB R = R.drop i := by rw [hsk, skipB, if_neg hb, hdr]
        have hhd : headZ (skipB R) = (x : Int) := by rw [hn, hdr]; rfl
        have hbb : ¬ (x : Int) = 32 ∧ ¬ (x : Int) = 9 ∧ ¬ (x : Int) = 10 ∧ ¬ (x : Int) = 13 := by unfold blankB at hb; simp at hb; omega
        obtain ⟨b1, b2, b3, b4⟩ := hbb
        obtain ⟨ob, d, hsl, hd1, hd2, hrd, hob⟩ := slice_at n c i HN.out (by omega) hc HH.out.2.2.1 HH.out.2.2.2.1
        have HE := Lib.hid (And.intro hn (And.intro hhd (And.intro hd1 (And.intro hd2 (And.intro hrd hob)))))
        clear hsk hdr hx hb hn hhd hd1 hd2 hrd hob HS
        go_wp2_with fail
        try rw [Exit.noGoto_ret]
        go_ret
        obtain ⟨g1, g2, g3, g4, g5, g6⟩ := HE.out
        rw [g2]
        refine ⟨rfl, ?_, mod_set _⟩
        rw [g1]
        refine H.out.turn (mod_set _) (List.drop_suffix _ _) (c := d) (oa := ob) ?_ g3 g4 g5 fun a ha hne => ?_
        · rw [heap_setCell_same _ _ _ _ _ _ HH.out.1, List.length_drop]; rfl
        · obtain ⟨a', h1, h2⟩ := g6 a ha
          rw [← h2]; exact HH.out.2.2.2.2 a' h1 (drop_ne hne)
    · have hn : skipB R = [] := by rw [hsk, skip_end (by rw [HN.out]; omega)]; rfl
      have HE := Lib.hid hn
      clear hsk hn
      go_wp2_with fail
      go_ret
      rw [HE.out]
      refine ⟨rfl, ?_, mod_set _⟩
      refine H.out.turn (mod_set _) (List.nil_suffix) (c := 0) (oa := none) ?_ (Nat.le_refl _) (by decide) (fun j r hj => by simp [ints] at hj) (fun a ha _ => by cases ha)
      rw [heap_setCell_same _ _ _ _ _ _ HH.out.1]; rfl
end Go.Proofs.YtaaeooimalglaaaDoor
