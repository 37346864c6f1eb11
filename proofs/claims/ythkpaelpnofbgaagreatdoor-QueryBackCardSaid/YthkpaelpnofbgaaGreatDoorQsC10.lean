/-
  What the landed code's functions of layer 6 keep: the words of a text, and those of a document's fields. Over the program's own text.
-/
import Derived.Test.YthkpaelpnofbgaaGreatDoorQsC09
import Derived.Test.YthkpaelpnofbgaaGreatDoorQsC04
import Derived.Test.YthkpaelpnofbgaaGreatDoorQsC08
import Derived.Test.YthkpaelpnofbgaaGreatDoorQsC03
import Derived.Test.YthkpaelpnofbgaaGreatDoorQsC01
import Derived.WalkLawsBesides
import Derived.Laws.CopyRow
namespace Go.Proofs.YthkpaelpnofbgaaGreatDoor
open Go.RowKit

set_option maxRecDepth 100000 in
theorem cutA_len : ∀ (l c : List Nat), ∀ q ∈ cutA c l, q.length ≤ c.length + l.length
  | [], c, q, hq => by
    rw [cutA_nil] at hq
    split at hq
    · simp at hq
    · simp at hq; subst hq; simp
  | r :: l, c, q, hq => by
    rw [cutA_cons] at hq
    rw [List.length_cons]
    split at hq
    · split at hq
      · have := cutA_len l [] q hq; simp at this; omega
      · rcases List.mem_cons.1 hq with rfl | hq
        · omega
        · have := cutA_len l [] q hq; simp at this; omega
    · have := cutA_len l (c ++ [r]) q hq
      rw [List.length_append] at this
      simp at this
      omega
set_option maxRecDepth 100000 in
theorem parts_reads {w : World} {base : Nat} {v : Value} {vs : List Value} (h : PartsIn w base v vs) : ∃ oa cap, v = .slice oa vs.length cap ∧ ∀ j x, vs[j]? = some x → ∃ ad, oa = some ad ∧ w.cell? (ad.add j) = some x := by
  rcases h.2 with ⟨rfl, h0⟩ | ⟨g, cap, cur, rfl, hb, hg, hn, hm, hs, ht⟩
  · have : vs = [] := List.eq_nil_of_length_eq_zero h0
    subst this
    exact ⟨none, 0, rfl, fun j x hj => by simp at hj⟩
  · exact ⟨_, cap, rfl, fun j x hj => ⟨_, rfl, World.ownsRow.cells h (g := g) rfl j x hj⟩⟩

set_option maxRecDepth 100000 in
set_option maxHeartbeats 4000000 in
theorem lands_words (W : World) (s : ByteArray) (hT : TabsIn W) (hs : s.size ≤ 1000000) :
    Calls Tryz.prog 46 #[.string s] W fun e w' => ∃ v, e = .returned v ∧ ToksIn w' W.heap.size v (toksP 0 (wordsT s)) ∧ Below W.heap.size W w' := by
  obtain ⟨iT, hi, hz0, hz1, hz2⟩ := info_parts info_tok
  have HIT := Lib.hid (And.intro hi (And.intro hz0 (And.intro hz1 hz2)))
  have HT := Lib.hid hT
  have HRn := Lib.hid (kept.runes W s hs)
  have hRl := (runesOf_many s).1
  have hok := runesOf_ok s
  have hall := allT_cut s
  have HTm := Lib.hid (allT_term s)
  have HWs := Lib.hid (show wordsT s = placesF 0 (allT s) from rfl)
  rw [hall] at HTm HWs
  obtain ⟨R, hRd⟩ : ∃ R, R = runesOf s := ⟨_, rfl⟩
  rw [← hRd] at HRn hRl hok hall HTm HWs
  have hRl2 : R.length ≤ 1000000 := by omega
  have hare := cutA_are R [] (by simp [lettersP])
  have hlen := cutA_len R []
  have hmany := cutA_le R []
  obtain ⟨qs, hqs⟩ : ∃ qs, qs = cutL R := ⟨_, rfl⟩
  have HCut : Hid (∀ (w : World) (oa : Option Addr) (c : Nat), TabsIn w → ReadI w oa (ints R) → R.length ≤ c → c ≤ maxLen → Calls Tryz.prog 64 #[.slice oa R.length c] w fun e w' => ∃ v vs, e = .returned v ∧ PartsIn w' w.heap.size v vs ∧ PartsP w vs qs ∧ Below w.heap.size w w') := Lib.hid (fun w oa c h1 h2 h3 h4 => by rw [hqs]; exact lands_cut w oa c R h1 h2 hRl2 h3 h4)
  have HQ : Hid (∀ q ∈ qs, lettersP q ∧ (∀ r ∈ q, okR r) ∧ q.length ≤ 1000000) := Lib.hid (fun q hq => by
    rw [hqs] at hq
    obtain ⟨h1, h2, h3⟩ := hare q hq
    have h4 := hlen q hq
    simp at h4
    exact ⟨h2, fun r hr => hok r (by have := h3 r hr; simpa using this), by omega⟩)
  rw [show cutL R = qs from hqs.symm] at HTm HWs
  obtain ⟨n, hn⟩ : ∃ n, n = qs.length := ⟨_, rfl⟩
  have hn2 : n ≤ 1000001 := by
    have : (cutL R).length ≤ R.length + 1 := hmany
    rw [← hqs] at this
    omega
  have HN := Lib.hid hn
  clear hi hz0 hz1 hz2 hT hok hall hRd hare hlen hmany hqs hn hRl hs
  go_enter Tryz.func46, Tryz.ntmps46
  go_wp2_with fail
  refine HRn.out.mono ?_
  rintro e w1 ⟨oa1, c1, he, h1, h2, h3, hb1, _⟩
  rw [ints_length] at he h1
  subst he
  have HC := Lib.hid (HCut.out w1 oa1 c1 (HT.out.below hb1) h3 h1 h2)
  have HB1 := Lib.hid hb1
  clear h1 h2 h3 hb1 HRn
  go_wp2_with fail
  refine HC.out.mono ?_
  rintro e w2 ⟨v, vs, rfl, hp, hps, hb2⟩
  obtain ⟨ov, cv, hv, hrd⟩ := parts_reads hp
  rw [hps.1, ← HN.out] at hv
  subst hv
  have HP := Lib.hid hps
  have HRd := Lib.hid hrd
  have HB2 := Lib.hid hb2
  have hs2 := hb2.size
  clear hp hps hrd hb2 HC HCut
  go_wp2_with fail
  go_loopw [3, 11] (fun vo iv wr => ∃ i : Nat, i ≤ n ∧ iv = .int .i64 i ∧ ToksIn wr w2.heap.size vo (toksP 0 (placesF 0 ((qs.map termB).take i))) ∧ Below w2.heap.size w2 wr) (fun _ iv _ => n - (intOf iv).toNat)
  case atStart => exact ⟨0, by omega, rfl, World.ownsRow_nil _ _ _ _, Below.refl _ _⟩
  case round =>
    obtain ⟨i, hi, rfl, hown, hlow⟩ := hrel
    have hlow1 : Below w1.heap.size w1 wr := HB2.out.trans (hlow.mono hs2)
    have hlow0 : Below W.heap.size W wr := HB1.out.trans (hlow1.mono HB1.out.size)
    by_cases hlt : i < n
    · obtain ⟨q, hq⟩ : ∃ q, qs[i]? = some q := ⟨_, List.getElem?_eq_getElem (by rw [← HN.out]; exact hlt)⟩
      obtain ⟨x, hx⟩ : ∃ x, vs[i]? = some x := ⟨_, List.getElem?_eq_getElem (by rw [HP.out.1, ← HN.out]; exact hlt)⟩
      obtain ⟨oq, cq, rfl, hq1, hq2, hq3⟩ := HP.out.2 i x q hx hq
      obtain ⟨ad, rfl, hcell0⟩ := HRd.out i _ hx
      have hcell := below_cell hcell0 hlow
      obtain ⟨hql, hqo, hq6⟩ := HQ.out q (List.mem_of_getElem? hq)
      have ht : (qs.map termB)[i]? = some (termB q) := by rw [List.getElem?_map, hq]; rfl
      have hlt2 := term_lt (HTm.out (termB q) (List.mem_of_getElem? ht))
      obtain ⟨m, hm⟩ : ∃ m, q.length = m := ⟨_, rfl⟩
      rw [hm] at hcell hq1 hq6
      have HTe := Lib.hid (lands_term wr oq cq m q hm (HT.out.below hlow0) (hq3.below hlow1) hq1 hq6 hql hqo)
      have HS := Lib.hid (fun w => lands_stop w (byteText (termB q)))
      rw [bytesL_byteText _ hlt2] at HS
      have HPl := Lib.hid (places_take (qs.map termB) i (termB q) ht)
      have HO := Lib.hid hown
      have HL := Lib.hid hlow
      have hpl : (placesF 0 ((qs.map termB).take i)).length ≤ 1000001 := by have := places_len ((qs.map termB).take i) 0; rw [List.length_take] at this; omega
      have HLn := Lib.hid (show (toksP 0 (placesF 0 ((qs.map termB).take i))).length ≤ 1000001 by rw [toksP_length]; exact hpl)
      obtain ⟨y, hy⟩ : ∃ y, y = byteText (termB q) := ⟨_, rfl⟩
      rw [← hy] at HTe HS
      have HY := Lib.hid hy
      generalize termB q = t at HS HPl HY
      clear hown hlow hlow0 hlow1 ht hlt2 hpl hy hx hq hq1 hq2 hq3 hcell0 hql hqo hq6 hm
      by_cases hst : stopB t = true
      · rw [hst] at HS HPl
        go_wp2_with fail
        refine HTe.out.mono ?_; rintro e w5 ⟨rfl, hb5⟩
        have HO5 := Lib.hid (show ToksIn w5 _ _ _ from owned_below HO.out hb5)
        have HL5 := Lib.hid (HL.out.trans (hb5.mono HL.out.size))
        clear hb5 hcell
        go_wp2_with fail
        refine (HS.out _).mono ?_; rintro e w6 ⟨rfl, rfl⟩
        go_wp2_with fail
        go_roundw
        case rel => exact ⟨i + 1, by omega, by go_num, by rw [HPl.out]; simpa using HO5.out, HL5.out⟩
        case measure => simp [intOf]; omega
      · have hsf : stopB t = false := by simpa using hst
        rw [hsf] at HS HPl
        clear hst hsf
        go_wp2_with fail
        refine HTe.out.mono ?_; rintro e w5 ⟨rfl, hb5⟩
        have HO5 := Lib.hid (show ToksIn w5 _ _ _ from owned_below HO.out hb5)
        have HL5 := Lib.hid (HL.out.trans (hb5.mono HL.out.size))
        clear hb5 hcell
        go_wp2_with fail
        refine (HS.out _).mono ?_; rintro e w6 ⟨rfl, rfl⟩
        go_wp2_with (at_builtin; refine wpList_append_own _ rfl (.tmp 21) (.tmp 25) 22 rfl w2.heap.size 43 iT _ 3 32 Tryz.underlying22 HIT.out.1 HIT.out.2.1 HIT.out.2.2.1 HIT.out.2.2.2 rfl (by decide) _ (toksP 0 (placesF 0 ((qs.map termB).take i))).length (toksC (toksP 0 (placesF 0 ((qs.map termB).take i)))) rfl (World.ownsRow.alloc HO5.out _) ⟨w6.heap.size, 0, none⟩ 1 1 [.int .u8 0, .string y, .int .i64 i] rfl rfl three_cells (by simp [Value.oneCell']) (by have := HLn.out; unfold maxLen; omega) (by have := HLn.out; omega) (by have := HL5.out.size; simp; omega) ?_; intro v' w7 ho hg _; have HO6 := Lib.hid (toks_more (x := (0, y, (i : Int))) HL5.out HO5.out ho hg); clear ho hg)
        go_roundw
        case rel => exact ⟨i + 1, by omega, by go_num, by rw [HPl.out]; have := HO6.out.1; rw [HY.out] at this; simpa [toksP] using this, HO6.out.2⟩
        case measure => simp [intOf]; omega
    · have hi' : i = n := by omega
      rw [show (qs.map termB).take i = qs.map termB from List.take_of_length_le (by rw [List.length_map, ← HN.out]; omega)] at hown
      have HO := Lib.hid (show ToksIn wr W.heap.size _ _ from own_base hown (Nat.le_trans HB1.out.size hs2))
      have HL := Lib.hid hlow0
      clear hown hlow hlow0 hlow1
      go_wp2_with fail
      go_ret
      exact ⟨_, rfl, by rw [HWs.out]; exact HO.out, HL.out⟩
end Go.Proofs.YthkpaelpnofbgaaGreatDoor
/-
  Layer 17 as it landed: the reader: next, pass, enter, fail. Over the program's own text.
-/
namespace Go.Proofs.YthkpaelpnofbgaaGreatDoor
open Go.RowKit

/-- What is left of a text; op: how many brackets and signs that turn stand open. -/
structure Rdr (W0 w : World) (rb : Nat) (R : List Nat) (op : Int) : Prop where
  tabs : TabsIn W0
  low : Below W0.heap.size W0 w
  new : W0.heap.size ≤ rb
  okr : ∀ r ∈ R, okR r
  few : R.length ≤ 1000000
  less : R.length ≤ 1000
  rd : ∃ oa c, w.heap[rb]? = some (.cells #[.slice oa R.length c, .int .i64 op] 53 (0, 0)) ∧ R.length ≤ c ∧ c ≤ maxLen ∧ ReadI w oa (ints R) ∧ ∀ a, oa = some a → R ≠ [] → a.block < rb
set_option maxRecDepth 100000 in
theorem ints_ne {l : List Nat} (h : ints l ≠ []) : l ≠ [] := by rintro rfl; exact h rfl
set_option maxRecDepth 100000 in
theorem drop_ne {l : List Nat} {i : Nat} (h : l.drop i ≠ []) : l ≠ [] := by rintro rfl; simp at h
section
variable {W0 w w' : World} {rb : Nat} {R : List Nat} {op : Int}
set_option maxRecDepth 100000 in
theorem Rdr.tab (h : Rdr W0 w rb R op) : TabsIn w := h.tabs.below h.low
set_option maxRecDepth 100000 in
theorem Rdr.lt (h : Rdr W0 w rb R op) : rb < w.heap.size := by
  obtain ⟨oa, c, h1, _⟩ := h.rd
  exact lt_of_heap h1
set_option maxRecDepth 100000 in
theorem readI_mod {oa : Option Addr} {l : List Int} (h : ReadI w oa l) (hm : Mod (fun k => k = rb) w w') (hb : ∀ a, oa = some a → l ≠ [] → a.block ≠ rb) : ReadI w' oa l := fun j r hj => by
  obtain ⟨ad, h1, h2⟩ := h j r hj
  refine ⟨ad, h1, ?_⟩
  rw [World.cell?_of_block (hm.block _ ?_ ?_)]
  · exact h2
  · exact cell_lt h2
  · have := hb ad h1 (some_ne hj)
    unfold Addr.add; split <;> exact this
set_option maxRecDepth 100000 in
theorem Mod.lower {W0 : World} (h : Below W0.heap.size W0 w) (hm : Mod (fun k => k = rb) w w') (hb : W0.heap.size ≤ rb) : Below W0.heap.size W0 w' :=
  ⟨hm.os.trans h.os, hm.tape.trans h.tape, hm.output.trans h.output, Nat.le_trans h.size hm.size, fun k hk => (hm.block k (Nat.lt_of_lt_of_le hk h.size) (by omega)).trans (h.block k hk)⟩
set_option maxRecDepth 100000 in
theorem mod_set {w : World} {rb j : Nat} (v : Value) : Mod (fun k => k = rb) w (w.setCell ⟨rb, j, none⟩ v) := Mod.setCell (S := fun k => k = rb) (Mod.refl _ _) (.inr rfl) _
set_option maxRecDepth 100000 in
theorem below_mod {S : Nat → Prop} (h : Below w.heap.size w w') : Mod S w w' := ⟨h.os, h.tape, h.output, h.size, fun k hk _ => h.block k hk⟩
set_option maxRecDepth 100000 in
/-- Its own block has turned, and lies as told. -/
theorem Rdr.turn (h : Rdr W0 w rb R op) (hm : Mod (fun k => k = rb) w w') {R' : List Nat} {op' : Int} {oa : Option Addr} {c : Nat} (hs : R' <:+ R) (hh : w'.heap[rb]? = some (.cells #[.slice oa R'.length c, .int .i64 op'] 53 (0, 0))) (h1 : R'.length ≤ c) (h2 : c ≤ maxLen) (h3 : ReadI w oa (ints R')) (h4 : ∀ a, oa = some a → R' ≠ [] → a.block < rb) : Rdr W0 w' rb R' op' :=
  ⟨h.tabs, Mod.lower h.low hm h.new, h.new, fun r hr => h.okr r (hs.subset hr), Nat.le_trans hs.length_le h.few, Nat.le_trans hs.length_le h.less, oa, c, hh, h1, h2, readI_mod h3 hm (fun a ha hne => Nat.ne_of_lt (h4 a ha (ints_ne hne))), h4⟩
set_option maxRecDepth 100000 in
theorem Rdr.below (h : Rdr W0 w rb R op) (hb : Below w.heap.size w w') : Rdr W0 w' rb R op := by
  obtain ⟨oa, c, h1, h2, h3, h4, h5⟩ := h.rd
  exact ⟨h.tabs, low_trans h.low hb, h.new, h.okr, h.few, h.less, oa, c, (hb.block _ (lt_of_heap h1)).trans h1, h2, h3, h4.below hb, h5⟩
where
  low_trans {a b c : World} (h : Below a.heap.size a b) (k : Below b.heap.size b c) : Below a.heap.size a c := h.trans (k.mono h.size)
end
set_option maxRecDepth 100000 in
/-- What lies behind it has turned. -/
theorem Rdr.high {W0 w w' : World} {rb : Nat} {R : List Nat} {op : Int} (h : Rdr W0 w rb R op) (hb : Below (rb + 1) w w') : Rdr W0 w' rb R op := by
  obtain ⟨oa, c, h1, h2, h3, h4, h5⟩ := h.rd
  refine ⟨h.tabs, h.low.trans (hb.mono (by have := h.new; omega)), h.new, h.okr, h.few, h.less, oa, c, (hb.block _ (by omega)).trans h1, h2, h3, fun j r hj => ?_, h5⟩
  obtain ⟨ad, k1, k2⟩ := h4 j r hj
  refine ⟨ad, k1, ?_⟩
  rw [World.cell?_of_block (hb.block _ ?_)]
  · exact k2
  · have := h5 ad k1 (ints_ne (some_ne hj))
    have e : (ad.add j).block = ad.block := by unfold Addr.add; split <;> rfl
    omega
set_option maxRecDepth 100000 in
theorem mod_low {S : Nat → Prop} {a b c : World} {B : Nat} (h : Mod S a b) (hb : Below B b c) (hB : a.heap.size ≤ B) : Mod S a c :=
  ⟨hb.os.trans h.os, hb.tape.trans h.tape, hb.output.trans h.output, Nat.le_trans h.size hb.size, fun k hk hs => (hb.block k (by omega)).trans (h.block k hk hs)⟩
set_option maxRecDepth 100000 in
theorem slice_at {W : World} {oa : Option Addr} {R : List Nat} (n c i : Nat) (hn : R.length = n) (hi : i ≤ n) (hc : n ≤ c) (hm : c ≤ maxLen) (h : ReadI W oa (ints R)) :
    ∃ ob d, (∀ w : World, (Instr.slice 50 (.slice oa n c) (some (.int .i64 (i : Int))) none none).run Tryz.prog w = .ok (.slice ob (R.drop i).length d) w) ∧ (R.drop i).length ≤ d ∧ d ≤ maxLen ∧ ReadI W ob (ints (R.drop i)) ∧ ∀ a, ob = some a → ∃ a', oa = some a' ∧ a'.block = a.block := by
  refine ⟨if c = i then oa else oa.map (·.add i), c - i, fun w => ?_, by rw [List.length_drop]; omega, by omega, ?_, ?_⟩
  · rw [run_slice_l w 50 oa n c under_runes .i64 (i : Int) (by omega) (by omega), elem_runes, size_rune]
    have e : ((i : Int)).toNat = i := by omega
    simp [Result.andThen, sliced, e, hn]
  · intro j r hj
    have hj2 : (ints R)[i + j]? = some r := by
      unfold ints at hj ⊢
      rw [List.map_drop, List.getElem?_drop] at hj
      exact hj
    have hlt := (List.getElem?_eq_some_iff.1 hj2).1
    rw [ints_length] at hlt
    obtain ⟨ad, rfl, hc2⟩ := h _ r hj2
    rw [if_neg (by omega)]
    exact ⟨ad.add i, rfl, by rw [add_adds]; exact hc2⟩
  · intro a ha
    split at ha
    · exact ⟨a, ha, rfl⟩
    · cases oa with
      | none => cases ha
      | some a' =>
        injection ha with ha
        subst ha
        exact ⟨a', rfl, by unfold Addr.add; split <;> rfl⟩
set_option maxRecDepth 100000 in
/-- What stands first where it is no blank. -/
theorem skip_here {R : List Nat} {i c : Nat} (h : R[i]? = some c) : R.drop i = c :: R.drop (i + 1) := by
  obtain ⟨hi, rfl⟩ := List.getElem?_eq_some_iff.1 h
  exact (List.drop_eq_getElem_cons hi)
set_option maxRecDepth 100000 in
theorem skip_end {R : List Nat} {i : Nat} (h : R.length ≤ i) : R.drop i = [] := List.drop_eq_nil_of_le h
set_option maxRecDepth 100000 in
theorem ints_get {R : List Nat} {i c : Nat} (h : R[i]? = some c) : (ints R)[i]? = some (c : Int) := by unfold ints; rw [List.getElem?_map, h]; rfl
set_option maxRecDepth 100000 in
set_option maxHeartbeats 2000000 in
theorem next_any {W0 w : World} {rb : Nat} {R : List Nat} {op : Int} (h : Rdr W0 w rb R op) :
    Calls Tryz.prog 31 #[.pointer (some ⟨rb, 0, none⟩)] w fun e w' => e = .returned (.int .i32 (headZ (skipB R))) ∧ Rdr W0 w' rb (skipB R) op ∧ Mod (fun k => k = rb) w w' := by
  have H := Lib.hid h
  obtain ⟨oa, c, hh, hc, hm, hr, hb⟩ := h.rd
  have q0 := cell_at hh 0
  have f0 := free_at hh 0
  obtain ⟨n, hn⟩ : ∃ n, R.length = n := ⟨_, rfl⟩
  have hn2 := h.few
  rw [hn] at hh hc q0 hn2
  have HN := Lib.hid hn
  have HH := Lib.hid (And.intro hh (And.intro hc (And.intro hm (And.intro hr hb))))
  clear h hh hn hr hb hm
  go_enter Tryz.func31, Tryz.ntmps31
  go_wp2_with fail
  go_loopw [10] (fun iv wr => ∃ i : Nat, i ≤ n ∧ iv = .int .i64 i ∧ skipB R = skipB (R.drop i) ∧ wr = w) (fun iv _ => n - (intOf iv).toNat)
  case atStart => exact ⟨0, by omega, rfl, rfl, rfl⟩
  case round =>
    obtain ⟨i, hi, rfl, hsk, rfl⟩ := hrel
    by_cases hlt : i < n
    · obtain ⟨x, hx⟩ : ∃ x, R[i]? = some x := ⟨_, List.getElem?_eq_getElem (by rw [HN.out]; exact hlt)⟩
      obtain ⟨ad, rfl, hcell⟩ := HH.out.2.2.2.1 i _ (ints_get hx)
      have hdr := skip_here hx
      rw [hdr] at hsk
      have HS := Lib.hid hsk
      by_cases hb : blankB x = true
      · have HB := Lib.hid hb
        have hbb : x = 32 ∨ x = 9 ∨ x = 10 ∨ x = 13 := by unfold blankB at hb; simp at hb; omega
        clear hsk hdr hx hb
        rcases hbb with rfl | rfl | rfl | rfl
        all_goals go_wp2_with fail
        all_goals exact ⟨⟨i + 1, by omega, by go_num, HS.out.trans (by rw [skipB, HB.out]; rfl), trivial⟩, by simp [intOf]; omega⟩
      · have hn : skipB R = R.drop i := by rw [hsk, skipB, if_neg hb, hdr]
        have hhd : headZ (skipB R) = (x : Int) := by rw [hn, hdr]; rfl
        have hbb : ¬ (x : Int) = 32 ∧ ¬ (x : Int) = 9 ∧ ¬ (x : Int) = 10 ∧ ¬ (x : Int) = 13 := by unfold blankB at hb; simp at hb; omega
        obtain ⟨b1, b2, b3, b4⟩ := hbb
        obtain ⟨ob, d, hsl, hd1, hd2, hrd, hob⟩ := slice_at n c i HN.out (by omega) hc HH.out.2.2.1 HH.out.2.2.2.1
        have HE := Lib.hid (And.intro hn (And.intro hhd (And.intro hd1 (And.intro hd2 (And.intro hrd hob)))))
        clear hsk hdr hx hb hn hhd hd1 hd2 hrd hob HS
        go_wp2_with fail
        try rw [Exit.noGoto_ret]
        go_ret
        obtain ⟨g1, g2, g3, g4, g5, g6⟩ := HE.out
        rw [g2]
        refine ⟨rfl, ?_, mod_set _⟩
        rw [g1]
        refine H.out.turn (mod_set _) (List.drop_suffix _ _) (c := d) (oa := ob) ?_ g3 g4 g5 fun a ha hne => ?_
        · rw [heap_setCell_same _ _ _ _ _ _ HH.out.1, List.length_drop]; rfl
        · obtain ⟨a', h1, h2⟩ := g6 a ha
          rw [← h2]; exact HH.out.2.2.2.2 a' h1 (drop_ne hne)
    · have hn : skipB R = [] := by rw [hsk, skip_end (by rw [HN.out]; omega)]; rfl
      have HE := Lib.hid hn
      clear hsk hn
      go_wp2_with fail
      go_ret
      rw [HE.out]
      refine ⟨rfl, ?_, mod_set _⟩
      refine H.out.turn (mod_set _) (List.nil_suffix) (c := 0) (oa := none) ?_ (Nat.le_refl _) (by decide) (fun j r hj => by simp [ints] at hj) (fun a ha _ => by cases ha)
      rw [heap_setCell_same _ _ _ _ _ _ HH.out.1]; rfl
end Go.Proofs.YthkpaelpnofbgaaGreatDoor
/-
  Layer 17 as it landed: pass, enter, fail; where a part can't go on. Over the program's own text.
-/
namespace Go.Proofs.YthkpaelpnofbgaaGreatDoor
open Go.RowKit

/-- An error that is thrown. -/
def errE (c : Int) : Ending := .panicked [{ v := .iface 30 (.int .i64 c), recovered := false }]
section
variable {W0 w w' : World} {rb : Nat} {R : List Nat} {op : Int}
set_option maxRecDepth 100000 in
set_option maxHeartbeats 2000000 in
theorem pass_any (h : Rdr W0 w rb R op) (h1 : 1 ≤ R.length) :
    Calls Tryz.prog 32 #[.pointer (some ⟨rb, 0, none⟩)] w fun e w' => e = .returned (.tuple #[]) ∧ Rdr W0 w' rb (R.drop 1) op ∧ Mod (fun k => k = rb) w w' := by
  have H := Lib.hid h
  obtain ⟨oa, c, hh, hc, hm, hr, hb⟩ := h.rd
  have q0 := cell_at hh 0
  have f0 := free_at hh 0
  obtain ⟨n, hn⟩ : ∃ n, R.length = n := ⟨_, rfl⟩
  obtain ⟨ob, d, hsl, hd1, hd2, hrd, hob⟩ := slice_at n c 1 hn (by omega) (by omega) hm hr
  rw [hn] at hh q0
  obtain ⟨m, hmm⟩ : ∃ m, (R.drop 1).length = m := ⟨_, rfl⟩
  rw [hmm] at hsl hd1
  have hsl1 : ∀ w : World, (Instr.slice 50 (.slice oa n c) (some (.int .i64 1)) none none).run Tryz.prog w = .ok (.slice ob m d) w := hsl
  have HH := Lib.hid (And.intro hh (And.intro hmm (And.intro hd1 (And.intro hd2 (And.intro hrd (And.intro hob hb))))))
  clear h hh hc hm hr hb hn hsl hd1 hd2 hrd hob hmm h1
  go_enter Tryz.func32, Tryz.ntmps32
  go_wp2_with fail
  go_end0
  obtain ⟨g1, g2, g3, g4, g5, g6, g7⟩ := HH.out
  refine ⟨rfl, ?_, mod_set _⟩
  refine H.out.turn (mod_set _) (List.drop_suffix _ _) (c := d) (oa := ob) ?_ (by rw [g2]; exact g3) g4 g5 fun a ha hne => ?_
  · rw [heap_setCell_same _ _ _ _ _ _ g1, g2]; rfl
  · obtain ⟨a', h1, h2⟩ := g6 a ha
    rw [← h2]; exact g7 a' h1 (drop_ne hne)
set_option maxRecDepth 100000 in
theorem enter_deep (h : Rdr W0 w rb R 8) :
    Calls Tryz.prog 44 #[.pointer (some ⟨rb, 0, none⟩)] w fun e w' => e = errE 9 ∧ w' = w := by
  obtain ⟨oa, c, hh, _⟩ := h.rd
  have q0 := cell_at hh 1
  clear h hh
  go_enter Tryz.func44, Tryz.ntmps44
  go_wp2_with fail
  exact ⟨rfl, rfl, rfl⟩
set_option maxRecDepth 100000 in
set_option maxHeartbeats 2000000 in
theorem enter_ok (h : Rdr W0 w rb R op) (h0 : 0 ≤ op) (h8 : op < 8) (h1 : 1 ≤ R.length) :
    Calls Tryz.prog 44 #[.pointer (some ⟨rb, 0, none⟩)] w fun e w' => e = .returned (.tuple #[]) ∧ Rdr W0 w' rb (R.drop 1) (op + 1) ∧ Mod (fun k => k = rb) w w' := by
  have H := Lib.hid h
  obtain ⟨oa, c, hh, hc, hm, hr, hb⟩ := h.rd
  have q1 := cell_at hh 1
  have f1 := free_at hh 1
  have hw : IntKind.i64.wrap (op + 1) = op + 1 := IntWalk.i64_in _ (by omega)
  have hne : ¬ op = 8 := by omega
  have H2 : Rdr W0 (w.setCell ⟨rb, 1, none⟩ (.int .i64 (op + 1))) rb R (op + 1) := h.turn (mod_set _) (List.suffix_refl _) (c := c) (oa := oa) (by rw [heap_setCell_same _ _ _ _ _ _ hh]; rfl) hc hm hr hb
  have HP := Lib.hid (pass_any H2 h1)
  clear h hh hc hm hr hb H2
  go_enter Tryz.func44, Tryz.ntmps44
  go_wp2_with fail
  refine HP.out.mono ?_
  rintro e w2 ⟨rfl, h2, h3⟩
  have HR := Lib.hid (And.intro h2 h3)
  clear h2 h3
  go_wp2_with fail
  go_end0
  exact ⟨rfl, HR.out.1, (mod_set _).trans HR.out.2⟩
set_option maxRecDepth 100000 in
set_option maxHeartbeats 2000000 in
theorem fail_any {k : Nat} (h : Rdr W0 w rb R (8 - (k : Int))) (hk : k ≤ 8) :
    Calls Tryz.prog 35 #[.pointer (some ⟨rb, 0, none⟩)] w fun e w' => e = errE (failE k R) ∧ Mod (fun k => k = rb) w w' := by
  have HN := Lib.hid (next_any h)
  obtain ⟨hd, hhd⟩ : ∃ hd, hd = headZ (skipB R) := ⟨_, rfl⟩
  have HHd := Lib.hid hhd
  rw [← hhd] at HN
  have he : failE k R = if (hd = 40 ∨ hd = 33) ∧ k = 0 then 9 else 8 := by unfold failE; rw [hhd]
  obtain ⟨fe, hfe⟩ : ∃ fe, fe = failE k R := ⟨_, rfl⟩
  rw [← hfe]
  rw [he] at hfe
  have HFe := Lib.hid hfe
  clear he h hfe
  go_enter Tryz.func35, Tryz.ntmps35
  go_wp2_with fail
  refine HN.out.mono ?_
  rintro e w2 ⟨rfl, h2, h3⟩
  have H2 := Lib.hid h2
  have H3 := Lib.hid h3
  clear h2 h3 HN hhd
  by_cases hs : hd = 40 ∨ hd = 33
  · have h1 : 1 ≤ (skipB R).length := by
      cases hc : skipB R with
      | nil =>
        have := HHd.out
        rw [hc] at this
        simp only [headZ] at this
        omega
      | cons c r => simp
    by_cases hk0 : k = 0
    · have HE := Lib.hid (enter_deep (show Rdr W0 w2 rb (skipB R) 8 from by have := H2.out; rw [hk0] at this; exact this))
      have HX := Lib.hid (HFe.out.trans (if_pos ⟨hs, hk0⟩))
      clear h1 hk0
      rcases hs with rfl | rfl
      all_goals go_wp2_with fail
      all_goals (refine HE.out.mono ?_; rintro e w3 ⟨rfl, rfl⟩; exact ⟨rfl, by rw [HX.out]; rfl, H3.out⟩)
    · have HE := Lib.hid (enter_ok H2.out (by omega) (by omega) h1)
      have HX := Lib.hid (HFe.out.trans (if_neg (fun e => hk0 e.2)))
      clear h1 hk0
      rcases hs with rfl | rfl
      all_goals go_wp2_with fail
      all_goals (refine HE.out.mono ?_; rintro e w3 ⟨rfl, h4, h5⟩; have H5 := Lib.hid (H3.out.trans h5); clear h4 h5; go_wp2_with fail; exact ⟨rfl, by rw [HX.out]; rfl, H5.out⟩)
  · have HX := Lib.hid (HFe.out.trans (if_neg (fun e => hs e.1)))
    have hs1 : ¬ hd = 40 := fun e => hs (.inl e)
    have hs2 : ¬ hd = 33 := fun e => hs (.inr e)
    clear hs
    go_wp2_with fail
    exact ⟨rfl, by rw [HX.out]; rfl, H3.out⟩
end
end Go.Proofs.YthkpaelpnofbgaaGreatDoor
/-
  Layer 17 as it landed: words and phrases, fields. Over the program's own text.
-/
namespace Go.Proofs.YthkpaelpnofbgaaGreatDoor
open Go.RowKit

/-- What a part of the reading does. -/
def Did {α : Type} (W0 w : World) (rb : Nat) (op : Int) (x : PR α) (V : World → α → Value → Prop) (e : Ending) (w' : World) : Prop :=
  Mod (fun k => k = rb) w w' ∧ match x with
    | .ok a r => ∃ v, e = .returned v ∧ V w' a v ∧ Rdr W0 w' rb r op
    | .err c => e = errE c
set_option maxRecDepth 100000 in
theorem did_ok {α : Type} {W0 w : World} {rb : Nat} {op : Int} {x : PR α} {V : World → α → Value → Prop} {f : FuncId} {args : Array Value} (h : Calls Tryz.prog f args w (Did W0 w rb op x V)) {a : α} {r : List Nat} (hx : x = .ok a r) : Calls Tryz.prog f args w fun e w' => ∃ v, e = .returned v ∧ V w' a v ∧ Rdr W0 w' rb r op ∧ Mod (fun k => k = rb) w w' := by
  subst hx
  exact h.mono fun _ _ ⟨h1, v, h2, h3, h4⟩ => ⟨v, h2, h3, h4, h1⟩
set_option maxRecDepth 100000 in
theorem did_err {α : Type} {W0 w : World} {rb : Nat} {op : Int} {x : PR α} {V : World → α → Value → Prop} {f : FuncId} {args : Array Value} (h : Calls Tryz.prog f args w (Did W0 w rb op x V)) {c : Int} (hx : x = .err c) : Calls Tryz.prog f args w fun e w' => e = errE c ∧ Mod (fun k => k = rb) w w' := by
  subst hx
  exact h.mono fun _ _ ⟨h1, h2⟩ => ⟨h2, h1⟩
set_option maxRecDepth 100000 in
theorem take_stop (p : Nat → Bool) : ∀ (R : List Nat) (i x : Nat), i ≤ (R.takeWhile p).length → R[i]? = some x → p x = false → (R.takeWhile p).length = i
  | [], _, _, _, h, _ => by simp at h
  | c :: R, 0, x, _, h, hp => by simp at h; subst h; simp [hp]
  | c :: R, i + 1, x, hi, h, hp => by
    rw [List.takeWhile_cons] at hi ⊢
    split at hi
    · rename_i hc
      rw [if_pos hc, List.length_cons, take_stop p R i x (by simpa using hi) (by simpa using h) hp]
    · simp at hi
set_option maxRecDepth 100000 in
theorem take_go (p : Nat → Bool) : ∀ (R : List Nat) (i x : Nat), i ≤ (R.takeWhile p).length → R[i]? = some x → p x = true → i + 1 ≤ (R.takeWhile p).length
  | [], _, _, _, h, _ => by simp at h
  | c :: R, 0, x, _, h, hp => by simp at h; subst h; simp [hp]
  | c :: R, i + 1, x, hi, h, hp => by
    rw [List.takeWhile_cons] at hi ⊢
    split at hi
    · rename_i hc
      have := take_go p R i x (by simpa using hi) (by simpa using h) hp
      rw [if_pos hc, List.length_cons]; omega
    · simp at hi
set_option maxRecDepth 100000 in
theorem take_le (p : Nat → Bool) (R : List Nat) : (R.takeWhile p).length ≤ R.length := (List.takeWhile_prefix p).length_le
set_option maxRecDepth 100000 in
theorem take_tw (p : Nat → Bool) : ∀ R : List Nat, R.take (R.takeWhile p).length = R.takeWhile p ∧ R.drop (R.takeWhile p).length = R.dropWhile p
  | [] => by simp
  | c :: R => by
    obtain ⟨h1, h2⟩ := take_tw p R
    rw [List.takeWhile_cons, List.dropWhile_cons]
    split
    · exact ⟨by rw [List.length_cons, List.take_succ_cons, h1], by rw [List.length_cons, List.drop_succ_cons, h2]⟩
    · simp
def foundZ (p : Nat → Bool) (R : List Nat) : Int := if (R.takeWhile p).length < R.length then ((R.takeWhile p).length : Int) else -1
section
variable {W0 w w' : World} {rb : Nat} {R : List Nat} {op : Int}
set_option maxRecDepth 100000 in
set_option maxHeartbeats 2000000 in
theorem begins_any (w : World) (c : Int) (hT : TabsIn w) :
    Calls Tryz.prog 55 #[.int .i32 c] w fun e w' => e = .returned (.bool (beginB c)) ∧ Below w.heap.size w w' := by
  have HC := Lib.hid (class_tab w c hT)
  have hbr := Lib.hid (Below.refl w.heap.size w)
  clear hT
  by_cases h1 : c = 33
  · have HE := Lib.hid (show beginB c = true by unfold beginB; rw [h1]; rfl)
    go_enter Tryz.func55, Tryz.ntmps55
    go_wp2_with fail
    go_ret
    exact ⟨by rw [HE.out]; rfl, hbr.out⟩
  · by_cases h2 : c = 40
    · have HE := Lib.hid (show beginB c = true by unfold beginB; rw [h2]; rfl)
      go_enter Tryz.func55, Tryz.ntmps55
      go_wp2_with fail
      go_ret
      exact ⟨by rw [HE.out]; rfl, hbr.out⟩
    · by_cases h3 : c = 34
      · have HE := Lib.hid (show beginB c = true by unfold beginB; rw [h3]; rfl)
        go_enter Tryz.func55, Tryz.ntmps55
        go_wp2_with fail
        go_ret
        exact ⟨by rw [HE.out]; rfl, hbr.out⟩
      · have HE := Lib.hid (show beginB c = (classZ c != 0) by unfold beginB; rw [show (c == 33) = false by simp [h1], show (c == 40) = false by simp [h2], show (c == 34) = false by simp [h3]]; rfl)
        obtain ⟨z, hz⟩ : ∃ z, z = classZ c := ⟨_, rfl⟩
        rw [← hz] at HC HE
        clear hz
        go_enter Tryz.func55, Tryz.ntmps55
        by_cases hz0 : z = 0
        · go_wp2_with (go_at_call 56; refine HC.out.mono ?_; rintro e w2 ⟨rfl, hb⟩; have HB := Lib.hid hb; clear hb)
          go_ret
          exact ⟨by rw [HE.out]; simp [hz0, h1, h2, h3], HB.out⟩
        · go_wp2_with (go_at_call 56; refine HC.out.mono ?_; rintro e w2 ⟨rfl, hb⟩; have HB := Lib.hid hb; clear hb)
          go_ret
          exact ⟨by rw [HE.out]; simp [hz0, h1, h2, h3], HB.out⟩
set_option maxRecDepth 100000 in
set_option maxHeartbeats 2000000 in
theorem letter_any (w : World) (c : Int) (hT : TabsIn w) :
    Calls Tryz.prog 58 #[.int .i32 c] w fun e w' => e = .returned (.bool (classZ c == 0)) ∧ Below w.heap.size w w' := by
  have HC := Lib.hid (class_tab w c hT)
  obtain ⟨z, hz⟩ : ∃ z, z = classZ c := ⟨_, rfl⟩
  rw [← hz] at HC
  rw [← hz]
  clear hT hz
  go_enter Tryz.func58, Tryz.ntmps58
  go_wp2_with (go_at_call 56; refine HC.out.mono ?_; rintro e w2 ⟨rfl, hb⟩; have HB := Lib.hid hb; clear hb)
  go_ret
  exact ⟨rfl, HB.out⟩
set_option maxRecDepth 100000 in
set_option maxHeartbeats 2000000 in
theorem index_any (w : World) (oa : Option Addr) (c : Nat) (R : List Nat) (hr : ReadI w oa (ints R)) (hn : R.length ≤ 1000000) :
    Calls Tryz.prog 104 #[.slice oa R.length c, .int .i32 34] w fun e w' => e = .returned (.int .i64 (foundZ (· != 34) R)) ∧ w' = w := by
  have HR := Lib.hid hr
  obtain ⟨n, hnn⟩ : ∃ n, n = R.length := ⟨_, rfl⟩
  obtain ⟨t, ht⟩ : ∃ t, t = (R.takeWhile (· != 34)).length := ⟨_, rfl⟩
  have hle := take_le (· != 34) R
  have HF := Lib.hid (show foundZ (· != 34) R = if t < n then (t : Int) else -1 by unfold foundZ; rw [ht, hnn])
  have HSt := Lib.hid (fun (i x : Nat) (h1 : i ≤ t) (h2 : R[i]? = some x) (h3 : x = 34) => ht.trans (take_stop (· != 34) R i x (by rw [← ht]; exact h1) h2 (by rw [h3]; rfl)))
  have HGo := Lib.hid (fun (i x : Nat) (h1 : i ≤ t) (h2 : R[i]? = some x) (h3 : ¬ x = 34) => (show i + 1 ≤ t by rw [ht]; exact take_go (· != 34) R i x (by rw [← ht]; exact h1) h2 (bne_iff_ne.2 h3)))
  rw [← hnn] at hn hle ⊢
  rw [← ht] at hle
  have HN := Lib.hid hnn
  clear hr hnn ht
  go_enter Tryz.func104, Tryz.ntmps104
  go_wp2_with fail
  go_loopw [8] (fun iv wr => ∃ i : Nat, i ≤ n ∧ i ≤ t ∧ iv = .int .i64 i ∧ wr = w) (fun iv _ => n - (intOf iv).toNat)
  case atStart => exact ⟨0, by omega, by omega, rfl, rfl⟩
  case round =>
    obtain ⟨i, hi, hit, rfl, rfl⟩ := hrel
    by_cases hlt : i < n
    · obtain ⟨x, hx⟩ : ∃ x, R[i]? = some x := ⟨_, List.getElem?_eq_getElem (by rw [← HN.out]; exact hlt)⟩
      obtain ⟨ad, rfl, hcell⟩ := HR.out i _ (ints_get hx)
      by_cases h34 : x = 34
      · have h1 := HSt.out i x hit hx h34
        have HE := Lib.hid (show (if t < n then (t : Int) else -1) = (i : Int) by rw [if_pos (by omega), h1])
        have h342 : (x : Int) = 34 := by omega
        clear h1 hx h34
        go_wp2_with fail
        try rw [Exit.noGoto_ret]
        go_ret
        exact ⟨by rw [HF.out, HE.out]; rfl, rfl⟩
      · have h1 := HGo.out i x hit hx h34
        have h342 : ¬ (x : Int) = 34 := by omega
        have h343 : ¬ (34 : Int) = (x : Int) := by omega
        clear hx h34
        go_wp2_with fail
        go_roundw
        case rel => exact ⟨i + 1, by omega, h1, by go_num, trivial⟩
        case measure => simp [intOf]; omega
    · have HE := Lib.hid (show (if t < n then (t : Int) else -1) = -1 by rw [if_neg (by omega)])
      go_wp2_with fail
      go_ret
      exact ⟨by rw [HF.out, HE.out]; rfl, rfl⟩
set_option maxRecDepth 100000 in
set_option maxHeartbeats 2000000 in
theorem indexf_any (w : World) (oa : Option Addr) (c : Nat) (R : List Nat) (hT : TabsIn w) (hr : ReadI w oa (ints R)) (hn : R.length ≤ 1000000) :
    Calls Tryz.prog 57 #[.slice oa R.length c, .func (.func 58) #[] #[]] w fun e w' => e = .returned (.int .i64 (foundZ letB R)) ∧ Below w.heap.size w w' := by
  have HR := Lib.hid hr
  have HT := Lib.hid hT
  have HL := Lib.hid (fun w' c => letter_any w' c)
  obtain ⟨n, hnn⟩ : ∃ n, n = R.length := ⟨_, rfl⟩
  obtain ⟨t, ht⟩ : ∃ t, t = (R.takeWhile letB).length := ⟨_, rfl⟩
  have hle := take_le letB R
  have HF := Lib.hid (show foundZ letB R = if t < n then (t : Int) else -1 by unfold foundZ; rw [ht, hnn])
  have HSt := Lib.hid (fun (i x : Nat) (h1 : i ≤ t) (h2 : R[i]? = some x) (h3 : classZ (x : Int) = 0) => ht.trans (take_stop letB R i x (by rw [← ht]; exact h1) h2 (by unfold letB; simp [h3])))
  have HGo := Lib.hid (fun (i x : Nat) (h1 : i ≤ t) (h2 : R[i]? = some x) (h3 : ¬ classZ (x : Int) = 0) => (show i + 1 ≤ t by rw [ht]; exact take_go letB R i x (by rw [← ht]; exact h1) h2 (by unfold letB; simp [h3])))
  rw [← hnn] at hn hle ⊢
  rw [← ht] at hle
  have HN := Lib.hid hnn
  clear hr hnn ht hT
  go_enter Tryz.func57, Tryz.ntmps57
  go_wp2_with fail
  go_loopw [8] (fun iv wr => ∃ i : Nat, i ≤ n ∧ i ≤ t ∧ iv = .int .i64 i ∧ Below w.heap.size w wr) (fun iv _ => n - (intOf iv).toNat)
  case atStart => exact ⟨0, by omega, by omega, rfl, Below.refl _ _⟩
  case round =>
    obtain ⟨i, hi, hit, rfl, hb0⟩ := hrel
    by_cases hlt : i < n
    · obtain ⟨x, hx⟩ : ∃ x, R[i]? = some x := ⟨_, List.getElem?_eq_getElem (by rw [← HN.out]; exact hlt)⟩
      obtain ⟨ad, rfl, hcell⟩ := (HR.out.below hb0) i _ (ints_get hx)
      have HC := Lib.hid (HL.out wr (x : Int) (HT.out.below hb0))
      have HB0 := Lib.hid hb0
      clear hb0
      by_cases h34 : classZ (x : Int) = 0
      · have h1 := HSt.out i x hit hx h34
        have HE := Lib.hid (show (if t < n then (t : Int) else -1) = (i : Int) by rw [if_pos (by omega), h1])
        rw [show (classZ (x : Int) == 0) = true by simp [h34]] at HC
        clear h1 hx h34
        go_wp2_with (go_at_call 58; refine HC.out.mono ?_; rintro e w2 ⟨rfl, hb⟩; have HB := Lib.hid hb; clear hb)
        try rw [Exit.noGoto_ret]
        go_ret
        exact ⟨by rw [HF.out, HE.out]; rfl, low_more HB0.out HB.out⟩
      · have h1 := HGo.out i x hit hx h34
        rw [show (classZ (x : Int) == 0) = false by simp [h34]] at HC
        clear hx h34
        go_wp2_with (go_at_call 58; refine HC.out.mono ?_; rintro e w2 ⟨rfl, hb⟩; have HB := Lib.hid (low_more HB0.out hb); clear hb)
        go_roundw
        case rel => exact ⟨i + 1, by omega, h1, by go_num, HB.out⟩
        case measure => simp [intOf]; omega
    · have HE := Lib.hid (show (if t < n then (t : Int) else -1) = -1 by rw [if_neg (by omega)])
      have HB := Lib.hid hb0
      clear hb0
      go_wp2_with fail
      go_ret
      exact ⟨by rw [HF.out, HE.out]; rfl, HB.out⟩
end
end Go.Proofs.YthkpaelpnofbgaaGreatDoor
/-
  Layer 17 as it landed: a word, a phrase, a field are read. Over the program's own text.
-/
namespace Go.Proofs.YthkpaelpnofbgaaGreatDoor
open Go.RowKit

set_option maxRecDepth 100000 in
theorem blk_low {p : Nat} {v : Obj} {w w' : World} (h : w.heap[p]? = some v) (hb : Below w.heap.size w w') : w'.heap[p]? = some v := (hb.block _ (lt_of_heap h)).trans h
/-- A text as a value: its runes' text. -/
def TextV (_ : World) (q : List Nat) (v : Value) : Prop := v = .string (textZ (ints q))
set_option maxRecDepth 100000 in
/-- The first ones are passed. -/
theorem Rdr.cut {W0 w : World} {rb : Nat} {S : List Nat} {op : Int} (h : Rdr W0 w rb S op) {oa ob : Option Addr} {d t m : Nat} {x : Value} (hh : w.heap[rb]? = some (.cells #[x, .int .i64 op] 53 (0, 0))) (hm : (S.drop t).length = m) (h1 : m ≤ d) (h2 : d ≤ maxLen) (hrd : ReadI w ob (ints (S.drop t))) (hob : ∀ a, ob = some a → ∃ a', oa = some a' ∧ a'.block = a.block) (hbk : ∀ a, oa = some a → S ≠ [] → a.block < rb) : Rdr W0 (w.setCell ⟨rb, 0, none⟩ (.slice ob m d)) rb (S.drop t) op := by
  refine h.turn (mod_set _) (List.drop_suffix _ _) (c := d) (oa := ob) ?_ (by rw [hm]; exact h1) h2 hrd fun a ha hne => ?_
  · rw [heap_setCell_same _ _ _ _ _ _ hh, hm]; rfl
  · obtain ⟨a', h3, h4⟩ := hob a ha
    rw [← h4]; exact hbk a' h3 (drop_ne hne)
section
variable {W0 w w' : World} {rb : Nat} {R : List Nat} {op : Int}
set_option maxRecDepth 100000 in
set_option maxHeartbeats 4000000 in
theorem word_any {k : Nat} (h : Rdr W0 w rb R (8 - (k : Int))) (hk : k ≤ 8) :
    Calls Tryz.prog 42 #[.pointer (some ⟨rb, 0, none⟩)] w (Did W0 w rb (8 - (k : Int)) (wordP k R) TextV) := by
  have HN := Lib.hid (next_any h)
  have HH0 := Lib.hid h
  obtain ⟨S, hS⟩ : ∃ S, S = skipB R := ⟨_, rfl⟩
  have hP : wordP k R = if classZ (headZ S) = 0 then .err (failE k S) else .ok (S.takeWhile letB) (S.dropWhile letB) := by unfold wordP; rw [hS]
  rw [← hS] at HN
  obtain ⟨op, hop⟩ : ∃ op, op = 8 - (k : Int) := ⟨_, rfl⟩
  rw [← hop] at HN ⊢
  have HOp := Lib.hid hop
  obtain ⟨hd, hhd⟩ : ∃ hd, hd = headZ S := ⟨_, rfl⟩
  rw [← hhd] at HN hP
  obtain ⟨z, hz⟩ : ∃ z, z = classZ hd := ⟨_, rfl⟩
  rw [← hz] at hP
  have HCl : Hid (∀ w', TabsIn w' → Calls Tryz.prog 56 #[.int .i32 hd] w' fun e w2 => e = .returned (.int .i64 z) ∧ Below w'.heap.size w' w2) := Lib.hid (fun w' hT => by rw [hz]; exact class_tab w' hd hT)
  have HHd := Lib.hid hhd
  have HZ := Lib.hid hz
  clear h hS hhd hz hop
  by_cases hz0 : z = 0
  · rw [if_pos hz0] at hP
    rw [hP]
    clear hP
    go_enter Tryz.func42, Tryz.ntmps42
    go_wp2_with fail
    refine HN.out.mono ?_
    rintro e w2 ⟨rfl, h2, h3⟩
    have HC := Lib.hid (HCl.out w2 h2.tab)
    have H2 := Lib.hid h2
    have H3 := Lib.hid h3
    clear h2 h3 HN HCl
    go_wp2_with fail
    refine HC.out.mono ?_
    rintro e w3 ⟨rfl, hb⟩
    have HF := Lib.hid (fail_any (show Rdr W0 w3 rb S (8 - (k : Int)) by rw [← HOp.out]; exact H2.out.below hb) hk)
    have H4 := Lib.hid (H3.out.trans (below_mod hb))
    clear hb
    go_wp2_with fail
    refine HF.out.mono ?_
    rintro e w4 ⟨rfl, h5⟩
    have H5 := Lib.hid (H4.out.trans h5)
    clear h5
    exact ⟨rfl, H5.out, rfl⟩
  · rw [if_neg hz0] at hP
    rw [hP]
    clear hP
    obtain ⟨n, hn⟩ : ∃ n, n = S.length := ⟨_, rfl⟩
    obtain ⟨t, ht⟩ : ∃ t, t = (S.takeWhile letB).length := ⟨_, rfl⟩
    obtain ⟨ht1, ht2⟩ := take_tw letB S
    rw [← ht] at ht1 ht2
    have htn : t ≤ n := by rw [hn, ht]; exact take_le _ _
    have hfz : foundZ letB S = if t < n then (t : Int) else -1 := by unfold foundZ; rw [ht, hn]
    rw [← ht1, ← ht2]
    have HTn := Lib.hid (And.intro hn hfz)
    clear ht ht1 ht2 hn hfz
    go_enter Tryz.func42, Tryz.ntmps42
    go_wp2_with fail
    refine HN.out.mono ?_
    rintro e w2 ⟨rfl, h2, h3⟩
    have HC := Lib.hid (HCl.out w2 h2.tab)
    have H2 := Lib.hid h2
    have H3 := Lib.hid h3
    clear h2 h3 HN HCl
    go_wp2_with fail
    refine HC.out.mono ?_
    rintro e w3 ⟨rfl, hb⟩
    have h3 := H2.out.below hb
    have H4 := Lib.hid (H3.out.trans (below_mod hb))
    clear hb
    obtain ⟨oa, c, hh, hc, hm, hr, hbk⟩ := h3.rd
    have HIx := Lib.hid (indexf_any w3 oa c S h3.tab hr h3.few)
    rw [← HTn.out.1] at hh HIx hc
    rw [HTn.out.2] at HIx
    have q0 := cell_at hh 0
    have H3' := Lib.hid h3
    clear h3 hh hr hm hc hbk
    go_wp2_with fail
    refine HIx.out.mono ?_
    rintro e w4 ⟨rfl, hb⟩
    have h4 := H3'.out.below hb
    have H5 := Lib.hid (H4.out.trans (below_mod hb))
    clear hb q0 HIx
    obtain ⟨oa, c, hh, hc, hm, hr, hbk⟩ := h4.rd
    obtain ⟨ob, d, hsl, hd1, hd2, hrd, hob⟩ := slice_at n c t HTn.out.1.symm htn (by rw [HTn.out.1]; exact hc) hm hr
    have hto := slice_to oa n c t (by rw [← HTn.out.1] at hc; omega)
    have hrt := read_to hr t
    have hok := h4.okr
    have hfew := h4.few
    have HTx := Lib.hid (fun (w5 : World) (hb : Below w4.heap.size w4 w5) => kept.text w5 oa c (ints (S.take t)) (by rw [ints_length, List.length_take]; omega) (by rw [ints_length, List.length_take, ← HTn.out.1]; rw [← HTn.out.1] at hc; omega) hm (hrt.below hb) (ints_i32 fun r hr => hok r (List.mem_of_mem_take hr)))
    rw [ints_length, List.length_take, ← HTn.out.1, Nat.min_eq_left htn] at HTx
    rw [← HTn.out.1] at hh
    have q0 := cell_at hh 0
    have f0 := free_at hh 0
    obtain ⟨m, hmm⟩ : ∃ m, (S.drop t).length = m := ⟨_, rfl⟩
    rw [hmm] at hsl hd1
    have HH := Lib.hid (And.intro hh (And.intro hmm (And.intro hd1 (And.intro hd2 (And.intro hrd (And.intro hob hbk))))))
    have H4' := Lib.hid h4
    clear h4 hc hm hr hbk hd1 hd2 hrd hob hmm hrt hok hfew
    by_cases htt : t < n
    · have h0 : ¬ (t : Int) < 0 := by omega
      rw [if_pos htt]
      go_wp2_with fail
      refine (HTx.out _ (Below.refl _ _)).mono ?_
      rintro e w5 ⟨rfl, hb5⟩
      have q0' := below_cell q0 hb5
      have hh5 := blk_low HH.out.1 hb5
      have f0' := free_at hh5 0
      have HB5 := Lib.hid (And.intro hh5 hb5)
      clear hb5 hh5 q0 f0
      go_wp2_with fail
      go_ret
      obtain ⟨g1, g2, g3, g4, g5, g6, g7⟩ := HH.out
      obtain ⟨g8, g9⟩ := HB5.out
      exact ⟨(H5.out.trans (below_mod g9)).trans (mod_set _), _, rfl, rfl, (H4'.out.below g9).cut g8 g2 g3 g4 (g5.below g9) g6 g7⟩
    · obtain rfl : t = n := by omega
      rw [if_neg htt]
      go_wp2_with fail
      refine (HTx.out _ (Below.refl _ _)).mono ?_
      rintro e w5 ⟨rfl, hb5⟩
      have q0' := below_cell q0 hb5
      have hh5 := blk_low HH.out.1 hb5
      have f0' := free_at hh5 0
      have HB5 := Lib.hid (And.intro hh5 hb5)
      clear hb5 hh5 q0 f0
      go_wp2_with fail
      go_ret
      obtain ⟨g1, g2, g3, g4, g5, g6, g7⟩ := HH.out
      obtain ⟨g8, g9⟩ := HB5.out
      exact ⟨(H5.out.trans (below_mod g9)).trans (mod_set _), _, rfl, rfl, (H4'.out.below g9).cut g8 g2 g3 g4 (g5.below g9) g6 g7⟩
set_option maxRecDepth 100000 in
set_option maxHeartbeats 4000000 in
theorem phrase_any (h : Rdr W0 w rb R op) (h1 : 1 ≤ R.length) :
    Calls Tryz.prog 94 #[.pointer (some ⟨rb, 0, none⟩)] w (Did W0 w rb op (phraseP (R.drop 1)) TextV) := by
  have HPs := Lib.hid (pass_any h h1)
  obtain ⟨S, hS⟩ : ∃ S, S = R.drop 1 := ⟨_, rfl⟩
  rw [← hS] at HPs ⊢
  obtain ⟨n, hn⟩ : ∃ n, n = S.length := ⟨_, rfl⟩
  obtain ⟨t, ht⟩ : ∃ t, t = (S.takeWhile (· != 34)).length := ⟨_, rfl⟩
  obtain ⟨ht1, ht2⟩ := take_tw (· != 34) S
  rw [← ht] at ht1 ht2
  have htn : t ≤ n := by rw [hn, ht]; exact take_le _ _
  have hfz : foundZ (· != 34) S = if t < n then (t : Int) else -1 := by unfold foundZ; rw [ht, hn]
  have hmem : 34 ∈ S ↔ t < n := by
    rw [hn, ht]
    clear hS hn ht ht1 ht2 htn hfz HPs
    induction S with
    | nil => simp
    | cons c S ih =>
      rw [List.takeWhile_cons]
      by_cases hc : c = 34
      · subst hc; simp
      · rw [if_pos (bne_iff_ne.2 hc), List.length_cons, List.length_cons, List.mem_cons]
        constructor
        · rintro (h | h)
          · exact absurd h.symm hc
          · have := ih.1 h; omega
        · intro h; exact .inr (ih.2 (by omega))
  have hP : phraseP S = if t < n then .ok (S.take t) (S.drop (t + 1)) else .err 8 := by
    unfold phraseP
    simp only [hmem]
    rw [← ht1, ← ht2, List.drop_drop]
  have HTn := Lib.hid (And.intro hn hfz)
  clear ht ht1 ht2 hn hfz hmem hS h h1
  by_cases htt : t < n
  · rw [hP, if_pos htt]
    clear hP
    go_enter Tryz.func94, Tryz.ntmps94
    go_wp2_with fail
    refine HPs.out.mono ?_
    rintro e w2 ⟨rfl, h2, h3⟩
    obtain ⟨oa, c, hh, hc, hm, hr, hbk⟩ := h2.rd
    have HIx := Lib.hid (index_any w2 oa c S hr h2.few)
    rw [← HTn.out.1] at hh HIx hc
    rw [HTn.out.2] at HIx
    have q0 := cell_at hh 0
    have f0 := free_at hh 0
    rw [if_pos htt] at HIx
    obtain ⟨ob, d, hsl, hd1, hd2, hrd, hob⟩ := slice_at n c (t + 1) HTn.out.1.symm htt hc hm hr
    have hsl1 : ∀ w : World, (Instr.slice 50 (.slice oa n c) (some (.int .i64 ((t : Int) + 1))) none none).run Tryz.prog w = .ok (.slice ob (S.drop (t + 1)).length d) w := hsl
    have hto := slice_to oa n c t (by omega)
    have hrt := read_to hr t
    have hok := h2.okr
    have hfew := h2.few
    have HTx := Lib.hid (kept.text w2 oa c (ints (S.take t)) (by rw [ints_length, List.length_take]; omega) (by rw [ints_length, List.length_take, ← HTn.out.1]; omega) hm hrt (ints_i32 fun r hr => hok r (List.mem_of_mem_take hr)))
    rw [ints_length, List.length_take, ← HTn.out.1, Nat.min_eq_left htn] at HTx
    obtain ⟨m, hmm⟩ : ∃ m, (S.drop (t + 1)).length = m := ⟨_, rfl⟩
    rw [hmm] at hsl1 hd1
    have HH := Lib.hid (And.intro hh (And.intro hmm (And.intro hd1 (And.intro hd2 (And.intro hrd (And.intro hob hbk))))))
    have hn2 : n ≤ 1000000 := by rw [HTn.out.1]; exact hfew
    have H2 := Lib.hid h2
    have H3 := Lib.hid h3
    clear h2 h3 hc hm hr hbk hd1 hd2 hrd hob hmm hrt hok hfew hsl hh
    have h0 : ¬ (t : Int) < 0 := by omega
    go_wp2_with (go_at_call 104; refine HIx.out.mono ?_; rintro e w3 ⟨rfl, rfl⟩)
    refine HTx.out.mono ?_
    rintro e w5 ⟨rfl, hb5⟩
    have q0' := below_cell q0 hb5
    have hh5 := blk_low HH.out.1 hb5
    have f0' := free_at hh5 0
    have HB5 := Lib.hid (And.intro hh5 hb5)
    clear hb5 hh5 q0 f0
    go_wp2_with fail
    go_ret
    obtain ⟨g1, g2, g3, g4, g5, g6, g7⟩ := HH.out
    obtain ⟨g8, g9⟩ := HB5.out
    exact ⟨(H3.out.trans (below_mod g9)).trans (mod_set _), _, rfl, rfl, (H2.out.below g9).cut g8 g2 g3 g4 (g5.below g9) g6 g7⟩
  · rw [hP, if_neg htt]
    clear hP
    go_enter Tryz.func94, Tryz.ntmps94
    go_wp2_with fail
    refine HPs.out.mono ?_
    rintro e w2 ⟨rfl, h2, h3⟩
    obtain ⟨oa, c, hh, hc, hm, hr, hbk⟩ := h2.rd
    have HIx := Lib.hid (index_any w2 oa c S hr h2.few)
    rw [← HTn.out.1] at hh HIx hc
    rw [HTn.out.2] at HIx
    have q0 := cell_at hh 0
    have f0 := free_at hh 0
    rw [if_neg htt] at HIx
    have H3 := Lib.hid h3
    clear h2 h3 hc hm hr hbk hh
    go_wp2_with (go_at_call 104; refine HIx.out.mono ?_; rintro e w3 ⟨rfl, rfl⟩)
    exact ⟨rfl, H3.out, rfl⟩
set_option maxRecDepth 100000 in
theorem field_none {R S : List Nat} (hS : S = skipB R) (h : headZ S < 48 ∨ 52 ≤ headZ S ∨ S.length < 2 ∨ ¬ S[1]? = some 58) : fieldP R = (0, S) := by
  unfold fieldP
  rw [← hS]
  split
  · rename_i c r
    rw [if_neg]
    intro hc
    simp only [headZ, List.length_cons, List.getElem?_cons_succ, List.getElem?_cons_zero] at h
    rcases h with h | h | h | h
    · omega
    · omega
    · omega
    · exact h trivial
  · rfl
set_option maxRecDepth 100000 in
theorem field_some {R S : List Nat} (hS : S = skipB R) (h1 : 48 ≤ headZ S) (h2 : headZ S < 52) (h3 : S[1]? = some 58) : fieldP R = (headZ S - 48, S.drop 2) := by
  unfold fieldP
  rw [← hS]
  match S, h1, h2, h3 with
  | c :: d :: r, h1, h2, h3 =>
    simp at h3
    subst h3
    simp only [headZ] at h1 h2
    simp only
    rw [if_pos ⟨by omega, by omega⟩]
    rfl
set_option maxRecDepth 100000 in
set_option maxHeartbeats 4000000 in
theorem field_any (h : Rdr W0 w rb R op) :
    Calls Tryz.prog 92 #[.pointer (some ⟨rb, 0, none⟩)] w fun e w' => e = .returned (.int .u8 (fieldP R).1) ∧ Rdr W0 w' rb (fieldP R).2 op ∧ Mod (fun k => k = rb) w w' := by
  have HN := Lib.hid (next_any h)
  obtain ⟨S, hS⟩ : ∃ S, S = skipB R := ⟨_, rfl⟩
  have HS := Lib.hid hS
  rw [← hS] at HN
  clear h hS
  go_enter Tryz.func92, Tryz.ntmps92
  go_wp2_with fail
  refine HN.out.mono ?_
  rintro e w2 ⟨rfl, h2, h3⟩
  have H2 := Lib.hid h2
  have H3 := Lib.hid h3
  obtain ⟨oa, c, hh, hc, hm, hr, hbk⟩ := h2.rd
  obtain ⟨n, hn⟩ : ∃ n, n = S.length := ⟨_, rfl⟩
  have hn2 := h2.few
  rw [← hn] at hh hc hn2
  have q0 := cell_at hh 0
  have f0 := free_at hh 0
  have HNn := Lib.hid hn
  have HNone := Lib.hid (fun hq => field_none HS.out hq)
  have HSome := Lib.hid (fun h1 h2 h3 => field_some HS.out h1 h2 h3)
  obtain ⟨hd, hhd⟩ : ∃ hd, hd = headZ S := ⟨_, rfl⟩
  rw [← hhd] at HNone HSome ⊢
  clear h2 h3 HN hhd hn
  by_cases h48 : hd < 48
  · have HE := Lib.hid (HNone.out (.inl h48))
    go_wp2_with fail
    go_ret
    rw [HE.out]
    exact ⟨rfl, H2.out, H3.out⟩
  · by_cases h52 : 52 ≤ hd
    · have HE := Lib.hid (HNone.out (.inr (.inl h52)))
      go_wp2_with fail
      go_ret
      rw [HE.out]
      exact ⟨rfl, H2.out, H3.out⟩
    · by_cases hn0 : n < 2
      · have HE := Lib.hid (HNone.out (.inr (.inr (.inl (by rw [← HNn.out]; exact hn0)))))
        have hn1 : (n : Int) < 2 := by omega
        go_wp2_with fail
        go_ret
        rw [HE.out]
        exact ⟨rfl, H2.out, H3.out⟩
      · obtain ⟨x, hx⟩ : ∃ x, S[1]? = some x := ⟨_, List.getElem?_eq_getElem (by rw [← HNn.out]; omega)⟩
        obtain ⟨ad, rfl, hcell⟩ := hr 1 _ (ints_get hx)
        have hcell2 : w2.cell? ⟨ad.block, ad.off + 1, none⟩ = some (.int .i32 (x : Int)) := by simpa [Addr.add] using hcell
        have hn1 : ¬ (n : Int) < 2 := by omega
        have hn3 : 1 < n := by omega
        by_cases h58 : x = 58
        · have HE := Lib.hid (HSome.out (by omega) (by omega) (by rw [hx, h58]))
          obtain ⟨ob, d, hsl, hd1, hd2, hrd, hob⟩ := slice_at n c 2 HNn.out.symm (by omega) hc hm hr
          have hsl1 : ∀ w : World, (Instr.slice 50 (.slice (some ad) n c) (some (.int .i64 2)) none none).run Tryz.prog w = .ok (.slice ob (S.drop 2).length d) w := hsl
          obtain ⟨m, hmm⟩ : ∃ m, (S.drop 2).length = m := ⟨_, rfl⟩
          rw [hmm] at hsl1 hd1
          have HH := Lib.hid (And.intro hh (And.intro hmm (And.intro hd1 (And.intro hd2 (And.intro hrd (And.intro hob hbk))))))
          have h582 : (x : Int) = 58 := by omega
          have hw1 : IntKind.i32.wrap (hd - 48) = hd - 48 := IntWalk.i32_in _ (by omega)
          have hw2 : IntKind.u8.wrap (hd - 48) = hd - 48 := IntWalk.u8_in _ (by omega)
          clear hc hm hr hbk hd1 hd2 hrd hob hmm hsl hh hx h58 hcell
          go_wp2_with fail
          go_ret
          obtain ⟨g1, g2, g3, g4, g5, g6, g7⟩ := HH.out
          rw [HE.out]
          exact ⟨rfl, H2.out.cut g1 g2 g3 g4 g5 g6 g7, H3.out.trans (mod_set _)⟩
        · have HE := Lib.hid (HNone.out (.inr (.inr (.inr (by rw [hx]; simp [h58])))))
          have h582 : ¬ (x : Int) = 58 := by omega
          have h583 : ((x : Int) != 58) = true := bne_iff_ne.2 h582
          clear hx hcell
          go_wp2_with fail
          go_ret
          rw [HE.out]
          exact ⟨rfl, H2.out, H3.out⟩
end
end Go.Proofs.YthkpaelpnofbgaaGreatDoor
/-
  Trees in memory beside a reader's: see NodeRd. Over the program's own text.
-/
/-
  A row read out of, and stored into, a part of a block. Over any program.
-/
namespace Go.Proofs.YthkpaelpnofbgaaGreatDoor
open Go.RowKit
section
variable {P : Program}
set_option maxRecDepth 100000 in
theorem run_load_part (w : World) (g o : Nat) (t ty : TypeId) (cur cs : Array Value) (fr : Nat × Nat) (d : TypeDesc) (hg : w.heap[g]? = some (.cells cur t fr)) (hp : ∀ (j : Nat) (v : Value), cs.toList[j]? = some v → cur[o + j]? = some v)
    (hu : P.underlying ty = some d) (hd : (match d with | .struct _ | .array _ _ => true | _ => false) = true) (hi : (P.info? ty).map (·.size) = some cs.size) :
    (loadVar ty ⟨g, o, none⟩).run P w = .ok (.agg cs) w := by
  have hl : (loadCells ⟨g, o, none⟩ cs.toList.length).run P w = .ok cs.toList.toArray w :=
    run_loadCells_list (P := P) w ⟨g, o, none⟩ cs.toList (fun j v hv => by
      rw [Addr.add_lit, cell_of_row w g (o + j) cur t fr hg]
      exact hp j v hv)
  cases hq : P.info? ty with
  | none => simp [hq] at hi
  | some i =>
    have hs : i.size = cs.size := by simpa [hq] using hi
    have hagg : (isAgg ty).run P w = .ok true w := by
      unfold isAgg
      rw [Sem.run_bind, run_underlying hu w]
      cases d <;> simp_all
    simp only [Array.length_toList, Array.toArray_toList] at hl
    simp [loadVar, Sem.run_bind, hagg, sizeOf, typeInfo, hq, hs, hl]
set_option maxRecDepth 100000 in
theorem wp_load_part {o : Oper} {a : Act} {w : World} {K : Act → World → Prop} {Q : Exit → Act → World → Prop} (ty : TypeId) (x : Operand) (ho : o.op = .load ty x)
    (g f : Nat) (hx : a.eval x = .pointer (some ⟨g, f, none⟩)) (t : TypeId) (cur cs : Array Value) (fr : Nat × Nat) (d : TypeDesc) (hg : w.heap[g]? = some (.cells cur t fr)) (hp : ∀ (j : Nat) (v : Value), cs.toList[j]? = some v → cur[f + j]? = some v)
    (hu : P.underlying ty = some d) (hd : (match d with | .struct _ | .array _ _ => true | _ => false) = true) (hi : (P.info? ty).map (·.size) = some cs.size)
    (h : K (a.put o.dst (.agg cs)) w) : o.wp P a w K Q := by
  unfold Oper.wp execOp
  simp only [ho, hx, Instr.loadAt, Instr.sureAddr, Sem.run_bind, Sem.run_pure, Result.andThen_ok, run_load_part w g f t ty cur cs fr d hg hp hu hd hi]
  exact h
set_option maxRecDepth 100000 in
theorem wpList_load_part {ops : Array Oper} {rest : List Oper} {o : Oper} {a : Act} {w : World} {Q : Exit → Act → World → Prop} (hgd : o.guard = none) (ty : TypeId) (x : Operand) (ho : o.op = .load ty x)
    (g f : Nat) (hx : a.eval x = .pointer (some ⟨g, f, none⟩)) (t : TypeId) (cur cs : Array Value) (fr : Nat × Nat) (d : TypeDesc) (hg : w.heap[g]? = some (.cells cur t fr)) (hp : ∀ (j : Nat) (v : Value), cs.toList[j]? = some v → cur[f + j]? = some v)
    (hu : P.underlying ty = some d) (hd : (match d with | .struct _ | .array _ _ => true | _ => false) = true) (hi : (P.info? ty).map (·.size) = some cs.size)
    (h : wpList P ops Q rest (a.put o.dst (.agg cs)) w) : wpList P ops Q (o :: rest) a w :=
  wpList_plain hgd fun _ hK => wp_load_part ty x ho g f hx t cur cs fr d hg hp hu hd hi (hK _ _ h)
set_option maxRecDepth 100000 in
/-- The row behind it is said outright. -/
theorem run_store_part (w : World) (g o : Nat) (t ty : TypeId) (cur cells new : Array Value) (hg : w.heap[g]? = some (.cells cur t (0, 0))) (hl : o + cells.size ≤ cur.size) (hi : (P.info? ty).map (·.size) = some cells.size) (h1 : cells.all (·.oneCell') = true)
    (hn : cur.toList.take o ++ cells.toList ++ cur.toList.drop (o + cells.size) = new.toList) :
    (storeVar ty ⟨g, o, none⟩ (.agg cells)).run P w = .ok () (w.setRow g new) := by
  have h := run_storeCells_at P g o t cells.toList 0 cur w hg (by simp; omega) (fun v hv => (Array.all_eq_true_iff_forall_mem.1 h1) v (by simpa using hv))
  rw [Nat.add_zero, Array.length_toList, hn, Array.toArray_toList] at h
  cases hq : P.info? ty with
  | none => simp [hq] at hi
  | some i =>
    have hs : cells.size = i.size := by simp [hq] at hi; omega
    simp [storeVar, sizeOf, typeInfo, hq, Value.cells, hs, h]
set_option maxRecDepth 100000 in
theorem wp_store_part {o : Oper} {a : Act} {w : World} {K : Act → World → Prop} {Q : Exit → Act → World → Prop} (ty : TypeId) (x y : Operand) (ho : o.op = .store ty x y)
    (g f : Nat) (cells : Array Value) (hx : a.eval x = .pointer (some ⟨g, f, none⟩)) (hy : a.eval y = .agg cells)
    (t : TypeId) (cur new : Array Value) (hg : w.heap[g]? = some (.cells cur t (0, 0))) (hl : f + cells.size ≤ cur.size) (hi : (P.info? ty).map (·.size) = some cells.size) (h1 : cells.all (·.oneCell') = true)
    (hn : cur.toList.take f ++ cells.toList ++ cur.toList.drop (f + cells.size) = new.toList)
    (h : K (a.put o.dst undef) (w.setRow g new)) : o.wp P a w K Q := by
  unfold Oper.wp execOp
  simp only [ho, hx, hy, Instr.storeAt, Instr.sureAddr, Sem.run_bind, Sem.run_pure, Result.andThen_ok, run_store_part w g f t ty cur cells new hg hl hi h1 hn]
  exact h
set_option maxRecDepth 100000 in
theorem wpList_store_part {ops : Array Oper} {rest : List Oper} {o : Oper} {a : Act} {w : World} {Q : Exit → Act → World → Prop} (hgd : o.guard = none) (ty : TypeId) (x y : Operand) (ho : o.op = .store ty x y)
    (g f : Nat) (cells : Array Value) (hx : a.eval x = .pointer (some ⟨g, f, none⟩)) (hy : a.eval y = .agg cells)
    (t : TypeId) (cur new : Array Value) (hg : w.heap[g]? = some (.cells cur t (0, 0))) (hl : f + cells.size ≤ cur.size) (hi : (P.info? ty).map (·.size) = some cells.size) (h1 : cells.all (·.oneCell') = true)
    (hn : cur.toList.take f ++ cells.toList ++ cur.toList.drop (f + cells.size) = new.toList)
    (h : wpList P ops Q rest (a.put o.dst undef) (w.setRow g new)) : wpList P ops Q (o :: rest) a w :=
  wpList_plain hgd fun _ hK => wp_store_part ty x y ho g f cells hx hy t cur new hg hl hi h1 hn (hK _ _ h)
end
end Go.Proofs.YthkpaelpnofbgaaGreatDoor
