/-
  What the landed code's functions of layer 6 keep: a text's runs of letters and digits (two loops, the inner one left by a label), each one's term (folded, written, cut), and its words. Over the program's own text.
-/
import Derived.Test.YtaaeooimalglaaaDoorTokCut
import Derived.Test.YtaaeooimalglaaaDoorTokKept
import Derived.Test.YtaaeooimalglaaaDoorUtfLands
import Derived.Test.YtaaeooimalglaaaDoorFoldTab
import Derived.Deep.OwnRows
import Derived.Deep.LoopGhost
namespace Go.Proofs.YtaaeooimalglaaaDoor
open Go.RowKit

def TW (w : World) : Prop := TabsIn w

/-! ### Runs -/
set_option maxRecDepth 100000 in
theorem info_rs : (Tryd.prog.info? 34).map (fun i => (i.zero, i.size, i.bytes)) = some (some (.slice none 0 0), 1, 24) := by kernel_rfl
set_option maxRecDepth 100000 in
theorem size_rune (w : World) : (Go.sizeOf 21).run Tryd.prog w = .ok 1 w := by kernel_rfl
set_option maxRecDepth 100000 in
theorem elem_runes : Tryd.prog.elem 34 = 21 := by kernel_rfl
set_option maxRecDepth 100000 in
theorem under_runes : Tryd.prog.underlying 34 = some (.slice (Tryd.prog.elem 34)) := by rw [elem_runes]; exact Tryd.underlying34
set_option maxRecDepth 100000 in
theorem add_adds (a : Addr) (i j : Nat) : (a.add i).add j = a.add (i + j) := by
  unfold Addr.add
  by_cases hi : i = 0 <;> by_cases hj : j = 0 <;> simp [hi, hj, Nat.add_assoc]
set_option maxRecDepth 100000 in
/-- The first so many. -/
theorem slice_to (oa : Option Addr) (n c i : Nat) (hi : i ≤ c) (w : World) :
    (Instr.slice 34 (.slice oa n c) none (some (.int .i64 (i : Int))) none).run Tryd.prog w = .ok (.slice oa i c) w := by
  rw [run_slice_h w 34 oa n c under_runes .i64 (i : Int) (by omega) (by omega), elem_runes, size_rune]
  have e : (oa.map fun x => x.add 0) = oa := by cases oa <;> simp [Addr.add]
  simp [Result.andThen, sliced, e]
set_option maxRecDepth 100000 in
theorem read_to {w : World} {oa : Option Addr} {R : List Nat} (h : ReadI w oa (ints R)) (i : Nat) : ReadI w oa (ints (R.take i)) := by
  intro j r hj
  rw [← ints_take, List.getElem?_take] at hj
  split at hj
  · exact h j r hj
  · cases hj
set_option maxRecDepth 100000 in
/-- All behind so many. -/
theorem slice_from {W : World} {oa : Option Addr} {R : List Nat} (n c i : Nat) (hn : R.length = n) (hi : i + 1 ≤ n) (hc : n ≤ c) (hm : c ≤ maxLen) (h : ReadI W oa (ints R)) :
    ∃ ob d, (∀ w : World, (Instr.slice 34 (.slice oa n c) (some (.int .i64 ((i : Int) + 1))) none none).run Tryd.prog w = .ok (.slice ob (R.drop (i + 1)).length d) w) ∧ (R.drop (i + 1)).length ≤ d ∧ d ≤ maxLen ∧ ReadI W ob (ints (R.drop (i + 1))) := by
  refine ⟨if c = i + 1 then oa else oa.map (·.add (i + 1)), c - (i + 1), fun w => ?_, by rw [List.length_drop]; omega, by omega, ?_⟩
  · rw [run_slice_l w 34 oa n c under_runes .i64 ((i : Int) + 1) (by omega) (by omega), elem_runes, size_rune]
    have e : ((i : Int) + 1).toNat = i + 1 := by omega
    simp [Result.andThen, sliced, e, hn]
  · intro j r hj
    have hj2 : (ints R)[i + 1 + j]? = some r := by
      unfold ints at hj ⊢
      rw [List.map_drop, List.getElem?_drop] at hj
      exact hj
    have hlt := (List.getElem?_eq_some_iff.1 hj2).1
    rw [ints_length] at hlt
    obtain ⟨ad, rfl, hc2⟩ := h _ r hj2
    rw [if_neg (by omega)]
    exact ⟨ad.add (i + 1), rfl, by rw [add_adds]; exact hc2⟩

/-- A run as a value: its runes are read there. -/
def PartP (w : World) (x : Value) (q : List Nat) : Prop := ∃ oa c, x = .slice oa q.length c ∧ q.length ≤ c ∧ c ≤ maxLen ∧ ReadI w oa (ints q)
def PartsP (w : World) (vs : List Value) (qs : List (List Nat)) : Prop := vs.length = qs.length ∧ ∀ (j : Nat) x q, vs[j]? = some x → qs[j]? = some q → PartP w x q
set_option maxRecDepth 100000 in
theorem parts_snoc {w : World} {vs : List Value} {qs : List (List Nat)} {x : Value} {q : List Nat} (h : PartsP w vs qs) (hx : PartP w x q) : PartsP w (vs ++ [x]) (qs ++ [q]) := by
  refine ⟨by simp [h.1], fun j y p hy hp => ?_⟩
  by_cases hj : j < vs.length
  · rw [List.getElem?_append_left hj] at hy
    rw [List.getElem?_append_left (by rw [← h.1]; exact hj)] at hp
    exact h.2 j y p hy hp
  · have h1 := (List.getElem?_eq_some_iff.1 hy).1
    simp at h1
    obtain rfl : j = vs.length := by omega
    rw [List.getElem?_append_right (Nat.le_refl _)] at hy
    rw [h.1, List.getElem?_append_right (Nat.le_refl _)] at hp
    simp at hy hp
    subst hy hp
    exact hx
set_option maxRecDepth 100000 in
theorem part_one {w : World} {x : Value} {q : List Nat} (h : PartP w x q) : x.oneCell' = true := by
  obtain ⟨oa, c, rfl, _⟩ := h
  simp [Value.oneCell']
def PartsIn (w : World) (base : Nat) (v : Value) (vs : List Value) : Prop := w.ownsRow base 34 1 v vs.length vs
structure CutAt (W : World) (R rest : List Nat) (oa : Option Addr) (c : Nat) (v : Value) (vs : List Value) (w : World) : Prop where
  cap : rest.length ≤ c ∧ c ≤ maxLen
  rd : ReadI W oa (ints rest)
  eq : ∃ qs, qs ++ cutL rest = cutL R ∧ PartsP W vs qs
  own : PartsIn w W.heap.size v vs
  many : vs.length + rest.length ≤ R.length
  low : Below W.heap.size W w
set_option maxRecDepth 100000 in
theorem CutAt.below {W : World} {R rest : List Nat} {oa : Option Addr} {c : Nat} {v : Value} {vs : List Value} {w w' : World} (h : CutAt W R rest oa c v vs w) (hb : Below w.heap.size w w') : CutAt W R rest oa c v vs w' :=
  ⟨h.cap, h.rd, h.eq, owned_below h.own hb, h.many, h.low.trans (hb.mono h.low.size)⟩
set_option maxRecDepth 100000 in
theorem cut_split {l : List Nat} {i : Nat} {r : Nat} (hi : l[i]? = some r) (hl : lettersP (l.take i)) (hr : classZ (r : Int) = 0) : cutL l = (if i = 0 then [] else [l.take i]) ++ cutL (l.drop (i + 1)) := by
  have hlen := (List.getElem?_eq_some_iff.1 hi).1
  have e : l = l.take i ++ r :: l.drop (i + 1) := by
    have := List.take_append_drop i l
    rw [List.drop_eq_getElem_cons hlen] at this
    rw [(List.getElem?_eq_some_iff.1 hi).2] at this
    exact this.symm
  have key : ∀ (a c b : List Nat), lettersP a → cutA c (a ++ r :: b) = (if c ++ a = [] then [] else [c ++ a]) ++ cutL b := by
    intro a
    induction a with
    | nil =>
      intro c b _
      rw [List.nil_append, cutA_cons, if_pos hr, List.append_nil]
      split <;> rfl
    | cons x a ih =>
      intro c b h
      rw [List.cons_append, cutA_cons, if_neg (h x (by simp)), ih (c ++ [x]) b fun y hy => h y (by simp [hy])]
      simp
  have := key (l.take i) [] (l.drop (i + 1)) hl
  rw [← e] at this
  unfold cutL
  rw [this]
  unfold cutL
  congr 1
  have : (l.take i = []) ↔ i = 0 := by
    constructor
    · intro h
      have := congrArg List.length h
      rw [List.length_take] at this
      simp at this
      rcases this with h | h
      · exact h
      · rw [h] at hlen; simp at hlen
    · rintro rfl; rfl
  simp [this]
set_option maxRecDepth 100000 in
theorem cut_last {l : List Nat} (hl : lettersP l) (h0 : l ≠ []) : cutL l = [l] := by
  have key : ∀ (a c : List Nat), lettersP a → cutA c a = if c ++ a = [] then [] else [c ++ a] := by
    intro a
    induction a with
    | nil => intro c _; rw [cutA_nil, List.append_nil]
    | cons x a ih =>
      intro c h
      rw [cutA_cons, if_neg (h x (by simp)), ih (c ++ [x]) fun y hy => h y (by simp [hy])]
      simp
  unfold cutL
  rw [key l [] hl, List.nil_append, if_neg h0]
set_option maxRecDepth 100000 in
theorem letters_take {l : List Nat} {i r : Nat} (h : lettersP (l.take i)) (hi : l[i]? = some r) (hr : classZ (r : Int) ≠ 0) : lettersP (l.take (i + 1)) := by
  rw [List.take_add_one, hi]
  exact letters_snoc h hr
set_option maxRecDepth 100000 in
theorem CutAt.skip {W : World} {R rest : List Nat} {oa ob : Option Addr} {c d : Nat} {v : Value} {vs : List Value} {w : World} {r : Nat} (h : CutAt W R rest oa c v vs w) (hi : rest[0]? = some r) (hr : classZ (r : Int) = 0)
    (hd : (rest.drop 1).length ≤ d ∧ d ≤ maxLen) (hb : ReadI W ob (ints (rest.drop 1))) : CutAt W R (rest.drop 1) ob d v vs w := by
  obtain ⟨qs, hq, hp⟩ := h.eq
  rw [cut_split hi (by simp [lettersP]) hr, if_pos rfl, List.nil_append] at hq
  exact ⟨hd, hb, ⟨qs, hq, hp⟩, h.own, by have := h.many; rw [List.length_drop]; omega, h.low⟩
set_option maxRecDepth 100000 in
theorem CutAt.word {W : World} {R rest : List Nat} {oa ob : Option Addr} {c d i : Nat} {v v' : Value} {vs : List Value} {w w2 : World} {o : Obj} {r : Nat} (h : CutAt W R rest oa c v vs w) (hl : lettersP (rest.take i)) (h0 : i ≠ 0) (hi : rest[i]? = some r) (hr : classZ (r : Int) = 0)
    (hd : (rest.drop (i + 1)).length ≤ d ∧ d ≤ maxLen) (hb : ReadI W ob (ints (rest.drop (i + 1))))
    (ho : w2.ownsRow W.heap.size 34 1 v' (vs.length + 1) (vs ++ [.slice oa i c])) (hg : (w.alloc o).grownBy w2 v.ownBlock) :
    CutAt W R (rest.drop (i + 1)) ob d v' (vs ++ [.slice oa i c]) w2 := by
  obtain ⟨qs, hq, hp⟩ := h.eq
  have hlen := (List.getElem?_eq_some_iff.1 hi).1
  rw [cut_split hi hl hr, if_neg h0, ← List.append_assoc] at hq
  have hsz := h.low.size
  have hcap := h.cap
  refine ⟨hd, hb, ⟨_, hq, parts_snoc hp ⟨oa, c, ?_, ?_, hcap.2, read_to h.rd i⟩⟩, ?_, ?_, (h.low.alloc hsz _).grown hg (by simp; omega) (fun k hk => (World.ownsRow.lt h.own k hk).1)⟩
  · rw [List.length_take, Nat.min_eq_left (by omega)]
  · rw [List.length_take]; omega
  · unfold PartsIn
    simpa using ho
  · have := h.many
    simp only [List.length_append, List.length_cons, List.length_nil, List.length_drop]
    omega
set_option maxRecDepth 100000 in
theorem CutAt.last {W : World} {R rest : List Nat} {oa : Option Addr} {c n : Nat} {v v' : Value} {vs : List Value} {w w2 : World} {o : Obj} (h : CutAt W R rest oa c v vs w) (hn : rest.length = n) (hl : lettersP (rest.take n)) (h0 : n ≠ 0)
    (ho : w2.ownsRow W.heap.size 34 1 v' (vs.length + 1) (vs ++ [.slice oa n c])) (hg : (w.alloc o).grownBy w2 v.ownBlock) :
    PartsIn w2 W.heap.size v' (vs ++ [.slice oa n c]) ∧ PartsP W (vs ++ [.slice oa n c]) (cutL R) ∧ Below W.heap.size W w2 := by
  obtain ⟨qs, hq, hp⟩ := h.eq
  subst hn
  rw [List.take_length] at hl
  rw [cut_last hl (by intro e; rw [e] at h0; simp at h0)] at hq
  have hsz := h.low.size
  refine ⟨by unfold PartsIn; simpa using ho, ?_, (h.low.alloc hsz _).grown hg (by simp; omega) (fun k hk => (World.ownsRow.lt h.own k hk).1)⟩
  rw [← hq]
  exact parts_snoc hp ⟨oa, c, rfl, h.cap.1, h.cap.2, h.rd⟩
set_option maxRecDepth 100000 in
theorem CutAt.none {W : World} {R rest : List Nat} {oa : Option Addr} {c : Nat} {v : Value} {vs : List Value} {w : World} (h : CutAt W R rest oa c v vs w) (hn : rest.length = 0) :
    PartsIn w W.heap.size v vs ∧ PartsP W vs (cutL R) ∧ Below W.heap.size W w := by
  obtain ⟨qs, hq, hp⟩ := h.eq
  obtain rfl := List.eq_nil_of_length_eq_zero hn
  have : cutL [] = [] := rfl
  rw [this, List.append_nil] at hq
  exact ⟨h.own, by rw [← hq]; exact hp, h.low⟩

set_option maxRecDepth 100000 in
set_option maxHeartbeats 4000000 in
theorem lands_cut (W : World) (oa : Option Addr) (c : Nat) (R : List Nat) (hT : TabsIn W) (hR : ReadI W oa (ints R)) (hn : R.length ≤ 1000000) (hc : R.length ≤ c) (hm : c ≤ maxLen) :
    Calls Tryd.prog 79 #[.slice oa R.length c] W fun e w' => ∃ v vs, e = .returned v ∧ PartsIn w' W.heap.size v vs ∧ PartsP W vs (cutL R) ∧ Below W.heap.size W w' := by
  obtain ⟨i0, hi, hz0, hz1, hz2⟩ := info_parts info_rs
  have HI := Lib.hid (And.intro hi (And.intro hz0 (And.intro hz1 hz2)))
  have HT := Lib.hid hT
  have HC : Hid (CutAt W R R oa c (.slice none 0 0) [] W) := Lib.hid ⟨⟨hc, hm⟩, hR, ⟨[], by simp, by simp [PartsP]⟩, World.ownsRow_nil _ _ _ _, by simp, Below.refl _ _⟩
  clear hi hz0 hz1 hz2 hT hR hc hm
  go_enter Tryd.func79, Tryd.ntmps79
  go_wp2_with fail
  go_step3
  go_wp2_with fail
  go_step3
  go_wp2_with fail
  go_loopg [0, 3] R.length (fun g s0 s3 wr => ∃ (rest : List Nat) (oa1 : Option Addr) (c1 : Nat) (vs : List Value), rest.length = g ∧ s0 = .slice oa1 g c1 ∧ Hid (CutAt W R rest oa1 c1 s3 vs wr))
  case atStart => exact ⟨R, oa, c, [], rfl, rfl, HC⟩
  case round =>
    obtain ⟨rest, oa1, c1, vs, hg, rfl, HA⟩ := hrel
    have HN := Lib.hid hg
    clear hg
    cases gk with
    | zero =>
      go_wp2_with fail
      try rw [Exit.noGoto_ret]
      go_ret
      obtain ⟨h1, h2, h3⟩ := HA.out.none HN.out
      exact ⟨_, vs, rfl, h1, h2, h3⟩
    | succ g =>
      have hgl : g + 1 ≤ 1000000 := by have := HA.out.many; have := HN.out; omega
      obtain ⟨n, hnn⟩ : ∃ n, n = g + 1 := ⟨_, rfl⟩
      rw [← hnn] at HN ⊢
      have hn0 : 0 < n := by omega
      have hn6 : n ≤ 1000000 := by omega
      have HNG := Lib.hid hnn
      clear hnn
      go_wp2_with fail
      go_loopg [0, 3, 11] n (fun g2 s0 s3 s11 wy => ∃ i : Nat, i + g2 = n ∧ s0 = .slice oa1 n c1 ∧ s11 = .int .i64 i ∧ Hid (lettersP (rest.take i)) ∧ Hid (CutAt W R rest oa1 c1 s3 vs wy))
      case atStart => exact ⟨0, by omega, rfl, rfl, Lib.hid (by simp [lettersP]), HA⟩
      case round =>
        obtain ⟨i, hig, rfl, rfl, HLt, HA⟩ := hrel
        have hvl : vs.length ≤ 1000000 := by have := HA.out.many; omega
        cases gk with
        | zero =>
          have hin : n = i := by omega
          subst hin
          have HA5 := HA
          go_wp2_with (at_builtin; refine wpList_append_own _ rfl (.tmp 32) (.tmp 34) 120 rfl W.heap.size 34 i0 _ 1 24 Tryd.underlying120 HI.out.1 HI.out.2.1 HI.out.2.2.1 HI.out.2.2.2 rfl (by decide) _ vs.length vs rfl (World.ownsRow.alloc HA5.out.own _) ⟨wr.heap.size, 0, none⟩ 1 1 [.slice oa1 n c1] rfl rfl one_cell (by simp [Value.oneCell']) (by unfold maxLen; omega) (by omega) (by have := HA5.out.low.size; simp; omega) ?_; intro v' w6 ho hg _; have HE := Lib.hid (HA5.out.last HN.out HLt.out (by omega) ho hg); clear ho hg)
          try rw [Exit.noGoto_ret]
          go_ret
          exact ⟨_, _, rfl, HE.out.1, HE.out.2.1, HE.out.2.2⟩
        | succ g2 =>
          have hlt : i < n := by omega
          obtain ⟨r, hr⟩ : ∃ r, rest[i]? = some r := ⟨_, List.getElem?_eq_getElem (by rw [HN.out]; exact hlt)⟩
          obtain ⟨ad, rfl, hcell⟩ := (HA.out.rd.below HA.out.low) i (r : Int) (by unfold ints; simp [hr])
          have HCl := Lib.hid (class_tab wr (r : Int) (HT.out.below HA.out.low))
          have HR := Lib.hid hr
          have hcp := HA.out.cap
          rw [HN.out] at hcp
          obtain ⟨hcp1, hcp2⟩ := hcp
          have HM := Lib.hid hcp2
          clear hr hcp2
          by_cases hc : classZ (r : Int) = 0
          · rw [hc] at HCl
            obtain ⟨ob, d, hfrom, hd1, hd2, hrd⟩ := slice_from n c1 i HN.out (by omega) hcp1 HM.out HA.out.rd
            have hto := slice_to (some ad) n c1 i (by omega)
            have HD := Lib.hid (And.intro (And.intro hd1 hd2) hrd)
            obtain ⟨m, hmm⟩ : ∃ m, (rest.drop (i + 1)).length = m := ⟨_, rfl⟩
            rw [hmm] at hfrom
            have HMm := Lib.hid hmm
            have hml : m < n := by rw [List.length_drop, HN.out] at hmm; omega
            have HCz := Lib.hid hc
            clear hc hd1 hd2 hrd hmm
            by_cases h0 : i = 0
            · have HI0 := Lib.hid h0
              have h0i : ¬ (0 : Int) < (i : Int) := by omega
              clear h0
              go_wp2_with fail
              refine HCl.out.mono ?_; rintro e w5 ⟨rfl, hb5⟩
              have HA5 := Lib.hid (HA.out.below hb5)
              clear hb5 hcell HA
              go_wp2_with fail
              go_roundg m
              case measure => have := HNG.out; omega
              case rel =>
                refine ⟨rest.drop (i + 1), ob, d, vs, HMm.out, rfl, Lib.hid ?_⟩
                have := HA5.out.skip (ob := ob) (d := d) (r := r) (by have := HR.out; rwa [HI0.out] at this) HCz.out (by have := HD.out.1; rwa [HI0.out] at this) (by have := HD.out.2; rwa [HI0.out] at this)
                rw [HI0.out]
                exact this
            · have h0i : (0 : Int) < (i : Int) := by omega
              go_wp2_with fail
              refine HCl.out.mono ?_; rintro e w5 ⟨rfl, hb5⟩
              have HA5 := Lib.hid (HA.out.below hb5)
              clear hb5 hcell HA
              go_wp2_with (at_builtin; refine wpList_append_own _ rfl (.tmp 21) (.tmp 25) 120 rfl W.heap.size 34 i0 _ 1 24 Tryd.underlying120 HI.out.1 HI.out.2.1 HI.out.2.2.1 HI.out.2.2.2 rfl (by decide) _ vs.length vs rfl (World.ownsRow.alloc HA5.out.own _) ⟨w5.heap.size, 0, none⟩ 1 1 [.slice (some ad) i c1] rfl rfl one_cell (by simp [Value.oneCell']) (by unfold maxLen; omega) (by omega) (by have := HA5.out.low.size; simp; omega) ?_; intro v' w6 ho hg _; have HE := Lib.hid (HA5.out.word HLt.out h0 HR.out HCz.out HD.out.1 HD.out.2 ho hg); clear ho hg)
              go_roundg m
              case measure => have := HNG.out; omega
              case rel => exact ⟨rest.drop (i + 1), ob, d, _, HMm.out, rfl, HE⟩
          · have HCz := Lib.hid hc
            have hcne : (classZ (r : Int) == 0) = false := beq_eq_false_iff_ne.2 hc
            generalize classZ (r : Int) = cz at HCl hcne
            clear hc
            go_wp2_with fail
            refine HCl.out.mono ?_; rintro e w5 ⟨rfl, hb5⟩
            have HA5 := Lib.hid (HA.out.below hb5)
            clear hb5 hcell HA
            go_wp2_with fail
            go_roundg g2
            case measure => omega
            case rel => exact ⟨i + 1, by omega, rfl, by go_num, Lib.hid (letters_take HLt.out HR.out HCz.out), HA5⟩
end Go.Proofs.YtaaeooimalglaaaDoor
