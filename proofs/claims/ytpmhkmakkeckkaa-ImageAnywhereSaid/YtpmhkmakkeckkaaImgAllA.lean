/-
  The landed code of layer 14: its small functions. Over the program's own text.
  Two rows of cells of one's own that grow by turns. Over the program's own text.
  The landed code of layer 14: Make, Size. Over the program's own text.
  A row held by a variable grows by one element within a region that draws its order. Over the program's own text.
  A row held by a slot grows within a region that draws its order, and the slot is turned last. Over the program's own text.
-/
import Derived.Laws.Cover1
import Derived.Test.YtpmhkmakkeckkaaLists
import Derived.Test.YtpmhkmakkeckkaaSame32
import Derived.Deep.AppendLies
import Derived.Test.YtpmhkmakkeckkaaBlkEnc
import Derived.Test.YtpmhkmakkeckkaaRegion
namespace Go.Proofs.Ytpmhkmakkeckkaa
open Go.RowKit

def standsB (a : Int) : Bool := decide (0 ≤ a ∧ a ≤ 65536)
def riseKB (L : List Li) : Bool := decide (RiseK L)
set_option maxRecDepth 100000 in
set_option maxHeartbeats 1000000 in
theorem lands_stands (w : World) (a : Int) : Calls Try.prog 22 #[.int .i64 a] w fun e w' => e = .returned (.bool (standsB a)) ∧ w' = w := by
  by_cases h0 : 0 ≤ a
  · by_cases h1 : a ≤ 65536
    · have HR := Lib.hid (show standsB a = true from decide_eq_true ⟨h0, h1⟩)
      go_enter Try.func22, Try.ntmps22
      go_wp2_with fail
      go_ret
      exact ⟨by rw [HR.out]; rfl, rfl⟩
    · have HR := Lib.hid (show standsB a = false from decide_eq_false (by omega))
      go_enter Try.func22, Try.ntmps22
      go_wp2_with fail
      go_ret
      exact ⟨by rw [HR.out]; rfl, rfl⟩
  · have HR := Lib.hid (show standsB a = false from decide_eq_false (by omega))
    go_enter Try.func22, Try.ntmps22
    go_wp2_with fail
    go_ret
    exact ⟨by rw [HR.out]; rfl, rfl⟩
set_option maxRecDepth 100000 in
set_option maxHeartbeats 1000000 in
theorem lands_ahead (w : World) (n t k : Nat) (hk : 2 + 4 * n + 2 * t = k) (hn : n ≤ 1000000) (ht : t ≤ 1000000) : Calls Try.prog 24 #[.int .i64 (n : Int), .int .i64 (t : Int)] w fun e w' => e = .returned (.int .i64 (k : Int)) ∧ w' = w := by
  obtain ⟨a, ha⟩ : ∃ a, 4 * n = a := ⟨_, rfl⟩
  obtain ⟨b, hb⟩ : ∃ b, 2 + a = b := ⟨_, rfl⟩
  obtain ⟨c, hc⟩ : ∃ c, 2 * t = c := ⟨_, rfl⟩
  have a1 : 4 * (n : Int) = (a : Int) := by omega
  have a2 : IntKind.i64.wrap (4 * (n : Int)) = (a : Int) := by rw [a1]; exact IntWalk.i64_in _ (by omega)
  have b1 : 2 + (a : Int) = (b : Int) := by omega
  have b2 : IntKind.i64.wrap (2 + (a : Int)) = (b : Int) := by rw [b1]; exact IntWalk.i64_in _ (by omega)
  have c1 : 2 * (t : Int) = (c : Int) := by omega
  have c2 : IntKind.i64.wrap (2 * (t : Int)) = (c : Int) := by rw [c1]; exact IntWalk.i64_in _ (by omega)
  have d1 : (b : Int) + (c : Int) = (k : Int) := by omega
  have d2 : IntKind.i64.wrap ((b : Int) + (c : Int)) = (k : Int) := by rw [d1]; exact IntWalk.i64_in _ (by omega)
  have e1 : IntKind.i64.wrap (a : Int) = (a : Int) := IntWalk.i64_in _ (by omega)
  have e2 : IntKind.i64.wrap (b : Int) = (b : Int) := IntWalk.i64_in _ (by omega)
  have e3 : IntKind.i64.wrap (c : Int) = (c : Int) := IntWalk.i64_in _ (by omega)
  have e4 : IntKind.i64.wrap (k : Int) = (k : Int) := IntWalk.i64_in _ (by omega)
  clear hk hn ht ha hb hc
  go_enter Try.func24, Try.ntmps24
  go_wp2_with fail
  go_ret
  exact ⟨rfl, rfl⟩

set_option maxRecDepth 100000 in
theorem drewN_add14 (w : World) (a b : Nat) : (w.drewN a).drewN b = w.drewN (a + b) := by simp [World.drewN, Nat.add_assoc]
set_option maxRecDepth 100000 in
theorem leq_key (a b : ByteArray) : (Op.bytesLess a.toList b.toList || a.toList == b.toList) = !lessN (keyN b) (keyN a) := by
  rw [ByteArray.toList_eq, ByteArray.toList_eq]
  exact less_leq a b
set_option maxRecDepth 100000 in
set_option maxHeartbeats 2000000 in
theorem lands_rise14 (w : World) (oa : Option Addr) (c N : Nat) (L : List Li) (en : L.length = N) (ha : ReadLi w oa L) (hl : N ≤ 1000000) :
    Calls Try.prog 23 #[.slice oa N c] w fun e w' => e = .returned (.bool (riseKB L)) ∧ Below w.heap.size w w' := by
  have HA := Lib.hid ha
  have HN := Lib.hid en
  clear ha en
  go_enter Try.func23, Try.ntmps23
  go_wp2_with fail
  go_loopw [3] (fun iv wr => ∃ i : Nat, 1 ≤ i ∧ i ≤ N + 1 ∧ iv = .int .i64 (i : Int) ∧ Hid (∀ j, j < i → j < L.length → upK L j) ∧ ∃ t, wr = w.drewN t) (fun iv _ => N + 1 - (intOf iv).toNat)
  case atStart => exact ⟨1, by omega, by omega, rfl, Lib.hid (fun j hj _ h0 => absurd h0 (by omega)), 0, rfl⟩
  case round =>
    obtain ⟨i, hi1, hi, rfl, HU, t, rfl⟩ := hrel
    by_cases hlt : i < N
    · have hlt1 : (i : Int) < (N : Int) := by omega
      obtain ⟨j, hj⟩ : ∃ j, i = j + 1 := ⟨i - 1, by omega⟩
      have hjN : j < N := by omega
      obtain ⟨g, o, hoa, cx, _⟩ := HA.out i _ (liAt_lt (by rw [HN.out]; omega))
      obtain ⟨g2, o2, hoa2, cy, _⟩ := HA.out j _ (liAt_lt (by rw [HN.out]; omega))
      subst hoa
      injection hoa2 with hoa2
      injection hoa2 with e1 e2
      subst e1 e2
      have q1 : (i : Int) - 1 = (j : Int) := by omega
      have q2 : IntKind.i64.wrap ((i : Int) - 1) = (j : Int) := by rw [q1]; exact IntWalk.i64_in _ (by omega)
      have q3 : IntKind.i64.wrap (j : Int) = (j : Int) := IntWalk.i64_in _ (by omega)
      have hUp : upK L i ↔ lessN (keyN (liAt L j).key) (keyN (liAt L i).key) = true := by
        unfold upK
        rw [hj]
        exact ⟨fun h => h (by omega), fun h _ => h⟩
      obtain ⟨x, hx⟩ : ∃ x, (liAt L i).key = x := ⟨_, rfl⟩
      obtain ⟨y, hy⟩ : ∃ y, (liAt L j).key = y := ⟨_, rfl⟩
      rw [hx, hy] at hUp
      rw [hx] at cx
      rw [hy] at cy
      have HUp := Lib.hid hUp
      have d1 : ∀ m : Nat, (w.drewN m).cell? ⟨g, o + i * 3, none⟩ = some (.string x) := fun _ => cx
      have d2 : ∀ m : Nat, (w.drewN m).cell? ⟨g, o + j * 3, none⟩ = some (.string y) := fun _ => cy
      have hji : j < i := by omega
      cases hb : lessN (keyN y) (keyN x) with
      | true =>
        have HNx := Lib.hid (show ∀ k, k < i + 1 → k < L.length → upK L k from fun k hk hkl => by
          by_cases h : k < i
          · exact HU.out k h hkl
          · obtain rfl : k = i := by omega
            exact HUp.out.2 hb)
        have hq := leq_key x y
        rw [hb] at hq
        have hq : (Op.bytesLess x.toList y.toList || x.toList == y.toList) = false := hq
        clear hUp hx hy cx cy hj hb
        go_wp2_with fail
        go_quiet (fail)
        rename Nat => nq
        have hdd := drewN_add14 w t nq
        rw [hdd]
        go_wp2_with fail
        go_roundw
        case rel => exact ⟨i + 1, by omega, by omega, by go_num, HNx, _, rfl⟩
        case measure => simp [intOf]; omega
      | false =>
        have HNo := Lib.hid (show ¬ RiseK L from fun h => by
          have := HUp.out.1 (h i (by rw [HN.out]; omega))
          rw [hb] at this
          cases this)
        have hq := leq_key x y
        rw [hb] at hq
        have hq : (Op.bytesLess x.toList y.toList || x.toList == y.toList) = true := hq
        clear hUp hx hy cx cy hj hb
        go_wp2_with fail
        go_quiet (fail)
        go_wp2_with fail
        go_ret
        exact ⟨by rw [show riseKB L = false from decide_eq_false HNo.out]; rfl, below_drawn (below_drawn (Below.refl _ _) _) _⟩
    · have hlt1 : ¬ (i : Int) < (N : Int) := by omega
      have HYes := Lib.hid (show RiseK L from fun k hk => HU.out k (by have := HN.out; omega) hk)
      go_wp2_with fail
      go_ret
      exact ⟨by rw [show riseKB L = true from decide_eq_true HYes.out]; rfl, below_drawn (Below.refl _ _) _⟩

def okR (n : Nat) (r : Int) (l : List En) : Prop := 1 ≤ r ∧ r ≤ 65535 ∧ 0 < l.length ∧ lastDoc l < n
instance (n : Nat) (r : Int) (l : List En) : Decidable (okR n r l) := by unfold okR; exact inferInstance
def okRB (n : Nat) (r : Int) (l : List En) : Bool := decide (okR n r l)
set_option maxRecDepth 100000 in
set_option maxHeartbeats 2000000 in
theorem lands_belongs (w : World) (k : ByteArray) (r : Int) (pa : Option Addr) (c m n : Nat) (l : List En) (en : l.length = m) (ha : ReadE w pa l) (hm : m ≤ 1000000) :
    Calls Try.prog 26 #[.agg #[.string k, .int .i64 r, .slice pa m c], .int .i64 (n : Int)] w fun e w' => e = .returned (.bool (okRB n r l)) ∧ Below w.heap.size w w' := by
  by_cases h1 : r < 1
  · have HR := Lib.hid (show okRB n r l = false from decide_eq_false (by unfold okR; omega))
    clear ha
    go_enter Try.func26, Try.ntmps26
    go_wp2_with fail
    go_ret
    exact ⟨by rw [HR.out]; rfl, below_one⟩
  by_cases h2 : r ≥ 65536
  · have HR := Lib.hid (show okRB n r l = false from decide_eq_false (by unfold okR; omega))
    clear ha
    go_enter Try.func26, Try.ntmps26
    go_wp2_with fail
    go_ret
    exact ⟨by rw [HR.out]; rfl, below_one⟩
  by_cases h3 : m = 0
  · have HR := Lib.hid (show okRB n r l = false from decide_eq_false (by unfold okR; omega))
    have h3b : ((m : Int) == 0) = true := by simp [h3]
    clear ha h3
    go_enter Try.func26, Try.ntmps26
    go_wp2_with fail
    go_ret
    exact ⟨by rw [HR.out]; rfl, below_one⟩
  · have h3b : ((m : Int) == 0) = false := beq_eq_false_iff_ne.2 (by omega)
    obtain ⟨j, hj⟩ : ∃ j, m = j + 1 := ⟨m - 1, by omega⟩
    obtain ⟨g, o, hpa, cd, _⟩ := ha j _ (enAt_lt (by omega))
    subst hpa
    obtain ⟨d, hd⟩ : ∃ d, (enAt l j).1 = d := ⟨_, rfl⟩
    rw [hd] at cd
    have hld : lastDoc l = d := by unfold lastDoc; rw [en, hj, Nat.add_sub_cancel]; exact hd
    have HR := Lib.hid (show okR n r l ↔ d < n by
      unfold okR
      rw [hld]
      exact ⟨fun h => h.2.2.2, fun h => ⟨by omega, by omega, by omega, h⟩⟩)
    have q1 : (m : Int) - 1 = (j : Int) := by omega
    have q2 : IntKind.i64.wrap ((m : Int) - 1) = (j : Int) := by rw [q1]; exact IntWalk.i64_in _ (by omega)
    have q3 : IntKind.i64.wrap (j : Int) = (j : Int) := IntWalk.i64_in _ (by omega)
    have hjm : j < m := by omega
    have cd := below_cell cd (below_one (w := w) (A := .cells #[.string k, .int .i64 r, .slice (some ⟨g, o, none⟩) m c] 44))
    have hd2 : okRB n r l = decide (d < (n : Int)) := decide_eq_decide.2 HR.out
    have HD := Lib.hid hd2
    clear ha en h3 hj hd hld hd2
    by_cases hdn : d < (n : Int)
    · go_enter Try.func26, Try.ntmps26
      go_wp2_with fail
      go_ret
      exact ⟨by rw [HD.out, decide_eq_true hdn]; rfl, below_one⟩
    · have HF := Lib.hid (HD.out.trans (decide_eq_false hdn))
      go_enter Try.func26, Try.ntmps26
      go_wp2_with fail
      go_ret
      exact ⟨by rw [HF.out]; rfl, below_one⟩
end Go.Proofs.Ytpmhkmakkeckkaa

namespace Go.Proofs.Ytpmhkmakkeckkaa
open Go.RowKit Go.Deep

structure P32 (W : World) (va vb : Value) (A B : List Nat) (w : World) : Prop where
  a : OwnN 47 .u32 w W.heap.size va A
  b : OwnN 47 .u32 w W.heap.size vb B
  ne : va.ownBlock = none ∨ vb.ownBlock = none ∨ va.ownBlock ≠ vb.ownBlock
  low : Below W.heap.size W w
set_option maxRecDepth 100000 in
theorem P32.swap {W w : World} {va vb : Value} {A B : List Nat} (h : P32 W va vb A B w) : P32 W vb va B A w :=
  ⟨h.b, h.a, by rcases h.ne with e | e | e; exact .inr (.inl e); exact .inl e; exact .inr (.inr (Ne.symm e)), h.low⟩
set_option maxRecDepth 100000 in
theorem P32.below {W w w' : World} {va vb : Value} {A B : List Nat} (h : P32 W va vb A B w) (hb : Below w.heap.size w w') : P32 W va vb A B w' :=
  ⟨h.a.below hb, h.b.below hb, h.ne, low_more h.low hb⟩
set_option maxRecDepth 100000 in
theorem P32.more {W w w' : World} {va vb : Value} {A B Z : List Nat} {g cap : Nat} (h : P32 W va vb A B w)
    (ho : w'.ownsRow W.heap.size 47 1 (.slice (some ⟨g, 0, none⟩) (A.length + Z.length) cap) (A.length + Z.length) (numC .u32 A ++ numC .u32 Z)) (hg : w.grownBy w' va.ownBlock) (hl : va.ownBlock = some g ∨ g = w.heap.size) :
    P32 W (.slice (some ⟨g, 0, none⟩) (A.length + Z.length) cap) vb (A ++ Z) B w' := by
  refine ⟨by unfold OwnN; rw [numC_append, List.length_append]; exact ho, World.ownsRow.kept h.b hg ?_, ?_, h.low.grown hg h.low.size (fun k hk => (World.ownsRow.lt h.a k hk).1)⟩
  · rcases h.ne with e | e | e
    · rw [e]
      cases hv : vb.ownBlock with
      | none => exact .inl rfl
      | some k => exact .inr (by simp)
    · exact .inl e
    · exact .inr (Ne.symm e)
  · cases hv : vb.ownBlock with
    | none => exact .inr (.inl rfl)
    | some k =>
      refine .inr (.inr ?_)
      have hk := (World.ownsRow.lt h.b k hv).2
      rcases hl with e | e
      · rcases h.ne with e2 | e2 | e2
        · rw [e2] at e; cases e
        · rw [e2] at hv; cases hv
        · rw [e, hv] at e2
          simpa [Value.ownBlock] using e2
      · simp only [Value.ownBlock]
        intro e3
        injection e3 with e3
        omega
set_option maxRecDepth 100000 in
/-- Cells behind the first of two rows. -/
theorem append_pair {w W : World} {ops : Array Oper} {rest : List Oper} {o : Oper} {a : Act} {Q : Exit → Act → World → Prop} (hgd : o.guard = none) (s x : Operand) (hop : o.op = .call { callee := .builtin .append, args := #[s, x], argTypes := #[26, 26] })
    (va vb : Value) (A B : List Nat) (hp : P32 W va vb A B w) (hs : a.eval s = va) (na : Nat) (hna : A.length = na) (ad : Addr) (c n : Nat) (Z : List Nat) (hn : Z.length = n) (hx : a.eval x = .slice (some ad) n c) (hZ : ReadN .u32 w (some ad) Z) (h0 : 0 < n) (hl : na + n ≤ 1000000)
    (h : ∀ g cap w', P32 W (.slice (some ⟨g, 0, none⟩) (na + n) cap) vb (A ++ Z) B w' → w.grownBy w' va.ownBlock → wpList Try.prog ops Q rest (a.put o.dst (.slice (some ⟨g, 0, none⟩) (na + n) cap)) w') : wpList Try.prog ops Q (o :: rest) a w := by
  obtain ⟨i0, hi, hz0, hz1, hz2⟩ := info_parts info_u32
  subst hn hna
  refine wpList_append_lies w hgd s x 26 hop W.heap.size 47 i0 _ 1 4 Try.underlying26 hi hz0 hz1 hz2 rfl (by decide) va A.length (numC .u32 A) hs hp.a ad Z.length c (numC .u32 Z) hx (by rw [numC_length, Nat.mul_one]) hZ.cells (numC_one .u32 Z) h0 (by unfold maxLen; omega) (by omega) hp.low.size _ rfl ?_
  intro g cap w' ho hg hl2 _
  exact h g cap w' (hp.more ho hg hl2) hg
set_option maxRecDepth 100000 in
/-- A row whose base lies behind a block stays where that block grows. -/
theorem kept_base {w w' : World} {v u : Value} {b2 m sz : Nat} {t : TypeId} {ys : List Value} (hg : w.grownBy w' v.ownBlock) (hu : w.ownsRow b2 t sz u m ys) (hb : ∀ k, v.ownBlock = some k → k < b2) : w'.ownsRow b2 t sz u m ys := by
  refine hu.kept hg ?_
  rcases hu.2 with ⟨rfl, _⟩ | ⟨g2, cap2, cur2, rfl, hge, hgb2, _⟩
  · exact .inl rfl
  · refine .inr fun e' => ?_
    have := hb g2 (by simpa [Value.ownBlock] using e'.symm)
    omega
end Go.Proofs.Ytpmhkmakkeckkaa

namespace Go.Proofs.Ytpmhkmakkeckkaa
open Go.RowKit

set_option maxRecDepth 100000 in
theorem take4 {F : List Nat} {n i : Nat} (hF : F.length = 4 * n) (hi : i < n) : ∃ a b c d, F[4 * i]? = some a ∧ F[4 * i + 1]? = some b ∧ F[4 * i + 2]? = some c ∧ F[4 * i + 3]? = some d ∧ F.take (4 * (i + 1)) = F.take (4 * i) ++ [a, b, c, d] := by
  refine ⟨_, _, _, _, List.getElem?_eq_getElem (by omega), List.getElem?_eq_getElem (by omega), List.getElem?_eq_getElem (by omega), List.getElem?_eq_getElem (by omega), ?_⟩
  rw [show 4 * (i + 1) = 4 * i + 1 + 1 + 1 + 1 by omega, List.take_add_one, List.take_add_one, List.take_add_one, List.take_add_one, List.getElem?_eq_getElem (by omega), List.getElem?_eq_getElem (by omega), List.getElem?_eq_getElem (by omega), List.getElem?_eq_getElem (by omega)]
  simp only [Option.toList, List.append_assoc, List.cons_append, List.nil_append]
set_option maxRecDepth 100000 in
theorem okAll_take {n : Nat} {L : List Li} {i : Nat} {l : Li} (h : okAll n (L.take i)) (hl : L[i]? = some l) (hk : okLi n l) : okAll n (L.take (i + 1)) := by
  intro j hj
  rw [li_take hl] at hj ⊢
  have hil := (List.getElem?_eq_some_iff.1 hl).1
  rw [List.length_append, List.length_take, List.length_singleton] at hj
  by_cases hji : j < i
  · have := h j (by rw [List.length_take]; omega)
    unfold liAt at this ⊢
    rw [List.getD_eq_getElem?_getD, List.getElem?_append_left (by rw [List.length_take]; omega), ← List.getD_eq_getElem?_getD]
    exact this
  · unfold liAt
    rw [List.getD_eq_getElem?_getD, List.getElem?_append_right (by rw [List.length_take]; omega), List.length_take, show j - min i L.length = 0 by omega]
    exact hk
set_option maxRecDepth 100000 in
theorem okAll_at {n : Nat} {L : List Li} {i : Nat} {l : Li} (h : okAll n L) (hl : L[i]? = some l) : okLi n l := by
  have := h i (List.getElem?_eq_some_iff.1 hl).1
  rwa [liAt_some hl] at this
set_option maxRecDepth 100000 in
theorem okAll_whole {n : Nat} {L : List Li} {t : Nat} (h : okAll n (L.take t)) (ht : L.length = t) : okAll n L := by rwa [List.take_of_length_le (by omega)] at h
def okMkB (at_ : Int) (n : Nat) (L : List Li) : Bool := decide (okMk at_ n L)

set_option maxRecDepth 100000 in
set_option maxHeartbeats 4000000 in
theorem lands_make (W : World) (at_ : Int) (oF : Option Addr) (cF n : Nat) (F : List Nat) (oL : Option Addr) (cL t : Nat) (L : List Li) (hF : F.length = 4 * n) (hr : ReadN .u32 W oF F) (en : L.length = t) (hL : ReadLi W oL L)
    (hS : ∀ i, i ≤ t → okAll n (L.take i) → (bodyI (L.take i)).length ≤ 200000) (hE : ∀ l ∈ L, l.ents.length ≤ 100000) (hx : ∀ x ∈ F, x < 4294967296) :
    Calls Try.prog 10 #[.int .i64 at_, .slice oF n cF, .slice oL t cL] W fun e w' => ∃ v, e = .returned (.tuple #[v, .int .i64 (mkE at_ n L)]) ∧ OwnN 47 .u32 w' W.heap.size v (mkX at_ n F L) ∧ Below W.heap.size W w' := by
  have HStand := Lib.hid (fun w => lands_stands w at_)
  by_cases h1 : 0 ≤ at_ ∧ at_ ≤ 65536
  case neg =>
    have HSt := Lib.hid (show standsB at_ = false from decide_eq_false h1)
    have HNo := Lib.hid (show ¬ okMk at_ n L from fun h => h1 h.2)
    rw [HSt.out] at HStand
    clear hr hL hS hE h1 hx
    go_enter Try.func10, Try.ntmps10
    go_wp2_with fail
    refine (HStand.out _).mono ?_; rintro e w1 ⟨rfl, hw⟩
    subst hw
    go_wp2_with fail
    go_ret2
    exact ⟨.slice none 0 0, by rw [show mkE at_ n L = 1 from if_neg HNo.out]; rfl, by rw [show mkX at_ n F L = [] from if_neg HNo.out]; exact OwnN.nil _ _ _ _, Below.refl _ _⟩
  have HSt := Lib.hid (show standsB at_ = true from decide_eq_true h1)
  rw [HSt.out] at HStand
  have HAt := Lib.hid h1
  clear HSt h1
  by_cases h2 : n ≤ 64
  case neg =>
    have HNo := Lib.hid (show ¬ okMk at_ n L from fun h => h2 h.1.1)
    have h2i : (64 : Int) < (n : Int) := by omega
    clear hr hL hS hE hx
    go_enter Try.func10, Try.ntmps10
    go_wp2_with fail
    refine (HStand.out _).mono ?_; rintro e w1 ⟨rfl, hw⟩
    subst hw
    go_wp2_with fail
    go_ret2
    exact ⟨.slice none 0 0, by rw [show mkE at_ n L = 1 from if_neg HNo.out]; rfl, by rw [show mkX at_ n F L = [] from if_neg HNo.out]; exact OwnN.nil _ _ _ _, Below.refl _ _⟩
  have h2i : ¬ (64 : Int) < (n : Int) := by omega
  by_cases h3 : t ≤ 256
  case neg =>
    have HNo := Lib.hid (show ¬ okMk at_ n L from fun h => h3 (by have := h.1.2.1; omega))
    have h3i : (256 : Int) < (t : Int) := by omega
    clear hr hL hS hE hx
    go_enter Try.func10, Try.ntmps10
    go_wp2_with fail
    refine (HStand.out _).mono ?_; rintro e w1 ⟨rfl, hw⟩
    subst hw
    go_wp2_with fail
    go_ret2
    exact ⟨.slice none 0 0, by rw [show mkE at_ n L = 1 from if_neg HNo.out]; rfl, by rw [show mkX at_ n F L = [] from if_neg HNo.out]; exact OwnN.nil _ _ _ _, Below.refl _ _⟩
  have h3i : ¬ (256 : Int) < (t : Int) := by omega
  have HRise := Lib.hid (fun w (h : ReadLi w oL L) => lands_rise14 w oL cL t L en h (by omega))
  by_cases h4 : RiseK L
  case neg =>
    have HNo := Lib.hid (show ¬ okMk at_ n L from fun h => h4 h.1.2.2.1)
    have HK := Lib.hid (show riseKB L = false from decide_eq_false h4)
    rw [HK.out] at HRise
    have HL := Lib.hid hL
    clear hr hL hS hE h4 hx
    go_enter Try.func10, Try.ntmps10
    go_wp2_with fail
    refine (HStand.out _).mono ?_; rintro e w1 ⟨rfl, hw⟩
    subst hw
    go_wp2_with fail
    refine (HRise.out _ HL.out).mono ?_; rintro e w2 ⟨rfl, hb⟩
    have HB := Lib.hid hb
    clear hb
    go_wp2_with fail
    go_ret2
    exact ⟨.slice none 0 0, by rw [show mkE at_ n L = 1 from if_neg HNo.out]; rfl, by rw [show mkX at_ n F L = [] from if_neg HNo.out]; exact OwnN.nil _ _ _ _, HB.out⟩
  have HK := Lib.hid (show riseKB L = true from decide_eq_true h4)
  rw [HK.out] at HRise
  have HMk := Lib.hid (show okMk at_ n L ↔ okAll n L from ⟨fun h => h.1.2.2.2, fun h => ⟨⟨h2, by omega, h4, h⟩, HAt.out⟩⟩)
  have HL := Lib.hid hL
  have HR := Lib.hid hr
  have HN := Lib.hid en
  have HS := Lib.hid hS
  have HE := Lib.hid hE
  have HFl := Lib.hid hF
  have HX := Lib.hid hx
  obtain ⟨at0, hat0⟩ : ∃ a : Nat, at_ = (a : Int) := Int.eq_ofNat_of_zero_le HAt.out.1
  subst hat0
  have hat0b : at0 ≤ 65536 := by have := HAt.out; omega
  obtain ⟨k, hk⟩ : ∃ k, 2 + 4 * n + 2 * t = k := ⟨_, rfl⟩
  have HAhead := Lib.hid (fun w => lands_ahead w n t k hk (by omega) (by omega))
  obtain ⟨b0, hb0⟩ : ∃ b, at0 + k = b := ⟨_, rfl⟩
  have HBase := Lib.hid (show baseI at0 n t = b0 by unfold baseI; omega)
  have p1 : (1 : Int) + (n : Int) = ((n + 1 : Nat) : Int) := by omega
  obtain ⟨n1, hn1⟩ : ∃ n1, n + 1 = n1 := ⟨_, rfl⟩
  rw [hn1] at p1
  have p2 : IntKind.i64.wrap (1 + (n : Int)) = (n1 : Int) := by rw [p1]; exact IntWalk.i64_in _ (by omega)
  have p3 : IntKind.u32.wrap (n1 : Int) = (n1 : Int) := IntWalk.u32_in _ (by omega)
  have p4 : IntKind.u32.wrap (t : Int) = (t : Int) := IntWalk.u32_in _ (by omega)
  have p5 : IntKind.i64.wrap (n1 : Int) = (n1 : Int) := IntWalk.i64_in _ (by omega)
  have q1 : (at0 : Int) + (k : Int) = (b0 : Int) := by omega
  have q2 : IntKind.i64.wrap ((at0 : Int) + (k : Int)) = (b0 : Int) := by rw [q1]; exact IntWalk.i64_in _ (by omega)
  have q3 : IntKind.i64.wrap (b0 : Int) = (b0 : Int) := IntWalk.i64_in _ (by omega)
  have hkb : k ≤ 800 := by omega
  have HNum := Lib.hid (show n1 = n + 1 ∧ b0 = at0 + k ∧ k = 2 + 4 * n + 2 * t by omega)
  clear hr hL hS hE h4 hx hk hb0 hn1 en hF
  go_enter Try.func10, Try.ntmps10
  go_wp2_with fail
  refine (HStand.out _).mono ?_; rintro e w1 ⟨rfl, hw⟩
  subst hw
  go_wp2_with fail
  refine (HRise.out _ HL.out).mono ?_; rintro e w2 ⟨rfl, hb⟩
  have HB := Lib.hid hb
  have HO := Lib.hid (show OwnN 47 .u32 (w2.alloc (.cells #[.int .u32 (n1 : Int), .int .u32 (t : Int)] 47)) w1.heap.size (.slice (some ⟨w2.heap.size, 0, none⟩) 2 2) [n1, t] from World.ownsRow_lit (base := w1.heap.size) (e := 47) (size := 1) w2 #[.int .u32 (n1 : Int), .int .u32 (t : Int)] 2 hb.size (by decide) (by simp))
  have HB2 := Lib.hid (low_new (o := .cells #[.int .u32 (n1 : Int), .int .u32 (t : Int)] 47) hb)
  clear hb
  go_wp2_with fail
  go_loopw [8, 45] (fun cv iv wr => ∃ i : Nat, i ≤ n ∧ iv = .int .i64 (i : Int) ∧ OwnN 47 .u32 wr w1.heap.size cv (n1 :: t :: F.take (4 * i)) ∧ Below w1.heap.size w1 wr) (fun _ iv _ => n - (intOf iv).toNat)
  case atStart => exact ⟨0, by omega, rfl, HO.out, HB2.out⟩
  case round =>
    obtain ⟨i, hi, rfl, hown, hlow⟩ := hrel
    have HOw := Lib.hid hown
    have HLw := Lib.hid hlow
    by_cases hlt : i < n
    · have hlt1 : (i : Int) < (n : Int) := by omega
      obtain ⟨xa, xb, xc, xd, f0, f1, f2, f3, f4⟩ := take4 HFl.out hlt
      obtain ⟨g, o, hoF, c0⟩ := HR.out _ _ f0
      obtain ⟨g1, o1, hoF1, c1⟩ := HR.out _ _ f1
      obtain ⟨g2, o2, hoF2, c2⟩ := HR.out _ _ f2
      obtain ⟨g3, o3, hoF3, c3⟩ := HR.out _ _ f3
      subst hoF
      injection hoF1 with e1; injection e1 with e11 e12; subst e11 e12
      injection hoF2 with e1; injection e1 with e11 e12; subst e11 e12
      injection hoF3 with e1; injection e1 with e11 e12; subst e11 e12
      rw [show o + 4 * i = o + i * 4 by omega] at c0
      rw [show o + (4 * i + 1) = o + i * 4 + 1 by omega] at c1
      rw [show o + (4 * i + 2) = o + i * 4 + 2 by omega] at c2
      rw [show o + (4 * i + 3) = o + i * 4 + 3 by omega] at c3
      have c0 := below_cell c0 hlow
      have c1 := below_cell c1 hlow
      have c2 := below_cell c2 hlow
      have c3 := below_cell c3 hlow
      obtain ⟨na, hna⟩ : ∃ na, (n1 :: t :: F.take (4 * i)).length = na := ⟨_, rfl⟩
      have HNa := Lib.hid hna
      have hnab : na ≤ 300 := by rw [← hna, List.length_cons, List.length_cons, List.length_take]; omega
      obtain ⟨oc, cc, rfl⟩ := hown.slice na hna
      have HT := Lib.hid (show n1 :: t :: F.take (4 * (i + 1)) = (n1 :: t :: F.take (4 * i)) ++ [xa, xb, xc, xd] by rw [f4]; rfl)
      obtain ⟨A, hA⟩ : ∃ A, n1 :: t :: F.take (4 * i) = A := ⟨_, rfl⟩
      rw [hA] at HOw HNa HT
      clear f0 f1 f2 f3 f4 hna hown hlow hA
      have HW2 := Lib.hid (low_new (o := .cells #[.int .u32 (xa : Int), .int .u32 (xb : Int), .int .u32 (xc : Int), .int .u32 (xd : Int)] 47) (low_new (o := .cells #[.int .u32 (xa : Int), .int .u32 (xb : Int), .int .u32 (xc : Int), .int .u32 (xd : Int)] 54) HLw.out))
      have HO2 := Lib.hid (HOw.out.below (below_al2 (A := .cells #[.int .u32 (xa : Int), .int .u32 (xb : Int), .int .u32 (xc : Int), .int .u32 (xd : Int)] 54) (B := .cells #[.int .u32 (xa : Int), .int .u32 (xb : Int), .int .u32 (xc : Int), .int .u32 (xd : Int)] 47)))
      have hn4 := readN_new .u32 (wr.alloc (.cells #[.int .u32 (xa : Int), .int .u32 (xb : Int), .int .u32 (xc : Int), .int .u32 (xd : Int)] 54)) [xa, xb, xc, xd] 47
      rw [show (wr.alloc (.cells #[.int .u32 (xa : Int), .int .u32 (xb : Int), .int .u32 (xc : Int), .int .u32 (xd : Int)] 54)).heap.size = wr.heap.size + 1 by simp] at hn4
      have HN4 := Lib.hid hn4
      clear hn4
      go_wp2_with (at_builtin; refine append_u32 (W := w1) rfl (.tmp 49) (.tmp 58) rfl _ A [xa, xb, xc, xd] rfl HW2.out HO2.out _ 4 4 rfl rfl HN4.out (by intro e; cases e) (by omega) (by rw [HNa.out]; omega) ?_; intro v5 w5 ho hg; have HO5 := Lib.hid ho; clear ho hg)
      go_roundw
      case rel => exact ⟨i + 1, by omega, by go_num, by rw [HT.out]; exact HO5.out.1, HO5.out.2⟩
      case measure => simp [intOf]; omega
    · obtain rfl : i = n := by omega
      have HT := Lib.hid (show n1 :: t :: F.take (4 * i) = n1 :: t :: F by rw [List.take_of_length_le (by have := HFl.out; omega)])
      obtain ⟨A0, hA0⟩ : ∃ A, n1 :: t :: F = A := ⟨_, rfl⟩
      have HA0 := Lib.hid hA0
      rw [HT.out, hA0] at HOw
      have hA0l : A0.length = 2 + 4 * i := by rw [← hA0, List.length_cons, List.length_cons, HFl.out]; omega
      have HA0l := Lib.hid hA0l
      obtain ⟨m0, hm0⟩ : ∃ m0, A0.length = m0 := ⟨_, rfl⟩
      obtain ⟨oc0, cc0, rfl⟩ := HOw.out.slice m0 hm0
      clear hown hlow HT hA0 hA0l hm0
      go_wp2_with fail
      refine (HAhead.out _).mono ?_; rintro e w3 ⟨rfl, hw⟩
      subst hw
      have HP := Lib.hid (show P32 w1 (.slice oc0 m0 cc0) (.slice none 0 0) (A0 ++ headsI b0 (L.take 0)) (bodyI (L.take 0)) w3 from ⟨by rw [List.take_zero, headsI, List.append_nil]; exact HOw.out, OwnN.nil _ _ _ _, .inr (.inl rfl), HLw.out⟩)
      go_wp2_with fail
      go_loopw [8, 12, 70] (fun cv bv jv wr => ∃ j : Nat, j ≤ t ∧ jv = .int .i64 (j : Int) ∧ Hid (okAll i (L.take j)) ∧ P32 w1 cv bv (A0 ++ headsI b0 (L.take j)) (bodyI (L.take j)) wr) (fun _ _ jv _ => t - (intOf jv).toNat)
      case atStart => exact ⟨0, by omega, rfl, Lib.hid (fun j hj => by simp at hj), HP.out⟩
      case round =>
        obtain ⟨j, hj, rfl, HOk, hp⟩ := hrel
        have HP := Lib.hid hp
        by_cases hjt : j < t
        · have hjt1 : (j : Int) < (t : Int) := by omega
          obtain ⟨l, hl⟩ : ∃ l, L[j]? = some l := ⟨_, List.getElem?_eq_getElem (by rw [HN.out]; exact hjt)⟩
          obtain ⟨g, o, hoL, c0, c1, p, c2, pa, pc, rfl, r1, r2, r3, r4⟩ := HL.out j l hl
          subst hoL
          have c0 := below_cell c0 hp.low
          have c1 := below_cell c1 hp.low
          have c2 := below_cell c2 hp.low
          obtain ⟨kk, rr, es⟩ := l
          dsimp only at c0 c1 c2 r1 r4
          obtain ⟨m, hm⟩ : ∃ m, es.length = m := ⟨_, rfl⟩
          rw [hm] at r1 c2
          have hmb : m ≤ 100000 := by have := HE.out _ (List.mem_of_getElem? hl); dsimp only at this; omega
          have HEn := Lib.hid (fun (w : World) (h : ReadE w pa es) => lands_encode w pa pc m es hm h r1 hmb)
          have HBe := Lib.hid (fun (w : World) (h : ReadE w pa es) => lands_belongs w kk rr pa pc m i es hm h (by omega))
          have HRe := Lib.hid r4
          have HLj := Lib.hid hl
          have HM := Lib.hid hm
          clear r4 hm hp
          have HW1 := Lib.hid (low_new (o := .cells #[.string kk, .int .i64 rr, .slice pa m pc] 44) HP.out.low)
          have HP1 := Lib.hid (HP.out.below (below_one (w := wr) (A := .cells #[.string kk, .int .i64 rr, .slice pa m pc] 44)))
          have hnew := heap_alloc_new wr (.cells #[.string kk, .int .i64 rr, .slice pa m pc] 44)
          have HNew := Lib.hid hnew
          clear hnew
          by_cases hme : MayE es
          · rw [show encE es = 0 from if_pos hme, show encX es = encN es from if_pos hme] at HEn
            have HMe := Lib.hid hme
            have hzp := encN_pos es
            have hzb := encN_lenI hme
            obtain ⟨Z, hZ⟩ : ∃ Z, encN es = Z := ⟨_, rfl⟩
            rw [hZ] at HEn hzp hzb
            obtain ⟨zl, hzl⟩ : ∃ zl, Z.length = zl := ⟨_, rfl⟩
            rw [hzl] at hzp hzb
            have HZ := Lib.hid (And.intro hZ hzl)
            clear hZ hzl hme
            go_wp2_with fail
            refine (HEn.out _ (HRe.out.below HW1.out)).mono ?_; rintro e w4 ⟨v4, rfl, ho4, hb4⟩
            have HO4 := Lib.hid ho4
            have HW4 := Lib.hid (low_more HW1.out hb4)
            have HP4 := Lib.hid (HP1.out.below hb4)
            have hnew4 := block_below HNew.out hb4
            obtain ⟨bl, hbl⟩ : ∃ bl, wr.heap.size = bl := ⟨_, rfl⟩
            have HBl := Lib.hid hbl
            rw [hbl] at hnew4 ⊢
            have HN4 := Lib.hid hnew4
            obtain ⟨g4, z4, rfl, _, _⟩ := OwnN.at_ ho4 (own_nonnil ho4 (by rw [HZ.out.2]; omega)) zl HZ.out.2
            have c40 := cell_at hnew4 0
            have c41 := cell_at hnew4 1
            have c42 := cell_at hnew4 2
            clear ho4 hb4 hnew4 hbl
            by_cases hok : okR i rr es
            · rw [show okRB i rr es = true from decide_eq_true hok] at HBe
              have HOk2 := Lib.hid (show okAll i (L.take (j + 1)) from okAll_take HOk.out HLj.out ⟨hok.1, hok.2.1, hok.2.2.1, HMe.out, hok.2.2.2⟩)
              obtain ⟨rn, hrn⟩ : ∃ r : Nat, rr = (r : Int) := Int.eq_ofNat_of_zero_le (by have := hok.1; omega)
              have hrb : rn ≤ 65535 := by have := hok.2.1; omega
              subst hrn
              have x1 : IntKind.u32.wrap (rn : Int) = (rn : Int) := IntWalk.u32_in _ (by omega)
              have hbd := HS.out (j + 1) (by omega) HOk2.out
              rw [li_take HLj.out, bodyI_snoc] at hbd
              dsimp only at hbd
              rw [HZ.out.1, List.length_append, HZ.out.2] at hbd
              obtain ⟨nb, hnb⟩ : ∃ nb, (bodyI (L.take j)).length = nb := ⟨_, rfl⟩
              rw [hnb] at hbd
              obtain ⟨na, hna⟩ : ∃ na, (A0 ++ headsI b0 (L.take j)).length = na := ⟨_, rfl⟩
              have hnab : na ≤ 800 := by rw [← hna, List.length_append, headsI_length, HA0l.out, List.length_take]; omega
              obtain ⟨x, hx⟩ : ∃ x, b0 + nb = x := ⟨_, rfl⟩
              have x2 : (b0 : Int) + (nb : Int) = (x : Int) := by omega
              have hxb : x ≤ 300000 := by have := HNum.out; omega
              have x3 : IntKind.i64.wrap ((b0 : Int) + (nb : Int)) = (x : Int) := by rw [x2]; exact IntWalk.i64_in _ (by omega)
              have x4 : IntKind.u32.wrap (x : Int) = (x : Int) := IntWalk.u32_in _ (by omega)
              have x5 : IntKind.i64.wrap (x : Int) = (x : Int) := IntWalk.i64_in _ (by omega)
              have HHd := Lib.hid (show A0 ++ headsI b0 (L.take (j + 1)) = (A0 ++ headsI b0 (L.take j)) ++ [rn, x] by rw [li_take HLj.out, headsI_snoc, hnb, hx, List.append_assoc]; rfl)
              have HBd := Lib.hid (show bodyI (L.take (j + 1)) = bodyI (L.take j) ++ Z by rw [li_take HLj.out, bodyI_snoc]; dsimp only; rw [HZ.out.1])
              obtain ⟨A, hA⟩ : ∃ A, A0 ++ headsI b0 (L.take j) = A := ⟨_, rfl⟩
              obtain ⟨B, hB⟩ : ∃ B, bodyI (L.take j) = B := ⟨_, rfl⟩
              rw [hA] at hna HHd HP4
              rw [hB] at hnb HBd HP4
              obtain ⟨oc, cc, rfl⟩ := HP4.out.a.slice na hna
              obtain ⟨ob, cb, rfl⟩ := HP4.out.b.slice nb hnb
              have HNa := Lib.hid (And.intro hna hnb)
              have hbd2 : nb + zl ≤ 200000 := hbd
              clear hok hx hA hB hna hnb hbd
              go_wp2_with fail
              refine (HBe.out _ (HRe.out.below HW4.out)).mono ?_; rintro e w5 ⟨rfl, hb5⟩
              have HP5 := Lib.hid (HP4.out.below hb5)
              have HO5 := Lib.hid (HO4.out.below hb5)
              have hnew5 := block_below HN4.out hb5
              clear c40 c41 c42
              have c51 := cell_at hnew5 1
              have HP6 := Lib.hid (HP5.out.below (below_one (w := w5) (A := .cells #[.int .u32 (rn : Int), .int .u32 (x : Int)] 47)))
              have HO6 := Lib.hid (HO5.out.below (below_one (w := w5) (A := .cells #[.int .u32 (rn : Int), .int .u32 (x : Int)] 47)))
              have HR6 := Lib.hid (readN_new .u32 w5 [rn, x] 47)
              have HLt := Lib.hid (show ∀ k, (Value.slice oc na cc).ownBlock = some k → k < (wr.alloc (.cells #[.string kk, .int .i64 (rn : Int), .slice pa m pc] 44)).heap.size from fun k hk => by
                have := (World.ownsRow.lt HP.out.a k hk).2
                simp
                omega)
              clear hb5 hnew5
              go_wp2_with (at_builtin; first | (refine append_pair (W := w1) rfl (.tmp 89) (.tmp 98) rfl _ _ A B HP6.out rfl na HNa.out.1 _ 2 2 [rn, x] rfl rfl HR6.out (by omega) (by omega) ?_; intro g7 cap7 w7 hp7 hg7; have HP7 := Lib.hid hp7; have HO7 := Lib.hid (kept_base hg7 HO6.out HLt.out); have hR7 := (OwnN.reads_of (show OwnN 47 .u32 _ _ _ Z from HO7.out) zl HZ.out.2); obtain ⟨oz, cz, hz1, _, _, _, hR7⟩ := hR7; injection hz1 with hz1 _ _; have HR7 := Lib.hid hR7; rw [← hz1] at HR7; clear hp7 hg7 hR7 hz1) | (refine append_pair (W := w1) rfl (.tmp 100) (.tmp 101) rfl _ _ B _ HP7.out.swap rfl nb HNa.out.2 _ _ zl Z HZ.out.2 rfl HR7.out (by omega) (by omega) ?_; intro g8 cap8 w8 hp8 hg8; have HP8 := Lib.hid hp8.swap; clear hp8 hg8))
              go_roundw
              case rel => exact ⟨j + 1, by omega, by go_num, HOk2, by rw [HHd.out, HBd.out]; exact HP8.out⟩
              case measure => simp [intOf]; omega
            · rw [show okRB i rr es = false from decide_eq_false hok] at HBe
              have HNo := Lib.hid (show ¬ okMk (at0 : Int) i L from fun h => by
                have := okAll_at h.1.2.2.2 HLj.out
                exact hok ⟨this.1, this.2.1, this.2.2.1, this.2.2.2.2⟩)
              clear hok
              go_wp2_with fail
              refine (HBe.out _ (HRe.out.below HW4.out)).mono ?_; rintro e w5 ⟨rfl, hb5⟩
              have HW5 := Lib.hid (low_more HW4.out hb5)
              clear hb5 c40 c41 c42
              go_wp2_with fail
              go_ret2
              exact ⟨.slice none 0 0, by rw [show mkE (at0 : Int) i L = 1 from if_neg HNo.out]; rfl, by rw [show mkX (at0 : Int) i F L = [] from if_neg HNo.out]; exact OwnN.nil _ _ _ _, HW5.out⟩
          · rw [show encE es = 1 from if_neg hme, show encX es = [] from if_neg hme] at HEn
            have HNo := Lib.hid (show ¬ okMk (at0 : Int) i L from fun h => hme (okAll_at h.1.2.2.2 HLj.out).2.2.2.1)
            clear hme
            go_wp2_with fail
            refine (HEn.out _ (HRe.out.below HW1.out)).mono ?_; rintro e w4 ⟨v4, rfl, ho4, hb4⟩
            have HW4 := Lib.hid (low_more HW1.out hb4)
            clear ho4 hb4
            go_wp2_with fail
            go_ret2
            exact ⟨.slice none 0 0, by rw [show mkE (at0 : Int) i L = 1 from if_neg HNo.out]; rfl, by rw [show mkX (at0 : Int) i F L = [] from if_neg HNo.out]; exact OwnN.nil _ _ _ _, HW4.out⟩
        · obtain rfl : j = t := by omega
          have hok := okAll_whole HOk.out HN.out
          have hbd := HS.out j (Nat.le_refl _) HOk.out
          have HYes := Lib.hid (HMk.out.2 hok)
          have htk : L.take j = L := List.take_of_length_le (by have := HN.out; omega)
          rw [htk] at HP hbd
          have HImg := Lib.hid (show mkX (at0 : Int) i F L = (A0 ++ headsI b0 L) ++ bodyI L from by
            unfold mkX
            rw [if_pos HYes.out]
            unfold imgN
            rw [show ((at0 : Nat) : Int).toNat = at0 by omega, HN.out, HBase.out, ← HA0.out, ← HNum.out.1, List.append_assoc]
            rfl)
          obtain ⟨nb, hnb⟩ : ∃ nb, (bodyI L).length = nb := ⟨_, rfl⟩
          obtain ⟨na, hna⟩ : ∃ na, (A0 ++ headsI b0 L).length = na := ⟨_, rfl⟩
          have hnab : na ≤ 800 := by rw [← hna, List.length_append, headsI_length, HA0l.out]; have := HN.out; omega
          obtain ⟨A, hA⟩ : ∃ A, A0 ++ headsI b0 L = A := ⟨_, rfl⟩
          obtain ⟨B, hB⟩ : ∃ B, bodyI L = B := ⟨_, rfl⟩
          rw [hA] at hna HImg HP
          rw [hB] at hnb HImg HP hbd
          rw [hnb] at hbd
          obtain ⟨oc, cc, rfl⟩ := HP.out.a.slice na hna
          obtain ⟨ob, cb, hbv, y1, _, y2, hrd⟩ := HP.out.b.reads_of nb hnb
          subst hbv
          have HNa := Lib.hid (And.intro hna hnb)
          have HRd := Lib.hid hrd
          clear hp hok htk hna hnb hA hB hrd
          go_wp2_with (at_builtin; refine append_u32 (W := w1) rfl (.tmp 104) (.tmp 105) rfl _ A B rfl HP.out.low HP.out.a ob cb nb HNa.out.2 rfl HRd.out y2 y1 (by rw [HNa.out.1]; omega) ?_; intro v7 w7 ho hg; have HO7 := Lib.hid ho; clear ho hg)
          go_ret2
          exact ⟨_, by rw [show mkE (at0 : Int) i L = 0 from if_pos HYes.out]; rfl, by rw [HImg.out]; exact HO7.out.1, HO7.out.2⟩
set_option maxRecDepth 100000 in
set_option maxHeartbeats 1000000 in
theorem lands_size (W : World) (oF : Option Addr) (cF n : Nat) (F : List Nat) (oL : Option Addr) (cL t : Nat) (L : List Li) (hF : F.length = 4 * n) (hr : ReadN .u32 W oF F) (en : L.length = t) (hL : ReadLi W oL L)
    (hS : ∀ i, i ≤ t → okAll n (L.take i) → (bodyI (L.take i)).length ≤ 200000) (hE : ∀ l ∈ L, l.ents.length ≤ 100000) (hx : ∀ x ∈ F, x < 4294967296) (N : Nat) (hN : (mkX 0 n F L).length = N) :
    Calls Try.prog 13 #[.slice oF n cF, .slice oL t cL] W fun e w' => e = .returned (.int .i64 (N : Int)) ∧ Below W.heap.size W w' := by
  have HM := Lib.hid (lands_make W 0 oF cF n F oL cL t L hF hr en hL hS hE hx)
  have HN := Lib.hid hN
  clear hr hL hS hE hx hF en hN
  go_enter Try.func13, Try.ntmps13
  go_wp2_with fail
  refine HM.out.mono ?_; rintro e w1 ⟨v, rfl, ho, hb⟩
  obtain ⟨ob, cb, rfl, _, _, _, _⟩ := ho.reads_of N HN.out
  have HB := Lib.hid hb
  clear ho hb
  go_wp2_with fail
  go_ret
  exact ⟨rfl, HB.out⟩
end Go.Proofs.Ytpmhkmakkeckkaa

namespace Go.Proofs.Ytpmhkmakkeckkaa
open Go.RowKit Go.Shelf Go.Deep

set_option maxRecDepth 100000 in
theorem Mod.grown {S : Nat → Prop} {a w w1 : World} {row : Option Nat} (h : Mod S a w) (hg : w.grownBy w1 row) (hr : ∀ k, row = some k → a.heap.size ≤ k ∨ S k) : Mod S a w1 :=
  ⟨hg.os.trans h.os, hg.tape.trans h.tape, hg.output.trans h.output, Nat.le_trans h.size hg.size, fun k hk hs => by
    refine (hg.block k (Nat.lt_of_lt_of_le hk h.size) fun e => ?_).trans (h.block k hk hs)
    rcases hr k e.symm with h1 | h1
    · omega
    · exact hs h1⟩
/-- Where a region stands that reads a variable (operation 0), lays an element (its literal), appends it, and stores the row. -/
structure RowReg (Wo W' w2 : World) (b1 : Nat) (te e : TypeId) (size n : Nat) (vc : Value) (xs news : List Value) (l0 l7 l8 l9 : Bool) (pb : Nat) (pv : Value) (wx : World) : Prop where
  keep : KeepsOthers W' wx
  low : Below Wo.heap.size Wo wx
  mod : Mod (fun k => k = b1) w2 wx
  box : l9 = false → Boxed wx b1 te vc
  own : l8 = false → wx.ownsRow w2.heap.size e size vc n xs
  lit : l7 = true → wx.heap[pb]? = some (.cells news.toArray e (0, 0)) ∨ l8 = true
  own2 : l8 = true → wx.ownsRow w2.heap.size e size pv (n + 1) (xs ++ news)
  box2 : l9 = true → Boxed wx b1 te pv
  o87 : l8 = true → l7 = true
  o98 : l9 = true → l8 = true
  o80 : l8 = true → l0 = true
set_option maxRecDepth 100000 in
theorem RowReg.start {Wo W' w2 wx : World} {b1 : Nat} {te e : TypeId} {size n : Nat} {vc : Value} {xs news : List Value} {pb : Nat} {pv : Value} (keep : KeepsOthers W' wx) (low : Below Wo.heap.size Wo wx) (mod : Mod (fun k => k = b1) w2 wx) (box : Boxed wx b1 te vc) (own : wx.ownsRow w2.heap.size e size vc n xs) :
    RowReg Wo W' w2 b1 te e size n vc xs news false false false false pb pv wx :=
  ⟨keep, low, mod, fun _ => box, fun _ => own, fun h => (by cases h), fun h => (by cases h), fun h => (by cases h), fun h => (by cases h), fun h => (by cases h), fun h => (by cases h)⟩
section
variable {Wo W' w2 wx : World} {b1 : Nat} {te e : TypeId} {size n : Nat} {vc : Value} {xs news : List Value} {l0 l7 l8 l9 : Bool} {pb : Nat} {pv : Value}
set_option maxRecDepth 100000 in
theorem RowReg.not9 (h : RowReg Wo W' w2 b1 te e size n vc xs news l0 l7 l8 l9 pb pv wx) (h0 : l0 = false) : l9 = false := by
  cases h9 : l9 with
  | false => rfl
  | true => have := h.o80 (h.o98 h9); rw [h0] at this; cases this
set_option maxRecDepth 100000 in
theorem RowReg.loaded (h : RowReg Wo W' w2 b1 te e size n vc xs news l0 l7 l8 l9 pb pv wx) (h0 : l0 = false) : RowReg Wo W' w2 b1 te e size n vc xs news true l7 l8 l9 pb pv wx ∧ wx.cell? ⟨b1, 0, none⟩ = some vc :=
  ⟨⟨h.keep, h.low, h.mod, h.box, h.own, h.lit, h.own2, h.box2, h.o87, h.o98, fun _ => rfl⟩, (h.box (h.not9 h0)).cell⟩
set_option maxRecDepth 100000 in
theorem RowReg.made (h : RowReg Wo W' w2 b1 te e size n vc xs news l0 l7 l8 l9 pb pv wx) (h7 : l7 = false) (pb2 : Nat) (hp : pb2 = wx.heap.size) : RowReg Wo W' w2 b1 te e size n vc xs news l0 true l8 l9 pb2 pv (wx.alloc (.cells news.toArray e)) := by
  have h8 : l8 = false := by
    cases h8 : l8 with
    | false => rfl
    | true => have := h.o87 h8; rw [h7] at this; cases this
  have h9 : l9 = false := by
    cases h9 : l9 with
    | false => rfl
    | true => have := h.o98 h9; rw [h8] at this; cases this
  subst hp
  exact ⟨h.keep.trans (KeepsOthers.alloc _ _), h.low.alloc h.low.size _, h.mod.alloc _, fun k => (h.box k).alloc _, fun k => World.ownsRow.alloc (h.own k) _, fun _ => .inl (heap_alloc_new _ _), fun k => (by rw [h8] at k; cases k), fun k => (by rw [h9] at k; cases k), fun _ => rfl, h.o98, h.o80⟩
set_option maxRecDepth 100000 in
theorem RowReg.put (h : RowReg Wo W' w2 b1 te e size n vc xs news l0 l7 l8 l9 pb pv wx) (h0 : l0 = true) (h7 : l7 = true) (h8 : l8 = false) (hb1 : b1 < w2.heap.size) (hWo : Wo.heap.size ≤ w2.heap.size) {v' : Value} {w' : World} (ho : w'.ownsRow w2.heap.size e size v' (n + 1) (xs ++ news)) (hg : wx.grownBy w' vc.ownBlock) :
    RowReg Wo W' w2 b1 te e size n vc xs news l0 l7 true l9 pb v' w' := by
  have h9 : l9 = false := by
    cases h9 : l9 with
    | false => rfl
    | true => have := h.o98 h9; rw [h8] at this; cases this
  have hlt : ∀ k, vc.ownBlock = some k → w2.heap.size ≤ k := fun k hk => (World.ownsRow.lt (h.own h8) k hk).1
  exact ⟨h.keep.trans (keeps_grown (h.own h8) hg), h.low.grown hg h.low.size (fun k hk => Nat.le_trans hWo (hlt k hk)), h.mod.grown hg (fun k hk => .inl (hlt k hk)), fun k => (h.box k).kept hg (fun e => by have := hlt b1 e.symm; omega), fun k => (by cases k), fun _ => .inr rfl, fun _ => ho, fun k => (by rw [h9] at k; cases k), fun _ => h7, fun k => rfl, fun _ => h0⟩
set_option maxRecDepth 100000 in
theorem RowReg.store (h : RowReg Wo W' w2 b1 te e size n vc xs news l0 l7 l8 l9 pb pv wx) (h8 : l8 = true) (h9 : l9 = false) (ht : te ≠ e) (hWo : Wo.heap.size ≤ b1) : RowReg Wo W' w2 b1 te e size n vc xs news l0 l7 l8 true pb pv (wx.setCell ⟨b1, 0, none⟩ pv) :=
  ⟨h.keep.trans (KeepsOthers.setCell _ _ _), h.low.setCell (p := ⟨b1, 0, none⟩) hWo _, h.mod.setCell (p := ⟨b1, 0, none⟩) (.inr rfl) _, fun k => (by cases k), fun k => (by rw [h8] at k; cases k), fun _ => .inr h8, fun k => row_set (h.own2 k) (h.box h9) ht, fun _ => (h.box h9).set pv, h.o87, fun _ => h8, h.o80⟩
end
end Go.Proofs.Ytpmhkmakkeckkaa

namespace Go.Proofs.Ytpmhkmakkeckkaa
open Go.RowKit Go.Deep

structure RowLate (Wo : World) (e : TypeId) (size n m : Nat) (vo : Value) (xs news : List Value) (l0 l7 l8 l9 : Bool) (pb : Nat) (pv cur : Value) (wx : World) : Prop where
  low : Below Wo.heap.size Wo wx
  own : l8 = false → wx.ownsRow Wo.heap.size e size vo n xs
  lit : l7 = true → wx.heap[pb]? = some (.cells news.toArray e (0, 0)) ∨ l8 = true
  own2 : l8 = true → wx.ownsRow Wo.heap.size e size pv (n + m) (xs ++ news)
  cur0 : l9 = false → cur = vo
  cur1 : l9 = true → cur = pv
  o87 : l8 = true → l7 = true
  o98 : l9 = true → l8 = true
  o80 : l8 = true → l0 = true
section
variable {Wo wx : World} {e : TypeId} {size n m : Nat} {vo : Value} {xs news : List Value} {l0 l7 l8 l9 : Bool} {pb : Nat} {pv cur : Value}
set_option maxRecDepth 100000 in
theorem RowLate.start (low : Below Wo.heap.size Wo wx) (own : wx.ownsRow Wo.heap.size e size vo n xs) : RowLate Wo e size n m vo xs news false false false false pb pv vo wx :=
  ⟨low, fun _ => own, fun h => (by cases h), fun h => (by cases h), fun _ => rfl, fun h => (by cases h), fun h => (by cases h), fun h => (by cases h), fun h => (by cases h)⟩
set_option maxRecDepth 100000 in
theorem RowLate.not8 (h : RowLate Wo e size n m vo xs news l0 l7 l8 l9 pb pv cur wx) (h0 : l0 = false) : l8 = false := by
  cases h8 : l8 with
  | false => rfl
  | true => have := h.o80 h8; rw [h0] at this; cases this
set_option maxRecDepth 100000 in
theorem RowLate.not9 (h : RowLate Wo e size n m vo xs news l0 l7 l8 l9 pb pv cur wx) (h8 : l8 = false) : l9 = false := by
  cases h9 : l9 with
  | false => rfl
  | true => have := h.o98 h9; rw [h8] at this; cases this
set_option maxRecDepth 100000 in
theorem RowLate.loaded (h : RowLate Wo e size n m vo xs news l0 l7 l8 l9 pb pv cur wx) (h0 : l0 = false) : RowLate Wo e size n m vo xs news true l7 l8 l9 pb pv cur wx ∧ cur = vo :=
  ⟨⟨h.low, h.own, h.lit, h.own2, h.cur0, h.cur1, h.o87, h.o98, fun _ => rfl⟩, h.cur0 (h.not9 (h.not8 h0))⟩
set_option maxRecDepth 100000 in
theorem RowLate.made (h : RowLate Wo e size n m vo xs news l0 l7 l8 l9 pb pv cur wx) (h7 : l7 = false) (pb2 : Nat) (hp : pb2 = wx.heap.size) : RowLate Wo e size n m vo xs news l0 true l8 l9 pb2 pv cur (wx.alloc (.cells news.toArray e)) := by
  have h8 : l8 = false := by
    cases h8 : l8 with
    | false => rfl
    | true => have := h.o87 h8; rw [h7] at this; cases this
  subst hp
  exact ⟨h.low.alloc h.low.size _, fun k => World.ownsRow.alloc (h.own k) _, fun _ => .inl (heap_alloc_new _ _), fun k => (by rw [h8] at k; cases k), h.cur0, h.cur1, fun _ => rfl, h.o98, h.o80⟩
set_option maxRecDepth 100000 in
theorem RowLate.put (h : RowLate Wo e size n m vo xs news l0 l7 l8 l9 pb pv cur wx) (h0 : l0 = true) (h7 : l7 = true) (h8 : l8 = false) {v' : Value} {w' : World} (ho : w'.ownsRow Wo.heap.size e size v' (n + m) (xs ++ news)) (hg : wx.grownBy w' vo.ownBlock) : RowLate Wo e size n m vo xs news l0 l7 true l9 pb v' cur w' := by
  have h9 := h.not9 h8
  exact ⟨h.low.grown hg h.low.size (fun k hk => (World.ownsRow.lt (h.own h8) k hk).1), fun k => (by cases k), fun _ => .inr rfl, fun _ => ho, h.cur0, fun k => (by rw [h9] at k; cases k), fun _ => h7, fun _ => rfl, fun _ => h0⟩
set_option maxRecDepth 100000 in
theorem RowLate.set (h : RowLate Wo e size n m vo xs news l0 l7 l8 l9 pb pv cur wx) (h8 : l8 = true) : RowLate Wo e size n m vo xs news l0 l7 l8 true pb pv pv wx :=
  ⟨h.low, h.own, h.lit, h.own2, fun k => (by cases k), fun _ => rfl, h.o87, fun _ => h8, h.o80⟩
end
end Go.Proofs.Ytpmhkmakkeckkaa
