/-
  Layer 15's laws: the law's memory; the reference's Where, Below, Hold. Over the program's own text.
  Layer 15's laws: the reference's Hold. Over the program's own text.
  What is left behind a program of its own; a run on its way that turns some blocks beside its own. Over the program's own text.
  Layer 15 as it landed: bytes on their way. Over the program's own text.
  Layer 15 as it landed: numbers and places out of bytes on their way. Over the program's own text.
  Layer 15 as it landed: places and entries out of bytes on their way. Over the program's own text.
  Layer 15 as it landed: entries out of bytes on their way. Over the program's own text.
  Layer 15 as it landed: Docs, List. Over the program's own text.
  Layer 15 as it landed: List, whole. Over the program's own text.
  Layer 15 as it landed: a key, held against a record. Over the program's own text.
  Layer 15 as it landed: Term, whole. Over the program's own text.
-/
import Derived.Test.YtkjimgidlpocbaaFindLawA
import Derived.Test.YtkjimgidlpocbaaFndAllC
import Derived.Test.YtkjimgidlpocbaaMemB
import Derived.Test.YtkjimgidlpocbaaFndAllA
import Derived.Test.YtkjimgidlpocbaaAccRest
import Derived.Test.YtkjimgidlpocbaaFindPure
import Derived.Laws.BitsLemmas
import Derived.Test.YtkjimgidlpocbaaEnts
import Derived.Laws.StructEq
import Derived.WalkMore
namespace Go.Proofs.Ytkjimgidlpocbaa
open Go.RowKit Go.ChangeShapes Go.WideShapes Go.ChangeAt Go.Deep

/-! ### of -/
theorem take_ints {C : List Nat} {i : Nat} {v : Nat} {cs : List Int} (hv : C[i]? = some v) (h : cs.take i = ints (C.take i)) (hl : cs.length = C.length) : (cs.set i (v : Int)).take (i + 1) = ints (C.take (i + 1)) := by
  have hi := (List.getElem?_eq_some_iff.1 hv).1
  rw [List.take_add_one, List.take_add_one, hv, List.take_set_of_le (Nat.le_refl _), h, List.getElem?_set_self (by omega)]
  simp [ints]
set_option maxRecDepth 100000 in
set_option maxHeartbeats 2000000 in
theorem of_any (W : World) (oa : Option Addr) (N c : Nat) (C : List Nat) (en : C.length = N) (ha : ReadN .u32 W oa C) (h1 : 1 ≤ N) (h2 : N ≤ 65536) :
    Calls Try.prog 9 #[.slice oa N c] W fun e w' => ∃ mb cb, e = .returned (.pointer (some ⟨mb, 0, none⟩)) ∧ MemAt w' mb cb (ints C) 0 (N : Int) ∧ Below W.heap.size W w' ∧ W.heap.size ≤ mb ∧ W.heap.size ≤ cb := by
  have HA := Lib.hid ha
  have HN := Lib.hid en
  have h1i : 1 ≤ (N : Int) := by omega
  have h2i : (N : Int) ≤ 65536 := by omega
  clear ha en
  go_enter Try.func9, Try.ntmps9
  go_wp2_with fail
  refine (new_int W (N : Int) h1i h2i).mono ?_; rintro e w1 ⟨rfl, hm, hb⟩
  have hz := lt_of_heap hm.rec_
  obtain ⟨mb, hmb⟩ : ∃ mb, W.heap.size + 1 = mb := ⟨_, rfl⟩
  obtain ⟨cb, hcb⟩ : ∃ cb, W.heap.size = cb := ⟨_, rfl⟩
  rw [hmb] at hm ⊢
  rw [hcb] at hm
  have HM := Lib.hid hm
  have HB := Lib.hid hb
  have HK := Lib.hid (show W.heap.size ≤ mb ∧ W.heap.size ≤ cb by omega)
  clear hm hb hmb hcb hz
  go_wp2_with fail
  go_loopw [15] (fun iv wr => ∃ (i : Nat) (cs : List Int), i ≤ N ∧ iv = .int .i64 (i : Int) ∧ Hid (MemAt wr mb cb cs 0 (i : Int)) ∧ Hid (cs.length = N ∧ cs.take i = ints (C.take i)) ∧ Hid (Below W.heap.size W wr)) (fun iv _ => N - (intOf iv).toNat)
  case atStart => exact ⟨0, _, by omega, rfl, HM, Lib.hid ⟨by simp, rfl⟩, HB⟩
  case round =>
    clear HM HB
    obtain ⟨i, cs, hi, rfl, HM, HC, HB⟩ := hrel
    by_cases hlt : i < N
    · have hlt1 : (i : Int) < (N : Int) := by omega
      obtain ⟨v, hv⟩ : ∃ v, C[i]? = some v := ⟨_, List.getElem?_eq_getElem (by rw [HN.out]; exact hlt)⟩
      obtain ⟨g, o, rfl, hc⟩ := HA.out i v hv
      have hc1 := below_cell hc HB.out
      have HSt := Lib.hid (store_in HM.out i (v : Int) (by rw [HC.out.1]; exact hlt) (by omega) (by omega))
      have HC2 := Lib.hid (show (cs.set i (v : Int)).length = N ∧ (cs.set i (v : Int)).take (i + 1) = ints (C.take (i + 1)) from ⟨by rw [List.length_set]; exact HC.out.1, take_ints hv HC.out.2 (by rw [HC.out.1, HN.out])⟩)
      clear hv hc
      go_wp2_with fail
      refine HSt.out.mono ?_; rintro e w2 ⟨rfl, hm2, hx2⟩
      have HM2 := Lib.hid (show MemAt w2 mb cb (cs.set i (v : Int)) 0 ((i + 1 : Nat) : Int) by rw [show ((i + 1 : Nat) : Int) = (i : Int) + 1 by omega]; exact hm2)
      have HB2 := Lib.hid (show Below W.heap.size W w2 from ⟨hx2.os.trans HB.out.os, hx2.tape.trans HB.out.tape, hx2.output.trans HB.out.output, Nat.le_trans HB.out.size hx2.size, fun k hk => (hx2.block k (Nat.lt_of_lt_of_le hk HB.out.size) (by have := HK.out; omega)).trans (HB.out.block k hk)⟩)
      clear hm2 hx2 HM HB HSt
      go_wp2_with fail
      go_roundw
      case rel => exact ⟨i + 1, _, by omega, by go_num, HM2, HC2, HB2⟩
      case measure => simp [intOf]; omega
    · obtain rfl : i = N := by omega
      go_wp2_with fail
      go_ret
      have hcs : cs = ints C := by
        have := HC.out.2
        rwa [List.take_of_length_le (by rw [HC.out.1]; exact Nat.le_refl _), List.take_of_length_le (by rw [HN.out]; exact Nat.le_refl _)] at this
      exact ⟨mb, cb, rfl, by rw [← hcs]; exact HM.out, HB.out, HK.out⟩

/-! ### Below -/
/-- A row of entries of one's own; their places lie where they lay in W. -/
def OwnB (W w : World) (v : Value) (l : List En) : Prop := ∃ ps : List Value, ps.length = l.length ∧ w.ownsRow W.heap.size 51 2 v l.length (entC l ps) ∧ ∀ (j : Nat) (e : En), l[j]? = some e → ∃ u, ps[j]? = some u ∧ RdP W u e.2
theorem OwnB.reads {W w : World} {v : Value} {l : List En} (h : OwnB W w v l) (hb : Below W.heap.size W w) : ∃ oa cap, v = .slice oa l.length cap ∧ l.length ≤ cap ∧ cap ≤ maxLen ∧ (oa = none → cap = 0) ∧ ReadE w oa l := by
  obtain ⟨ps, h1, h2, h3⟩ := h
  rcases h2.2 with ⟨rfl, h0⟩ | ⟨g, cap, cur, rfl, hbs, hg, hn, hm, hs, ht⟩
  · have : l = [] := List.eq_nil_of_length_eq_zero h0
    subst this
    exact ⟨none, 0, rfl, by simp, by simp [maxLen], fun _ => rfl, ReadE.nil _ _⟩
  · refine ⟨_, cap, rfl, hn, hm, (by intro e; cases e), fun j e hj => ?_⟩
    obtain ⟨u, hu, ho⟩ := h3 j e hj
    have hgt := entC_get l ps j e u hj hu
    have hc := World.ownsRow.cells h2 (g := g) rfl
    simp only [Addr.add_lit] at hc
    exact ⟨g, 0, rfl, hc _ _ hgt.1, u, by simpa [Nat.add_assoc] using hc _ _ hgt.2, ho.below hb⟩
theorem OwnB.push {W w w8 : World} {v v' u : Value} {ps : List Value} {l : List En} {e : En} {o : Obj} {n : Nat} (hn : l.length = n) (hbs : W.heap.size ≤ w.heap.size) (hl : Below W.heap.size W w) (h0 : ps.length = l.length) (h1 : w.ownsRow W.heap.size 51 2 v n (entC l ps)) (h2 : ∀ (j : Nat) (e : En), l[j]? = some e → ∃ u, ps[j]? = some u ∧ RdP W u e.2)
    (hu : RdP W u e.2) (ho : w8.ownsRow W.heap.size 51 2 v' (n + 1) (entC l ps ++ [.int .i64 e.1, u])) (hg : (w.alloc o).grownBy w8 v.ownBlock) : OwnB W w8 v' (l ++ [e]) ∧ Below W.heap.size W w8 := by
  subst hn
  refine ⟨⟨ps ++ [u], by simp [h0], ?_, fun j x hj => ?_⟩, (hl.alloc hbs o).grown hg (by simp; omega) (fun k hk => (World.ownsRow.lt (World.ownsRow.alloc h1 o) k hk).1)⟩
  · rw [entC_snoc l ps e u h0, List.length_append]
    exact ho
  · by_cases hj2 : j < l.length
    · rw [List.getElem?_append_left hj2] at hj
      obtain ⟨q, hq, hq2⟩ := h2 j x hj
      exact ⟨q, by rw [List.getElem?_append_left (by omega)]; exact hq, hq2⟩
    · have hjl : j = l.length := by
        have := (List.getElem?_eq_some_iff.1 hj).1
        simp at this
        omega
      subst hjl
      simp at hj
      subst hj
      exact ⟨u, by rw [← h0]; simp, hu⟩
theorem below_snoc (l : List En) (e : En) (most : Int) : below (l ++ [e]) most = if e.1 < most then below l most ++ [e] else below l most := by
  unfold below
  rw [List.filter_append]
  split
  · rename_i h; simp [h]
  · rename_i h; simp [h]
theorem li_take_en {l : List En} {i : Nat} {e : En} (h : l[i]? = some e) : l.take (i + 1) = l.take i ++ [e] := by
  rw [List.take_add_one, h]
  rfl
theorem own_new {w : World} {base size : Nat} {t : TypeId} (h : base ≤ w.heap.size) : (w.alloc (.cells #[] t)).ownsRow base t size (.slice (some ⟨w.heap.size, 0, none⟩) 0 0) 0 [] :=
  ⟨by simp, .inr ⟨w.heap.size, 0, #[], rfl, h, heap_alloc_new w _, Nat.le_refl _, by simp [maxLen], by simp, by simp⟩⟩
set_option maxRecDepth 100000 in
set_option maxHeartbeats 2000000 in
theorem ref_below15 (W : World) (oa : Option Addr) (m c : Nat) (l : List En) (most : Int) (en : l.length = m) (ha : ReadE W oa l) (hm : m ≤ 100000) :
    Calls Try.prog 15 #[.slice oa m c, .int .i64 most] W fun e w' => ∃ v, e = .returned v ∧ OwnB W w' v (below l most) ∧ Below W.heap.size W w' := by
  obtain ⟨iE, e0, e1, e2, e3⟩ := info_parts info_ent
  have HIE := Lib.hid (And.intro e0 (And.intro e1 (And.intro e2 e3)))
  have HA := Lib.hid ha
  have HN := Lib.hid en
  clear ha en e0 e1 e2 e3
  go_enter Try.func15, Try.ntmps15
  go_wp2_with fail
  have HO := Lib.hid (show OwnB W (W.alloc (.cells #[] 51)) (.slice (some ⟨W.heap.size, 0, none⟩) 0 0) [] from ⟨[], rfl, own_new (Nat.le_refl _), by simp⟩)
  have HB := Lib.hid (below_one (w := W) (A := .cells #[] 51))
  generalize W.alloc (.cells #[] 51) = w1 at HO HB ⊢
  generalize (Value.slice (some ⟨W.heap.size, 0, none⟩) 0 0) = v1 at HO ⊢
  go_loopw [10, 5] (fun iv lv wr => ∃ (i : Nat) (acc : List En) (k : Nat), i ≤ m ∧ k ≤ i ∧ iv = .int .i64 (i : Int) ∧ Hid (acc.length = k ∧ acc = below (l.take i) most) ∧ Hid (OwnB W wr lv acc) ∧ Hid (Below W.heap.size W wr)) (fun iv _ _ => m - (intOf iv).toNat)
  case atStart => exact ⟨0, [], 0, by omega, by omega, rfl, Lib.hid ⟨rfl, rfl⟩, HO, HB⟩
  case round =>
    clear HO HB
    obtain ⟨i, acc, k, hi, hk, rfl, HC, HO, HB⟩ := hrel
    by_cases hlt : i < m
    · have hlt1 : (i : Int) < (m : Int) := by omega
      obtain ⟨e, he⟩ : ∃ e, l[i]? = some e := ⟨_, List.getElem?_eq_getElem (by rw [HN.out]; exact hlt)⟩
      obtain ⟨g, o, rfl, d0, p, d1, hp⟩ := HA.out i e he
      have d0 := below_cell d0 HB.out
      have d1 := below_cell d1 HB.out
      have HNx := Lib.hid (show below (l.take (i + 1)) most = if e.1 < most then acc ++ [e] else acc by rw [li_take_en he, below_snoc, ← HC.out.2])
      have HP := Lib.hid hp
      obtain ⟨dd, hdd⟩ : ∃ dd, e.1 = dd := ⟨_, rfl⟩
      rw [hdd] at d0
      have HD := Lib.hid hdd
      clear he hp hdd
      by_cases hc : dd < most
      · have HC2 := Lib.hid (show (acc ++ [e]).length = k + 1 ∧ acc ++ [e] = below (l.take (i + 1)) most from ⟨by simp [HC.out.1], by rw [HNx.out, if_pos (by rw [HD.out]; exact hc)]⟩)
        obtain ⟨ov, cv, hv, _⟩ := HO.out.reads HB.out
        rw [HC.out.1] at hv
        subst hv
        obtain ⟨ps, hp1, hp2, hp3⟩ := HO.out
        rw [HC.out.1] at hp2
        have HRow := Lib.hid hp2
        obtain ⟨pa, pc, hpa, _⟩ := HP.out
        subst hpa
        obtain ⟨kp, hkp⟩ : ∃ kp, e.2.length = kp := ⟨_, rfl⟩
        have HPs := Lib.hid HP.out
        rw [hkp] at d1
        have HPush := Lib.hid (fun (v' : Value) (w8 : World) (ho : w8.ownsRow W.heap.size 51 2 v' (k + 1) (entC acc ps ++ [.int .i64 dd, .slice pa kp pc])) (hg : (wr.alloc (.cells #[.int .i64 dd, .slice pa kp pc] 51)).grownBy w8 _) => OwnB.push (e := e) (u := .slice pa kp pc) HC.out.1 HB.out.size HB.out hp1 hp2 hp3 (by rw [← hkp]; exact HPs.out) (by rw [HD.out]; exact ho) hg)
        clear hp1 hp2 hp3 hkp HO
        go_wp2_with (at_builtin; refine wpList_append_own _ rfl (.tmp 20) (.tmp 25) 32 rfl W.heap.size 51 iE _ 2 32 Try.underlying32 HIE.out.1 HIE.out.2.1 HIE.out.2.2.1 HIE.out.2.2.2 rfl (by decide) _ k (entC acc ps) rfl (World.ownsRow.alloc HRow.out _) ⟨_, 0, none⟩ 1 1 [.int .i64 dd, .slice pa kp pc] rfl rfl two_cell (by simp [Value.oneCell']) (by unfold maxLen; omega) (by omega) (by have := HB.out.size; simp; omega) ?_; intro v' w8 ho hg _; have HI8 := Lib.hid (HPush.out v' w8 ho hg); clear ho hg)
        go_roundw
        case rel => exact ⟨i + 1, acc ++ [e], k + 1, by omega, by omega, by go_num, HC2, Lib.hid HI8.out.1, Lib.hid HI8.out.2⟩
        case measure => simp [intOf]; omega
      · have HC2 := Lib.hid (show acc.length = k ∧ acc = below (l.take (i + 1)) most from ⟨HC.out.1, by rw [HNx.out, if_neg (by rw [HD.out]; exact hc)]⟩)
        have hc2 : most ≤ dd := by omega
        go_wp2_with fail
        go_roundw
        case rel => exact ⟨i + 1, acc, k, by omega, by omega, by go_num, HC2, HO, HB⟩
        case measure => simp [intOf]; omega
    · obtain rfl : i = m := by omega
      go_wp2_with fail
      go_ret
      have hacc : acc = below l most := by
        have := HC.out.2
        rwa [List.take_of_length_le (by rw [HN.out]; exact Nat.le_refl _)] at this
      exact ⟨_, rfl, by rw [← hacc]; exact HO.out, HB.out⟩

/-! ### Where -/
theorem key_ne15 {x s : ByteArray} (h : x ≠ s) : (x.toList == s.toList) = false := by
  rw [ByteArray.toList_eq, ByteArray.toList_eq, beq_eq_false_iff_ne]
  intro e
  exact h (ByteArray.ext (Array.toList_inj.1 e))
set_option maxRecDepth 100000 in
set_option maxHeartbeats 2000000 in
theorem ref_where15 (W : World) (oC : Option Addr) (N cC : Nat) (C : List Nat) (at_ n : Nat) (oF : Option Addr) (cF : Nat) (oL : Option Addr) (cL t : Nat) (L : List Li) (en : L.length = t) (hL : ReadLi W oL L) (hC : ReadN .u32 W oC C) (eC : C.length = N) (hat : at_ ≤ 1000000) (hn : n ≤ 1000000) (ht : t ≤ 1000000) (i0 : Nat) (hi0 : i0 < t) (hd : ∀ j, j < i0 → (liAt L j).key ≠ (liAt L i0).key) (v : Nat) (hv : C[at_ + 2 + 4 * n + 2 * i0 + 1]? = some v) (hv2 : v < 4294967296) :
    Calls Try.prog 10 #[.slice oC N cC, .int .i64 (at_ : Int), .slice oF n cF, .slice oL t cL, .string (liAt L i0).key] W fun e w' => e = .returned (.int .i64 (v : Int)) ∧ w' = W := by
  have HL := Lib.hid hL
  have HN := Lib.hid en
  have HC := Lib.hid hC
  have HD := Lib.hid hd
  have HV := Lib.hid hv
  have HVN := Lib.hid (show at_ + 2 + 4 * n + 2 * i0 + 1 < N by rw [← eC]; exact (List.getElem?_eq_some_iff.1 hv).1)
  obtain ⟨K, hK⟩ : ∃ K, (liAt L i0).key = K := ⟨_, rfl⟩
  rw [hK] at HD ⊢
  have HK := Lib.hid hK
  have t1 : IntKind.i64.wrap ((at_ : Int) + 2) = (at_ : Int) + 2 := IntWalk.i64_in _ (by omega)
  have t2 : IntKind.i64.wrap (4 * (n : Int)) = 4 * (n : Int) := IntWalk.i64_in _ (by omega)
  have t3 : IntKind.i64.wrap ((at_ : Int) + 2 + 4 * (n : Int)) = (at_ : Int) + 2 + 4 * (n : Int) := IntWalk.i64_in _ (by omega)
  clear hL en hC hd hv hK eC
  go_enter Try.func10, Try.ntmps10
  go_wp2_with fail
  go_loopw [14] (fun iv wr => ∃ i : Nat, i ≤ i0 ∧ iv = .int .i64 (i : Int) ∧ wr = W) (fun iv _ => t - (intOf iv).toNat)
  case atStart => exact ⟨0, by omega, rfl, rfl⟩
  case round =>
    obtain ⟨i, hi, rfl, rfl⟩ := hrel
    have hlt : i < t := by omega
    have hlt1 : (i : Int) < (t : Int) := by omega
    obtain ⟨g, o, hoL, c0, c1, p, c2, _⟩ := HL.out i _ (liAt_lt (by rw [HN.out]; exact hlt))
    subst hoL
    obtain ⟨K2, hK2⟩ : ∃ K2, (liAt L i).key = K2 := ⟨_, rfl⟩
    rw [hK2] at c0
    by_cases he : i = i0
    · subst he
      have : K2 = K := by rw [← hK2, HK.out]
      subst this
      have b1 : (K2.toList == K2.toList) = true := by simp
      obtain ⟨g3, o3, hoC, cv⟩ := HC.out _ _ HV.out
      subst hoC
      have hlt3 := HVN.out
      have s1 : IntKind.i64.wrap (2 * (i : Int)) = 2 * (i : Int) := IntWalk.i64_in _ (by omega)
      have s2 : IntKind.i64.wrap ((at_ : Int) + 2 + 4 * (n : Int) + 2 * (i : Int)) = (at_ : Int) + 2 + 4 * (n : Int) + 2 * (i : Int) := IntWalk.i64_in _ (by omega)
      obtain ⟨q, hq⟩ : ∃ q : Nat, at_ + 2 + 4 * n + 2 * i + 1 = q := ⟨_, rfl⟩
      have s3 : IntKind.i64.wrap ((at_ : Int) + 2 + 4 * (n : Int) + 2 * (i : Int) + 1) = (q : Int) := by rw [show (at_ : Int) + 2 + 4 * (n : Int) + 2 * (i : Int) + 1 = (q : Int) by omega]; exact IntWalk.i64_in _ (by omega)
      have s4 : IntKind.i64.wrap (v : Int) = (v : Int) := IntWalk.i64_in _ (by omega)
      rw [hq] at cv hlt3
      have hlt4 : (q : Int) < (N : Int) := by omega
      clear hK2 hq c1 c2
      go_wp2_with fail
      go_ret
      exact ⟨rfl, rfl⟩
    · have hne : K2 ≠ K := by rw [← hK2]; exact HD.out i (by omega)
      have b2 := key_ne15 hne
      clear hne
      clear hK2 c1 c2
      go_wp2_with fail
      go_roundw
      case rel => exact ⟨i + 1, by omega, by go_num, trivial⟩
      case measure => simp [intOf]; omega
end Go.Proofs.Ytkjimgidlpocbaa

namespace Go.Proofs.Ytkjimgidlpocbaa
open Go.RowKit Go.ChangeShapes Go.WideShapes Go.ChangeAt Go.Deep

/-- A row of lists of one's own; their entries lie where they lay in W. -/
def OwnH (W w : World) (v : Value) (L : List Li) : Prop := ∃ ps : List Value, ps.length = L.length ∧ w.ownsRow W.heap.size 34 3 v L.length (liC L ps) ∧ ∀ (j : Nat) (l : Li), L[j]? = some l → ∃ u, ps[j]? = some u ∧ RdE W u l.ents
theorem OwnH.reads {W w : World} {v : Value} {L : List Li} (h : OwnH W w v L) (hb : Below W.heap.size W w) : ∃ oa cap, v = .slice oa L.length cap ∧ L.length ≤ cap ∧ cap ≤ maxLen ∧ (oa = none → cap = 0) ∧ ReadLi w oa L := by
  obtain ⟨ps, h1, h2, h3⟩ := h
  rcases h2.2 with ⟨rfl, h0⟩ | ⟨g, cap, cur, rfl, hbs, hg, hn, hm, hs, ht⟩
  · have : L = [] := List.eq_nil_of_length_eq_zero h0
    subst this
    exact ⟨none, 0, rfl, by simp, by simp [maxLen], fun _ => rfl, ReadLi.nil _ _⟩
  · refine ⟨_, cap, rfl, hn, hm, (by intro e; cases e), fun j l hj => ?_⟩
    obtain ⟨u, hu, ho⟩ := h3 j l hj
    have hgt := liC_get L ps j l u hj hu
    have hc := World.ownsRow.cells h2 (g := g) rfl
    simp only [Addr.add_lit] at hc
    exact ⟨g, 0, rfl, hc _ _ hgt.1, by simpa [Nat.add_assoc] using hc _ _ hgt.2.1, u, by simpa [Nat.add_assoc] using hc _ _ hgt.2.2, ho.below hb⟩
theorem OwnH.below {W w w' : World} {v : Value} {L : List Li} (h : OwnH W w v L) (hb : Below w.heap.size w w') : OwnH W w' v L := by
  obtain ⟨ps, h1, h2, h3⟩ := h
  exact ⟨ps, h1, owned_below h2 hb, h3⟩
theorem OwnH.push {W w w8 : World} {v v' u : Value} {ps : List Value} {L : List Li} {l : Li} {o : Obj} {n : Nat} (hn : L.length = n) (hbs : W.heap.size ≤ w.heap.size) (hl : Below W.heap.size W w) (h0 : ps.length = L.length) (h1 : w.ownsRow W.heap.size 34 3 v n (liC L ps)) (h2 : ∀ (j : Nat) (l : Li), L[j]? = some l → ∃ u, ps[j]? = some u ∧ RdE W u l.ents)
    (hu : RdE W u l.ents) (ho : w8.ownsRow W.heap.size 34 3 v' (n + 1) (liC L ps ++ [.string l.key, .int .i64 l.record, u])) (hg : (w.alloc o).grownBy w8 v.ownBlock) : OwnH W w8 v' (L ++ [l]) ∧ Below W.heap.size W w8 := by
  subst hn
  refine ⟨⟨ps ++ [u], by simp [h0], ?_, fun j x hj => ?_⟩, (hl.alloc hbs o).grown hg (by simp; omega) (fun k hk => (World.ownsRow.lt (World.ownsRow.alloc h1 o) k hk).1)⟩
  · rw [liC_snoc L ps l u h0, List.length_append]
    exact ho
  · by_cases hj2 : j < L.length
    · rw [List.getElem?_append_left hj2] at hj
      obtain ⟨q, hq, hq2⟩ := h2 j x hj
      exact ⟨q, by rw [List.getElem?_append_left (by omega)]; exact hq, hq2⟩
    · have hjl : j = L.length := by
        have := (List.getElem?_eq_some_iff.1 hj).1
        simp at this
        omega
      subst hjl
      simp at hj
      subst hj
      exact ⟨u, by rw [← h0]; simp, hu⟩
theorem three_cell {w : World} {u v x : Value} {t : TypeId} : ∀ (j : Nat) (y : Value), [u, v, x][j]? = some y → (w.alloc (.cells #[u, v, x] t)).cell? ((⟨w.heap.size, 0, none⟩ : Addr).add j) = some y := by
  intro j y hj
  rw [Addr.add_lit, Lib.cell_of_heap (heap_alloc_new w _)]
  simpa using hj
/-- What a Hold must come to. -/
def HoldDone (W : World) (n : Nat) (F : List Nat) (L : List Li) (e : Ending) (w' : World) : Prop :=
  (okMk (holdA L : Int) n (heldL 1 L) ∧ ∃ vc vl, e = .returned (.tuple #[vc, vl, .int .i64 (holdA L : Int), .bool true]) ∧ OwnN 52 .u32 w' W.heap.size vc (holdX n F L) ∧ OwnH W w' vl (heldL 1 L) ∧ Below W.heap.size W w') ∨
  (¬ okMk (holdA L : Int) n (heldL 1 L) ∧ e = .returned (.tuple #[.slice none 0 0, .slice none 0 0, .int .i64 0, .bool false]) ∧ Below W.heap.size W w')
theorem results_tmp4 {fn : Func} {t u v x : Tmp} (h : fn.results = #[.tmp t, .tmp u, .tmp v, .tmp x]) (tmps : Array Value) (P : Program) (w : World) :
    (results fn tmps).run P w = .ok (.tuple #[tmps.getD t undef, tmps.getD u undef, tmps.getD v undef, tmps.getD x undef]) w := by
  simp [results, h]
/-- Both rows on their way. -/
structure HW (W : World) (vc vl : Value) (i : Nat) (L : List Li) (wr : World) : Prop where
  c : OwnN 52 .u32 wr W.heap.size vc (0 :: heldC (L.take i))
  l : OwnH W wr vl (heldL 1 (L.take i))
  b : Below W.heap.size W wr
theorem HW.below {W w w' : World} {vc vl : Value} {i : Nat} {L : List Li} (h : HW W vc vl i L w) (hb : Below w.heap.size w w') : HW W vc vl i L w' := ⟨h.c.below hb, h.l.below hb, low_more h.b hb⟩
/-- And the list's box. -/
structure HY (W : World) (vc vl : Value) (X : List Nat) (i : Nat) (L : List Li) (b : Nat) (bx : Array Value) (wr : World) : Prop where
  c : OwnN 52 .u32 wr W.heap.size vc X
  l : OwnH W wr vl (heldL 1 (L.take i))
  lo : Below W.heap.size W wr
  x : wr.heap[b]? = some (.cells bx 34 (0, 0))
  o : W.heap.size ≤ b
theorem HY.below {W w w' : World} {vc vl : Value} {X : List Nat} {i : Nat} {L : List Li} {b : Nat} {bx : Array Value} (h : HY W vc vl X i L b bx w) (hb : Below w.heap.size w w') : HY W vc vl X i L b bx w' := ⟨h.c.below hb, h.l.below hb, low_more h.lo hb, (hb.block _ (lt_of_heap h.x)).trans h.x, h.o⟩
theorem HY.grow0 {W w w' : World} {vc vl v' : Value} {X Y : List Nat} {i : Nat} {L : List Li} {b : Nat} {bx : Array Value} (h : HY W vc vl X i L b bx w) (ho : OwnN 52 .u32 w' W.heap.size v' Y) (hb : Below W.heap.size W w') (hg : w.grownBy w' vc.ownBlock) : HY W v' vl Y i L b bx w' := by
  obtain ⟨ps, hp1, hp2, hp3⟩ := h.l
  exact ⟨ho, ⟨ps, hp1, row_grown h.c hg hp2 (by decide), hp3⟩, hb, grown_block h.c hg h.x (by decide), h.o⟩
theorem HY.grow {W w w' : World} {vc vl v' : Value} {X Y : List Nat} {i : Nat} {L : List Li} {b : Nat} {bx : Array Value} {o : Obj} (h : HY W vc vl X i L b bx w) (ho : OwnN 52 .u32 w' W.heap.size v' Y) (hb : Below W.heap.size W w') (hg : (w.alloc o).grownBy w' vc.ownBlock) : HY W v' vl Y i L b bx w' :=
  (h.below (show Below w.heap.size w (w.alloc o) from (Below.refl _ _).alloc (Nat.le_refl _) _)).grow0 ho hb hg
theorem read_two (w : World) (x y : Nat) (t : TypeId) : ReadN .u32 (w.alloc (.cells #[.int .u32 (x : Int), .int .u32 (y : Int)] t)) (some ⟨w.heap.size, 0, none⟩) [x, y] := by
  intro j v hj
  refine ⟨w.heap.size, 0, rfl, ?_⟩
  rw [Lib.cell_of_heap (heap_alloc_new w _)]
  rcases j with _ | _ | j
  · simp at hj; subst hj; rfl
  · simp at hj; subst hj; rfl
  · simp at hj
set_option maxRecDepth 100000 in
set_option maxHeartbeats 4000000 in
theorem ref_hold15 (W : World) (oF : Option Addr) (cF n : Nat) (F : List Nat) (oL : Option Addr) (cL t : Nat) (L : List Li) (hF : F.length = 4 * n) (hr : ReadN .u32 W oF F) (en : L.length = t) (hL : ReadLi W oL L) (hS : Small15 n L) :
    Calls Try.prog 8 #[.slice oF n cF, .slice oL t cL] W fun e w' => HoldDone W n F L e w' := by
  obtain ⟨iL, e0, e1, e2, e3⟩ := info_parts info_list
  have HIL := Lib.hid (And.intro e0 (And.intro e1 (And.intro e2 e3)))
  have HL := Lib.hid hL
  have HN := Lib.hid en
  have HR := Lib.hid (And.intro hF hr)
  have HS := Lib.hid hS
  have ht : t ≤ 300 := by rw [← en]; exact hS.2.1
  clear hL en hF hr hS e0 e1 e2 e3
  go_enter Try.func8, Try.ntmps8
  go_upto_region 3 with fail
  have HW0 := Lib.hid (show HW W (.slice (some ⟨W.heap.size, 0, none⟩) 1 1) (.slice (some ⟨W.heap.size + 1, 0, none⟩) 0 0) 0 L ((W.alloc (.cells #[.int .u32 0] 52)).alloc (.cells #[] 34)) from
    ⟨OwnN.below (World.ownsRow_lit (e := 52) (size := 1) W #[.int .u32 0] 1 (Nat.le_refl _) (by simp [maxLen]) rfl) below_one, ⟨[], rfl, by have h9 := own_new (w := W.alloc (.cells #[.int .u32 0] 52)) (base := W.heap.size) (size := 3) (t := 34) (by simp); rw [show (W.alloc (.cells #[.int .u32 0] 52)).heap.size = W.heap.size + 1 by simp] at h9; exact h9, by simp [heldL]⟩, low_new (low_new (Below.refl _ _))⟩)
  generalize (W.alloc (.cells #[.int .u32 0] 52)).alloc (.cells #[] 34) = w1 at HW0 ⊢
  obtain ⟨vc0, hvc⟩ : ∃ v, v = Value.slice (some ⟨W.heap.size, 0, none⟩) 1 1 := ⟨_, rfl⟩
  obtain ⟨vl0, hvl⟩ : ∃ v, v = Value.slice (some ⟨W.heap.size + 1, 0, none⟩) 0 0 := ⟨_, rfl⟩
  rw [← hvc, ← hvl] at HW0 ⊢
  clear hvc hvl
  go_wp2_with fail
  go_loopw [19, 8, 9] (fun iv cv lv wr => ∃ (i : Nat), i ≤ t ∧ iv = .int .i64 (i : Int) ∧ Hid (HW W cv lv i L wr)) (fun iv _ _ _ => t - (intOf iv).toNat)
  case atStart => exact ⟨0, by omega, rfl, HW0⟩
  case round =>
    clear HW0
    obtain ⟨i, hi, rfl, HWi⟩ := hrel
    by_cases hlt : i < t
    · have hlt1 : (i : Int) < (t : Int) := by omega
      obtain ⟨x, hx⟩ : ∃ x, L[i]? = some x := ⟨_, List.getElem?_eq_getElem (by rw [HN.out]; exact hlt)⟩
      obtain ⟨g, oo, hoL, c0, c1, p, c2, hp⟩ := HL.out i x hx
      subst hoL
      have c0 := below_cell c0 HWi.out.b
      have c1 := below_cell c1 HWi.out.b
      have c2 := below_cell c2 HWi.out.b
      obtain ⟨pa, pc, hpe, _⟩ := id hp
      subst hpe
      have hkz := (HS.out.2.2.2 x (List.mem_of_getElem? hx)).2
      have hks : ∀ l ∈ L, l.key.size ≤ 17 := fun l hl => (HS.out.2.2.2 l hl).2
      have hhl := heldC_small (L := L.take i) fun l hl => hks l (List.mem_of_mem_take hl)
      rw [List.length_take] at hhl
      obtain ⟨z, hz⟩ : ∃ z, 1 + (heldC (L.take i)).length = z := ⟨_, rfl⟩
      obtain ⟨m, hm⟩ : ∃ m, x.ents.length = m := ⟨_, rfl⟩
      rw [hm] at c2
      have HC8 := Lib.hid (show heldC (L.take (i + 1)) = heldC (L.take i) ++ recN x.key by rw [li_take hx, heldC_snoc])
      have HL8 := Lib.hid (show heldL 1 (L.take (i + 1)) = heldL 1 (L.take i) ++ [⟨x.key, (z : Int), x.ents⟩] by rw [li_take hx, heldL_snoc, hz])
      have HP := Lib.hid hp
      rw [hm] at HP
      obtain ⟨kk, hkk⟩ : ∃ kk, x.key = kk := ⟨_, rfl⟩
      obtain ⟨rr, hrr⟩ : ∃ rr, x.record = rr := ⟨_, rfl⟩
      rw [hkk] at c0 hkz HC8 HL8
      rw [hrr] at c1
      obtain ⟨kz, hkz2⟩ : ∃ kz, kk.size = kz := ⟨_, rfl⟩
      have hzb : z ≤ 3000 := by omega
      have HZ := Lib.hid (And.intro hz hkz2)
      have HM := Lib.hid hm
      rw [hkz2] at hkz
      have z0 : ((kk.size : Nat) : Int) = (kz : Int) := by rw [hkz2]
      have z7 : goInt kk.size = .int .i64 (kz : Int) := by rw [hkz2]; rfl
      have z8 : IntKind.u32.wrap (kz : Int) = (kz : Int) := IntWalk.u32_in _ (by omega)
      obtain ⟨oc, cc, hcv, _⟩ := (show OwnN _ _ _ _ _ _ from HWi.out.c).reads_of z (by rw [List.length_cons, ← hz]; omega)
      subst hcv
      clear hx hp hks hhl hz hm hkk hrr hkz2
      go_upto_region 8 with fail
      have HY2 := Lib.hid (show HY W (.slice oc z cc) u9 (0 :: heldC (L.take i)) i L wr.heap.size #[.string kk, .int .i64 (z : Int), .slice pa m pc] (wr.alloc (.cells #[.string kk, .int .i64 (z : Int), .slice pa m pc] 34)) from
        ⟨HWi.out.c.below below_one, HWi.out.l.below below_one, low_new HWi.out.b, heap_alloc_new wr _, HWi.out.b.size⟩)
      obtain ⟨b, hb⟩ : ∃ b, wr.heap.size = b := ⟨_, rfl⟩
      rw [hb] at HY2
      generalize wr.alloc (.cells #[.string kk, .int .i64 (z : Int), .slice pa m pc] 34) = w2 at HY2 ⊢
      rw [hb]
      have q0 : w2.cell? ⟨b, 0, none⟩ = some (.string kk) := cell_at HY2.out.x 0
      clear hb HWi c0 c1 c2
      go_upto_region 9 with (at_builtin; refine append_u32 (W := W) rfl (.tmp 29) (.tmp 34) rfl _ (0 :: heldC (L.take i)) [0, kz] rfl (low_new HY2.out.lo) (HY2.out.c.below below_one) _ 2 2 rfl rfl (read_two _ _ _ _) (by simp) (Nat.le_refl _) (by rw [List.length_cons]; have := HZ.out.1; omega) ?_; intro v3 w3 ho hg; have HY3 := Lib.hid (HY2.out.grow ho.1 ho.2 hg); clear ho hg)
      obtain ⟨oc3, cc3, hv3, _⟩ := HY3.out.c.reads_of (z + 2) (by rw [List.length_append, List.length_cons, List.length_cons, List.length_cons, List.length_nil]; have := HZ.out.1; omega)
      subst hv3
      clear HY2 q0
      have q0 : w3.cell? ⟨b, 0, none⟩ = some (.string kk) := cell_at HY3.out.x 0
      have hk6 : kk.size ≤ 1000000 := by have := HZ.out.2; omega
      go_wp2_with fail
      refine (ref_cells w3 kk hk6).mono ?_; rintro e w4 ⟨v4, rfl, ho4, hb4⟩
      have HY4 := Lib.hid (HY3.out.below hb4)
      obtain ⟨q, hq⟩ : ∃ q, (cellsN (bytesL kk)).length = q := ⟨_, rfl⟩
      have hq6 : q ≤ 10 := by rw [← hq, cellsN_length, bytesL_length]; have := HZ.out.2; omega
      obtain ⟨o4, k4, hv4, y1, _, y3, y4⟩ := ho4.reads_of q hq
      subst hv4
      have HR4 := Lib.hid y4
      have HQ := Lib.hid hq
      clear HY3 q0 ho4 hb4 y4 hq hk6
      go_upto_region 10 with (at_builtin; refine append_u32 (W := W) rfl (.tmp 36) (.tmp 39) rfl _ (0 :: heldC (L.take i) ++ [0, kz]) (cellsN (bytesL kk)) rfl HY4.out.lo HY4.out.c o4 k4 q HQ.out rfl HR4.out y3 y1 (by rw [List.length_append, List.length_cons, List.length_cons, List.length_cons, List.length_nil]; have := HZ.out.1; omega) ?_; intro v5 w5 ho hg; have HY5 := Lib.hid (HY4.out.grow0 ho.1 ho.2 hg); clear ho hg)
      clear HY4 HR4 y1 y3
      obtain ⟨oc5, cc5, hv5, _⟩ := HY5.out.c.reads_of (z + 2 + q) (by rw [List.length_append, List.length_append, List.length_cons, List.length_cons, List.length_cons, List.length_nil, HQ.out]; have := HZ.out.1; omega)
      subst hv5
      have HC5 := Lib.hid (show (0 :: heldC (L.take i) ++ [0, kz] ++ cellsN (bytesL kk)) = 0 :: heldC (L.take (i + 1)) by
        rw [HC8.out]
        unfold recN
        rw [HZ.out.2]
        simp)
      have q0 : w5.cell? ⟨b, 0, none⟩ = some (.string kk) := cell_at HY5.out.x 0
      have q1 : w5.cell? ⟨b, 1, none⟩ = some (.int .i64 (z : Int)) := cell_at HY5.out.x 1
      have q2 : w5.cell? ⟨b, 2, none⟩ = some (.slice pa m pc) := cell_at HY5.out.x 2
      obtain ⟨ol, cl, hvl, _⟩ := HY5.out.l.reads HY5.out.lo
      rw [heldL_length, List.length_take, HN.out, Nat.min_eq_left (by omega)] at hvl
      subst hvl
      obtain ⟨ps, hp1, hp2, hp3⟩ := HY5.out.l
      have hll : (heldL 1 (L.take i)).length = i := by rw [heldL_length, List.length_take, HN.out, Nat.min_eq_left (by omega)]
      rw [hll] at hp2
      have HRow := Lib.hid hp2
      have HPush := Lib.hid (fun (v' : Value) (w8 : World) (ho : w8.ownsRow W.heap.size 34 3 v' (i + 1) (liC (heldL 1 (L.take i)) ps ++ [.string kk, .int .i64 (z : Int), .slice pa m pc])) (hg : (w5.alloc (.cells #[.string kk, .int .i64 (z : Int), .slice pa m pc] 34)).grownBy w8 _) =>
        (show HW W (.slice oc5 (z + 2 + q) cc5) v' (i + 1) L w8 from by
          have h := OwnH.push (l := ⟨kk, (z : Int), x.ents⟩) hll HY5.out.lo.size HY5.out.lo hp1 hp2 hp3 HP.out ho hg
          refine ⟨?_, by rw [HL8.out]; exact h.1, h.2⟩
          rw [← HC5.out]
          exact row_grown (World.ownsRow.alloc hp2 _) hg (World.ownsRow.alloc HY5.out.c _) (by decide)))
      clear hp1 hp2 hp3 hll HC8 HL8
      go_wp2_with (at_builtin; refine wpList_append_own _ rfl (.tmp 41) (.tmp 43) 23 rfl W.heap.size 34 iL _ 3 48 Try.underlying23 HIL.out.1 HIL.out.2.1 HIL.out.2.2.1 HIL.out.2.2.2 rfl (by decide) _ i (liC (heldL 1 (L.take i)) ps) rfl (World.ownsRow.alloc HRow.out _) ⟨_, 0, none⟩ 1 1 [.string kk, .int .i64 (z : Int), .slice pa m pc] rfl rfl three_cell (by simp [Value.oneCell']) (by unfold maxLen; omega) (by omega) (by have := HY5.out.lo.size; simp; omega) ?_; intro v' w8 ho hg _; have HW8 := Lib.hid (HPush.out v' w8 ho hg); clear ho hg)
      go_roundw
      case rel => exact ⟨i + 1, by omega, by go_num, HW8⟩
      case measure => simp [intOf]; omega
    · obtain rfl : i = t := by omega
      have htk : L.take i = L := List.take_of_length_le (by rw [HN.out]; exact Nat.le_refl _)
      obtain ⟨z, hz⟩ : ∃ z, holdA L = z := ⟨_, rfl⟩
      have hks : ∀ l ∈ L, l.key.size ≤ 17 := fun l hl => (HS.out.2.2.2 l hl).2
      have hhl := heldC_small (L := L) hks
      rw [HN.out] at hhl
      have hzb : z ≤ 3000 := by rw [← hz]; unfold holdA; omega
      have hc := HWi.out.c
      have hl := HWi.out.l
      rw [htk] at hc hl
      obtain ⟨oc, cc, hcv, _⟩ := hc.reads_of z (by rw [List.length_cons, ← hz]; unfold holdA; omega)
      subst hcv
      obtain ⟨ol, cl, hvl, _, _, _, hrl⟩ := hl.reads HWi.out.b
      rw [heldL_length, HN.out] at hvl
      subst hvl
      have hsum := heldL_sum 1 L
      have HMk := Lib.hid (ref_make14 wr (z : Int) oF cF n F ol cl i (heldL 1 L) HR.out.1 (HR.out.2.below HWi.out.b) (by rw [heldL_length]; exact HN.out) hrl (fun k _ hok => by
        have h1 := bodyI_sum hok
        have h2 := sumLi_take (heldL 1 L) k
        have h3 := HS.out.2.2.1
        omega) (fun y hy => by
        obtain ⟨y0, hy0, hk0, he0⟩ := heldL_ents 1 L y hy
        have := HS.out.2.2.2 y0 hy0
        rw [hk0, he0]
        exact ⟨by omega, by unfold reachBytes; omega⟩))
      have HCc := Lib.hid hc
      have HLl := Lib.hid hl
      have HBb := Lib.hid HWi.out.b
      have HZ := Lib.hid hz
      clear hc hl hks hhl htk hrl hsum HWi hz
      go_wp2_with fail
      refine HMk.out.mono ?_; rintro e w2 ⟨v2, rfl, ho2, hb2⟩
      by_cases hok : okMk (z : Int) n (heldL 1 L)
      · have e1 : mkE (z : Int) n (heldL 1 L) = 0 := if_pos hok
        have e2 : mkX (z : Int) n F (heldL 1 L) = imgN z n F (heldL 1 L) := by unfold mkX; rw [if_pos hok]; rfl
        rw [e2] at ho2
        rw [e1]
        have hlen := imgN_length z n F (heldL 1 L) HR.out.1
        have hbody := bodyI_sum hok.1.2.2.2
        rw [heldL_sum] at hbody
        rw [heldL_length, HN.out] at hlen
        have hsz := HS.out
        obtain ⟨q, hq⟩ : ∃ q, (imgN z n F (heldL 1 L)).length = q := ⟨_, rfl⟩
        have hq6 : q ≤ 20000 := by
          have := hsz.1
          have := hsz.2.2.1
          omega
        obtain ⟨o4, k4, hv4, y1, _, y3, y4⟩ := ho2.reads_of q hq
        subst hv4
        have HR4 := Lib.hid y4
        have HQ := Lib.hid hq
        have HC2 := Lib.hid (HCc.out.below hb2)
        have HL2 := Lib.hid (HLl.out.below hb2)
        have HB2 := Lib.hid (low_more HBb.out hb2)
        have HOk := Lib.hid hok
        clear e1 e2 ho2 hb2 hlen hbody hsz hq y4 HCc HLl HBb HMk hok
        go_wp2_with (at_builtin; refine append_u32 (W := W) rfl (.tmp 57) (.tmp 58) rfl _ (0 :: heldC L) (imgN z n F (heldL 1 L)) rfl HB2.out HC2.out o4 k4 q HQ.out rfl HR4.out y3 y1 (by rw [List.length_cons]; have := HZ.out; unfold holdA at this; omega) ?_; intro v5 w5 ho hg; have HO5 := Lib.hid (show OwnN 52 .u32 w5 W.heap.size v5 (0 :: heldC L ++ imgN z n F (heldL 1 L)) ∧ Below W.heap.size W w5 ∧ OwnH W w5 (.slice ol i cl) (heldL 1 L) from ⟨ho.1, ho.2, by (obtain ⟨ps, hp1, hp2, hp3⟩ := HL2.out; exact ⟨ps, hp1, row_grown HC2.out hg hp2 (by decide), hp3⟩)⟩); clear ho hg)
        (try simp only [Exit.inBlock, Exit.then])
        refine bodyPost_ret (results_tmp4 rfl _ _ _) rfl ?_
        left
        rw [HZ.out]
        refine ⟨HOk.out, _, _, rfl, ?_, HO5.out.2.2, HO5.out.2.1⟩
        have := HO5.out.1
        rw [← HZ.out] at this
        exact this
      · have e1 : mkE (z : Int) n (heldL 1 L) = 1 := if_neg hok
        rw [e1]
        have HB2 := Lib.hid (low_more HBb.out hb2)
        have HOk := Lib.hid hok
        obtain ⟨o4, k4, hv4, _⟩ := ho2.reads
        subst hv4
        clear e1 ho2 hb2 HCc HLl HBb HMk hok
        go_wp2_with fail
        (try simp only [Exit.inBlock, Exit.then])
        refine bodyPost_ret (results_tmp4 rfl _ _ _) rfl ?_
        right
        rw [HZ.out]
        exact ⟨HOk.out, rfl, HB2.out⟩
end Go.Proofs.Ytkjimgidlpocbaa

namespace Go.Proofs.Ytkjimgidlpocbaa
open Go.RowKit

/-! ### What is left, behind a program of its own -/
theorem Rest.bind {α β : Type} {p : Pr α} {q : Pr β} {f : β → Pr α} {st0 st : St} {Bd : Nat} (h : Rest p (q.bind f) st0 st) (hf : st.Fine Bd) {k : β} (hk : ∀ x, (q.on st).1 = some x → x = k) : Rest p (f k) st0 (q.on st).2 := by
  rcases h with ⟨h1, h2⟩ | h
  · rw [on_off q hf.good h1]
    exact .inl ⟨h1, h2⟩
  · rw [on_bind] at h
    cases e : (q.on st).1 with
    | none =>
      rw [e] at h
      exact .inl ⟨on_none q st e, h.symm⟩
    | some x =>
      rw [e] at h
      simp only at h
      rw [hk x e] at h
      exact .inr h

/-! ### A run that turns blocks beside its own -/
structure RunS (S : Nat → Prop) (W : World) (rb mb cb : Nat) (go0 : Option Nat) (st : St) (go : Option Nat) (w : World) : Prop where
  old : rb < W.heap.size ∧ mb < W.heap.size ∧ cb < W.heap.size
  own : ∀ k, S k → ¬ Feet rb mb cb go0 k ∧ k < W.heap.size
  rm : RM w rb mb cb go true st
  adv : AdvS S rb mb cb W go0 w go
section
variable {S : Nat → Prop} {W w w' : World} {rb mb cb : Nat} {go0 go go' : Option Nat} {st st' : St}
theorem AdvS.of_below {S : Nat → Prop} {rb mb cb : Nat} {w w' : World} {go : Option Nat} (h : Below w.heap.size w w') : AdvS S rb mb cb w go w' go := (Adv.of_below h).advS S
theorem RunS.start (h : RM W rb mb cb go true st) (hS : ∀ k, S k → ¬ Feet rb mb cb go k ∧ k < W.heap.size) : RunS S W rb mb cb go st go W := ⟨⟨h.lt rb (.inl rfl), h.lt mb (.inr (.inr (.inl rfl))), h.lt cb (.inr (.inr (.inr rfl)))⟩, hS, h, AdvS.of_below (Below.refl _ _)⟩
theorem RunS.below (h : RunS S W rb mb cb go0 st go w) (hb : Below w.heap.size w w') : RunS S W rb mb cb go0 st go w' := ⟨h.old, h.own, h.rm.below hb, h.adv.trans (AdvS.of_below hb)⟩
theorem RunS.access (h : RunS S W rb mb cb go0 st go w) (hr : RM w' rb mb cb go' true st') (ha : Adv rb mb cb w go w' go') : RunS S W rb mb cb go0 st' go' w' := ⟨h.old, h.own, hr, h.adv.trans (ha.advS S)⟩
theorem RunS.call (h : RunS S W rb mb cb go0 st go w) (hr : RM w' rb mb cb go' true st') (ha : AdvS S rb mb cb w go w' go') : RunS S W rb mb cb go0 st' go' w' := ⟨h.old, h.own, hr, h.adv.trans ha⟩
theorem RunS.size (h : RunS S W rb mb cb go0 st go w) : W.heap.size ≤ w.heap.size := h.adv.mod.size
/-- Blocks of one's own, or such as it turns, are none of the run's. -/
theorem RunS.mine (h : RunS S W rb mb cb go0 st go w) {k : Nat} (hk : S k) : ¬ Feet rb mb cb go k := h.adv.apart (h.own k hk).2 (h.own k hk).1
theorem RunS.far (h : RunS S W rb mb cb go0 st go w) {k : Nat} {c : Array Value} {t : TypeId} (hk : w.heap[k]? = some (.cells c t (0, 0))) (hW : W.heap.size ≤ k) (ht : t ≠ 52) : ¬ Feet rb mb cb go k := by
  obtain ⟨o1, o2, o3⟩ := h.old
  rintro (e | e | e | e)
  · omega
  · obtain ⟨cap, hr⟩ := h.rm.run
    have hl := hr.row
    rw [e] at hl
    obtain ⟨cur, h4, _⟩ := hl
    rw [h4] at hk
    injection hk with hk
    injection hk with _ h5
    exact ht h5.symm
  · omega
  · omega
theorem RunS.stays (h : RunS S W rb mb cb go0 st go w) (ha : Adv rb mb cb w go w' go') {k : Nat} {c : Array Value} {t : TypeId} (hk : w.heap[k]? = some (.cells c t (0, 0))) (hW : S k ∨ W.heap.size ≤ k) (ht : t ≠ 52) : w'.heap[k]? = some (.cells c t (0, 0)) := by
  refine (ha.mod.block k (lt_of_heap hk) ?_).trans hk
  rcases hW with e | e
  · exact h.mine e
  · exact h.far hk e ht
/-- Such a block turns. -/
theorem RunS.turn (h : RunS S W rb mb cb go0 st go w) {k : Nat} {c : Array Value} {t : TypeId} (hk : w.heap[k]? = some (.cells c t (0, 0))) (hW : S k ∨ W.heap.size ≤ k) (ht : t ≠ 52) (hm : Mod (fun j => j = k) w w') : RunS S W rb mb cb go0 st go w' := by
  have hf : ¬ Feet rb mb cb go k := by
    rcases hW with e | e
    · exact h.mine e
    · exact h.far hk e ht
  refine ⟨h.old, h.own, h.rm.mod hm fun j hj e => by subst e; exact hf hj, h.adv.grows, h.adv.mod.then hm fun i hi e => ?_⟩
  subst e
  rcases hW with e | e
  · exact .inl e
  · omega
end
end Go.Proofs.Ytkjimgidlpocbaa

namespace Go.Proofs.Ytkjimgidlpocbaa
open Go.RowKit

def smC (rb : Nat) (s : Sm) : Array Value := #[.pointer (some ⟨rb, 0, none⟩), .int .i64 s.a, .int .u32 s.c, .int .i64 (s.f : Int)]
/-- A run with bytes on their way. -/
structure SW (W : World) (rb mb cb : Nat) (go0 : Option Nat) (sb : Nat) (s : Sm) (st : St) (go : Option Nat) (w : World) : Prop where
  run : RunS (fun k => k = sb) W rb mb cb go0 st go w
  sm : w.heap[sb]? = some (.cells (smC rb s) 82 (0, 0))
section
variable {W w w' : World} {rb mb cb sb : Nat} {go0 go go' : Option Nat} {st st' : St} {s s' : Sm} {Bd : Nat}
/-- A function of it begins. -/
theorem SW.restart (h : SW W rb mb cb go0 sb s st go w) : SW w rb mb cb go sb s st go w :=
  ⟨RunS.start h.run.rm fun k hk => ⟨h.run.mine hk, Nat.lt_of_lt_of_le (h.run.own k hk).2 h.run.size⟩, h.sm⟩
/-- It is over. -/
theorem SW.rejoin (h : SW W rb mb cb go0 sb s st go w) (k : SW w rb mb cb go sb s' st' go' w') : SW W rb mb cb go0 sb s' st' go' w' :=
  ⟨h.run.call k.run.rm k.run.adv, k.sm⟩
theorem SW.below (h : SW W rb mb cb go0 sb s st go w) (hb : Below w.heap.size w w') : SW W rb mb cb go0 sb s st go w' :=
  ⟨h.run.below hb, (hb.block _ (lt_of_heap h.sm)).trans h.sm⟩
theorem SW.access (h : SW W rb mb cb go0 sb s st go w) (hr : RM w' rb mb cb go' true st') (ha : Adv rb mb cb w go w' go') : SW W rb mb cb go0 sb s st' go' w' :=
  ⟨h.run.access hr ha, h.run.stays ha h.sm (.inl rfl) (by decide)⟩
/-- What a next must come to. -/
def NextDone (W : World) (rb mb cb : Nat) (go0 : Option Nat) (sb : Nat) (s : Sm) (st : St) (e : Ending) (w' : World) : Prop :=
  ∃ b s' go', e = .returned (.int .u8 b) ∧ SW W rb mb cb go0 sb s' ((nextT s).on st).2 go' w' ∧ (∀ y, ((nextT s).on st).1 = some y → y = (b, s')) ∧ SmU s' ∧ 0 ≤ b ∧ b < 256 ∧ s.a ≤ s'.a ∧ s'.a ≤ s.a + 1
theorem NextDone.of {b : Int} (h : SW W rb mb cb go0 sb s' st' go' w') (hq : Ended (nextT s) (b, s') st st') (hu : SmU s') (h0 : 0 ≤ b) (h1 : b < 256) (ha : s.a ≤ s'.a ∧ s'.a ≤ s.a + 1) : NextDone W rb mb cb go0 sb s st (.returned (.int .u8 b)) w' := by
  unfold Ended at hq
  refine ⟨b, s', go', rfl, ?_, hq.2, hu, h0, h1, ha.1, ha.2⟩
  rw [hq.1]
  exact h
/-- A cell of it turns. -/
theorem SW.set (h : SW W rb mb cb go0 sb s st go w) (j : Nat) (v : Value) {s' : Sm} (hs : (smC rb s).setIfInBounds j v = smC rb s') : SW W rb mb cb go0 sb s' st go (w.setCell ⟨sb, j, none⟩ v) :=
  ⟨h.run.turn h.sm (.inl rfl) (by decide) (Mod.setCell (S := fun k => k = sb) (p := ⟨sb, j, none⟩) (Mod.refl _ _) (.inr rfl) _), by rw [← hs]; exact heap_setCell_same _ sb j _ _ v h.sm⟩
set_option maxRecDepth 100000 in
set_option maxHeartbeats 2000000 in
theorem next_any (h : SW w rb mb cb go sb s st go w) (hf : st.Fine Bd) (hB : Bd < 1000000000) (hu : SmU s) (ha0 : -1000000000000000 ≤ s.a) (ha1 : s.a ≤ 1000000000000000) :
    Calls Try.prog 49 #[.pointer (some ⟨sb, 0, none⟩)] w fun e w' => NextDone w rb mb cb go sb s st e w' := by
  obtain ⟨⟨hu0, hu1⟩, hu2⟩ := hu
  have q3 : w.cell? ⟨sb, 3, none⟩ = some (.int .i64 (s.f : Int)) := cell_at h.sm 3
  have HF := Lib.hid hf
  have hq := Rest.start (nextT s) st
  by_cases hz : s.f = 0
  · have hq1 : Rest (nextT s) (.load s.a fun v => .ret (v % 256, ⟨s.a + 1, v / 256, 3⟩)) st st := hq.same (by unfold nextT; rw [if_pos hz])
    have hq2 := (hq1.load hf).ret
    have hx' := (hf.ok.load s.a).2
    obtain ⟨x, hx⟩ : ∃ x, x = (st.load s.a).1 := ⟨_, rfl⟩
    obtain ⟨st1, hst1⟩ : ∃ st1, st1 = (st.load s.a).2 := ⟨_, rfl⟩
    rw [← hx, ← hst1] at hq2
    rw [← hx] at hx'
    obtain ⟨hx0, hx1⟩ := hx'
    have HQ := Lib.hid hq2
    have h' : SW w rb mb cb go sb ⟨s.a, s.c, 0⟩ st go w := by rw [← hz]; exact h
    have HW := Lib.hid h'
    have b0 : ((s.f : Int) == 0) = true := by simp [hz]
    have t1 : IntKind.i64.wrap (s.a + 1) = s.a + 1 := IntWalk.i64_in _ (by omega)
    have HX := Lib.hid (And.intro hx hst1)
    clear hq hq1 hq2 h h' hf hx hst1
    go_enter Try.func49, Try.ntmps49
    go_upto_region 2 with fail
    refine wp_region_cl (fun (p : Unit) jz => [.pointer (some ⟨sb, 0, none⟩), .pointer (some ⟨sb, 0, none⟩), .pointer (some ⟨sb, 0, none⟩), .pointer (some ⟨sb, 0, none⟩), .pointer (some ⟨sb, 0, none⟩), .pointer (some ⟨rb, 0, none⟩), .pointer (some ⟨sb, 0, none⟩), .pointer (some ⟨sb, 0, none⟩), .pointer (some ⟨sb, 1, none⟩), .int .i64 s.a, .int .u32 x, .pointer (some ⟨sb, 0, none⟩), .pointer (some ⟨sb, 2, none⟩), undef, .pointer (some ⟨sb, 0, none⟩), .pointer (some ⟨sb, 3, none⟩), undef].getD jz undef)
      (fun p l wx => ∃ gox, SW w rb mb cb go sb ⟨s.a, if l 13 then x else s.c, if l 16 then 4 else 0⟩ (if l 10 then (st.load s.a).2 else st) gox wx)
      (by kernel_rfl) (by kernel_rfl) (fun q => by simp only [putTo, dstOf, Act.put, List.size_toArray, List.length_cons, List.length_nil, List.getElem?_toArray, Nat.reduceAdd, Option.bind_some, List.getElem?_cons_zero, List.getElem?_cons_succ, List.setIfInBounds_toArray, List.set_cons_zero, List.set_cons_succ, List.getD_cons_zero, List.getD_cons_succ]; exact rfl) () ?_ ?_ ?_
    · exact ⟨go, HW.out.below (Below.refl _ _).drew⟩
    · intro i o ho p l wx hR hl he hcl K hK
      rcases i with _ | _ | _ | _ | _ | _ | _ | _ | _ | _ | _ | _ | _ | _ | _ | _ | _ | i
      · obtain rfl : _ = o := Option.some.inj ho
        go_simp
        exact hK p wx (fun _ _ => rfl) hR
      · obtain rfl : _ = o := Option.some.inj ho
        go_simp
        exact hK p wx (fun _ _ => rfl) hR
      · obtain rfl : _ = o := Option.some.inj ho
        go_simp
        exact hK p wx (fun _ _ => rfl) hR
      · obtain rfl : _ = o := Option.some.inj ho
        go_simp
        exact hK p wx (fun _ _ => rfl) hR
      · obtain rfl : _ = o := Option.some.inj ho
        go_simp
        exact hK p wx (fun _ _ => rfl) hR
      · obtain rfl : _ = o := Option.some.inj ho
        obtain ⟨gox, hw⟩ := hR
        have q : wx.cell? ⟨sb, 0, none⟩ = some (.pointer (some ⟨rb, 0, none⟩)) := cell_at hw.sm 0
        have hK2 := hK p wx (fun _ _ => rfl) ⟨gox, hw⟩
        clear hw
        go_simp
        exact hK2
      · obtain rfl : _ = o := Option.some.inj ho
        go_simp
        exact hK p wx (fun _ _ => rfl) hR
      · obtain rfl : _ = o := Option.some.inj ho
        go_simp
        exact hK p wx (fun _ _ => rfl) hR
      · obtain rfl : _ = o := Option.some.inj ho
        go_simp
        exact hK p wx (fun _ _ => rfl) hR
      · obtain rfl : _ = o := Option.some.inj ho
        obtain ⟨gox, hw⟩ := hR
        have q : wx.cell? ⟨sb, 1, none⟩ = some (.int .i64 s.a) := cell_at hw.sm 1
        have hK2 := hK p wx (fun _ _ => rfl) ⟨gox, hw⟩
        clear hw
        go_simp
        exact hK2
      · obtain rfl : _ = o := Option.some.inj ho
        obtain ⟨gox, hw⟩ := hR
        rw [show (if l 10 = true then (st.load s.a).2 else st) = st from if_neg (by rw [show l 10 = false from hl]; decide)] at hw
        have HK := run_load hw.run.rm hB HF.out.ok s.a
        rw [← HX.out.1] at HK
        have HW := Lib.hid hw
        have HK2 := Lib.hid HK
        clear hw HK
        go_simp
        refine HK2.out.mono ?_; rintro e w2 ⟨rfl, go2, hr2, ha2⟩
        have hw2 := HW.out.access hr2 ha2
        refine hK p w2 (fun _ _ => rfl) ⟨go2, ?_⟩
        rw [show (if (10 == 10 || l 10) = true then (st.load s.a).2 else st) = (st.load s.a).2 from if_pos rfl]
        exact hw2
      · obtain rfl : _ = o := Option.some.inj ho
        go_simp
        exact hK p wx (fun _ _ => rfl) hR
      · obtain rfl : _ = o := Option.some.inj ho
        go_simp
        exact hK p wx (fun _ _ => rfl) hR
      · obtain rfl : _ = o := Option.some.inj ho
        obtain ⟨gox, hw⟩ := hR
        rw [show (if l 13 = true then x else s.c) = s.c from if_neg (by rw [show l 13 = false from hl]; decide)] at hw
        have q : wx.cell? ⟨sb, 2, none⟩ = some (.int .u32 s.c) := cell_at hw.sm 2
        have f := free_at hw.sm 2
        have HW := Lib.hid hw
        clear hw
        go_simp
        refine hK p _ (fun _ _ => rfl) ⟨gox, ?_⟩
        rw [show (if (13 == 13 || l 13) = true then x else s.c) = x from if_pos rfl]
        exact HW.out.set 2 _ rfl
      · obtain rfl : _ = o := Option.some.inj ho
        go_simp
        exact hK p wx (fun _ _ => rfl) hR
      · obtain rfl : _ = o := Option.some.inj ho
        go_simp
        exact hK p wx (fun _ _ => rfl) hR
      · obtain rfl : _ = o := Option.some.inj ho
        obtain ⟨gox, hw⟩ := hR
        rw [show (if l 16 = true then 4 else 0) = 0 from if_neg (by rw [show l 16 = false from hl]; decide)] at hw
        have q : wx.cell? ⟨sb, 3, none⟩ = some (.int .i64 0) := cell_at hw.sm 3
        have f := free_at hw.sm 3
        have HW := Lib.hid hw
        clear hw
        go_simp
        refine hK p _ (fun _ _ => rfl) ⟨gox, ?_⟩
        rw [show (if (16 == 16 || l 16) = true then 4 else 0) = 4 from if_pos rfl]
        exact HW.out.set 3 _ rfl
      · simp at ho
    · intro p l wx hl hR
      obtain ⟨go1, hw⟩ := hR
      rw [if_pos (hl 10 (by decide)), if_pos (hl 13 (by decide)), if_pos (hl 16 (by decide)), ← HX.out.2] at hw
      have q1 : wx.cell? ⟨sb, 1, none⟩ = some (.int .i64 s.a) := cell_at hw.sm 1
      have f1 := free_at hw.sm 1
      have HW1 := Lib.hid hw
      clear hw hl
      go_upto_region 4 with fail
      have HW2 := Lib.hid (HW1.out.set 1 (.int .i64 (s.a + 1)) (s' := ⟨s.a + 1, x, 4⟩) rfl)
      generalize wx.setCell ⟨sb, 1, none⟩ (.int .i64 (s.a + 1)) = w2 at HW2 ⊢
      clear HW1 q1 f1 q3 wx
      have q2 : w2.cell? ⟨sb, 2, none⟩ = some (.int .u32 x) := cell_at HW2.out.sm 2
      have f2 := free_at HW2.out.sm 2
      have q3 : w2.cell? ⟨sb, 3, none⟩ = some (.int .i64 4) := cell_at HW2.out.sm 3
      have f3 := free_at HW2.out.sm 3
      go_wp2_with fail
      go_ret
      exact NextDone.of ((HW2.out.set 2 (.int .u32 (x / 256)) (s' := ⟨s.a + 1, x / 256, 4⟩) rfl).set 3 (.int .i64 3) (s' := ⟨s.a + 1, x / 256, 3⟩) rfl) HQ.out ⟨⟨by show 0 ≤ x / 256; omega, by show x / 256 ≤ _; omega⟩, by show 3 ≤ 3; omega⟩ (by omega) (by omega) ⟨by show s.a ≤ s.a + 1; omega, by show s.a + 1 ≤ s.a + 1; omega⟩

  · have hq1 : Rest (nextT s) (.ret (s.c % 256, ⟨s.a, s.c / 256, s.f - 1⟩)) st st := hq.same (by unfold nextT; rw [if_neg hz])
    have HQ := Lib.hid hq1.ret
    have HW := Lib.hid h
    obtain ⟨k, hk⟩ : ∃ k, s.f = k + 1 := ⟨s.f - 1, by omega⟩
    have b0 : ((s.f : Int) == 0) = false := by simpa using hz
    have b1 : ((k : Int) + 1 == 0) = false := by simp; omega
    have q2 : w.cell? ⟨sb, 2, none⟩ = some (.int .u32 s.c) := cell_at h.sm 2
    have f2 := free_at h.sm 2
    have f3 := free_at h.sm 3
    have t1 : IntKind.i64.wrap ((s.f : Int) - 1) = ((s.f - 1 : Nat) : Int) := by rw [IntWalk.i64_in _ (by omega)]; omega
    have HK := Lib.hid hk
    obtain ⟨sc, hsc⟩ : ∃ sc, s.c = sc := ⟨_, rfl⟩
    rw [hsc] at q2 hu0 hu1
    have HSC := Lib.hid hsc
    clear hq hq1 h hf hk hsc
    go_enter Try.func49, Try.ntmps49
    go_wp2_with fail
    go_ret
    have hs1 := HSC.out
    exact NextDone.of ((HW.out.set 2 (.int .u32 (sc / 256)) (s' := ⟨s.a, sc / 256, s.f⟩) rfl).set 3 (.int .i64 ((s.f - 1 : Nat) : Int)) (s' := ⟨s.a, sc / 256, s.f - 1⟩) rfl) (by rw [← hs1]; exact HQ.out) ⟨⟨by show 0 ≤ sc / 256; omega, by show sc / 256 ≤ _; omega⟩, by show s.f - 1 ≤ 3; omega⟩ (by omega) (by omega) ⟨by show s.a ≤ s.a; omega, by show s.a ≤ s.a + 1; omega⟩
end
end Go.Proofs.Ytkjimgidlpocbaa

namespace Go.Proofs.Ytkjimgidlpocbaa
open Go.RowKit
def nextV (sb : Nat) : Value := .func (.func 49) #[.pointer (some ⟨sb, 0, none⟩)] #[]
theorem pow7 (i : Nat) : (2 : Nat) ^ (7 * i) = 128 ^ i := by rw [Nat.pow_mul]
theorem or_num {a b i : Nat} (ha : a < 128 ^ i) (hb : b < 128) (hi : i ≤ 4) : bits .or .i64 (a : Int) (wrap64 ((b : Int) * 2 ^ (7 * i))) = ((a + b * 128 ^ i : Nat) : Int) ∧ a + b * 128 ^ i < 128 ^ (i + 1) ∧ a + b * 128 ^ i < 34359738368 := by
  have h1 : a + b * 128 ^ i < 128 ^ (i + 1) := by
    have := Nat.mul_le_mul_right (128 ^ i) (show b ≤ 127 by omega)
    rw [Nat.pow_succ]
    omega
  have h2 : (128 : Nat) ^ (i + 1) ≤ 34359738368 := by
    have : (128 : Nat) ^ (i + 1) ≤ 128 ^ 5 := Nat.pow_le_pow_right (by decide) (by omega)
    exact Nat.le_trans this (by decide)
  have e : wrap64 ((b : Int) * 2 ^ (7 * i)) = ((b * 128 ^ i : Nat) : Int) := by
    have e1 : (b : Int) * 2 ^ (7 * i) = ((b * 128 ^ i : Nat) : Int) := by
      rw [← pow7 i]
      simp
    rw [e1]
    exact IntWalk.wrap64_in ((b * 128 ^ i : Nat) : Int) (by omega)
  rw [e]
  refine ⟨?_, h1, by omega⟩
  have h := (bits_nat .i64 36 (by decide) (fun n a b => IntWalk.i64_in n (by omega)) a (b * 128 ^ i) (by omega) (by omega)).2
  rw [h, Nat.or_comm, Nat.mul_comm b, ← pow7 i, ← Nat.two_pow_add_eq_or_of_lt (by rw [pow7]; exact ha) b, Nat.add_comm]
section
variable {W w w' : World} {rb mb cb sb : Nat} {go0 go go' : Option Nat} {st st' : St} {s s' : Sm} {Bd : Nat}
/-- What a number must come to. -/
def NumDone (W : World) (rb mb cb : Nat) (go0 : Option Nat) (sb : Nat) (s : Sm) (st : St) (e : Ending) (w' : World) : Prop :=
  ∃ (n : Nat) (s' : Sm) (go' : Option Nat), e = .returned (.int .i64 (n : Int)) ∧ SW W rb mb cb go0 sb s' ((numT s).on st).2 go' w' ∧ (∀ y, ((numT s).on st).1 = some y → y = ((n : Int), s')) ∧ SmU s' ∧ n < 34359738368 ∧ s.a ≤ s'.a ∧ s'.a ≤ s.a + 5
theorem NumDone.of {n : Nat} (h : SW W rb mb cb go0 sb s' st' go' w') (hq : Ended (numT s) ((n : Int), s') st st') (hu : SmU s') (h1 : n < 34359738368) (ha : s.a ≤ s'.a ∧ s'.a ≤ s.a + 5) : NumDone W rb mb cb go0 sb s st (.returned (.int .i64 (n : Int))) w' := by
  unfold Ended at hq
  refine ⟨n, s', go', rfl, ?_, hq.2, hu, h1, ha.1, ha.2⟩
  rw [hq.1]
  exact h
set_option maxRecDepth 100000 in
set_option maxHeartbeats 2000000 in
theorem number_any (h : SW w rb mb cb go sb s st go w) (hf : st.Fine Bd) (hB : Bd < 1000000000) (hu : SmU s) (ha0 : -100000000000000 ≤ s.a) (ha1 : s.a ≤ 100000000000000) :
    Calls Try.prog 47 #[nextV sb] w fun e w' => NumDone w rb mb cb go sb s st e w' := by
  have HW := Lib.hid h
  have HF := Lib.hid hf
  have HU := Lib.hid hu
  have HQ := Lib.hid (show Rest (numT s) (numF (5 - 0) 0 ((0 : Nat) : Int) s) st st from Rest.start (numT s) st)
  clear h hf hu
  unfold nextV
  go_enter Try.func47, Try.ntmps47
  go_wp2_with fail
  go_loopw [6, 3] (fun iv av wr => ∃ (i a : Nat) (s1 : Sm) (st1 : St) (go1 : Option Nat), i ≤ 5 ∧ iv = .int .i64 (i : Int) ∧ av = .int .i64 (a : Int) ∧ Hid (SW w rb mb cb go sb s1 st1 go1 wr) ∧ Hid (SmU s1) ∧ Hid (st1.Fine Bd) ∧ Hid (Rest (numT s) (numF (5 - i) i (a : Int) s1) st st1) ∧ Hid (a < 128 ^ i ∧ a < 34359738368 ∧ s.a ≤ s1.a ∧ s1.a ≤ s.a + i)) (fun iv _ _ => 10 - (intOf iv).toNat)
  case atStart => exact ⟨0, 0, s, st, go, by omega, rfl, rfl, HW, HU, HF, HQ, Lib.hid ⟨by decide, by decide, by omega, by omega⟩⟩
  case round =>
    clear HW HF HU HQ
    obtain ⟨i, a, s1, st1, go1, hi, rfl, rfl, HW, HU, HF, HQ, HA⟩ := hrel
    by_cases hlt : i < 5
    · have hlt1 : (i : Int) < 5 := by omega
      obtain ⟨m, hm⟩ : ∃ m, 5 - i = m + 1 := ⟨5 - i - 1, by omega⟩
      have hq := HQ.out
      rw [hm] at hq
      have HN := Lib.hid (next_any HW.out.restart HF.out hB HU.out (by have := HA.out; omega) (by have := HA.out; omega))
      have m1 : IntKind.i64.wrap (7 * (i : Int)) = 7 * (i : Int) := IntWalk.i64_in _ (by omega)
      have HQ := Lib.hid hq
      have HM := Lib.hid hm
      clear hq hm
      go_wp2_with fail
      refine HN.out.mono ?_; rintro e w1 ⟨b, s2, go2, rfl, hw2, hans, hu2, hb0, hb1, hs0, hs1⟩
      obtain ⟨c, rfl⟩ := Int.eq_ofNat_of_zero_le hb0
      have hq2 := (show Rest (numT s) ((nextT s1).bind fun r => if r.1 < 128 then .ret ((a : Int) + r.1 % 128 * 128 ^ i, r.2) else numF m (i + 1) ((a : Int) + r.1 % 128 * 128 ^ i) r.2) st st1 from HQ.out).bind HF.out hans
      dsimp only at hq2
      obtain ⟨hor, ho1, ho2⟩ := or_num (a := a) (b := c % 128) (i := i) HA.out.1 (by omega) (by omega)
      have e9 : (a : Int) + (c : Int) % 128 * 128 ^ i = ((a + c % 128 * 128 ^ i : Nat) : Int) := by simp
      rw [e9] at hq2
      rw [show ((c % 128 : Nat) : Int) = (c : Int) % 128 by omega] at hor
      generalize a + c % 128 * 128 ^ i = a2 at hor ho1 ho2 hq2
      have HW2 := Lib.hid (HW.out.rejoin hw2)
      have HF2 := Lib.hid (on_fine (nextT s1) st1 HF.out)
      generalize ((nextT s1).on st1).2 = st2 at HW2 HF2 hq2
      have HA2 := Lib.hid (show a2 < 128 ^ (i + 1) ∧ a2 < 34359738368 ∧ s.a ≤ s2.a ∧ s2.a ≤ s.a + ((i + 1 : Nat) : Int) from ⟨ho1, ho2, by have := HA.out; omega, by have := HA.out; omega⟩)
      have HU2 := Lib.hid hu2
      clear e9 hw2 hans hu2 hs0 hs1 ho1 ho2 HN HQ HW HA HU HF
      by_cases hc : c < 128
      · have hc1 : (c : Int) < 128 := by omega
        rw [if_pos hc1] at hq2
        have HE := Lib.hid hq2.ret
        clear hq2
        go_wp2_with fail
        go_ret
        have := HA2.out
        exact NumDone.of HW2.out HE.out HU2.out (by omega) ⟨by omega, by omega⟩
      · have hc1 : ¬ (c : Int) < 128 := by omega
        rw [if_neg hc1] at hq2
        have hm := HM.out
        have HQ2 := Lib.hid (show Rest (numT s) (numF (5 - (i + 1)) (i + 1) (a2 : Int) s2) st st2 by rw [show 5 - (i + 1) = m by omega]; exact hq2)
        clear hq2 hm
        go_wp2_with fail
        go_roundw
        case rel => exact ⟨i + 1, a2, s2, st2, go2, by omega, by go_num, rfl, HW2, HU2, HF2, HQ2, HA2⟩
        case measure => simp [intOf]; omega
    · have hi5 : i = 5 := by omega
      subst hi5
      have HE := Lib.hid (show Ended (numT s) ((a : Int), s1) st st1 from HQ.out.ret)
      clear HQ
      go_wp2_with fail
      go_ret
      have := HA.out
      exact NumDone.of HW.out HE.out HU.out (by omega) ⟨by omega, by omega⟩
end
end Go.Proofs.Ytkjimgidlpocbaa

namespace Go.Proofs.Ytkjimgidlpocbaa
open Go.RowKit Go.ChangeShapes Go.WideShapes Go.ChangeAt Go.Deep
section
variable {W w w' w1 : World} {rb mb cb sb : Nat} {go0 go go' : Option Nat} {st st' : St} {s s' : Sm} {Bd : Nat} {base sz n : Nat} {t : TypeId} {v : Value} {xs : List Value}
/-- A row of one's own stays, whatever comes out of the bytes. -/
theorem SW.keep (h : SW W rb mb cb go0 sb s st go w) (k : SW w rb mb cb go sb s' st' go' w') (ho : w.ownsRow base t sz v n xs) (hb : W.heap.size ≤ base) (ht : t ≠ 52) : w'.ownsRow base t sz v n xs := by
  obtain ⟨h0, h1 | ⟨g, cap, cur, e1, e2, e3, e4⟩⟩ := ho
  · exact ⟨h0, .inl h1⟩
  · refine ⟨h0, .inr ⟨g, cap, cur, e1, e2, ?_, e4⟩⟩
    have hs := (h.run.own sb rfl).2
    rw [k.run.adv.mod.block g (lt_of_heap e3) ?_]
    · exact e3
    · rintro (e | e)
      · omega
      · exact h.run.far e3 (by omega) ht e
/-- A row of one's own grows. -/
theorem SW.push (h : SW W rb mb cb go0 sb s st go w) (ho : w.ownsRow base t sz v n xs) (hb : W.heap.size ≤ base) (ht : t ≠ 52) (hg : w.grownBy w1 v.ownBlock) : SW W rb mb cb go0 sb s st go w1 := by
  have hm : Mod (fun j => v.ownBlock = some j) w w1 := ⟨hg.os, hg.tape, hg.output, hg.size, fun k hk hn => hg.block k hk (fun e => hn e.symm)⟩
  have hfar : ∀ j, v.ownBlock = some j → ¬ Feet rb mb cb go j ∧ W.heap.size ≤ j := by
    intro j hj
    obtain ⟨h0, ⟨h1, _⟩ | ⟨g, cap, cur, e1, e2, e3, e4⟩⟩ := ho
    · subst h1; cases hj
    · subst e1
      obtain rfl : g = j := by simpa [Value.ownBlock] using hj
      exact ⟨h.run.far e3 (by omega) ht, by omega⟩
  have hsb := (h.run.own sb rfl).2
  refine ⟨⟨h.run.old, h.run.own, h.run.rm.mod hm fun j hj e => (hfar j e).1 hj, h.run.adv.grows, h.run.adv.mod.then hm fun i hi e => ?_⟩, ?_⟩
  · have := (hfar i e).2
    omega
  · refine (hm.block sb (lt_of_heap h.sm) fun e => ?_).trans h.sm
    have := (hfar sb e).2
    omega
/-- What places must come to. -/
def PlacesDone (W : World) (rb mb cb : Nat) (go0 : Option Nat) (sb : Nat) (s : Sm) (st : St) (e : Ending) (w' : World) : Prop :=
  ∃ (v : Value) (l : List Int) (s' : Sm) (go' : Option Nat), e = .returned v ∧ OwnZ w' W.heap.size v l ∧ SW W rb mb cb go0 sb s' ((placesT s).on st).2 go' w' ∧ (∀ y, ((placesT s).on st).1 = some y → y = (l, s')) ∧ SmU s' ∧ s.a ≤ s'.a ∧ s'.a ≤ s.a + 1285
theorem PlacesDone.of {v : Value} {l : List Int} (h : SW W rb mb cb go0 sb s' st' go' w') (ho : OwnZ w' W.heap.size v l) (hq : Ended (placesT s) (l, s') st st') (hu : SmU s') (ha : s.a ≤ s'.a ∧ s'.a ≤ s.a + 1285) : PlacesDone W rb mb cb go0 sb s st (.returned v) w' := by
  unfold Ended at hq
  refine ⟨v, l, s', go', rfl, ho, ?_, hq.2, hu, ha.1, ha.2⟩
  rw [hq.1]
  exact h
set_option maxRecDepth 100000 in
set_option maxHeartbeats 2000000 in
theorem places_any (h : SW w rb mb cb go sb s st go w) (hf : st.Fine Bd) (hB : Bd < 1000000000) (hu : SmU s) (ha0 : -10000000000000 ≤ s.a) (ha1 : s.a ≤ 10000000000000) :
    Calls Try.prog 48 #[nextV sb] w fun e w' => PlacesDone w rb mb cb go sb s st e w' := by
  obtain ⟨i0, e0, e1, e2, e3⟩ := info_parts info_z
  have HI := Lib.hid (And.intro e0 (And.intro e1 (And.intro e2 e3)))
  have HW := Lib.hid h
  have HF := Lib.hid hf
  have HN := Lib.hid (number_any h hf hB hu (by omega) (by omega))
  have HQ := Lib.hid (Rest.start (placesT s) st)
  clear h hf hu e0 e1 e2 e3
  go_enter Try.func48, Try.ntmps48
  go_wp2_with fail
  refine HN.out.mono ?_; rintro e w1 ⟨c, s1, go1, rfl, hw1, hans, hu1, hc1, hs0, hs1⟩
  have hq := (show Rest (placesT s) ((numT s).bind fun r => posF (min r.1.toNat 256) 0 [] r.2) st st from HQ.out).bind HF.out hans
  dsimp only at hq
  obtain ⟨cnt, hcnt⟩ : ∃ cnt, min c 256 = cnt := ⟨_, rfl⟩
  rw [show ((c : Nat) : Int).toNat = c by omega, hcnt] at hq
  have hkn : (if (256 : Int) < (c : Int) then (256 : Int) else (c : Int)) = (cnt : Int) := by split <;> omega
  have hkb : ∀ (ts : Array TypeId) (t : TypeId) (w : World), (Builtin.min_ ts t #[.int .i64 (c : Int), .int .i64 256]).run Try.prog w = .ok (.int .i64 (cnt : Int)) w := fun ts t w => by rw [run_min_int2, hkn]
  have hcb : cnt ≤ 256 := by omega
  have HW1 := Lib.hid hw1
  have HF1 := Lib.hid (on_fine (numT s) st HF.out)
  generalize ((numT s).on st).2 = st1 at HW1 HF1 hq
  have HQ1 := Lib.hid (show Rest (placesT s) (posF (cnt - 0) 0 [] s1) st st1 from hq)
  have HU1 := Lib.hid hu1
  have HA1 := Lib.hid (And.intro hs0 hs1)
  clear HN HW HF HQ hw1 hans hu1 hq hcnt hkn hs0 hs1
  go_wp2_with fail
  go_loopw [8, 4, 3] (fun kv pv lv wr => ∃ (k : Nat) (p : Int) (acc : List Int) (s2 : Sm) (st2 : St) (go2 : Option Nat), k ≤ cnt ∧ kv = .int .i64 (k : Int) ∧ pv = .int .i64 p ∧ Hid (acc.length = k) ∧ Hid (OwnZ wr w.heap.size lv acc) ∧ Hid (SW w rb mb cb go sb s2 st2 go2 wr) ∧ Hid (SmU s2) ∧ Hid (st2.Fine Bd) ∧ Hid (Rest (placesT s) (posF (cnt - k) p acc s2) st st2) ∧ Hid (0 ≤ p ∧ p ≤ 34359738368 * (k : Int) ∧ s.a ≤ s2.a ∧ s2.a ≤ s.a + 5 + 5 * (k : Int))) (fun kv _ _ _ => cnt - (intOf kv).toNat)
  case atStart => exact ⟨0, 0, [], s1, st1, go1, by omega, rfl, rfl, Lib.hid rfl, Lib.hid (OwnZ.nil _ _), HW1, HU1, HF1, HQ1, Lib.hid ⟨by omega, by omega, HA1.out.1, by have := HA1.out.2; omega⟩⟩
  case round =>
    obtain ⟨k, p, acc, s2, st2, go2, hk, rfl, rfl, HL, HO, HW, HU, HF, HQ, HP⟩ := hrel
    clear HW1 HF1 HQ1 HU1 HA1
    by_cases hlt : k < cnt
    · have hlt1 : (k : Int) < (cnt : Int) := by omega
      obtain ⟨j, hj⟩ : ∃ j, cnt - k = j + 1 := ⟨cnt - k - 1, by omega⟩
      have hp := HP.out
      have HN := Lib.hid (number_any HW.out.restart HF.out hB HU.out (by omega) (by omega))
      have hq := HQ.out
      rw [hj] at hq
      have HQ := Lib.hid (show Rest (placesT s) ((numT s2).bind fun r => posF j (p + r.1) (acc ++ [p + r.1]) r.2) st st2 from hq)
      have HJ := Lib.hid hj
      clear hq hp hj
      go_wp2_with fail
      refine HN.out.mono ?_; rintro e w3 ⟨d, s3, go3, rfl, hw3, hans, hu3, hd1, hs0, hs1⟩
      have hq := HQ.out.bind HF.out hans
      dsimp only at hq
      obtain ⟨q, hqp⟩ : ∃ q, p + (d : Int) = q := ⟨_, rfl⟩
      rw [hqp] at hq
      have hp := HP.out
      have t1 : IntKind.i64.wrap (p + (d : Int)) = q := by rw [hqp]; exact IntWalk.i64_in _ (by omega)
      have HW3 := Lib.hid (HW.out.rejoin hw3)
      have HO3 := Lib.hid (HW.out.keep hw3 (HO.out.row HL.out) (Nat.le_refl _) (by decide))
      have HF3 := Lib.hid (on_fine (numT s2) st2 HF.out)
      generalize ((numT s2).on st2).2 = st3 at HW3 HF3 hq
      have hj := HJ.out
      have HQ3 := Lib.hid (show Rest (placesT s) (posF (cnt - (k + 1)) q (acc ++ [q]) s3) st st3 by rw [show cnt - (k + 1) = j by omega]; exact hq)
      have HU3 := Lib.hid hu3
      have HP3 := Lib.hid (show 0 ≤ q ∧ q ≤ 34359738368 * ((k + 1 : Nat) : Int) ∧ s.a ≤ s3.a ∧ s3.a ≤ s.a + 5 + 5 * ((k + 1 : Nat) : Int) from ⟨by omega, by omega, by omega, by omega⟩)
      have HL3 := Lib.hid (show (acc ++ [q]).length = k + 1 by simp [HL.out])
      obtain ⟨ou, cu, hlv, _⟩ := HO.out.reads
      rw [HL.out] at hlv
      subst hlv
      clear hq hqp hp hj hw3 hans hu3 hs0 hs1 HN HQ HW HO HF HU HP HJ hd1
      go_wp2_with (at_builtin; refine wpList_append_own _ rfl (.tmp 14) (.tmp 16) 35 rfl w.heap.size 3 i0 _ 1 8 Try.underlying35 HI.out.1 HI.out.2.1 HI.out.2.2.1 HI.out.2.2.2 rfl (by decide) _ k (zC acc) rfl (World.ownsRow.alloc HO3.out _) ⟨_, 0, none⟩ 1 1 [.int .i64 q] rfl rfl one_cell (by simp [Value.oneCell']) (by unfold maxLen; omega) (by omega) (by have := HW3.out.run.size; simp; omega) ?_; intro v' w5 ho hg _; have HO5 := Lib.hid ho; have HW5 := Lib.hid ((HW3.out.below below_one).push (World.ownsRow.alloc HO3.out _) (Nat.le_refl _) (by decide) hg); clear ho hg)
      go_roundw
      case rel => exact ⟨k + 1, q, acc ++ [q], s3, st3, go3, by omega, by go_num, rfl, HL3, Lib.hid (by unfold OwnZ; rw [zC_snoc, HL3.out]; exact HO5.out), HW5, HU3, HF3, HQ3, HP3⟩
      case measure => simp [intOf]; omega
    · obtain rfl : k = cnt := by omega
      have hq := HQ.out
      rw [Nat.sub_self] at hq
      have HE := Lib.hid hq.ret
      clear hq HQ
      go_wp2_with fail
      go_ret
      have := HP.out
      exact PlacesDone.of HW.out HO.out HE.out HU.out ⟨by omega, by omega⟩
end
end Go.Proofs.Ytkjimgidlpocbaa

namespace Go.Proofs.Ytkjimgidlpocbaa
open Go.RowKit Go.ChangeShapes Go.WideShapes Go.ChangeAt Go.Deep
theorem wraps0 {c : Nat} {d : Int} (hd : 0 + (c : Int) = d) (h1 : d ≤ 100000000000000) : IntKind.i64.wrap d = d ∧ IntKind.i64.wrap (c : Int) = d ∧ wrap64 (c : Int) = d := by
  have e : (c : Int) = d := by omega
  rw [e]
  exact ⟨IntWalk.i64_in _ (by omega), IntWalk.i64_in _ (by omega), IntWalk.wrap64_in _ (by omega)⟩
theorem wraps1 {c : Nat} {d d0 : Int} (hd : d0 + (c : Int) = d) (h0 : 0 ≤ d) (h1 : d ≤ 100000000000000) : IntKind.i64.wrap (d0 + (c : Int)) = d ∧ IntKind.i64.wrap d = d ∧ wrap64 (d0 + (c : Int)) = d := by
  rw [hd]
  exact ⟨IntWalk.i64_in _ (by omega), IntWalk.i64_in _ (by omega), IntWalk.wrap64_in _ (by omega)⟩
section
variable {W w w' w1 : World} {rb mb cb sb : Nat} {go0 go go' : Option Nat} {st st' : St} {s s' : Sm} {Bd : Nat} {base sz n : Nat} {t : TypeId} {v : Value} {xs : List Value}
theorem SW.keepE (h : SW W rb mb cb go0 sb s st go w) (k : SW w rb mb cb go sb s' st' go' w') {l : List En} (ho : OwnE w base v l) (hb : W.heap.size ≤ base) : OwnE w' base v l := by
  obtain ⟨ps, h1, h2, h3⟩ := ho
  refine ⟨ps, h1, h.keep k h2 hb (by decide), fun j e hj => ?_⟩
  obtain ⟨u, h4, h5⟩ := h3 j e hj
  exact ⟨u, h4, h.keep k h5 hb (by decide)⟩
/-- One entry more. -/
theorem SW.pushE (h : SW W rb mb cb go0 sb s st go w) {l : List En} {e : En} {u v' : Value} {o : Obj} {ps : List Value} {n : Nat} (hn : l.length = n) (h0 : ps.length = l.length) (h1 : w.ownsRow W.heap.size 51 2 v n (entC l ps)) (h2 : ∀ (j : Nat) (e : En), l[j]? = some e → ∃ u, ps[j]? = some u ∧ OwnZ w W.heap.size u e.2)
    (hu : OwnZ w W.heap.size u e.2) (ho : w1.ownsRow W.heap.size 51 2 v' (n + 1) (entC l ps ++ [.int .i64 e.1, u])) (hg : (w.alloc o).grownBy w1 v.ownBlock) : OwnE w1 W.heap.size v' (l ++ [e]) ∧ SW W rb mb cb go0 sb s st go w1 := by
  subst hn
  have hb1 : Below w.heap.size w (w.alloc o) := below_one
  have hz := h.run.size
  refine ⟨(OwnE.push_from (W := w.alloc o) (B := W.heap.size) (Nat.le_refl _) (by simp; omega) (Below.refl _ _) h0 (World.ownsRow.alloc h1 _) (fun j x hj => ?_) (OwnZ.below hu hb1) ho hg).1, (h.below hb1).push (World.ownsRow.alloc h1 _) (Nat.le_refl _) (by decide) hg⟩
  obtain ⟨y, k1, k2⟩ := h2 j x hj
  exact ⟨y, k1, k2.below hb1⟩
/-- What entries must come to. -/
def EntDone (W : World) (rb mb cb : Nat) (go0 : Option Nat) (sb : Nat) (st : St) (p : Pr (List En)) (e : Ending) (w' : World) : Prop :=
  ∃ (v : Value) (l : List En) (s' : Sm) (go' : Option Nat), e = .returned v ∧ OwnE w' W.heap.size v l ∧ SW W rb mb cb go0 sb s' (p.on st).2 go' w' ∧ (∀ y, (p.on st).1 = some y → y = l)
theorem EntDone.of {v : Value} {l : List En} {p : Pr (List En)} (h : SW W rb mb cb go0 sb s' st' go' w') (ho : OwnE w' W.heap.size v l) (hq : Ended p l st st') : EntDone W rb mb cb go0 sb st p (.returned v) w' := by
  unfold Ended at hq
  refine ⟨v, l, s', go', rfl, ho, ?_, hq.2⟩
  rw [hq.1]
  exact h
set_option maxRecDepth 100000 in
set_option maxHeartbeats 3000000 in
theorem entries_any (h : SW w rb mb cb go sb s st go w) (hf : st.Fine Bd) (hB : Bd < 1000000000) (hu : SmU s) (ha0 : -1000000000000 ≤ s.a) (ha1 : s.a ≤ 1000000000000) (m : Nat) (hm : m ≤ 64) (most : Int) :
    Calls Try.prog 35 #[nextV sb, .int .i64 (m : Int), .int .i64 most] w fun e w' => EntDone w rb mb cb go sb st (entF m 0 0 most [] s) e w' := by
  obtain ⟨iE, e0, e1, e2, e3⟩ := info_parts info_ent
  have HIE := Lib.hid (And.intro e0 (And.intro e1 (And.intro e2 e3)))
  obtain ⟨p, hp⟩ : ∃ p, p = entF m 0 0 most [] s := ⟨_, rfl⟩
  rw [← hp]
  have HW := Lib.hid h
  have HF := Lib.hid hf
  have HU := Lib.hid hu
  have HQ := Lib.hid (show Rest p (entF (m - 0) 0 0 most [] s) st st by rw [hp]; exact Rest.start _ st)
  clear h hf hu hp e0 e1 e2 e3
  go_enter Try.func35, Try.ntmps35
  go_wp2_with fail
  go_loopw [11, 8, 7] (fun kv dv lv wr => ∃ (i : Nat) (doc : Int) (acc : List En) (s1 : Sm) (st1 : St) (go1 : Option Nat), i ≤ m ∧ kv = .int .i64 (i : Int) ∧ dv = .int .i64 doc ∧ Hid (acc.length = i) ∧ Hid (OwnE wr w.heap.size lv acc) ∧ Hid (SW w rb mb cb go sb s1 st1 go1 wr) ∧ Hid (SmU s1) ∧ Hid (st1.Fine Bd) ∧ Hid (Rest p (entF (m - i) i doc most acc s1) st st1) ∧ Hid (0 ≤ doc ∧ doc ≤ 34359738368 * (i : Int) ∧ s.a ≤ s1.a ∧ s1.a ≤ s.a + 1290 * (i : Int))) (fun kv _ _ _ => m - (intOf kv).toNat)
  case atStart => exact ⟨0, 0, [], s, st, go, by omega, rfl, rfl, Lib.hid rfl, Lib.hid (OwnE.nil _ _), HW, HU, HF, HQ, Lib.hid ⟨by omega, by omega, by omega, by omega⟩⟩
  case round =>
    clear HW HF HU HQ
    obtain ⟨i, doc, acc, s1, st1, go1, hi, rfl, rfl, HL, HO, HW, HU, HF, HQ, HP⟩ := hrel
    by_cases hlt : i < m
    · have hlt1 : (i : Int) < (m : Int) := by omega
      obtain ⟨j, hj⟩ : ∃ j, m - i = j + 1 := ⟨m - i - 1, by omega⟩
      have hp := HP.out
      have HN := Lib.hid (number_any HW.out.restart HF.out hB HU.out (by omega) (by omega))
      have hq := HQ.out
      rw [hj] at hq
      have HQb := Lib.hid (show Rest p ((numT s1).bind fun r => if most ≤ docOf i doc + r.1 then .ret acc else (placesT r.2).bind fun q => entF j (i + 1) (docOf i doc + r.1) most (acc ++ [(docOf i doc + r.1, q.1)]) q.2) st st1 from hq)
      obtain ⟨r, hr⟩ : ∃ r, i % 4 = r := ⟨_, rfl⟩
      have r1 : (i : Int) % 4 = (r : Int) := by omega
      have r2 : (i : Int).tmod 4 = (r : Int) := by rw [Int.tmod_eq_emod_of_nonneg (by omega)]; exact r1
      obtain ⟨d0, hd0⟩ : ∃ d0, docOf i doc = d0 := ⟨_, rfl⟩
      rw [hd0] at HQb
      clear HQ
      have hd0b : 0 ≤ d0 ∧ d0 ≤ 34359738368 * (i : Int) := by rw [← hd0]; unfold docOf; split <;> omega
      have HJ := Lib.hid hj
      have hcase : (r = 0 ∧ d0 = 0) ∨ (r ≠ 0 ∧ d0 = doc) := by
        unfold docOf at hd0
        by_cases hr0 : r = 0
        · rw [if_pos (by omega)] at hd0
          exact .inl ⟨hr0, hd0.symm⟩
        · rw [if_neg (by omega)] at hd0
          exact .inr ⟨hr0, hd0.symm⟩
      have HAft : Hid (∀ (c : Nat), c < 34359738368 → IntKind.i64.wrap (d0 + (c : Int)) = d0 + (c : Int)) := Lib.hid fun c hc => IntWalk.i64_in _ (by omega)
      have HB0 := Lib.hid hd0b
      clear hq hp hj hd0 hd0b
      have HCut : Hid (∀ (X : Prop), (r = 0 → d0 = 0 → X) → (¬ r = 0 → d0 = doc → X) → X) := Lib.hid fun X h1 h2 => by
        rcases hcase with ⟨a, b⟩ | ⟨a, b⟩
        · exact h1 a b
        · exact h2 a b
      clear hcase hr
      by_cases hr0 : r = 0
      · have hd : d0 = 0 := HCut.out _ (fun _ h => h) (fun h => absurd hr0 h)
        have b0 : ((r : Int) == 0) = true := by simp [hr0]
        subst hd
        clear HCut hr0
        go_wp2_with fail
        refine HN.out.mono ?_; rintro e w3 ⟨c, s2, go2, rfl, hw2, hans, hu2, hc2, hs0, hs1⟩
        have hq := HQb.out.bind HF.out hans
        dsimp only at hq
        have t1 := HAft.out c hc2
        obtain ⟨d, hd⟩ : ∃ d, 0 + (c : Int) = d := ⟨_, rfl⟩
        rw [hd] at hq t1
        have HT := Lib.hid (show IntKind.i64.wrap d = d ∧ IntKind.i64.wrap (c : Int) = d ∧ wrap64 (c : Int) = d from wraps0 hd (by have := HP.out; have := HB0.out; omega))
        clear t1
        have hp := HP.out
        have hb0 := HB0.out
        have HW2 := Lib.hid (HW.out.rejoin hw2)
        have HO2 := Lib.hid (HW.out.keepE hw2 HO.out (Nat.le_refl _))
        have HF2 := Lib.hid (on_fine (numT s1) st1 HF.out)
        generalize ((numT s1).on st1).2 = st2 at HW2 HF2 hq
        have HU2 := Lib.hid hu2
        have HP2 := Lib.hid (show 0 ≤ d ∧ d ≤ 34359738368 * ((i + 1 : Nat) : Int) ∧ s.a ≤ s2.a ∧ s2.a ≤ s.a + 1290 * (i : Int) + 5 from ⟨by omega, by omega, by omega, by omega⟩)
        have HD := Lib.hid hd
        clear hd hp hb0 hw2 hans hu2 hs0 hs1 HN HQb HW HO HF HU HP HAft HB0 hc2
        by_cases hge : most ≤ d
        · have g1 : decide (d ≥ most) = true := decide_eq_true hge
          have g2 : decide (most ≤ d) = true := decide_eq_true hge
          have g3 : ¬ d < most := by omega
          rw [if_pos hge] at hq
          have HE := Lib.hid hq.ret
          clear hq
          obtain ⟨t1, t2, t3⟩ := HT.out
          go_wp2_with fail
          go_ret
          exact EntDone.of HW2.out HO2.out HE.out
        · have g1 : decide (d ≥ most) = false := decide_eq_false hge
          have g2 : decide (most ≤ d) = false := decide_eq_false hge
          have g3 : d < most := by omega
          have g4 : decide (d < most) = true := decide_eq_true g3
          rw [if_neg hge] at hq
          have HQ2 := Lib.hid hq
          have hp := HP2.out
          have HPl := Lib.hid (places_any HW2.out.restart HF2.out hB HU2.out (by omega) (by omega))
          clear hq hp
          obtain ⟨t1, t2, t3⟩ := HT.out
          go_wp2_with fail
          clear t1 t2 t3
          refine HPl.out.mono ?_; rintro e w4 ⟨u, ps, s3, go3, rfl, hou, hw3, hans, hu3, hs0, hs1⟩
          have hq := HQ2.out.bind HF2.out hans
          dsimp only at hq
          have hp := HP2.out
          have HW3 := Lib.hid (HW2.out.rejoin hw3)
          have HO3 := Lib.hid (HW2.out.keepE hw3 HO2.out (Nat.le_refl _))
          have HF3 := Lib.hid (on_fine (placesT s2) st2 HF2.out)
          have hzz := HW2.out.run.size
          have HZ3 := Lib.hid (show OwnZ w4 w.heap.size u ps from own_base hou hzz)
          generalize ((placesT s2).on st2).2 = st3 at HW3 HF3 hq
          have hj := HJ.out
          have HQ3 := Lib.hid (show Rest p (entF (m - (i + 1)) (i + 1) d most (acc ++ [(d, ps)]) s3) st st3 by rw [show m - (i + 1) = j by omega]; exact hq)
          have HU3 := Lib.hid hu3
          have HP3 := Lib.hid (show 0 ≤ d ∧ d ≤ 34359738368 * ((i + 1 : Nat) : Int) ∧ s.a ≤ s3.a ∧ s3.a ≤ s.a + 1290 * ((i + 1 : Nat) : Int) from ⟨by omega, by omega, by omega, by omega⟩)
          have HL3 := Lib.hid (show (acc ++ [(d, ps)]).length = i + 1 by simp [HL.out])
          obtain ⟨pss, hp1, hp2, hp3⟩ := HO3.out
          rw [HL.out] at hp2
          obtain ⟨ou, cu, hu, _⟩ := HZ3.out.reads
          subst hu
          obtain ⟨kp, hkp⟩ : ∃ kp, ps.length = kp := ⟨_, rfl⟩
          rw [hkp] at HZ3 ⊢
          have HRow := Lib.hid hp2
          have HPush := Lib.hid (fun (v' : Value) (w8 : World) (ho : w8.ownsRow w.heap.size 51 2 v' (i + 1) (entC acc pss ++ [.int .i64 d, .slice ou kp cu])) (hg : (w4.alloc (.cells #[.int .i64 d, .slice ou kp cu] 51)).grownBy w8 _) => HW3.out.pushE (e := (d, ps)) HL.out hp1 hp2 hp3 HZ3.out ho hg)
          clear hq hp hj hou hw3 hans hu3 hs0 hs1 hzz hp1 hp2 hp3 hkp HO3 HPl HQ2
          go_wp2_with (at_builtin; refine wpList_append_own _ rfl (.tmp 24) (.tmp 29) 32 rfl w.heap.size 51 iE _ 2 32 Try.underlying32 HIE.out.1 HIE.out.2.1 HIE.out.2.2.1 HIE.out.2.2.2 rfl (by decide) _ i (entC acc pss) rfl (World.ownsRow.alloc HRow.out _) ⟨_, 0, none⟩ 1 1 [.int .i64 d, .slice ou kp cu] rfl rfl two_cell (by simp [Value.oneCell']) (by unfold maxLen; omega) (by omega) (by have := HW3.out.run.size; simp; omega) ?_; intro v' w8 ho hg _; have HI8 := Lib.hid (HPush.out v' w8 ho hg); clear ho hg)
          go_roundw
          case rel => exact ⟨i + 1, d, acc ++ [(d, ps)], s3, st3, go3, by omega, by go_num, rfl, HL3, Lib.hid HI8.out.1, Lib.hid HI8.out.2, HU3, HF3, HQ3, HP3⟩
          case measure => simp [intOf]; omega
      · have hd : d0 = doc := HCut.out _ (fun h => absurd h hr0) (fun _ h => h)
        have b0 : ((r : Int) == 0) = false := by simpa using hr0
        subst hd
        clear HCut hr0
        go_wp2_with fail
        refine HN.out.mono ?_; rintro e w3 ⟨c, s2, go2, rfl, hw2, hans, hu2, hc2, hs0, hs1⟩
        have hq := HQb.out.bind HF.out hans
        dsimp only at hq
        have t1 := HAft.out c hc2
        obtain ⟨d, hd⟩ : ∃ d, d0 + (c : Int) = d := ⟨_, rfl⟩
        have HT := Lib.hid (show IntKind.i64.wrap (d0 + (c : Int)) = d ∧ IntKind.i64.wrap d = d ∧ wrap64 (d0 + (c : Int)) = d from wraps1 hd (by have := HP.out; have := HB0.out; omega) (by have := HP.out; have := HB0.out; omega))
        rw [hd] at hq
        clear t1
        have hp := HP.out
        have hb0 := HB0.out
        have HW2 := Lib.hid (HW.out.rejoin hw2)
        have HO2 := Lib.hid (HW.out.keepE hw2 HO.out (Nat.le_refl _))
        have HF2 := Lib.hid (on_fine (numT s1) st1 HF.out)
        generalize ((numT s1).on st1).2 = st2 at HW2 HF2 hq
        have HU2 := Lib.hid hu2
        have HP2 := Lib.hid (show 0 ≤ d ∧ d ≤ 34359738368 * ((i + 1 : Nat) : Int) ∧ s.a ≤ s2.a ∧ s2.a ≤ s.a + 1290 * (i : Int) + 5 from ⟨by omega, by omega, by omega, by omega⟩)
        have HD := Lib.hid hd
        clear hd hp hb0 hw2 hans hu2 hs0 hs1 HN HQb HW HO HF HU HP HAft HB0 hc2
        by_cases hge : most ≤ d
        · have g1 : decide (d ≥ most) = true := decide_eq_true hge
          have g2 : decide (most ≤ d) = true := decide_eq_true hge
          have g3 : ¬ d < most := by omega
          rw [if_pos hge] at hq
          have HE := Lib.hid hq.ret
          clear hq
          obtain ⟨t1, t2, t3⟩ := HT.out
          go_wp2_with fail
          go_ret
          exact EntDone.of HW2.out HO2.out HE.out
        · have g1 : decide (d ≥ most) = false := decide_eq_false hge
          have g2 : decide (most ≤ d) = false := decide_eq_false hge
          have g3 : d < most := by omega
          have g4 : decide (d < most) = true := decide_eq_true g3
          rw [if_neg hge] at hq
          have HQ2 := Lib.hid hq
          have hp := HP2.out
          have HPl := Lib.hid (places_any HW2.out.restart HF2.out hB HU2.out (by omega) (by omega))
          clear hq hp
          obtain ⟨t1, t2, t3⟩ := HT.out
          go_wp2_with fail
          clear t1 t2 t3
          refine HPl.out.mono ?_; rintro e w4 ⟨u, ps, s3, go3, rfl, hou, hw3, hans, hu3, hs0, hs1⟩
          have hq := HQ2.out.bind HF2.out hans
          dsimp only at hq
          have hp := HP2.out
          have HW3 := Lib.hid (HW2.out.rejoin hw3)
          have HO3 := Lib.hid (HW2.out.keepE hw3 HO2.out (Nat.le_refl _))
          have HF3 := Lib.hid (on_fine (placesT s2) st2 HF2.out)
          have hzz := HW2.out.run.size
          have HZ3 := Lib.hid (show OwnZ w4 w.heap.size u ps from own_base hou hzz)
          generalize ((placesT s2).on st2).2 = st3 at HW3 HF3 hq
          have hj := HJ.out
          have HQ3 := Lib.hid (show Rest p (entF (m - (i + 1)) (i + 1) d most (acc ++ [(d, ps)]) s3) st st3 by rw [show m - (i + 1) = j by omega]; exact hq)
          have HU3 := Lib.hid hu3
          have HP3 := Lib.hid (show 0 ≤ d ∧ d ≤ 34359738368 * ((i + 1 : Nat) : Int) ∧ s.a ≤ s3.a ∧ s3.a ≤ s.a + 1290 * ((i + 1 : Nat) : Int) from ⟨by omega, by omega, by omega, by omega⟩)
          have HL3 := Lib.hid (show (acc ++ [(d, ps)]).length = i + 1 by simp [HL.out])
          obtain ⟨pss, hp1, hp2, hp3⟩ := HO3.out
          rw [HL.out] at hp2
          obtain ⟨ou, cu, hu, _⟩ := HZ3.out.reads
          subst hu
          obtain ⟨kp, hkp⟩ : ∃ kp, ps.length = kp := ⟨_, rfl⟩
          rw [hkp] at HZ3 ⊢
          have HRow := Lib.hid hp2
          have HPush := Lib.hid (fun (v' : Value) (w8 : World) (ho : w8.ownsRow w.heap.size 51 2 v' (i + 1) (entC acc pss ++ [.int .i64 d, .slice ou kp cu])) (hg : (w4.alloc (.cells #[.int .i64 d, .slice ou kp cu] 51)).grownBy w8 _) => HW3.out.pushE (e := (d, ps)) HL.out hp1 hp2 hp3 HZ3.out ho hg)
          clear hq hp hj hou hw3 hans hu3 hs0 hs1 hzz hp1 hp2 hp3 hkp HO3 HPl HQ2
          go_wp2_with (at_builtin; refine wpList_append_own _ rfl (.tmp 24) (.tmp 29) 32 rfl w.heap.size 51 iE _ 2 32 Try.underlying32 HIE.out.1 HIE.out.2.1 HIE.out.2.2.1 HIE.out.2.2.2 rfl (by decide) _ i (entC acc pss) rfl (World.ownsRow.alloc HRow.out _) ⟨_, 0, none⟩ 1 1 [.int .i64 d, .slice ou kp cu] rfl rfl two_cell (by simp [Value.oneCell']) (by unfold maxLen; omega) (by omega) (by have := HW3.out.run.size; simp; omega) ?_; intro v' w8 ho hg _; have HI8 := Lib.hid (HPush.out v' w8 ho hg); clear ho hg)
          go_roundw
          case rel => exact ⟨i + 1, d, acc ++ [(d, ps)], s3, st3, go3, by omega, by go_num, rfl, HL3, Lib.hid HI8.out.1, Lib.hid HI8.out.2, HU3, HF3, HQ3, HP3⟩
          case measure => simp [intOf]; omega
    · obtain rfl : i = m := by omega
      have hq := HQ.out
      rw [Nat.sub_self] at hq
      have HE := Lib.hid hq.ret
      clear hq HQ
      go_wp2_with fail
      go_ret
      exact EntDone.of HW.out HO.out HE.out
end
end Go.Proofs.Ytkjimgidlpocbaa

namespace Go.Proofs.Ytkjimgidlpocbaa
open Go.RowKit
/-- Blocks of one's own turn beside a run. -/
theorem Adv.own {S : Nat → Prop} {rb mb cb : Nat} {W w w' : World} {go0 go go' : Option Nat} (h : Adv rb mb cb W go0 w go) (k : AdvS S rb mb cb w go w' go') (hS : ∀ k, S k → W.heap.size ≤ k) : Adv rb mb cb W go0 w' go' := by
  refine ⟨?_, h.mod.then k.mod ?_⟩
  · rcases k.grows with e | ⟨g, e, hg⟩
    · rw [e]; exact h.grows
    · exact .inr ⟨g, e, Nat.le_trans h.mod.size hg⟩
  · rintro i hi (e | e | e | e)
    · have := hS i e; omega
    · exact .inl e
    · rcases h.grows with e' | ⟨g, e', hg⟩
      · exact .inr (.inl (e' ▸ e))
      · rw [e'] at e; cases e; omega
    · exact .inr (.inr e)
theorem bind_ret {α : Type} : ∀ p : Pr α, (p.bind fun x => .ret x) = p
  | .ret _ => rfl
  | .load a k => congrArg (Pr.load a) (funext fun v => bind_ret (k v))
  | .store a v k => congrArg (Pr.store a v) (bind_ret k)
/-- What a function that answers a value must come to. -/
def AnsDone {α : Type} (V : α → Value → World → Prop) (W : World) (rb mb cb : Nat) (go0 : Option Nat) (st : St) (p : Pr α) (e : Ending) (w' : World) : Prop :=
  ∃ (x : α) (v : Value) (go' : Option Nat), e = .returned v ∧ V x v w' ∧ RM w' rb mb cb go' true (p.on st).2 ∧ Adv rb mb cb W go0 w' go' ∧ ∀ y, (p.on st).1 = some y → y = x
theorem AnsDone.of {α : Type} {V : α → Value → World → Prop} {W w' : World} {rb mb cb : Nat} {go0 go' : Option Nat} {st st' : St} {p : Pr α} {x : α} {v : Value} (hr : RM w' rb mb cb go' true st') (ha : Adv rb mb cb W go0 w' go') (hq : Ended p x st st') (hv : V x v w') : AnsDone V W rb mb cb go0 st p (.returned v) w' := by
  unfold Ended at hq
  refine ⟨x, v, go', rfl, hv, ?_, ha, hq.2⟩
  rw [hq.1]
  exact hr
section
variable {w : World} {rb mb cb : Nat} {go : Option Nat} {st : St} {Bd : Nat}
set_option maxHeartbeats 1000000 in
theorem docs_any (a : Int) (hrm : RM w rb mb cb go true st) (hf : st.Fine Bd) (hB : Bd < 1000000000) :
    Calls Try.prog 25 #[.pointer (some ⟨rb, 0, none⟩), .int .i64 a] w fun e w' => AnsDone (fun x v _ => v = .int .i64 x ∧ -1 ≤ x ∧ x ≤ 4294967295) w rb mb cb go st (docsT a) e w' := by
  have HR := Lib.hid (RunW.start hrm)
  have HF := Lib.hid hf
  have HQ := Lib.hid (show Rest (docsT a) (.load a fun v => .ret (v - 1)) st st from Rest.start (docsT a) st)
  clear hrm hf
  go_enter Try.func25, Try.ntmps25
  go_wp2_with fail
  refine (run_load HR.out.rm hB HF.out.ok a).mono ?_; rintro e w2 ⟨rfl, go2, hr2, ha2⟩
  have HR2 := Lib.hid (HR.out.access hr2 ha2)
  have HE := Lib.hid (HQ.out.load HF.out).ret
  have hu := (HF.out.ok.load a).2
  obtain ⟨v, hv⟩ : ∃ v, (st.load a).1 = v := ⟨_, rfl⟩
  rw [hv] at hu HE ⊢
  obtain ⟨u0, u1⟩ := hu
  have t1 : IntKind.i64.wrap v = v := IntWalk.i64_in _ (by omega)
  have t2 : IntKind.i64.wrap (v - 1) = v - 1 := IntWalk.i64_in _ (by omega)
  clear hv hr2 ha2 HR HQ
  go_wp2_with fail
  go_ret
  exact AnsDone.of HR2.out.rm HR2.out.adv HE.out ⟨rfl, by omega, by omega⟩
set_option maxHeartbeats 1000000 in
theorem bytes_any (w : World) (rb : Nat) (a : Int) :
    Calls Try.prog 36 #[.pointer (some ⟨rb, 0, none⟩), .int .i64 a] w fun e w' => e = .returned (nextV w.heap.size) ∧ w'.heap[w.heap.size]? = some (.cells (smC rb ⟨a, 0, 0⟩) 82 (0, 0)) ∧ Below w.heap.size w w' := by
  go_enter Try.func36, Try.ntmps36
  go_wp2_with fail
  go_ret
  exact ⟨rfl, heap_alloc_new w _, below_one⟩
/-- A run with bytes of its own on their way. -/
theorem SW.begin {W w : World} {rb mb cb sb : Nat} {go0 go : Option Nat} {st : St} {s : Sm} (h : RunW W rb mb cb go0 st go w) (hk : w.heap[sb]? = some (.cells (smC rb s) 82 (0, 0))) (hW : W.heap.size ≤ sb) : SW w rb mb cb go sb s st go w :=
  ⟨RunS.start h.rm fun k e => by subst e; exact ⟨h.far hk hW (by decide), lt_of_heap hk⟩, hk⟩
set_option maxRecDepth 100000 in
set_option maxHeartbeats 2000000 in
theorem near_any (b : Int) (n : Nat) (most : Int) (hrm : RM w rb mb cb go true st) (hf : st.Fine Bd) (hB : Bd < 1000000000) (hb0 : -1000000000000 ≤ b) (hb1 : b ≤ 1000000000000) (hn : n ≤ 64) :
    Calls Try.prog 37 #[.pointer (some ⟨rb, 0, none⟩), .int .i64 b, .int .i64 (n : Int), .int .i64 most] w fun e w' => AnsDone (fun x v _ => v = .int .i64 x ∧ 0 ≤ x ∧ x ≤ 64) w rb mb cb go st (nearF b n most ((n + 3) / 4) 0 0 0) e w' := by
  obtain ⟨p, hp⟩ : ∃ p, p = nearF b n most ((n + 3) / 4) 0 0 0 := ⟨_, rfl⟩
  rw [← hp]
  have HR := Lib.hid (RunW.start hrm)
  have HF := Lib.hid hf
  obtain ⟨m, hm⟩ : ∃ m, (n + 3) / 4 = m := ⟨_, rfl⟩
  rw [hm] at hp
  have HQ := Lib.hid (show Rest p (nearF b n most (m - 0) 0 0 0) st st by rw [hp]; exact Rest.start _ st)
  have HM := Lib.hid hm
  clear hrm hf hp hm
  go_enter Try.func37, Try.ntmps37
  go_wp2_with fail
  go_loopw [11, 9, 10] (fun iv cv lv wr => ∃ (k i : Nat) (count least : Int) (st1 : St) (go1 : Option Nat), k ≤ m ∧ iv = .int .i64 (i : Int) ∧ cv = .int .i64 count ∧ lv = .int .i64 least ∧ Hid (i = 4 * k) ∧ Hid (0 ≤ count ∧ count ≤ 64 ∧ 0 ≤ least ∧ least ≤ 4294967296) ∧ Hid (RunW w rb mb cb go st1 go1 wr) ∧ Hid (st1.Fine Bd) ∧ Hid (Rest p (nearF b n most (m - k) k count least) st st1)) (fun iv _ _ _ => 100 - (intOf iv).toNat)
  case atStart => exact ⟨0, 0, 0, 0, st, go, by omega, rfl, rfl, rfl, Lib.hid rfl, Lib.hid ⟨by omega, by omega, by omega, by omega⟩, HR, HF, HQ⟩
  case round =>
    clear HR HF HQ
    obtain ⟨k, i, count, least, st1, go1, hk, rfl, rfl, rfl, HI, HC, HR, HF, HQ⟩ := hrel
    have hi := HI.out
    have hm := HM.out
    by_cases hlt : i < n
    · have hlt1 : (i : Int) < (n : Int) := by omega
      obtain ⟨j, hj⟩ : ∃ j, m - k = j + 1 := ⟨m - k - 1, by omega⟩
      have hc := HC.out
      have k1 : ((i : Int)).tdiv 4 = (k : Int) := by rw [Int.tdiv_eq_ediv_of_nonneg (by omega)]; omega
      have k2 : (i : Int) / 4 = (k : Int) := by omega
      have k3 : IntKind.i64.wrap (k : Int) = (k : Int) := IntWalk.i64_in _ (by omega)
      have k4 : IntKind.i64.wrap (b + (k : Int)) = b + (k : Int) := IntWalk.i64_in _ (by omega)
      have k5 : IntKind.i64.wrap ((i : Int) + 4) = (i : Int) + 4 := IntWalk.i64_in _ (by omega)
      obtain ⟨c2, hc2⟩ : ∃ c2 : Int, min (4 * (k : Int) + 4) (n : Int) = c2 := ⟨_, rfl⟩
      have hkn : (if (n : Int) < (i : Int) + 4 then (n : Int) else (i : Int) + 4) = c2 := by split <;> omega
      have hkb : ∀ (ts : Array TypeId) (t : TypeId) (w : World), (Builtin.min_ ts t #[.int .i64 ((i : Int) + 4), .int .i64 (n : Int)]).run Try.prog w = .ok (.int .i64 c2) w := fun ts t w => by rw [run_min_int2, hkn]
      have hq := HQ.out
      rw [hj] at hq
      have HQb := Lib.hid (show Rest p (.load (b + k) fun v => nearF b n most j (k + 1) (if least < most then c2 else count) (max least (v / 65536 + 1))) st st1 by rw [← hc2]; exact hq)
      have HC2 := Lib.hid (show 0 ≤ c2 ∧ c2 ≤ 64 by omega)
      have HJ := Lib.hid (show m - (k + 1) = j ∧ k + 1 ≤ m by omega)
      have HQ3 := Lib.hid (HQb.out.load HF.out)
      have hu := (HF.out.ok.load (b + k)).2
      obtain ⟨v, hv⟩ : ∃ v, (st1.load (b + k)).1 = v := ⟨_, rfl⟩
      have HLd := Lib.hid (run_load HR.out.rm hB HF.out.ok (b + k))
      have HF3 := Lib.hid (HF.out.load (b + k))
      rw [hv] at hu HQ3 HLd
      obtain ⟨st3, hst3⟩ : ∃ st3, (st1.load (b + k)).2 = st3 := ⟨_, rfl⟩
      rw [hst3] at HQ3 HLd HF3
      obtain ⟨u0, u1⟩ := hu
      obtain ⟨y, hy⟩ : ∃ y, v / 65536 = y := ⟨_, rfl⟩
      have hy0 : 0 ≤ y ∧ y ≤ 65535 := by omega
      have k6 : IntKind.i64.wrap (y + 1) = y + 1 := IntWalk.i64_in _ (by omega)
      obtain ⟨l2, hl2⟩ : ∃ l2, max least (y + 1) = l2 := ⟨_, rfl⟩
      have hxn : (if y + 1 > least then y + 1 else least) = l2 := by split <;> omega
      have hxb : ∀ (ts : Array TypeId) (t : TypeId) (w : World), (Builtin.max_ ts t #[.int .i64 least, .int .i64 (y + 1)]).run Try.prog w = .ok (.int .i64 l2) w := fun ts t w => by rw [run_max_int2, hxn]
      have HPt := Lib.hid (fun w => lands_part w v u0 u1)
      rw [hy] at HPt
      have hq3 := HQ3.out
      rw [hy, hl2] at hq3
      have HQ3 := Lib.hid hq3
      have HL2 := Lib.hid (show 0 ≤ l2 ∧ l2 ≤ 4294967296 by omega)
      have HI2 := Lib.hid (show i + 4 = 4 * (k + 1) by omega)
      clear hq3 hc hc2 hkn hq hv hst3 hy hl2 hxn hj hy0 hi hm HQ HQb
      by_cases hm : least < most
      · have hq3 := HQ3.out
        rw [if_pos hm] at hq3
        have HQ4 := Lib.hid hq3
        clear hq3 HQ3
        go_wp2_with fail
        refine HLd.out.mono ?_; rintro e w3 ⟨rfl, go3, hr3, ha3⟩
        have HR3 := Lib.hid (HR.out.access hr3 ha3)
        clear hr3 ha3 HLd HR
        go_wp2_with fail
        refine (HPt.out w3).mono ?_; rintro e w4 ⟨rfl, rfl⟩
        go_wp2_with fail
        go_roundw
        case rel => exact ⟨k + 1, i + 4, c2, l2, st3, go3, HJ.out.2, by go_num, rfl, rfl, HI2, Lib.hid ⟨HC2.out.1, by have := HC2.out.2; omega, HL2.out.1, HL2.out.2⟩, HR3, HF3, by rw [HJ.out.1]; exact HQ4⟩
        case measure => simp [intOf]; omega
      · have hq3 := HQ3.out
        rw [if_neg hm] at hq3
        have HQ4 := Lib.hid hq3
        have hm2 : most ≤ least := by omega
        clear hq3 HQ3
        go_wp2_with fail
        refine HLd.out.mono ?_; rintro e w3 ⟨rfl, go3, hr3, ha3⟩
        have HR3 := Lib.hid (HR.out.access hr3 ha3)
        clear hr3 ha3 HLd HR
        go_wp2_with fail
        refine (HPt.out w3).mono ?_; rintro e w4 ⟨rfl, rfl⟩
        go_wp2_with fail
        go_roundw
        case rel => exact ⟨k + 1, i + 4, count, l2, st3, go3, HJ.out.2, by go_num, rfl, rfl, HI2, Lib.hid ⟨HC.out.1, by have := HC.out.2; omega, HL2.out.1, HL2.out.2⟩, HR3, HF3, by rw [HJ.out.1]; exact HQ4⟩
        case measure => simp [intOf]; omega
    · have hge : (n : Int) ≤ (i : Int) := by omega
      have hq := HQ.out
      rw [show m - k = 0 by omega] at hq
      have HE := Lib.hid hq.ret
      clear hq HQ hi hm
      go_wp2_with fail
      go_ret
      exact AnsDone.of HR.out.rm HR.out.adv HE.out ⟨rfl, HC.out.1, HC.out.2.1⟩
end
end Go.Proofs.Ytkjimgidlpocbaa

namespace Go.Proofs.Ytkjimgidlpocbaa
open Go.RowKit
section
variable {w : World} {rb mb cb : Nat} {go : Option Nat} {st : St} {Bd : Nat}
set_option maxRecDepth 100000 in
set_option maxHeartbeats 2000000 in
theorem list_any (a : Int) (most : Int) (hrm : RM w rb mb cb go true st) (hf : st.Fine Bd) (hB : Bd < 1000000000) (ha0 : -100000000000 ≤ a) (ha1 : a ≤ 100000000000) :
    Calls Try.prog 13 #[.pointer (some ⟨rb, 0, none⟩), .int .i64 a, .int .i64 most] w fun e w' => AnsDone (fun l v w' => OwnE w' w.heap.size v l) w rb mb cb go st (listT a most) e w' := by
  have HR := Lib.hid (RunW.start hrm)
  have HF := Lib.hid hf
  obtain ⟨p, hp⟩ : ∃ p, p = listT a most := ⟨_, rfl⟩
  rw [← hp]
  have HQ := Lib.hid (show Rest p (.load a fun n => if 64 < n then .ret [] else
    (nearF (a + 1) n most ((n.toNat + 3) / 4) 0 0 0).bind fun c => entF c.toNat 0 0 most [] ⟨a + 1 + ((n.toNat + 3) / 4 : Nat), 0, 0⟩) st st by rw [hp]; exact Rest.start (listT a most) st)
  clear hrm hf hp
  go_enter Try.func13, Try.ntmps13
  go_wp2_with fail
  refine (run_load HR.out.rm hB HF.out.ok a).mono ?_; rintro e w2 ⟨rfl, go2, hr2, ha2⟩
  have HR2 := Lib.hid (HR.out.access hr2 ha2)
  have HQ2 := Lib.hid (HQ.out.load HF.out)
  have HF2 := Lib.hid (HF.out.load a)
  have hu := (HF.out.ok.load a).2
  obtain ⟨v, hv⟩ : ∃ v, (st.load a).1 = v := ⟨_, rfl⟩
  rw [hv] at hu HQ2 ⊢
  obtain ⟨st2, hst2⟩ : ∃ st2, (st.load a).2 = st2 := ⟨_, rfl⟩
  rw [hst2] at HQ2 HF2 HR2
  obtain ⟨u0, u1⟩ := hu
  obtain ⟨n, rfl⟩ := Int.eq_ofNat_of_zero_le u0
  have t1 : IntKind.i64.wrap (n : Int) = (n : Int) := IntWalk.i64_in _ (by omega)
  clear hv hst2 hr2 ha2 HR HQ HF
  by_cases h64 : (64 : Int) < (n : Int)
  · have g1 : decide ((n : Int) > 64) = true := decide_eq_true h64
    have hq := HQ2.out
    rw [if_pos h64] at hq
    have HE := Lib.hid hq.ret
    clear hq HQ2
    go_wp2_with fail
    go_ret
    exact AnsDone.of HR2.out.rm HR2.out.adv HE.out (OwnE.nil _ _)
  · have hn64 : n ≤ 64 := by omega
    have hq := HQ2.out
    rw [if_neg h64, show ((n : Int)).toNat = n by omega] at hq
    obtain ⟨bl, hbl⟩ : ∃ bl : Nat, (n + 3) / 4 = bl := ⟨_, rfl⟩
    have hNr := near_any (a + 1) n most HR2.out.rm HF2.out hB (by omega) (by omega) hn64
    rw [hbl] at hq hNr
    have HQ3 := Lib.hid hq
    have t2 : IntKind.i64.wrap ((n : Int) + 4) = (n : Int) + 4 := IntWalk.i64_in _ (by omega)
    have t3 : IntKind.i64.wrap ((n : Int) + 4 - 1) = (n : Int) + 3 := by rw [show (n : Int) + 4 - 1 = (n : Int) + 3 by omega]; exact IntWalk.i64_in _ (by omega)
    have t3b : IntKind.i64.wrap ((n : Int) + 3) = (n : Int) + 3 := IntWalk.i64_in _ (by omega)
    have t4 : ((n : Int) + 3).tdiv 4 = (bl : Int) := by rw [Int.tdiv_eq_ediv_of_nonneg (by omega)]; omega
    have t4b : ((n : Int) + 3) / 4 = (bl : Int) := by omega
    have t5 : IntKind.i64.wrap (bl : Int) = (bl : Int) := IntWalk.i64_in _ (by omega)
    have t6 : IntKind.i64.wrap (a + 1) = a + 1 := IntWalk.i64_in _ (by omega)
    have t7 : IntKind.i64.wrap (a + 1 + (bl : Int)) = a + 1 + (bl : Int) := IntWalk.i64_in _ (by omega)
    have g1 : decide ((n : Int) > 64) = false := decide_eq_false h64
    have g2 : ¬ (64 : Int) < (n : Int) := h64
    have hbl16 : bl ≤ 16 := by omega
    have HNr0 := Lib.hid hNr
    clear hq HQ2 hbl hNr HNr0 h64
    go_wp2_with fail
    refine (bytes_any w2 rb (a + 1 + (bl : Int))).mono ?_; rintro e w3 ⟨rfl, hsb, hb3⟩
    have hz2 := HR2.out.adv.mod.size
    obtain ⟨sb, hsbe⟩ : ∃ sb, w2.heap.size = sb := ⟨_, rfl⟩
    have hb3' : Below w2.heap.size w2 w3 := hb3
    rw [hsbe] at hsb hz2 ⊢
    have HR3 := Lib.hid (HR2.out.below hb3')
    have HS := Lib.hid hsb
    have HZ := Lib.hid hz2
    have hNr := near_any (a + 1) n most HR3.out.rm HF2.out hB (by omega) (by omega) hn64
    rw [show (n + 3) / 4 = bl by omega] at hNr
    have HNr := Lib.hid hNr
    clear hb3 hb3' hsb hz2 hsbe hNr HR2
    go_wp2_with fail
    refine HNr.out.mono ?_; rintro e w4 ⟨c, v4, go4, rfl, ⟨rfl, hc0, hc1⟩, hr4, ha4, hans⟩
    have HR4 := Lib.hid (HR3.out.access hr4 ha4)
    have HS4 := Lib.hid (HR3.out.stays ha4 HS.out HZ.out (by decide))
    have hq := HQ3.out.bind HF2.out hans
    have HF4 := Lib.hid (on_fine (nearF (a + 1) n most bl 0 0 0) st2 HF2.out)
    generalize ((nearF (a + 1) n most bl 0 0 0).on st2).2 = st4 at HR4 HF4 hq
    obtain ⟨m, rfl⟩ := Int.eq_ofNat_of_zero_le hc0
    rw [show ((m : Int)).toNat = m by omega] at hq
    have HQ4 := Lib.hid hq
    have HSW := Lib.hid (SW.begin HR4.out HS4.out HZ.out)
    have HEn := Lib.hid (entries_any HSW.out HF4.out hB ⟨⟨by show (0 : Int) ≤ 0; omega, by show (0 : Int) ≤ _; omega⟩, by show 0 ≤ 3; omega⟩ (by show _ ≤ a + 1 + (bl : Int); omega) (by show a + 1 + (bl : Int) ≤ _; omega) m (by omega) most)
    clear hq hans hr4 ha4 HNr HQ3 HR3 HS
    go_wp2_with fail
    refine HEn.out.mono ?_; rintro e w5 ⟨v5, l, s5, go5, rfl, hown, hw5, hans⟩
    have hq := (show Rest p ((entF m 0 0 most [] ⟨a + 1 + (bl : Int), 0, 0⟩).bind fun l => .ret l) st st4 from HQ4.out.same (bind_ret _).symm).bind HF4.out hans
    have HE := Lib.hid hq.ret
    have hz4 := HR4.out.adv.mod.size
    have HOw := Lib.hid (hown.base hz4)
    have HAd := Lib.hid (HR4.out.adv.own hw5.run.adv (fun k e => by subst e; exact HZ.out))
    have HRM := Lib.hid hw5.run.rm
    clear hq hans hown hw5 hz4 HEn HQ4
    go_wp2_with fail
    go_ret
    exact AnsDone.of HRM.out HAd.out HE.out HOw.out
end
end Go.Proofs.Ytkjimgidlpocbaa

namespace Go.Proofs.Ytkjimgidlpocbaa
open Go.RowKit
theorem key_at15 {s : ByteArray} {i x : Nat} (h : i < s.size) (hx : (s[i]'h).toNat = x) : (keyN s).getD i 0 = x := by
  have hl : i < (keyN s).length := by unfold keyN; simpa using h
  rw [List.getD_eq_getElem?_getD, List.getElem?_eq_getElem hl, ← hx]
  simp [keyN]
  rfl
theorem key_len15 (s : ByteArray) : (keyN s).length = s.size := by simp [keyN]
set_option maxHeartbeats 1000000 in
theorem cmp_byte (w : World) (x y : Int) : Calls Try.prog 51 #[.int .u8 x, .int .u8 y] w fun e w' => e = .returned (.int .i64 (cmpI x y)) ∧ w' = w := by
  have HN : ∀ (w : World) (z : Int), Calls Try.prog 57 #[.int .u8 z] w fun e w' => e = .returned (.bool false) ∧ w' = w := by
    intro w z
    have g : (z != z) = false := by simp
    go_enter Try.func57, Try.ntmps57
    go_wp2_with fail
    go_ret
    exact ⟨rfl, rfl⟩
  have H := Lib.hid HN
  clear HN
  unfold cmpI
  by_cases h1 : x < y
  · rw [if_pos h1]
    go_enter Try.func51, Try.ntmps51
    go_wp2_with fail
    refine (H.out _ _).mono ?_; rintro e w1 ⟨rfl, rfl⟩
    go_wp2_with fail
    refine (H.out _ _).mono ?_; rintro e w1 ⟨rfl, rfl⟩
    go_wp2_with fail
    go_ret
    exact ⟨rfl, rfl⟩
  · rw [if_neg h1]
    by_cases h2 : y < x
    · rw [if_pos h2]
      have g1 : decide (x > y) = true := decide_eq_true h2
      go_enter Try.func51, Try.ntmps51
      go_wp2_with fail
      refine (H.out _ _).mono ?_; rintro e w1 ⟨rfl, rfl⟩
      go_wp2_with fail
      refine (H.out _ _).mono ?_; rintro e w1 ⟨rfl, rfl⟩
      go_wp2_with fail
      go_ret
      exact ⟨rfl, rfl⟩
    · rw [if_neg h2]
      have g1 : decide (x > y) = false := decide_eq_false h2
      go_enter Try.func51, Try.ntmps51
      go_wp2_with fail
      refine (H.out _ _).mono ?_; rintro e w1 ⟨rfl, rfl⟩
      go_wp2_with fail
      refine (H.out _ _).mono ?_; rintro e w1 ⟨rfl, rfl⟩
      go_wp2_with fail
      go_ret
      exact ⟨rfl, rfl⟩
set_option maxHeartbeats 1000000 in
theorem cmp_int (w : World) (x y : Int) : Calls Try.prog 52 #[.int .i64 x, .int .i64 y] w fun e w' => e = .returned (.int .i64 (cmpI x y)) ∧ w' = w := by
  have HN : ∀ (w : World) (z : Int), Calls Try.prog 58 #[.int .i64 z] w fun e w' => e = .returned (.bool false) ∧ w' = w := by
    intro w z
    have g : (z != z) = false := by simp
    go_enter Try.func58, Try.ntmps58
    go_wp2_with fail
    go_ret
    exact ⟨rfl, rfl⟩
  have H := Lib.hid HN
  clear HN
  unfold cmpI
  by_cases h1 : x < y
  · rw [if_pos h1]
    go_enter Try.func52, Try.ntmps52
    go_wp2_with fail
    refine (H.out _ _).mono ?_; rintro e w1 ⟨rfl, rfl⟩
    go_wp2_with fail
    refine (H.out _ _).mono ?_; rintro e w1 ⟨rfl, rfl⟩
    go_wp2_with fail
    go_ret
    exact ⟨rfl, rfl⟩
  · rw [if_neg h1]
    by_cases h2 : y < x
    · rw [if_pos h2]
      have g1 : decide (x > y) = true := decide_eq_true h2
      go_enter Try.func52, Try.ntmps52
      go_wp2_with fail
      refine (H.out _ _).mono ?_; rintro e w1 ⟨rfl, rfl⟩
      go_wp2_with fail
      refine (H.out _ _).mono ?_; rintro e w1 ⟨rfl, rfl⟩
      go_wp2_with fail
      go_ret
      exact ⟨rfl, rfl⟩
    · rw [if_neg h2]
      have g1 : decide (x > y) = false := decide_eq_false h2
      go_enter Try.func52, Try.ntmps52
      go_wp2_with fail
      refine (H.out _ _).mono ?_; rintro e w1 ⟨rfl, rfl⟩
      go_wp2_with fail
      refine (H.out _ _).mono ?_; rintro e w1 ⟨rfl, rfl⟩
      go_wp2_with fail
      go_ret
      exact ⟨rfl, rfl⟩
section
variable {w : World} {rb mb cb : Nat} {go : Option Nat} {st : St} {Bd : Nat}
set_option maxRecDepth 100000 in
set_option maxHeartbeats 3000000 in
theorem compare_any (key : ByteArray) (a : Int) (hrm : RM w rb mb cb go true st) (hf : st.Fine Bd) (hB : Bd < 1000000000) (hk : key.size ≤ 1000000) (ha0 : -100000000000 ≤ a) (ha1 : a ≤ 100000000000) :
    Calls Try.prog 39 #[.pointer (some ⟨rb, 0, none⟩), .string key, .int .i64 a] w fun e w' => AnsDone (fun x v _ => v = .int .i64 x) w rb mb cb go st (cmpT (keyN key) a) e w' := by
  have HR := Lib.hid (RunW.start hrm)
  have HF := Lib.hid hf
  obtain ⟨p0, hp⟩ : ∃ p, p = cmpT (keyN key) a := ⟨_, rfl⟩
  rw [← hp]
  have HQ := Lib.hid (show Rest p0 (.load (a + 1) fun n => cmpF (keyN key) n (min (keyN key).length n.toNat) 0 ⟨a + 2, 0, 0⟩) st st by rw [hp]; exact Rest.start (cmpT (keyN key) a) st)
  have t1 : IntKind.i64.wrap (a + 1) = a + 1 := IntWalk.i64_in _ (by omega)
  have t2 : IntKind.i64.wrap (a + 2) = a + 2 := IntWalk.i64_in _ (by omega)
  clear hrm hf hp
  go_enter Try.func39, Try.ntmps39
  go_wp2_with fail
  refine (run_load HR.out.rm hB HF.out.ok (a + 1)).mono ?_; rintro e w2 ⟨rfl, go2, hr2, ha2⟩
  have HR2 := Lib.hid (HR.out.access hr2 ha2)
  have HQ2 := Lib.hid (HQ.out.load HF.out)
  have HF2 := Lib.hid (HF.out.load (a + 1))
  have hu := (HF.out.ok.load (a + 1)).2
  obtain ⟨v, hv⟩ : ∃ v, (st.load (a + 1)).1 = v := ⟨_, rfl⟩
  rw [hv] at hu HQ2 ⊢
  obtain ⟨st2, hst2⟩ : ∃ st2, (st.load (a + 1)).2 = st2 := ⟨_, rfl⟩
  rw [hst2] at HQ2 HF2 HR2
  obtain ⟨u0, u1⟩ := hu
  obtain ⟨n, rfl⟩ := Int.eq_ofNat_of_zero_le u0
  have t3 : IntKind.i64.wrap (n : Int) = (n : Int) := IntWalk.i64_in _ (by omega)
  clear hv hst2 hr2 ha2 HR HQ HF
  go_wp2_with fail
  refine (bytes_any w2 rb (a + 2)).mono ?_; rintro e w3 ⟨rfl, hsb, hb3⟩
  have hz2 := HR2.out.adv.mod.size
  obtain ⟨sb, hsbe⟩ : ∃ sb, w2.heap.size = sb := ⟨_, rfl⟩
  have hb3' : Below w2.heap.size w2 w3 := hb3
  rw [hsbe] at hsb hz2 ⊢
  have HR3 := Lib.hid (HR2.out.below hb3')
  have HS := Lib.hid hsb
  have HZ := Lib.hid hz2
  have HSW := Lib.hid (SW.begin HR3.out HS.out HZ.out)
  obtain ⟨mn, hmn⟩ : ∃ mn, min key.size n = mn := ⟨_, rfl⟩
  have hq := HQ2.out
  rw [show ((n : Int)).toNat = n by omega, key_len15, hmn] at hq
  have HQ3 := Lib.hid (show Rest p0 (cmpF (keyN key) n (mn - 0) 0 ⟨a + 2, 0, 0⟩) st st2 from hq)
  have HU3 := Lib.hid (show SmU ⟨a + 2, 0, 0⟩ from ⟨⟨by show (0 : Int) ≤ 0; omega, by show (0 : Int) ≤ _; omega⟩, by show 0 ≤ 3; omega⟩)
  have hkn : (if (n : Int) < (key.size : Int) then (n : Int) else (key.size : Int)) = (mn : Int) := by split <;> omega
  have hkb : ∀ (ts : Array TypeId) (t : TypeId) (w : World), (Builtin.min_ ts t #[.int .i64 (key.size : Int), .int .i64 (n : Int)]).run Try.prog w = .ok (.int .i64 (mn : Int)) w := fun ts t w => by rw [run_min_int2, hkn]
  have hmk : mn ≤ key.size := by omega
  clear hb3 hb3' hsb hz2 hsbe HR2 HQ2 hq hmn hkn HS
  go_wp2_with fail
  go_loopw [24] (fun iv wr => ∃ (i : Nat) (s1 : Sm) (st1 : St) (go1 : Option Nat), i ≤ mn ∧ iv = .int .i64 (i : Int) ∧ Hid (SW w3 rb mb cb go2 sb s1 st1 go1 wr) ∧ Hid (SmU s1) ∧ Hid (st1.Fine Bd) ∧ Hid (Rest p0 (cmpF (keyN key) n (mn - i) i s1) st st1) ∧ Hid (a + 2 ≤ s1.a ∧ s1.a ≤ a + 2 + (i : Int))) (fun iv _ => mn - (intOf iv).toNat)
  case atStart => exact ⟨0, ⟨a + 2, 0, 0⟩, st2, go2, by omega, rfl, HSW, HU3, HF2, HQ3, Lib.hid ⟨by show a + 2 ≤ a + 2; omega, by show a + 2 ≤ a + 2 + _; omega⟩⟩
  case round =>
    clear HSW HU3 HF2 HQ3
    obtain ⟨i, s1, st1, go1, hi, rfl, HW, HU, HF, HQ, HA⟩ := hrel
    by_cases hlt : i < mn
    · have hlt1 : (i : Int) < (mn : Int) := by omega
      obtain ⟨j, hj⟩ : ∃ j, mn - i = j + 1 := ⟨mn - i - 1, by omega⟩
      have hik : i < key.size := by omega
      have hiki : (i : Int) < (key.size : Int) := by omega
      obtain ⟨x, hx⟩ : ∃ x, (key[i]'hik).toNat = x := ⟨_, rfl⟩
      have hq := HQ.out
      rw [hj] at hq
      unfold cmpF at hq
      rw [key_at15 hik hx] at hq
      have HQb := Lib.hid hq
      have HJ := Lib.hid (show mn - (i + 1) = j by omega)
      have HN := Lib.hid (fun (wx : World) (h : SW wx rb mb cb go1 sb s1 st1 go1 wx) => next_any h HF.out hB HU.out (by have := HA.out; omega) (by have := HA.out; omega))
      clear hq hj HQ
      go_wp2_with fail
      refine wp_region_cl (fun (p : Int × Sm × Option Nat) jz => [.string key, .int .i64 (i : Int), .int .u8 (x : Int), nextV sb, .int .u8 p.1, .int .i64 (cmpI x p.1), .int .i64 (cmpI x p.1)].getD jz undef)
        (fun p l wx => (l 4 = false → SW w3 rb mb cb go2 sb s1 st1 go1 wx) ∧ (l 4 = true → SW w3 rb mb cb go2 sb p.2.1 ((nextT s1).on st1).2 p.2.2 wx ∧ (∀ y, ((nextT s1).on st1).1 = some y → y = (p.1, p.2.1)) ∧ SmU p.2.1 ∧ s1.a ≤ p.2.1.a ∧ p.2.1.a ≤ s1.a + 1))
        (by kernel_rfl) (by kernel_rfl) (fun q => by simp only [putTo, dstOf, Act.put, List.size_toArray, List.length_cons, List.length_nil, List.getElem?_toArray, Nat.reduceAdd, Option.bind_some, List.getElem?_cons_zero, List.getElem?_cons_succ, List.setIfInBounds_toArray, List.set_cons_zero, List.set_cons_succ, List.getD_cons_zero, List.getD_cons_succ]; exact rfl) (0, s1, go1) ?_ ?_ ?_
      · exact ⟨fun _ => HW.out.below (Below.refl _ _).drew, fun h => (by cases h)⟩
      · intro i o ho p l wx hR hl he hcl K hK
        rcases i with _ | _ | _ | _ | _ | _ | _ | i
        · obtain rfl : _ = o := Option.some.inj ho
          go_simp
          exact hK p wx (fun _ _ => rfl) hR
        · obtain rfl : _ = o := Option.some.inj ho
          go_simp
          exact hK p wx (fun _ _ => rfl) hR
        · obtain rfl : _ = o := Option.some.inj ho
          go_simp
          exact hK p wx (fun _ _ => rfl) hR
        · obtain rfl : _ = o := Option.some.inj ho
          go_simp
          exact hK p wx (fun _ _ => rfl) hR
        · obtain rfl : _ = o := Option.some.inj ho
          have hw := hR.1 hl
          have HK := HN.out wx hw.restart
          have HWx := Lib.hid hw
          have HK2 := Lib.hid HK
          clear hw HK hR
          unfold nextV
          go_simp
          refine HK2.out.mono ?_; rintro e w2 ⟨b, s2, go5, rfl, hw2, hans, hu2, hb0, hb1, hs0, hs1⟩
          refine hK (b, s2, go5) w2 (fun j hj => ?_) ⟨(fun h => by cases h), fun _ => ⟨HWx.out.rejoin hw2, hans, hu2, hs0, hs1⟩⟩
          rcases j with _ | _ | _ | _ | _ | _ | _ | j
          all_goals first | rfl | (rw [hl] at hj; cases hj) | (exact absurd (hcl 5 _ rfl hj ⟨4, .data⟩ (by simp) rfl) (by rw [hl]; decide)) | (exact absurd (hcl 5 _ rfl (hcl 6 _ rfl hj ⟨5, .data⟩ (by simp) rfl) ⟨4, .data⟩ (by simp) rfl) (by rw [hl]; decide))
        · obtain rfl : _ = o := Option.some.inj ho
          go_simp
          refine (cmp_byte wx _ _).mono ?_; rintro e w2 ⟨rfl, rfl⟩
          exact hK p w2 (fun _ _ => rfl) hR
        · obtain rfl : _ = o := Option.some.inj ho
          go_simp
          exact hK p wx (fun _ _ => rfl) hR
        · simp at ho
      · intro p l wx hl hR
        obtain ⟨b, s2, go5⟩ := p
        obtain ⟨hw2, hans, hu2, hs0, hs1⟩ := hR.2 (hl 4 (by decide))
        simp only at hw2 hans hu2 hs0 hs1
        have hq2 := HQb.out.bind HF.out hans
        dsimp only at hq2
        have HW2 := Lib.hid hw2
        have HF2 := Lib.hid (on_fine (nextT s1) st1 HF.out)
        generalize ((nextT s1).on st1).2 = st5 at HW2 HF2 hq2
        have HA2 := Lib.hid (show a + 2 ≤ s2.a ∧ s2.a ≤ a + 2 + ((i + 1 : Nat) : Int) from ⟨by have := HA.out; omega, by have := HA.out; omega⟩)
        have HU2 := Lib.hid hu2
        obtain ⟨o, ho⟩ : ∃ o, cmpI (x : Int) b = o := ⟨_, rfl⟩
        rw [ho] at hq2 ⊢
        clear hw2 hans hu2 hs0 hs1 hR hl ho HQb HN HW HF HA HU hx
        by_cases ho0 : o = 0
        · rw [if_pos ho0] at hq2
          have HQ5 := Lib.hid (show Rest p0 (cmpF (keyN key) n (mn - (i + 1)) (i + 1) s2) st st5 by rw [HJ.out]; exact hq2)
          subst ho0
          clear hq2
          go_wp2_with fail
          go_roundw
          case rel => exact ⟨i + 1, s2, st5, go5, by omega, by go_num, HW2, HU2, HF2, HQ5, HA2⟩
          case measure => simp [intOf]; omega
        · rw [if_neg ho0] at hq2
          have HE := Lib.hid hq2.ret
          have b1 : (o == 0) = false := by simpa using ho0
          have b2 : (o != 0) = true := by simpa using ho0
          clear hq2 ho0
          go_wp2_with fail
          go_ret
          exact AnsDone.of HW2.out.run.rm (HR3.out.adv.own HW2.out.run.adv (fun k e => by subst e; exact HZ.out)) HE.out rfl

    · obtain rfl : i = mn := by omega
      have hq := HQ.out
      rw [Nat.sub_self] at hq
      have hq2 : Ended p0 (cmpI (keyN key).length n) st st1 := hq.ret
      rw [key_len15] at hq2
      have HE := Lib.hid hq2
      clear hq hq2 HQ
      go_wp2_with fail
      refine (cmp_int _ _ _).mono ?_; rintro e w5 ⟨rfl, rfl⟩
      go_wp2_with fail
      go_ret
      exact AnsDone.of HW.out.run.rm (HR3.out.adv.own HW.out.run.adv (fun k e => by subst e; exact HZ.out)) HE.out rfl
end
end Go.Proofs.Ytkjimgidlpocbaa

namespace Go.Proofs.Ytkjimgidlpocbaa
open Go.RowKit
theorem searchF_more (lists : Int) (key : List Nat) (m f t : Nat) : searchF lists key (m + 1) f t = if f < t then .load (lists + 2 * ((f + t) / 2 : Nat)) fun rec_ => (cmpT key rec_).bind fun o =>
      if o < 0 then searchF lists key m f ((f + t) / 2) else if 0 < o then searchF lists key m ((f + t) / 2 + 1) t else .load (lists + 2 * ((f + t) / 2 : Nat) + 1) fun v => .ret v
    else .ret 0 := rfl
section
variable {w : World} {rb mb cb : Nat} {go : Option Nat} {st : St} {Bd : Nat}
set_option maxRecDepth 100000 in
set_option maxHeartbeats 3000000 in
theorem term_any (key : ByteArray) (a : Int) (hrm : RM w rb mb cb go true st) (hf : st.Fine Bd) (hB : Bd < 1000000000) (hk : key.size ≤ reachBytes) (ha0 : -100000000000 ≤ a) (ha1 : a ≤ 10000000000) :
    Calls Try.prog 21 #[.pointer (some ⟨rb, 0, none⟩), .int .i64 a, .string key] w fun e w' => AnsDone (fun x v _ => v = .int .i64 x ∧ 0 ≤ x ∧ x ≤ 4294967295) w rb mb cb go st (termT a (keyN key)) e w' := by
  have HR := Lib.hid (RunW.start hrm)
  have HF := Lib.hid hf
  obtain ⟨p0, hp⟩ : ∃ p, p = termT a (keyN key) := ⟨_, rfl⟩
  rw [← hp]
  have hq0 : Rest p0 (termT a (keyN key)) st st := by rw [← hp]; exact Rest.start _ st
  unfold termT at hq0
  have kz : (key.size : Int) ≤ 281474976710656 := by unfold reachBytes at hk; omega
  by_cases hlong : 4096 < key.size
  · have g1 : (4096 : Int) < (key.size : Int) := by omega
    have g2 : decide ((key.size : Int) > 4096) = true := decide_eq_true g1
    rw [if_pos (by rw [key_len15]; exact hlong)] at hq0
    have HE := Lib.hid hq0.ret
    clear hrm hf hp hq0
    go_enter Try.func21, Try.ntmps21
    go_wp2_with fail
    go_step3
    go_wp2_with fail
    try rw [Exit.noGoto_ret]
    try go_ret
    exact AnsDone.of HR.out.rm HR.out.adv HE.out ⟨rfl, by omega, by omega⟩
  · have g1 : ¬ (4096 : Int) < (key.size : Int) := by omega
    have g2 : decide ((key.size : Int) > 4096) = false := decide_eq_false g1
    rw [if_neg (by rw [key_len15]; exact hlong)] at hq0
    have HQ := Lib.hid hq0
    have hk1 : key.size ≤ 1000000 := by omega
    have HD := Lib.hid (docs_any a hrm hf hB)
    have t1 : IntKind.i64.wrap (a + 2) = a + 2 := IntWalk.i64_in _ (by omega)
    have t2 : IntKind.i64.wrap (a + 1) = a + 1 := IntWalk.i64_in _ (by omega)
    clear hrm hf hp hq0 hlong
    go_enter Try.func21, Try.ntmps21
    go_wp2_with fail
    go_step3
    go_wp2_with fail
    refine HD.out.mono ?_; rintro e w1 ⟨d, v1, go1, rfl, ⟨rfl, hd0, hd1⟩, hr1, ha1', hans1⟩
    have HR1 := Lib.hid (HR.out.access hr1 ha1')
    have hq := HQ.out.bind HF.out hans1
    have HF1 := Lib.hid (on_fine (docsT a) st HF.out)
    generalize ((docsT a).on st).2 = st1 at HR1 HF1 hq
    have HQ1 := Lib.hid hq
    have t3 : IntKind.i64.wrap (4 * d) = 4 * d := IntWalk.i64_in _ (by omega)
    have t4 : IntKind.i64.wrap (a + 2 + 4 * d) = a + 2 + 4 * d := IntWalk.i64_in _ (by omega)
    clear hq hans1 hr1 ha1' HD HQ HR HF
    go_wp2_with fail
    refine (run_load HR1.out.rm hB HF1.out.ok (a + 1)).mono ?_; rintro e w2 ⟨rfl, go2, hr2, ha2⟩
    have HR2 := Lib.hid (HR1.out.access hr2 ha2)
    have HQ2 := Lib.hid (HQ1.out.load HF1.out)
    have HF2 := Lib.hid (HF1.out.load (a + 1))
    have hu := (HF1.out.ok.load (a + 1)).2
    obtain ⟨v, hv⟩ : ∃ v, (st1.load (a + 1)).1 = v := ⟨_, rfl⟩
    rw [hv] at hu HQ2 ⊢
    obtain ⟨st2, hst2⟩ : ∃ st2, (st1.load (a + 1)).2 = st2 := ⟨_, rfl⟩
    rw [hst2] at HQ2 HF2 HR2
    obtain ⟨u0, u1⟩ := hu
    obtain ⟨n, rfl⟩ := Int.eq_ofNat_of_zero_le u0
    have t5 : IntKind.i64.wrap (n : Int) = (n : Int) := IntWalk.i64_in _ (by omega)
    obtain ⟨mn, hmn⟩ : ∃ mn, min n 256 = mn := ⟨_, rfl⟩
    have hkn : (if (256 : Int) < (n : Int) then (256 : Int) else (n : Int)) = (mn : Int) := by split <;> omega
    have hkb : ∀ (ts : Array TypeId) (t : TypeId) (w : World), (Builtin.min_ ts t #[.int .i64 (n : Int), .int .i64 256]).run Try.prog w = .ok (.int .i64 (mn : Int)) w := fun ts t w => by rw [run_min_int2, hkn]
    have hmn1 : mn ≤ 256 := by omega
    obtain ⟨ls, hls⟩ : ∃ ls, a + 2 + 4 * d = ls := ⟨_, rfl⟩
    have hls0 : -110000000000 ≤ ls ∧ ls ≤ 30000000000 := by omega
    have hq := HQ2.out
    rw [hls, show ((n : Int)).toNat = n by omega, hmn] at hq
    have HQ3 := Lib.hid hq
    rw [hls] at t4 ⊢
    obtain ⟨hl0, hl1⟩ := hls0
    clear hv hst2 hr2 ha2 HR1 HQ1 HF1 hmn hkn hq HQ2 hls u0 u1 hd0 hd1 t4 t3
    go_wp2_with fail
    go_step3
    go_wp2_with fail
    go_loopw [8, 9, 10] (fun lv fv tv wr => ∃ (m f t : Nat) (st3 : St) (go3 : Option Nat), lv = .int .i64 0 ∧ f ≤ 256 ∧ t ≤ 256 ∧ t - f < m ∧ fv = .int .i64 (f : Int) ∧ tv = .int .i64 (t : Int) ∧ Hid (RunW w rb mb cb go st3 go3 wr) ∧ Hid (st3.Fine Bd) ∧ Hid (Rest p0 (searchF ls (keyN key) m f t) st st3)) (fun _ fv tv _ => (intOf tv).toNat - (intOf fv).toNat)
    case atStart => exact ⟨257, 0, mn, st2, go2, rfl, by omega, by omega, by omega, rfl, rfl, HR2, HF2, HQ3⟩
    case round =>
      clear HR2 HF2 HQ3
      obtain ⟨m, f, t, st3, go3, rfl, hf1, ht1, hm, rfl, rfl, HR, HF, HQ⟩ := hrel
      obtain ⟨m, rfl⟩ : ∃ m', m = m' + 1 := ⟨m - 1, by omega⟩
      have hq := HQ.out
      rw [searchF_more] at hq
      by_cases hft : f < t
      · have hft1 : (f : Int) < (t : Int) := by omega
        rw [if_pos hft] at hq
        obtain ⟨mid, hmid⟩ : ∃ mid, (f + t) / 2 = mid := ⟨_, rfl⟩
        have s1 : IntKind.i64.wrap ((f : Int) + (t : Int)) = (f : Int) + (t : Int) := IntWalk.i64_in _ (by omega)
        have s2 : ((f : Int) + (t : Int)).tdiv 2 = (mid : Int) := by rw [Int.tdiv_eq_ediv_of_nonneg (by omega)]; omega
        have s2b : ((f : Int) + (t : Int)) / 2 = (mid : Int) := by omega
        have s3 : IntKind.i64.wrap (mid : Int) = (mid : Int) := IntWalk.i64_in _ (by omega)
        have s4 : IntKind.i64.wrap (2 * (mid : Int)) = 2 * (mid : Int) := IntWalk.i64_in _ (by omega)
        have s5 : IntKind.i64.wrap (ls + 2 * (mid : Int)) = ls + 2 * (mid : Int) := IntWalk.i64_in _ (by omega)
        have s6 : IntKind.i64.wrap (ls + 2 * (mid : Int) + 1) = ls + 2 * (mid : Int) + 1 := IntWalk.i64_in _ (by omega)
        have s7 : IntKind.i64.wrap ((mid : Int) + 1) = (mid : Int) + 1 := IntWalk.i64_in _ (by omega)
        have hmb : f ≤ mid ∧ mid < t := by omega
        rw [hmid] at hq
        have HQ4 := Lib.hid (hq.load HF.out)
        have hu := (HF.out.ok.load (ls + 2 * (mid : Int))).2
        obtain ⟨v, hv⟩ : ∃ v, (st3.load (ls + 2 * (mid : Int))).1 = v := ⟨_, rfl⟩
        have HLd := Lib.hid (run_load HR.out.rm hB HF.out.ok (ls + 2 * (mid : Int)))
        have HF4 := Lib.hid (HF.out.load (ls + 2 * (mid : Int)))
        rw [hv] at hu HQ4 HLd
        obtain ⟨st4, hst4⟩ : ∃ st4, (st3.load (ls + 2 * (mid : Int))).2 = st4 := ⟨_, rfl⟩
        rw [hst4] at HQ4 HLd HF4
        obtain ⟨u0, u1⟩ := hu
        have s8 : IntKind.i64.wrap v = v := IntWalk.i64_in _ (by omega)
        clear hq hv hst4 hmid HQ
        go_wp2_with fail
        refine HLd.out.mono ?_; rintro e w4 ⟨rfl, go4, hr4, ha4⟩
        have HR4 := Lib.hid (HR.out.access hr4 ha4)
        have HC := Lib.hid (compare_any key v HR4.out.rm HF4.out hB hk1 (by omega) (by omega))
        clear hr4 ha4 HLd HR HF
        go_wp2_with fail
        refine HC.out.mono ?_; rintro e w5 ⟨o, v5, go5, rfl, rfl, hr5, ha5, hans⟩
        have HR5 := Lib.hid (HR4.out.access hr5 ha5)
        have hq := HQ4.out.bind HF4.out hans
        have HF5 := Lib.hid (on_fine (cmpT (keyN key) v) st4 HF4.out)
        generalize ((cmpT (keyN key) v).on st4).2 = st5 at HR5 HF5 hq
        clear hr5 ha5 hans HC HR4 HF4 HQ4 u0 u1
        by_cases h1 : o < 0
        · rw [if_pos h1] at hq
          have HQ5 := Lib.hid hq
          clear hq
          go_wp2_with fail
          go_roundw
          case rel => exact ⟨m, f, mid, st5, go5, rfl, by omega, by omega, by omega, rfl, rfl, HR5, HF5, HQ5⟩
          case measure => simp [intOf]; omega
        · rw [if_neg h1] at hq
          by_cases h2 : 0 < o
          · have g5 : decide (o > 0) = true := decide_eq_true h2
            rw [if_pos h2] at hq
            have HQ5 := Lib.hid hq
            clear hq
            go_wp2_with fail
            go_roundw
            case rel => exact ⟨m, mid + 1, t, st5, go5, rfl, by omega, by omega, by omega, by go_num, rfl, HR5, HF5, HQ5⟩
            case measure => simp [intOf]; omega
          · have g5 : decide (o > 0) = false := decide_eq_false h2
            rw [if_neg h2] at hq
            have HE := Lib.hid (hq.load HF5.out).ret
            have hu := (HF5.out.ok.load (ls + 2 * (mid : Int) + 1)).2
            obtain ⟨z, hz⟩ : ∃ z, (st5.load (ls + 2 * (mid : Int) + 1)).1 = z := ⟨_, rfl⟩
            have HLd := Lib.hid (run_load HR5.out.rm hB HF5.out.ok (ls + 2 * (mid : Int) + 1))
            rw [hz] at hu HE HLd
            obtain ⟨z0, z1⟩ := hu
            have s9 : IntKind.i64.wrap z = z := IntWalk.i64_in _ (by omega)
            have HZ := Lib.hid (And.intro z0 z1)
            clear hq hz z0 z1
            go_wp2_with fail
            refine HLd.out.mono ?_; rintro e w6 ⟨rfl, go6, hr6, ha6⟩
            have HR6 := Lib.hid (HR5.out.access hr6 ha6)
            clear hr6 ha6 HLd
            go_wp2_with fail
            try rw [Exit.noGoto_ret]
            go_ret
            exact AnsDone.of HR6.out.rm HR6.out.adv HE.out ⟨rfl, HZ.out.1, HZ.out.2⟩
      · rw [if_neg hft] at hq
        have hft1 : ¬ (f : Int) < (t : Int) := by omega
        have HE := Lib.hid hq.ret
        clear hq HQ hft
        go_wp2_with fail
        try rw [Exit.noGoto_ret]
        go_ret
        exact AnsDone.of HR.out.rm HR.out.adv HE.out ⟨rfl, by omega, by omega⟩
end
end Go.Proofs.Ytkjimgidlpocbaa
