/-
  The landed code of layer 13: the next number, the next entry. Over the program's own text.
-/
import Derived.Test.YtpmhkmakkeckkaaBlkEnc
import Derived.Test.YtpmhkmakkeckkaaRets
namespace Go.Proofs.Ytpmhkmakkeckkaa
open Go.RowKit

/-- The numbers that are still to be read: a slice of bytes in a block of its own, the bytes in an older one. -/
def NB (w : World) (q : Nat) (L : List Nat) : Prop := ∃ ob M cb, w.heap[q]? = some (.cells #[.slice ob M cb] 97 (0, 0)) ∧ L.length = M ∧ M ≤ cb ∧ cb ≤ maxLen ∧ M ≤ 1000000 ∧ ReadN .u8 w ob L ∧ (∀ x ∈ L, x < 256) ∧ ∀ g o, ob = some ⟨g, o, none⟩ → 0 < M → g < q
set_option maxRecDepth 100000 in
theorem NB.keep {w w' : World} {q : Nat} {L : List Nat} (h : NB w q L) (hk : ∀ k, k ≤ q → w'.heap[k]? = w.heap[k]?) : NB w' q L := by
  obtain ⟨ob, M, cb, h1, h2, h3, h4, h5, h6, h7, h8⟩ := h
  refine ⟨ob, M, cb, (hk q (Nat.le_refl _)).trans h1, h2, h3, h4, h5, fun j x hj => ?_, h7, h8⟩
  obtain ⟨g, o, e, hc⟩ := h6 j x hj
  have hg := h8 g o e (by have := (List.getElem?_eq_some_iff.1 hj).1; omega)
  refine ⟨g, o, e, ?_⟩
  rw [World.cell?_of_block (hk g (by omega))]
  exact hc
set_option maxRecDepth 100000 in
theorem NB.lt {w : World} {q : Nat} {L : List Nat} (h : NB w q L) : q < w.heap.size := by
  obtain ⟨_, _, _, h1, _⟩ := h
  exact lt_of_heap h1
set_option maxRecDepth 100000 in
theorem NB.below {w w' : World} {q : Nat} {L : List Nat} (h : NB w q L) (hb : Below w.heap.size w w') : NB w' q L := h.keep fun k hk => hb.block k (by have := h.lt; omega)
set_option maxRecDepth 100000 in
theorem getA_zero (L : List Nat) : (getA L 0).1 = (getR 5 L).1 ∧ (getA L 0).2.1 = ((getR 5 L).2.1 : Int) := by
  have h := getA_in (L := L) (a := 0) (by omega) (q := getR 5 L) (by rw [List.drop_zero])
  rw [show ((0 : Nat) : Int) = 0 from rfl] at h
  rw [h]
  by_cases he : (getR 5 L).2.2 = 0
  · rw [if_pos he]
    exact ⟨rfl, by simp⟩
  · rw [if_neg he]
    have := get_err 5 L he
    exact ⟨this.1.symm, by rw [this.2]; rfl⟩
set_option maxRecDepth 100000 in
theorem next_lt {L : List Nat} (hb : ∀ x ∈ L, x < 256) : (nextN L).1 < 4294967296 ∧ (getR 5 L).2.1 ≤ L.length := by
  unfold nextN
  by_cases he : (getR 5 L).2.2 = 0
  · have := get_len hb he
    exact ⟨this.2.2, this.2.1⟩
  · have := get_err 5 L he
    rw [this.1, this.2]
    exact ⟨by omega, by omega⟩

set_option maxRecDepth 100000 in
set_option maxHeartbeats 2000000 in
theorem lands_next (w : World) (q : Nat) (L : List Nat) (h : NB w q L) :
    Calls Try.prog 60 #[.pointer (some ⟨q, 0, none⟩)] w fun e w' => e = .returned (.int .i64 ((nextN L).1 : Int)) ∧ NB w' q (nextN L).2 ∧ Mod (fun k => k = q) w w' := by
  obtain ⟨ob, M, cb, h1, h2, h3, h4, h5, h6, h7, h8⟩ := h
  have HH := Lib.hid h1
  have hnl := next_lt h7
  obtain ⟨k, hk⟩ : ∃ k, (getR 5 L).2.1 = k := ⟨_, rfl⟩
  obtain ⟨n, hn⟩ : ∃ n, (getR 5 L).1 = n := ⟨_, rfl⟩
  have hz := getA_zero L
  have HG := Lib.hid (lands_get w ob cb M L 0 h2 h6 h3 h4 h5 h7 (by omega) (by omega))
  rw [hz.1, hz.2, hk, hn] at HG
  rw [hk] at hnl
  have e1 : nextN L = (n, L.drop k) := by unfold nextN; rw [hk, hn]
  rw [e1] at hnl ⊢
  obtain ⟨m, hm⟩ : ∃ m, k + m = M := ⟨M - k, by omega⟩
  obtain ⟨o2, c2, hsl, hd1, hd2, hrd⟩ := slice8_from M cb k m h2 hm h3 h4 h6
  have HF := Lib.hid (show ∀ g o, o2 = some ⟨g, o, none⟩ → 0 < m → g < q from fun g o he hm0 => by
    obtain ⟨x, hx⟩ : ∃ x, (L.drop k)[0]? = some x := ⟨_, List.getElem?_eq_getElem (by rw [List.length_drop]; omega)⟩
    obtain ⟨g1, o1, he1, hc1⟩ := hrd 0 x hx
    rw [he] at he1
    injection he1 with he1
    injection he1 with hg1 ho1
    subst hg1 ho1
    obtain ⟨x2, hx2⟩ : ∃ x, L[0]? = some x := ⟨_, List.getElem?_eq_getElem (by omega)⟩
    obtain ⟨g3, o3, he3, _⟩ := h6 0 x2 hx2
    have hs := hsl w
    rw [he, he3, run_slice_l w 46 (some ⟨g3, o3, none⟩) M cb under_bytes .i64 (k : Int) (by omega) (by omega), elem_bytes, size_byte] at hs
    simp only [Result.andThen, sliced, Result.ok.injEq, Value.slice.injEq] at hs
    have h9 := hs.1.1
    have hgq := h8 g3 o3 he3 (by omega)
    split at h9
    · injection h9 with h9; injection h9 with h9 _; omega
    · simp only [Option.map_some, Option.some.injEq, Addr.add_lit] at h9
      injection h9 with h9 _; omega)
  have HR := Lib.hid hrd
  have HX := Lib.hid (show (L.drop k).length = m ∧ m ≤ c2 ∧ c2 ≤ maxLen ∧ m ≤ 1000000 ∧ ∀ x ∈ L.drop k, x < 256 from ⟨by rw [List.length_drop]; omega, hd1, hd2, by omega, fun x hx => h7 x (List.mem_of_mem_drop hx)⟩)
  have c0 := cell_at h1 0
  have f0 := free_at h1 0
  have hn1 : n < 4294967296 := hnl.1
  clear h1 h2 h3 h4 h5 h6 h7 h8 hz e1 hrd hk hn hnl hd1 hd2
  go_enter Try.func60, Try.ntmps60
  go_wp2_with fail
  refine HG.out.mono ?_; rintro e w1 ⟨rfl, rfl⟩
  go_wp2_with fail
  go_ret
  have hb2 := heap_setCell_same _ q 0 _ _ (.slice o2 m c2) HH.out
  refine ⟨rfl, ⟨o2, m, c2, hb2, HX.out.1, HX.out.2.1, HX.out.2.2.1, HX.out.2.2.2.1, fun j x hj => ?_, HX.out.2.2.2.2, HF.out⟩, Mod.setCell (S := fun k => k = q) (p := ⟨q, 0, none⟩) (Mod.refl _ _) (.inr rfl) _⟩
  obtain ⟨g, o, e, hc⟩ := HR.out j x hj
  have hlt := (List.getElem?_eq_some_iff.1 hj).1
  have hgq := HF.out g o e (by have := HX.out.1; omega)
  refine ⟨g, o, e, ?_⟩
  rw [World.cell?_of_block (Below.heap_setCell _ _ _ _ (show g ≠ q by omega))]
  exact hc

/-! ### An entry -/
set_option maxRecDepth 100000 in
theorem NB.mod {w w' : World} {q : Nat} {L : List Nat} (h : NB w q L) (hm : ∀ k, k ≤ q → w'.heap[k]? = w.heap[k]?) : NB w' q L := h.keep hm
set_option maxRecDepth 100000 in
theorem posR_len : ∀ (n : Nat) (a : Int) (L : List Nat), (posR n a L).1.length = n
  | 0, _, _ => rfl
  | n + 1, a, L => by simp [posR, posR_len n]
set_option maxRecDepth 100000 in
theorem ent_info : (Try.prog.info? 52).map (·.size) = some 2 := by kernel_rfl
set_option maxRecDepth 100000 in
theorem row_mod {w w' : World} {base size n q : Nat} {e t : TypeId} {v : Value} {xs : List Value} {c : Array Value} (h : w.ownsRow base e size v n xs) (hm : ∀ k, k < w.heap.size → k ≠ q → w'.heap[k]? = w.heap[k]?) (hq : w.heap[q]? = some (.cells c t (0, 0))) (ht : t ≠ e) : w'.ownsRow base e size v n xs := by
  obtain ⟨h0, h1 | ⟨g, cap, cur, h1, h2, h3, h4⟩⟩ := h
  · exact ⟨h0, .inl h1⟩
  · refine ⟨h0, .inr ⟨g, cap, cur, h1, h2, ?_, h4⟩⟩
    rw [hm g (lt_of_heap h3) (fun e' => by
      subst e'
      rw [hq] at h3
      injection h3 with h3
      injection h3 with _ h3
      exact ht h3)]
    exact h3
set_option maxRecDepth 100000 in
theorem NB.heap {w : World} {q : Nat} {L : List Nat} (h : NB w q L) : ∃ c, w.heap[q]? = some (.cells c 97 (0, 0)) := by
  obtain ⟨ob, M, cb, h1, _⟩ := h
  exact ⟨_, h1⟩
/-- What an entry's places are so far. -/
structure EA (w : World) (q be b4 : Nat) (d : Int) (u : Value) (acc : List Int) (L : List Nat) (wr : World) : Prop where
  e : wr.heap[be]? = some (.cells #[.int .i64 d, u] 52 (0, 0))
  z : wr.heap[b4]? = some (.cells #[.int .i64 0, .slice none 0 0] 52 (0, 0))
  own : OwnZ wr w.heap.size u acc
  nb : NB wr q L
  mod : Mod (fun k => k = q) w wr
set_option maxRecDepth 100000 in
theorem EA.next {w wr w1 : World} {q be b4 : Nat} {d : Int} {u : Value} {acc : List Int} {L L2 : List Nat} (h : EA w q be b4 d u acc L wr) (hne : be ≠ q ∧ b4 ≠ q) (hn : NB w1 q L2) (hm : Mod (fun k => k = q) wr w1) : EA w q be b4 d u acc L2 w1 := by
  obtain ⟨c, hc⟩ := h.nb.heap
  exact ⟨(hm.block be (lt_of_heap h.e) hne.1).trans h.e, (hm.block b4 (lt_of_heap h.z) hne.2).trans h.z, row_mod h.own (fun k hk hkq => hm.block k hk hkq) hc (by decide), hn, h.mod.trans hm⟩
set_option maxRecDepth 100000 in
theorem EA.more {w wr w1 : World} {q be b4 n : Nat} {d x : Int} {u v' : Value} {acc : List Int} {L : List Nat} {o : Obj} (h : EA w q be b4 d u acc L wr) (hq : q < w.heap.size) (hb : w.heap.size ≤ be) (hbz : be ≠ b4) (hl : acc.length = n)
    (ho : w1.ownsRow w.heap.size 3 1 v' (n + 1) (zC acc ++ [.int .i64 x])) (hg : (wr.alloc o).grownBy w1 u.ownBlock) :
    w1.cell? ⟨be, 1, none⟩ = some u ∧ w1.frozen? ⟨be, 1, none⟩ = false ∧ EA w q be b4 d v' (acc ++ [x]) L (w1.setCell ⟨be, 1, none⟩ v') := by
  have hA : (wr.alloc o).ownsRow w.heap.size 3 1 u acc.length (zC acc) := World.ownsRow.alloc h.own o
  have k1 := grown_block hA hg (by rw [Below.heap_alloc _ _ _ (lt_of_heap h.e)]; exact h.e) (by decide)
  have k2 := grown_block hA hg (by rw [Below.heap_alloc _ _ _ (lt_of_heap h.z)]; exact h.z) (by decide)
  have hold : ∀ k, k < w.heap.size → w1.heap[k]? = wr.heap[k]? := fun k hk => by
    have hkr := Nat.lt_of_lt_of_le hk h.mod.size
    rw [hg.block k (by simp; omega) (fun e => by have := (World.ownsRow.lt hA k e.symm).1; omega), Below.heap_alloc _ _ _ hkr]
  have hm1 : Mod (fun k => k = q) w w1 := ⟨by rw [hg.os]; exact h.mod.os, by rw [hg.tape]; exact h.mod.tape, by rw [hg.output]; exact h.mod.output, by have := hg.size; have := h.mod.size; simp at *; omega, fun k hk hkq => (hold k hk).trans (h.mod.block k hk hkq)⟩
  subst hl
  refine ⟨cell_at k1 1, free_at k1 1, heap_setCell_same _ be 1 _ _ v' k1, (Below.heap_setCell _ _ _ _ (Ne.symm hbz)).trans k2, ?_, h.nb.keep fun k hk => (Below.heap_setCell _ _ _ _ (show k ≠ be by omega)).trans (hold k (by omega)), hm1.setCell (.inl hb) v'⟩
  unfold OwnZ
  rw [zC_snoc, List.length_append]
  exact row_mod ho (q := be) (fun k _ hk => Below.heap_setCell _ _ _ _ hk) k1 (by decide)

set_option maxRecDepth 100000 in
set_option maxHeartbeats 4000000 in
theorem lands_entry13 (w : World) (q : Nat) (L : List Nat) (a : Int) (h : NB w q L) (h0 : 0 ≤ a) (h1 : a ≤ 1000000000000) :
    Calls Try.prog 58 #[.pointer (some ⟨q, 0, none⟩), .int .i64 a] w fun e w' => ∃ u, e = .returned (.agg #[.int .i64 (entR a L).1.1, u]) ∧ OwnZ w' w.heap.size u (entR a L).1.2 ∧ NB w' q (entR a L).2 ∧ Mod (fun k => k = q) w w' := by
  have hql := h.lt
  obtain ⟨i0, e0, e1, e2, e3⟩ := info_parts info_z
  have HI := Lib.hid (And.intro e0 (And.intro e1 (And.intro e2 e3)))
  clear e0 e1 e2 e3
  have hbyte : ∀ x ∈ L, x < 256 := by obtain ⟨_, _, _, _, _, _, _, _, _, hx, _⟩ := h; exact hx
  have hbyte2 : ∀ x ∈ (nextN L).2, x < 256 := fun x hx => hbyte x (List.mem_of_mem_drop hx)
  have hn1 := (next_lt hbyte).1
  have hn2 := (next_lt hbyte2).1
  obtain ⟨d0, hd0⟩ : ∃ d0, (nextN L).1 = d0 := ⟨_, rfl⟩
  obtain ⟨L1, hL1⟩ : ∃ L1, (nextN L).2 = L1 := ⟨_, rfl⟩
  obtain ⟨c1, hc1⟩ : ∃ c1, (nextN L1).1 = c1 := ⟨_, rfl⟩
  obtain ⟨L2, hL2⟩ : ∃ L2, (nextN L1).2 = L2 := ⟨_, rfl⟩
  obtain ⟨cnt, hcnt⟩ : ∃ cnt, min c1 256 = cnt := ⟨_, rfl⟩
  obtain ⟨d, hd⟩ : ∃ d, a + (d0 : Int) = d := ⟨_, rfl⟩
  have HEnt := Lib.hid (show entR a L = ((d, (posR cnt 0 L2).1), (posR cnt 0 L2).2) by
    unfold entR
    simp only
    rw [hd0, hL1, hc1, hL2, hcnt, hd])
  rw [hd0] at hn1
  rw [hL1] at hbyte2 hn2
  rw [hc1] at hn2
  have HB2 := Lib.hid (show ∀ x ∈ L2, x < 256 from fun x hx => hbyte2 x (List.mem_of_mem_drop (by rw [← hL2] at hx; exact hx)))
  have HN1 := Lib.hid (fun (w' : World) (h' : NB w' q L) => lands_next w' q L h')
  have HN2 := Lib.hid (fun (w' : World) (h' : NB w' q L1) => lands_next w' q L1 h')
  rw [hd0, hL1] at HN1
  rw [hc1, hL2] at HN2
  have HNB := Lib.hid h
  have hkn : (if (256 : Int) < (c1 : Int) then (256 : Int) else (c1 : Int)) = (cnt : Int) := by split <;> omega
  have hkb : ∀ (ts : Array TypeId) (t : TypeId) (w : World), (Builtin.min_ ts t #[.int .i64 (c1 : Int), .int .i64 256]).run Try.prog w = .ok (.int .i64 (cnt : Int)) w := fun ts t w => by rw [run_min_int2, hkn]
  have s1 : IntKind.i64.wrap (a + (d0 : Int)) = d := by rw [hd]; exact IntWalk.i64_in _ (by omega)
  have s2 : IntKind.i64.wrap d = d := IntWalk.i64_in _ (by omega)
  have hcb : cnt ≤ 256 := by omega
  clear h hbyte hbyte2 hd0 hL1 hc1 hL2 hcnt hkn hn1 hn2
  go_enter Try.func58, Try.ntmps58
  go_wp2_with fail
  have HZ := Lib.hid (show (w.alloc (.cells #[.int .i64 0, .slice none 0 0] 52)).heap[w.heap.size]? = some (.cells #[.int .i64 0, .slice none 0 0] 52 (0, 0)) from heap_alloc_new w _)
  have HM0 := Lib.hid (show Mod (fun k => k = q) w (w.alloc (.cells #[.int .i64 0, .slice none 0 0] 52)) from (Mod.refl _ _).alloc _)
  have HNBa := Lib.hid (HNB.out.below (below_one (w := w) (A := .cells #[.int .i64 0, .slice none 0 0] 52)))
  obtain ⟨b4, hb4⟩ : ∃ b4, b4 = w.heap.size := ⟨_, rfl⟩
  have hsz : (w.alloc (.cells #[.int .i64 0, .slice none 0 0] 52)).heap.size = b4 + 1 := by rw [hb4]; simp
  have hb4q : b4 ≠ q := by omega
  have hb4w : w.heap.size ≤ b4 := by omega
  rw [← hb4] at HZ ⊢
  generalize w.alloc (.cells #[.int .i64 0, .slice none 0 0] 52) = wa at HZ HM0 HNBa hsz ⊢
  clear hb4 HNB
  refine (HN1.out wa HNBa.out).mono ?_; rintro e w1 ⟨rfl, hnb1, hm1⟩
  have HZ1 := Lib.hid ((hm1.block b4 (lt_of_heap HZ.out) hb4q).trans HZ.out)
  have HNB1 := Lib.hid hnb1
  have HM1 := Lib.hid (HM0.out.trans hm1)
  have hsz1 : b4 + 1 ≤ w1.heap.size := by rw [← hsz]; exact hm1.size
  clear hnb1 hm1 hsz
  go_wp2_with fail
  have HE0 := Lib.hid (show EA w q w1.heap.size b4 d (.slice none 0 0) [] L1 (w1.alloc (.cells #[.int .i64 d, .slice none 0 0] 52)) from
    ⟨heap_alloc_new w1 _, (Below.heap_alloc _ _ _ (lt_of_heap HZ1.out)).trans HZ1.out, OwnZ.nil _ _, HNB1.out.below below_one, HM1.out.alloc _⟩)
  obtain ⟨be, hbe⟩ : ∃ be, be = w1.heap.size := ⟨_, rfl⟩
  have hbq : be ≠ q ∧ be ≠ b4 ∧ w.heap.size ≤ be := by omega
  rw [← hbe] at HE0 ⊢
  generalize w1.alloc (.cells #[.int .i64 d, .slice none 0 0] 52) = w2 at HE0 ⊢
  clear hbe hsz1
  refine (HN2.out w2 HE0.out.nb).mono ?_; rintro e w3 ⟨rfl, hnb3, hm3⟩
  have HE3 := Lib.hid (HE0.out.next ⟨hbq.1, hb4q⟩ hnb3 hm3)
  clear hnb3 hm3
  go_wp2_with fail
  go_loopw [6, 15] (fun pv kv wr => ∃ (k : Nat) (a2 : Int) (acc : List Int) (M : List Nat) (u : Value), k ≤ cnt ∧ kv = .int .i64 (k : Int) ∧ pv = .int .i64 a2 ∧ 0 ≤ a2 ∧ a2 ≤ 4294967296 * k ∧ Hid (acc.length = k ∧ (∀ x ∈ M, x < 256) ∧ acc ++ (posR (cnt - k) a2 M).1 = (posR cnt 0 L2).1 ∧ (posR (cnt - k) a2 M).2 = (posR cnt 0 L2).2) ∧ EA w q be b4 d u acc M wr) (fun _ kv _ => cnt - (intOf kv).toNat)
  case atStart => exact ⟨0, 0, [], L2, _, by omega, rfl, rfl, by omega, by omega, Lib.hid ⟨rfl, HB2.out, rfl, rfl⟩, HE3.out⟩
  case round =>
    obtain ⟨k, a2, acc, M, u, hk, rfl, rfl, ha20, ha21, HR, hE⟩ := hrel
    have HE := Lib.hid hE
    clear hE
    by_cases hlt : k < cnt
    · have hlt1 : (k : Int) < (cnt : Int) := by omega
      obtain ⟨hl1, hbm, hr1, hr2⟩ := HR.out
      obtain ⟨j, hj⟩ : ∃ j, cnt - k = j + 1 := ⟨cnt - k - 1, by omega⟩
      rw [hj] at hr1 hr2
      simp only [posR] at hr1 hr2
      have hnl := (next_lt hbm).1
      have hN3 := lands_next wr q M HE.out.nb
      obtain ⟨n3, hn3⟩ : ∃ n3, (nextN M).1 = n3 := ⟨_, rfl⟩
      obtain ⟨M2, hM2⟩ : ∃ M2, (nextN M).2 = M2 := ⟨_, rfl⟩
      rw [hn3, hM2] at hN3 hr1 hr2
      rw [hn3] at hnl
      obtain ⟨a3, ha3⟩ : ∃ a3, a2 + (n3 : Int) = a3 := ⟨_, rfl⟩
      rw [ha3] at hr1 hr2
      have HNx := Lib.hid (show (acc ++ [a3]).length = k + 1 ∧ (∀ x ∈ M2, x < 256) ∧ (acc ++ [a3]) ++ (posR (cnt - (k + 1)) a3 M2).1 = (posR cnt 0 L2).1 ∧ (posR (cnt - (k + 1)) a3 M2).2 = (posR cnt 0 L2).2 from
        ⟨by simp [hl1], fun x hx => hbm x (List.mem_of_mem_drop (by rw [← hM2] at hx; exact hx)), by rw [show cnt - (k + 1) = j by omega, ← hr1]; simp, by rw [show cnt - (k + 1) = j by omega]; exact hr2⟩)
      have HN3 := Lib.hid hN3
      have HL := Lib.hid hl1
      have t1 : IntKind.i64.wrap (a2 + (n3 : Int)) = a3 := by rw [ha3]; exact IntWalk.i64_in _ (by omega)
      have t2 : IntKind.i64.wrap a3 = a3 := IntWalk.i64_in _ (by omega)
      have hb3 : 0 ≤ a3 ∧ a3 ≤ 4294967296 * ((k + 1 : Nat) : Int) := by omega
      clear hl1 hbm hr1 hr2 hj hn3 hM2 hN3 hnl
      go_wp2_with fail
      refine HN3.out.mono ?_; rintro e w4 ⟨rfl, hnb4, hm4⟩
      have HE4 := Lib.hid (HE.out.next ⟨hbq.1, hb4q⟩ hnb4 hm4)
      have q1 := cell_at HE4.out.e 1
      have hws := HE4.out.mod.size
      clear hnb4 hm4
      go_wp2_with (at_builtin; refine wpList_append_own _ rfl (.tmp 22) (.tmp 24) 50 rfl w.heap.size 3 i0 _ 1 8 Try.underlying50 HI.out.1 HI.out.2.1 HI.out.2.2.1 HI.out.2.2.2 rfl (by decide) _ k (zC acc) rfl (World.ownsRow.alloc (HE4.out.own.row HL.out) _) ⟨_, 0, none⟩ 1 1 [.int .i64 a3] rfl rfl one_cell (by simp [Value.oneCell']) (by unfold maxLen; omega) (by omega) (by simp; omega) ?_; intro v' w5 ho hg _; obtain ⟨g5, c5, rfl⟩ := slice_of (show 0 < k + 1 by omega) ho; have hm := HE4.out.more hql hbq.2.2 hbq.2.1 HL.out ho hg; have q2 := hm.1; have q3 := hm.2.1; have HE5 := Lib.hid hm.2.2; clear hm ho hg)
      go_roundw
      case rel => exact ⟨k + 1, a3, acc ++ [a3], M2, _, by omega, by go_num, rfl, hb3.1, hb3.2, HNx, HE5.out⟩
      case measure => simp [intOf]; omega
    · obtain rfl : k = cnt := by omega
      have HR2 := Lib.hid (show acc = (posR k 0 L2).1 ∧ M = (posR k 0 L2).2 by
        have := HR.out.2.2
        rw [Nat.sub_self] at this
        simp only [posR, List.append_nil] at this
        exact this)
      obtain ⟨ou, cu, hu, _⟩ := HE.out.own.reads
      subst hu
      have q0 := cell_at HE.out.e 0
      have q1 := cell_at HE.out.e 1
      have q2 := cell_at HE.out.z 0
      have q3 := cell_at HE.out.z 1
      have q4 := free_at HE.out.z 0
      have q5 := free_at HE.out.z 1
      go_wp2_with fail
      have k1 := heap_setCell_same _ b4 0 _ _ (.int .i64 d) HE.out.z
      have k2 := heap_setCell_same _ b4 1 _ _ (.slice ou acc.length cu) k1
      have hoth : ∀ j, j ≠ b4 → ((wr.setCell ⟨b4, 0, none⟩ (.int .i64 d)).setCell ⟨b4, 1, none⟩ (.slice ou acc.length cu)).heap[j]? = wr.heap[j]? := fun j hj => (Below.heap_setCell _ _ _ _ hj).trans (Below.heap_setCell _ _ _ _ hj)
      refine bodyPost_ret (v := .agg #[.int .i64 d, .slice ou acc.length cu]) (results_cell_row rfl _ _ b4 _ _ (0, 0) _ rfl k2 Try.underlying52 rfl ent_info) rfl ⟨.slice ou acc.length cu, ?_, ?_, ?_, ?_⟩
      · rw [HEnt.out]
      · rw [HEnt.out]
        simp only
        rw [← HR2.out.1]
        exact row_mod HE.out.own (q := b4) (fun j _ hj => hoth j hj) HE.out.z (by decide)
      · rw [HEnt.out]
        simp only
        rw [← HR2.out.2]
        exact HE.out.nb.keep fun j hj => hoth j (by omega)
      · exact (HE.out.mod.setCell (.inl hb4w) _).setCell (.inl hb4w) _
end Go.Proofs.Ytpmhkmakkeckkaa
