/-
  What the program's functions of layer 10 keep, as the laws' walks take it; the laws' closures keep to their programs, given that. Over the program's own text.
-/
import Derived.Test.YteliaammffmmiaaDictWhole
import Derived.Test.YteliaammffmmiaaDictRo
import Derived.Test.YteliaammffmmiaaDictPure
import Derived.Test.YteliaammffmmiaaPoolD
import Derived.Test.YteliaammffmmiaaNums
namespace Go.Proofs.Yteliaammffmmiaa
open Go.RowKit

theorem reach_max {n : Nat} (h : n ≤ reachBytes) : n ≤ maxLen := by unfold reachBytes at h; unfold maxLen; omega
theorem reach_int {n : Nat} (h : n ≤ reachBytes) : (n : Int) ≤ 9223372036854775807 := by unfold reachBytes at h; omega
theorem small_reach {n : Nat} (h : n ≤ 1000) : n ≤ reachBytes := by unfold reachBytes; omega
def tailR (a : Int) : Pr Int := .load a fun v => .ret v
def setTailR (a t : Int) : Pr Unit := .store a t (.ret ())
/-- Each of the answers as the chapter says: taken as given here, proved of the landed code elsewhere. -/
structure KeptDict (findP : Int → Int → List Nat → Pr (Int × Int)) : Prop where
  find : ∀ {w : World} {rb mb cb : Nat} {go : Option Nat} {st : St} {Bd : Nat} (s n : Int) (key : ByteArray), RM w rb mb cb go true st → st.Fine Bd → Bd < 1000000000 → 0 ≤ s → s ≤ 1000000 → 1 ≤ n → n ≤ 1000000 → key.size ≤ reachBytes →
    Calls Try.prog 15 #[.pointer (some ⟨rb, 0, none⟩), .int .i64 s, .int .i64 n, .string key] w fun e w' => ∃ a k go', e = .returned (.tuple #[.int .i64 a, .int .i64 k]) ∧ RM w' rb mb cb go' true ((findP s n (bytesL key)).on st).2 ∧ Adv rb mb cb w go w' go' ∧ ∀ x, ((findP s n (bytesL key)).on st).1 = some x → x.1 = a ∧ x.2 = k
  rely : ∀ (n : Nat) (s lo top : Int) (C : Nat) (k : List Nat) (d : Dict), (∀ x ∈ k, x < 256) → k.length < 4294967296 → 0 < n → Rely (DIn n s lo top C) Dict.Le (Found n k d) (n * 27) d (findP s (n : Int) k)
  ro : ∀ (s n : Int) (k : List Nat), (findP s n k).RO
  put : ∀ {w : World} {rb mb cb : Nat} {go : Option Nat} {st : St} {Bd : Nat} (B S U : Nat → Int) (C T L s slot : Int) (key : ByteArray), RM w rb mb cb go true st → st.Fine Bd → Bd < 1000000000 → (0 ≤ B 4 ∧ B 4 ≤ 1000000) → (∀ k, k < 6 → 0 ≤ U k ∧ U k ≤ S k ∧ S k ≤ 1000000) → 0 ≤ s → s ≤ 1000000 → 0 ≤ slot → slot ≤ 1000000 → key.size ≤ 1000000 →
    Calls Try.prog 31 #[.pointer (some ⟨rb, 0, none⟩), .agg (planC B S C T L), .agg (six U), .int .i64 s, .int .i64 slot, .string key] w fun e w' => ∃ a V er go', e = .returned (.tuple #[.int .i64 a, .agg (six V), .int .i64 er]) ∧ RM w' rb mb cb go' true ((putDP B S U s slot (bytesL key)).on st).2 ∧ Adv rb mb cb w go w' go' ∧ ∀ x, ((putDP B S U s slot (bytesL key)).on st).1 = some x → x.1 = a ∧ six x.2.1 = six V ∧ x.2.2 = er
  read : ∀ {w : World} {rb mb cb : Nat} {go : Option Nat} {st : St} {Bd : Nat} (a : Int), RM w rb mb cb go true st → st.Fine Bd → Bd < 1000000000 → 0 ≤ a → a ≤ 1000000 →
    Calls Try.prog 33 #[.pointer (some ⟨rb, 0, none⟩), .int .i64 a] w fun e w' => ∃ v go', e = .returned (.string v) ∧ RM w' rb mb cb go' true ((readR a).on st).2 ∧ Adv rb mb cb w go w' go' ∧ ∀ x, ((readR a).on st).1 = some x → byteText x = v
  tail : ∀ {w : World} {rb mb cb : Nat} {go : Option Nat} {st : St} {Bd : Nat} (a : Int), RM w rb mb cb go true st → st.Fine Bd → Bd < 1000000000 → 0 ≤ a → a ≤ 1000000 →
    Calls Try.prog 23 #[.pointer (some ⟨rb, 0, none⟩), .int .i64 a] w fun e w' => ∃ t go', e = .returned (.int .i64 t) ∧ RM w' rb mb cb go' true ((tailR a).on st).2 ∧ Adv rb mb cb w go w' go' ∧ ∀ x, ((tailR a).on st).1 = some x → x = t
  setTail : ∀ {w : World} {rb mb cb : Nat} {go : Option Nat} {st : St} {Bd : Nat} (a t : Int), RM w rb mb cb go true st → st.Fine Bd → Bd < 1000000000 → 0 ≤ a → a ≤ 1000000 → 0 ≤ t → t ≤ 4294967295 →
    Calls Try.prog 21 #[.pointer (some ⟨rb, 0, none⟩), .int .i64 a, .int .i64 t] w fun e w' => ∃ go', e = .returned (.tuple #[]) ∧ RM w' rb mb cb go' true ((setTailR a t).on st).2 ∧ Adv rb mb cb w go w' go'

/-! ### The closure of a Find -/
structure FiI (bs bn bq ba bk : Nat) (s n : Int) (key : ByteArray) (w : World) : Prop where
  s : w.heap[bs]? = some (.cells #[.int .i64 s] 3 (0, 0))
  n : w.heap[bn]? = some (.cells #[.int .i64 n] 3 (0, 0))
  q : w.heap[bq]? = some (.cells #[.string key] 9 (0, 0))
  a : ∃ i : Int, w.heap[ba]? = some (.cells #[.int .i64 i] 3 (0, 0))
  k : ∃ i : Int, w.heap[bk]? = some (.cells #[.int .i64 i] 3 (0, 0))
def FiS (bs bn bq ba bk : Nat) (k : Nat) : Prop := k = bs ∨ k = bn ∨ k = bq ∨ k = ba ∨ k = bk
theorem FiI.of_blocks {bs bn bq ba bk : Nat} {s n : Int} {key : ByteArray} {w w' : World} (h : FiI bs bn bq ba bk s n key w) (hb : ∀ k, FiS bs bn bq ba bk k → k < w.heap.size → w'.heap[k]? = w.heap[k]?) : FiI bs bn bq ba bk s n key w' :=
  ⟨(hb _ (.inl rfl) (lt_of_heap h.s)).trans h.s, (hb _ (.inr (.inl rfl)) (lt_of_heap h.n)).trans h.n, (hb _ (.inr (.inr (.inl rfl))) (lt_of_heap h.q)).trans h.q, (by obtain ⟨i, hi⟩ := h.a; exact ⟨i, (hb _ (.inr (.inr (.inr (.inl rfl)))) (lt_of_heap hi)).trans hi⟩), (by obtain ⟨i, hi⟩ := h.k; exact ⟨i, (hb _ (.inr (.inr (.inr (.inr (rfl))))) (lt_of_heap hi)).trans hi⟩)⟩
structure FiQ (ba bk : Nat) (x : Int × Int) (w : World) : Prop where
  a : w.heap[ba]? = some (.cells #[.int .i64 x.1] 3 (0, 0))
  k : w.heap[bk]? = some (.cells #[.int .i64 x.2] 3 (0, 0))
set_option maxRecDepth 100000 in
set_option maxHeartbeats 2000000 in
theorem Fi_clo {findP : Int → Int → List Nat → Pr (Int × Int)} (K : KeptDict findP) {s n : Int} {key : ByteArray} (s0 : 0 ≤ s) (s1 : s ≤ 1000000) (n0 : 1 ≤ n) (n1 : n ≤ 1000000) (hk : key.size ≤ reachBytes) (bs bn bq ba bk rb mb cb Bd : Nat) (hB : Bd < 1000000000) (na_s : ba ≠ bs) (na_n : ba ≠ bn) (na_q : ba ≠ bq) (na_k : ba ≠ bk) (nk_s : bk ≠ bs) (nk_n : bk ≠ bn) (nk_q : bk ≠ bq) (l_a : ba < rb) (l_k : bk < rb) :
    Clo 29 #[.pointer (some ⟨bs, 0, none⟩), .pointer (some ⟨bn, 0, none⟩), .pointer (some ⟨bq, 0, none⟩), .pointer (some ⟨ba, 0, none⟩), .pointer (some ⟨bk, 0, none⟩)] rb mb cb (FiS bs bn bq ba bk) (FiI bs bn bq ba bk s n key) (findP s n (bytesL key)) (FiQ ba bk) Bd where
  enter := fun args w => rfl
  keepI := fun w w' h _ hb => h.of_blocks hb
  keepP := fun x w w' go st h _ hm => ⟨(hm.block _ (lt_of_heap h.a) (by omega)).trans h.a, (hm.block _ (lt_of_heap h.k) (by omega)).trans h.k⟩
  old := fun w h k hk => by
    rcases hk with rfl | rfl | rfl | rfl | rfl
    · exact lt_of_heap h.s
    · exact lt_of_heap h.n
    · exact lt_of_heap h.q
    · obtain ⟨i, hi⟩ := h.a; exact lt_of_heap hi
    · obtain ⟨i, hi⟩ := h.k; exact lt_of_heap hi
  call := fun w go st hrm hfine hoff hI hS => by
    have HI := Lib.hid hI
    have HK := Lib.hid (K.find s n key hrm hfine hB s0 s1 n0 n1 hk)
    have HS := Lib.hid hS
    have c_s := cell_at hI.s 0
    have c_n := cell_at hI.n 0
    have c_q := cell_at hI.q 0
    clear hI hrm hfine hoff hS s0 s1 n0 n1 hk
    have HNE := Lib.hid (And.intro na_s (And.intro na_n (And.intro na_q (And.intro na_k (And.intro nk_s (And.intro nk_n (nk_q)))))))
    show Calls Try.prog 29 #[.pointer (some ⟨rb, 0, none⟩), .pointer (some ⟨bs, 0, none⟩), .pointer (some ⟨bn, 0, none⟩), .pointer (some ⟨bq, 0, none⟩), .pointer (some ⟨ba, 0, none⟩), .pointer (some ⟨bk, 0, none⟩)] w _
    go_enter Try.func29, Try.ntmps29
    go_wp2_with fail
    refine HK.out.mono ?_
    clear HK
    rintro e w1 ⟨a, k, go', rfl, hrm1, hadv, hans⟩
    have hb : ∀ k, FiS bs bn bq ba bk k → k < w.heap.size → w1.heap[k]? = w.heap[k]? := fun k hk hlt => hadv.mod.block k hlt fun e => HS.out k hk e
    have hI1 := HI.out.of_blocks hb
    obtain ⟨i_a, r_a⟩ := hI1.a
    obtain ⟨i_k, r_k⟩ := hI1.k
    have q_a : (w1).heap[ba]? = some (.cells #[.int .i64 i_a] 3 (0, 0)) := r_a
    have f_a := free_at q_a 0
    have k_a := cell_at q_a 0
    have Q_a := Lib.hid q_a
    have q_k : ((World.setCell w1 ⟨ba, 0, none⟩ (.int .i64 a))).heap[bk]? = some (.cells #[.int .i64 i_k] 3 (0, 0)) := (Below.heap_setCell _ _ _ _ (Ne.symm na_k)).trans r_k
    have f_k := free_at q_k 0
    have k_k := cell_at q_k 0
    have Q_k := Lib.hid q_k
    have HI1 := Lib.hid hI1
    have HA := Lib.hid (And.intro hrm1 (And.intro hadv hans))
    clear hb hI1 hrm1 hadv hans c_s c_n c_q r_a r_k q_a q_k
    go_wp2_with fail
    go_end0
    obtain ⟨hrm1, hadv, hans⟩ := HA.out
    obtain ⟨na_s, na_n, na_q, na_k, nk_s, nk_n, nk_q⟩ := HNE.out
    have hm : Mod (FiS bs bn bq ba bk) w1 (World.setCell (World.setCell w1 ⟨ba, 0, none⟩ (.int .i64 a)) ⟨bk, 0, none⟩ (.int .i64 k)) := Mod.setCell (S := FiS bs bn bq ba bk) (Mod.setCell (S := FiS bs bn bq ba bk) (Mod.refl _ _) (.inr (.inr (.inr (.inr (.inl rfl))))) _) (.inr (.inr (.inr (.inr (.inr (rfl)))))) _
    have hfar : ∀ k, Feet rb mb cb go' k → ¬ FiS bs bn bq ba bk k := fun k hk hs => (hadv.advS (fun _ => False)).apart (show k < w.heap.size by
      have h := HI.out
      rcases hs with rfl | rfl | rfl | rfl | rfl
      · exact lt_of_heap h.s
      · exact lt_of_heap h.n
      · exact lt_of_heap h.q
      · obtain ⟨i, hi⟩ := h.a; exact lt_of_heap hi
      · obtain ⟨i, hi⟩ := h.k; exact lt_of_heap hi) (HS.out k hs) hk
    have z_a : ((World.setCell (World.setCell w1 ⟨ba, 0, none⟩ (.int .i64 a)) ⟨bk, 0, none⟩ (.int .i64 k))).heap[ba]? = some (.cells #[.int .i64 a] 3 (0, 0)) := by
      refine (Below.heap_setCell _ _ _ _ na_k).trans ?_
      rw [heap_setCell_same _ _ _ _ _ _ Q_a.out]; rfl
    have z_k : ((World.setCell (World.setCell w1 ⟨ba, 0, none⟩ (.int .i64 a)) ⟨bk, 0, none⟩ (.int .i64 k))).heap[bk]? = some (.cells #[.int .i64 k] 3 (0, 0)) := by
      rw [heap_setCell_same _ _ _ _ _ _ Q_k.out]; rfl
    refine ⟨rfl, go', hrm1.mod hm hfar, (hadv.advS _).trans (AdvS.of_mod hm fun k hk => .inl hk), ⟨((Below.heap_setCell _ _ _ _ (Ne.symm nk_s)).trans (Below.heap_setCell _ _ _ _ (Ne.symm na_s))).trans HI1.out.s, ((Below.heap_setCell _ _ _ _ (Ne.symm nk_n)).trans (Below.heap_setCell _ _ _ _ (Ne.symm na_n))).trans HI1.out.n, ((Below.heap_setCell _ _ _ _ (Ne.symm nk_q)).trans (Below.heap_setCell _ _ _ _ (Ne.symm na_q))).trans HI1.out.q, ⟨_, z_a⟩, ⟨_, z_k⟩⟩, ?_⟩
    intro x hx
    have hx2 := hans x hx
    obtain ⟨e1, e2⟩ := hx2
    exact ⟨by rw [e1]; exact z_a, by rw [e2]; exact z_k⟩
/-! ### The closure of a Put -/
structure PuI (bp bu bs bi bq ba bv be : Nat) (B S : Nat → Int) (C T L : Int) (U0 : Nat → Int) (s slot : Int) (key : ByteArray) (w : World) : Prop where
  p : w.heap[bp]? = some (.cells (planC B S C T L) 25 (0, 0))
  u : w.heap[bu]? = some (.cells (six U0) 23 (0, 0))
  s : w.heap[bs]? = some (.cells #[.int .i64 s] 3 (0, 0))
  i : w.heap[bi]? = some (.cells #[.int .i64 slot] 3 (0, 0))
  q : w.heap[bq]? = some (.cells #[.string key] 9 (0, 0))
  a : ∃ i : Int, w.heap[ba]? = some (.cells #[.int .i64 i] 3 (0, 0))
  v : ∃ i : Nat → Int, w.heap[bv]? = some (.cells (six i) 23 (0, 0))
  e : ∃ i : Int, w.heap[be]? = some (.cells #[.int .i64 i] 29 (0, 0))
def PuS (bp bu bs bi bq ba bv be : Nat) (k : Nat) : Prop := k = bp ∨ k = bu ∨ k = bs ∨ k = bi ∨ k = bq ∨ k = ba ∨ k = bv ∨ k = be
theorem PuI.of_blocks {bp bu bs bi bq ba bv be : Nat} {B S : Nat → Int} {C T L : Int} {U0 : Nat → Int} {s slot : Int} {key : ByteArray} {w w' : World} (h : PuI bp bu bs bi bq ba bv be B S C T L U0 s slot key w) (hb : ∀ k, PuS bp bu bs bi bq ba bv be k → k < w.heap.size → w'.heap[k]? = w.heap[k]?) : PuI bp bu bs bi bq ba bv be B S C T L U0 s slot key w' :=
  ⟨(hb _ (.inl rfl) (lt_of_heap h.p)).trans h.p, (hb _ (.inr (.inl rfl)) (lt_of_heap h.u)).trans h.u, (hb _ (.inr (.inr (.inl rfl))) (lt_of_heap h.s)).trans h.s, (hb _ (.inr (.inr (.inr (.inl rfl)))) (lt_of_heap h.i)).trans h.i, (hb _ (.inr (.inr (.inr (.inr (.inl rfl))))) (lt_of_heap h.q)).trans h.q, (by obtain ⟨i, hi⟩ := h.a; exact ⟨i, (hb _ (.inr (.inr (.inr (.inr (.inr (.inl rfl)))))) (lt_of_heap hi)).trans hi⟩), (by obtain ⟨i, hi⟩ := h.v; exact ⟨i, (hb _ (.inr (.inr (.inr (.inr (.inr (.inr (.inl rfl))))))) (lt_of_heap hi)).trans hi⟩), (by obtain ⟨i, hi⟩ := h.e; exact ⟨i, (hb _ (.inr (.inr (.inr (.inr (.inr (.inr (.inr (rfl)))))))) (lt_of_heap hi)).trans hi⟩)⟩
structure PuQ (ba bv be : Nat) (x : PutD) (w : World) : Prop where
  a : w.heap[ba]? = some (.cells #[.int .i64 x.1] 3 (0, 0))
  v : w.heap[bv]? = some (.cells (six x.2.1) 23 (0, 0))
  e : w.heap[be]? = some (.cells #[.int .i64 x.2.2] 29 (0, 0))
set_option maxRecDepth 100000 in
set_option maxHeartbeats 2000000 in
theorem Pu_clo {findP : Int → Int → List Nat → Pr (Int × Int)} (K : KeptDict findP) {B S : Nat → Int} {C T L : Int} {U0 : Nat → Int} {s slot : Int} {key : ByteArray} (hb4 : 0 ≤ B 4 ∧ B 4 ≤ 1000000) (hU : ∀ k, k < 6 → 0 ≤ U0 k ∧ U0 k ≤ S k ∧ S k ≤ 1000000) (s0 : 0 ≤ s) (s1 : s ≤ 1000000) (i0 : 0 ≤ slot) (i1 : slot ≤ 1000000) (hk : key.size ≤ 1000000) (bp bu bs bi bq ba bv be rb mb cb Bd : Nat) (hB : Bd < 1000000000) (na_p : ba ≠ bp) (na_u : ba ≠ bu) (na_s : ba ≠ bs) (na_i : ba ≠ bi) (na_q : ba ≠ bq) (na_v : ba ≠ bv) (na_e : ba ≠ be) (nv_p : bv ≠ bp) (nv_u : bv ≠ bu) (nv_s : bv ≠ bs) (nv_i : bv ≠ bi) (nv_q : bv ≠ bq) (nv_e : bv ≠ be) (ne_p : be ≠ bp) (ne_u : be ≠ bu) (ne_s : be ≠ bs) (ne_i : be ≠ bi) (ne_q : be ≠ bq) (l_a : ba < rb) (l_v : bv < rb) (l_e : be < rb) :
    Clo 30 #[.pointer (some ⟨bp, 0, none⟩), .pointer (some ⟨bu, 0, none⟩), .pointer (some ⟨bs, 0, none⟩), .pointer (some ⟨bi, 0, none⟩), .pointer (some ⟨bq, 0, none⟩), .pointer (some ⟨ba, 0, none⟩), .pointer (some ⟨bv, 0, none⟩), .pointer (some ⟨be, 0, none⟩)] rb mb cb (PuS bp bu bs bi bq ba bv be) (PuI bp bu bs bi bq ba bv be B S C T L U0 s slot key) (putDP B S U0 s slot (bytesL key)) (PuQ ba bv be) Bd where
  enter := fun args w => rfl
  keepI := fun w w' h _ hb => h.of_blocks hb
  keepP := fun x w w' go st h _ hm => ⟨(hm.block _ (lt_of_heap h.a) (by omega)).trans h.a, (hm.block _ (lt_of_heap h.v) (by omega)).trans h.v, (hm.block _ (lt_of_heap h.e) (by omega)).trans h.e⟩
  old := fun w h k hk => by
    rcases hk with rfl | rfl | rfl | rfl | rfl | rfl | rfl | rfl
    · exact lt_of_heap h.p
    · exact lt_of_heap h.u
    · exact lt_of_heap h.s
    · exact lt_of_heap h.i
    · exact lt_of_heap h.q
    · obtain ⟨i, hi⟩ := h.a; exact lt_of_heap hi
    · obtain ⟨i, hi⟩ := h.v; exact lt_of_heap hi
    · obtain ⟨i, hi⟩ := h.e; exact lt_of_heap hi
  call := fun w go st hrm hfine hoff hI hS => by
    have HI := Lib.hid hI
    have HK := Lib.hid (K.put B S U0 C T L s slot key hrm hfine hB hb4 hU s0 s1 i0 i1 hk)
    have HS := Lib.hid hS
    have H_p := Lib.hid hI.p
    have H_u := Lib.hid hI.u
    have c_s := cell_at hI.s 0
    have c_i := cell_at hI.i 0
    have c_q := cell_at hI.q 0
    clear hI hrm hfine hoff hS hb4 hU s0 s1 i0 i1 hk
    have HNE := Lib.hid (And.intro na_p (And.intro na_u (And.intro na_s (And.intro na_i (And.intro na_q (And.intro na_v (And.intro na_e (And.intro nv_p (And.intro nv_u (And.intro nv_s (And.intro nv_i (And.intro nv_q (And.intro nv_e (And.intro ne_p (And.intro ne_u (And.intro ne_s (And.intro ne_i (ne_q))))))))))))))))))
    show Calls Try.prog 30 #[.pointer (some ⟨rb, 0, none⟩), .pointer (some ⟨bp, 0, none⟩), .pointer (some ⟨bu, 0, none⟩), .pointer (some ⟨bs, 0, none⟩), .pointer (some ⟨bi, 0, none⟩), .pointer (some ⟨bq, 0, none⟩), .pointer (some ⟨ba, 0, none⟩), .pointer (some ⟨bv, 0, none⟩), .pointer (some ⟨be, 0, none⟩)] w _
    go_enter Try.func30, Try.ntmps30
    go_wp2_with (first | (refine wpList_load_row rfl 25 (.tmp 1) rfl bp rfl 25 (planC B S C T L) (0, 0) _ H_p.out Try.underlying25 rfl (planC_info _ _ _ _ _) ?_) | (refine wpList_load_row rfl 23 (.tmp 2) rfl bu rfl 23 (six U0) (0, 0) _ H_u.out Try.underlying23 rfl (six_info _) ?_) | fail)
    refine HK.out.mono ?_
    clear HK
    rintro e w1 ⟨a, V, er, go', rfl, hrm1, hadv, hans⟩
    have hb : ∀ k, PuS bp bu bs bi bq ba bv be k → k < w.heap.size → w1.heap[k]? = w.heap[k]? := fun k hk hlt => hadv.mod.block k hlt fun e => HS.out k hk e
    have hI1 := HI.out.of_blocks hb
    obtain ⟨i_a, r_a⟩ := hI1.a
    obtain ⟨i_v, r_v⟩ := hI1.v
    obtain ⟨i_e, r_e⟩ := hI1.e
    have q_a : (w1).heap[ba]? = some (.cells #[.int .i64 i_a] 3 (0, 0)) := r_a
    have f_a := free_at q_a 0
    have k_a := cell_at q_a 0
    have Q_a := Lib.hid q_a
    have R_v : Hid (((World.setCell w1 ⟨ba, 0, none⟩ (.int .i64 a))).heap[bv]? = some (.cells (six i_v) 23 (0, 0))) := Lib.hid ((Below.heap_setCell _ _ _ _ (Ne.symm na_v)).trans r_v)
    have q_e : ((World.setRow (World.setCell w1 ⟨ba, 0, none⟩ (.int .i64 a)) bv (six V))).heap[be]? = some (.cells #[.int .i64 i_e] 29 (0, 0)) := ((setRow_other _ _ _ _ (Ne.symm nv_e)).trans (Below.heap_setCell _ _ _ _ (Ne.symm na_e))).trans r_e
    have f_e := free_at q_e 0
    have k_e := cell_at q_e 0
    have Q_e := Lib.hid q_e
    have HI1 := Lib.hid hI1
    have HA := Lib.hid (And.intro hrm1 (And.intro hadv hans))
    clear hb hI1 hrm1 hadv hans c_s c_i c_q r_a r_v r_e q_a q_e
    go_wp2_with (first | (refine wpList_store_row rfl 23 (.tmp 7) (.tmp 19) rfl bv (six V) rfl rfl 23 (six i_v) R_v.out (six_info _) rfl (six_one _) ?_) | fail)
    go_end0
    obtain ⟨hrm1, hadv, hans⟩ := HA.out
    obtain ⟨na_p, na_u, na_s, na_i, na_q, na_v, na_e, nv_p, nv_u, nv_s, nv_i, nv_q, nv_e, ne_p, ne_u, ne_s, ne_i, ne_q⟩ := HNE.out
    have hm : Mod (PuS bp bu bs bi bq ba bv be) w1 (World.setCell (World.setRow (World.setCell w1 ⟨ba, 0, none⟩ (.int .i64 a)) bv (six V)) ⟨be, 0, none⟩ (.int .i64 er)) := Mod.setCell (S := PuS bp bu bs bi bq ba bv be) (Mod.setRow (S := PuS bp bu bs bi bq ba bv be) (Mod.setCell (S := PuS bp bu bs bi bq ba bv be) (Mod.refl _ _) (.inr (.inr (.inr (.inr (.inr (.inr (.inl rfl))))))) _) (.inr (.inr (.inr (.inr (.inr (.inr (.inr (.inl rfl)))))))) _) (.inr (.inr (.inr (.inr (.inr (.inr (.inr (.inr (rfl))))))))) _
    have hfar : ∀ k, Feet rb mb cb go' k → ¬ PuS bp bu bs bi bq ba bv be k := fun k hk hs => (hadv.advS (fun _ => False)).apart (show k < w.heap.size by
      have h := HI.out
      rcases hs with rfl | rfl | rfl | rfl | rfl | rfl | rfl | rfl
      · exact lt_of_heap h.p
      · exact lt_of_heap h.u
      · exact lt_of_heap h.s
      · exact lt_of_heap h.i
      · exact lt_of_heap h.q
      · obtain ⟨i, hi⟩ := h.a; exact lt_of_heap hi
      · obtain ⟨i, hi⟩ := h.v; exact lt_of_heap hi
      · obtain ⟨i, hi⟩ := h.e; exact lt_of_heap hi) (HS.out k hs) hk
    have z_a : ((World.setCell (World.setRow (World.setCell w1 ⟨ba, 0, none⟩ (.int .i64 a)) bv (six V)) ⟨be, 0, none⟩ (.int .i64 er))).heap[ba]? = some (.cells #[.int .i64 a] 3 (0, 0)) := by
      refine (Below.heap_setCell _ _ _ _ na_e).trans ?_
      refine (setRow_other _ _ _ _ na_v).trans ?_
      rw [heap_setCell_same _ _ _ _ _ _ Q_a.out]; rfl
    have z_v : ((World.setCell (World.setRow (World.setCell w1 ⟨ba, 0, none⟩ (.int .i64 a)) bv (six V)) ⟨be, 0, none⟩ (.int .i64 er))).heap[bv]? = some (.cells (six V) 23 (0, 0)) := by
      refine (Below.heap_setCell _ _ _ _ nv_e).trans ?_
      exact setRow_heap _ _ _ _ _ _ R_v.out
    have z_e : ((World.setCell (World.setRow (World.setCell w1 ⟨ba, 0, none⟩ (.int .i64 a)) bv (six V)) ⟨be, 0, none⟩ (.int .i64 er))).heap[be]? = some (.cells #[.int .i64 er] 29 (0, 0)) := by
      rw [heap_setCell_same _ _ _ _ _ _ Q_e.out]; rfl
    refine ⟨rfl, go', hrm1.mod hm hfar, (hadv.advS _).trans (AdvS.of_mod hm fun k hk => .inl hk), ⟨(((Below.heap_setCell _ _ _ _ (Ne.symm ne_p)).trans (setRow_other _ _ _ _ (Ne.symm nv_p))).trans (Below.heap_setCell _ _ _ _ (Ne.symm na_p))).trans HI1.out.p, (((Below.heap_setCell _ _ _ _ (Ne.symm ne_u)).trans (setRow_other _ _ _ _ (Ne.symm nv_u))).trans (Below.heap_setCell _ _ _ _ (Ne.symm na_u))).trans HI1.out.u, (((Below.heap_setCell _ _ _ _ (Ne.symm ne_s)).trans (setRow_other _ _ _ _ (Ne.symm nv_s))).trans (Below.heap_setCell _ _ _ _ (Ne.symm na_s))).trans HI1.out.s, (((Below.heap_setCell _ _ _ _ (Ne.symm ne_i)).trans (setRow_other _ _ _ _ (Ne.symm nv_i))).trans (Below.heap_setCell _ _ _ _ (Ne.symm na_i))).trans HI1.out.i, (((Below.heap_setCell _ _ _ _ (Ne.symm ne_q)).trans (setRow_other _ _ _ _ (Ne.symm nv_q))).trans (Below.heap_setCell _ _ _ _ (Ne.symm na_q))).trans HI1.out.q, ⟨_, z_a⟩, ⟨_, z_v⟩, ⟨_, z_e⟩⟩, ?_⟩
    intro x hx
    have hx2 := hans x hx
    obtain ⟨e1, e2, e3⟩ := hx2
    exact ⟨by rw [e1]; exact z_a, by rw [e2]; exact z_v, by rw [e3]; exact z_e⟩
/-! ### The closure of a Read -/
structure ReI (ba bt : Nat) (a : Int) (w : World) : Prop where
  a : w.heap[ba]? = some (.cells #[.int .i64 a] 3 (0, 0))
  t : ∃ i : ByteArray, w.heap[bt]? = some (.cells #[.string i] 9 (0, 0))
def ReS (ba bt : Nat) (k : Nat) : Prop := k = ba ∨ k = bt
theorem ReI.of_blocks {ba bt : Nat} {a : Int} {w w' : World} (h : ReI ba bt a w) (hb : ∀ k, ReS ba bt k → k < w.heap.size → w'.heap[k]? = w.heap[k]?) : ReI ba bt a w' :=
  ⟨(hb _ (.inl rfl) (lt_of_heap h.a)).trans h.a, (by obtain ⟨i, hi⟩ := h.t; exact ⟨i, (hb _ (.inr (rfl)) (lt_of_heap hi)).trans hi⟩)⟩
structure ReQ (bt : Nat) (x : List Nat) (w : World) : Prop where
  t : w.heap[bt]? = some (.cells #[.string (byteText x)] 9 (0, 0))
set_option maxRecDepth 100000 in
set_option maxHeartbeats 2000000 in
theorem Re_clo {findP : Int → Int → List Nat → Pr (Int × Int)} (K : KeptDict findP) {a : Int} (a0 : 0 ≤ a) (a1 : a ≤ 1000000) (ba bt rb mb cb Bd : Nat) (hB : Bd < 1000000000) (nt_a : bt ≠ ba) (l_t : bt < rb) :
    Clo 32 #[.pointer (some ⟨ba, 0, none⟩), .pointer (some ⟨bt, 0, none⟩)] rb mb cb (ReS ba bt) (ReI ba bt a) (readR a) (ReQ bt) Bd where
  enter := fun args w => rfl
  keepI := fun w w' h _ hb => h.of_blocks hb
  keepP := fun x w w' go st h _ hm => ⟨(hm.block _ (lt_of_heap h.t) (by omega)).trans h.t⟩
  old := fun w h k hk => by
    rcases hk with rfl | rfl
    · exact lt_of_heap h.a
    · obtain ⟨i, hi⟩ := h.t; exact lt_of_heap hi
  call := fun w go st hrm hfine hoff hI hS => by
    have HI := Lib.hid hI
    have HK := Lib.hid (K.read a hrm hfine hB a0 a1)
    have HS := Lib.hid hS
    have c_a := cell_at hI.a 0
    clear hI hrm hfine hoff hS a0 a1
    have HNE := Lib.hid (nt_a)
    show Calls Try.prog 32 #[.pointer (some ⟨rb, 0, none⟩), .pointer (some ⟨ba, 0, none⟩), .pointer (some ⟨bt, 0, none⟩)] w _
    go_enter Try.func32, Try.ntmps32
    go_wp2_with fail
    refine HK.out.mono ?_
    clear HK
    rintro e w1 ⟨v, go', rfl, hrm1, hadv, hans⟩
    have hb : ∀ k, ReS ba bt k → k < w.heap.size → w1.heap[k]? = w.heap[k]? := fun k hk hlt => hadv.mod.block k hlt fun e => HS.out k hk e
    have hI1 := HI.out.of_blocks hb
    obtain ⟨i_t, r_t⟩ := hI1.t
    have q_t : (w1).heap[bt]? = some (.cells #[.string i_t] 9 (0, 0)) := r_t
    have f_t := free_at q_t 0
    have k_t := cell_at q_t 0
    have Q_t := Lib.hid q_t
    have HI1 := Lib.hid hI1
    have HA := Lib.hid (And.intro hrm1 (And.intro hadv hans))
    clear hb hI1 hrm1 hadv hans c_a r_t q_t
    go_wp2_with fail
    go_end0
    obtain ⟨hrm1, hadv, hans⟩ := HA.out
    have nt_a := HNE.out
    have hm : Mod (ReS ba bt) w1 (World.setCell w1 ⟨bt, 0, none⟩ (.string v)) := Mod.setCell (S := ReS ba bt) (Mod.refl _ _) (.inr (.inr (rfl))) _
    have hfar : ∀ k, Feet rb mb cb go' k → ¬ ReS ba bt k := fun k hk hs => (hadv.advS (fun _ => False)).apart (show k < w.heap.size by
      have h := HI.out
      rcases hs with rfl | rfl
      · exact lt_of_heap h.a
      · obtain ⟨i, hi⟩ := h.t; exact lt_of_heap hi) (HS.out k hs) hk
    have z_t : ((World.setCell w1 ⟨bt, 0, none⟩ (.string v))).heap[bt]? = some (.cells #[.string v] 9 (0, 0)) := by
      rw [heap_setCell_same _ _ _ _ _ _ Q_t.out]; rfl
    refine ⟨rfl, go', hrm1.mod hm hfar, (hadv.advS _).trans (AdvS.of_mod hm fun k hk => .inl hk), ⟨(Below.heap_setCell _ _ _ _ (Ne.symm nt_a)).trans HI1.out.a, ⟨_, z_t⟩⟩, ?_⟩
    intro x hx
    have hx2 := hans x hx
    have e1 := hx2
    exact ⟨by rw [e1]; exact z_t⟩
/-! ### The closures of tails -/
structure TaI (ba bt : Nat) (a : Int) (w : World) : Prop where
  a : w.heap[ba]? = some (.cells #[.int .i64 a] 3 (0, 0))
  t : ∃ i : Int, w.heap[bt]? = some (.cells #[.int .i64 i] 3 (0, 0))
def TaS (ba bt : Nat) (k : Nat) : Prop := k = ba ∨ k = bt
theorem TaI.of_blocks {ba bt : Nat} {a : Int} {w w' : World} (h : TaI ba bt a w) (hb : ∀ k, TaS ba bt k → k < w.heap.size → w'.heap[k]? = w.heap[k]?) : TaI ba bt a w' :=
  ⟨(hb _ (.inl rfl) (lt_of_heap h.a)).trans h.a, (by obtain ⟨i, hi⟩ := h.t; exact ⟨i, (hb _ (.inr (rfl)) (lt_of_heap hi)).trans hi⟩)⟩
structure TaQ (bt : Nat) (x : Int) (w : World) : Prop where
  t : w.heap[bt]? = some (.cells #[.int .i64 x] 3 (0, 0))
set_option maxRecDepth 100000 in
set_option maxHeartbeats 2000000 in
theorem Ta_clo {findP : Int → Int → List Nat → Pr (Int × Int)} (K : KeptDict findP) {a : Int} (a0 : 0 ≤ a) (a1 : a ≤ 1000000) (ba bt rb mb cb Bd : Nat) (hB : Bd < 1000000000) (nt_a : bt ≠ ba) (l_t : bt < rb) :
    Clo 22 #[.pointer (some ⟨ba, 0, none⟩), .pointer (some ⟨bt, 0, none⟩)] rb mb cb (TaS ba bt) (TaI ba bt a) (tailR a) (TaQ bt) Bd where
  enter := fun args w => rfl
  keepI := fun w w' h _ hb => h.of_blocks hb
  keepP := fun x w w' go st h _ hm => ⟨(hm.block _ (lt_of_heap h.t) (by omega)).trans h.t⟩
  old := fun w h k hk => by
    rcases hk with rfl | rfl
    · exact lt_of_heap h.a
    · obtain ⟨i, hi⟩ := h.t; exact lt_of_heap hi
  call := fun w go st hrm hfine hoff hI hS => by
    have HI := Lib.hid hI
    have HK := Lib.hid (K.tail a hrm hfine hB a0 a1)
    have HS := Lib.hid hS
    have c_a := cell_at hI.a 0
    clear hI hrm hfine hoff hS a0 a1
    have HNE := Lib.hid (nt_a)
    show Calls Try.prog 22 #[.pointer (some ⟨rb, 0, none⟩), .pointer (some ⟨ba, 0, none⟩), .pointer (some ⟨bt, 0, none⟩)] w _
    go_enter Try.func22, Try.ntmps22
    go_wp2_with fail
    refine HK.out.mono ?_
    clear HK
    rintro e w1 ⟨t, go', rfl, hrm1, hadv, hans⟩
    have hb : ∀ k, TaS ba bt k → k < w.heap.size → w1.heap[k]? = w.heap[k]? := fun k hk hlt => hadv.mod.block k hlt fun e => HS.out k hk e
    have hI1 := HI.out.of_blocks hb
    obtain ⟨i_t, r_t⟩ := hI1.t
    have q_t : (w1).heap[bt]? = some (.cells #[.int .i64 i_t] 3 (0, 0)) := r_t
    have f_t := free_at q_t 0
    have k_t := cell_at q_t 0
    have Q_t := Lib.hid q_t
    have HI1 := Lib.hid hI1
    have HA := Lib.hid (And.intro hrm1 (And.intro hadv hans))
    clear hb hI1 hrm1 hadv hans c_a r_t q_t
    go_wp2_with fail
    go_end0
    obtain ⟨hrm1, hadv, hans⟩ := HA.out
    have nt_a := HNE.out
    have hm : Mod (TaS ba bt) w1 (World.setCell w1 ⟨bt, 0, none⟩ (.int .i64 t)) := Mod.setCell (S := TaS ba bt) (Mod.refl _ _) (.inr (.inr (rfl))) _
    have hfar : ∀ k, Feet rb mb cb go' k → ¬ TaS ba bt k := fun k hk hs => (hadv.advS (fun _ => False)).apart (show k < w.heap.size by
      have h := HI.out
      rcases hs with rfl | rfl
      · exact lt_of_heap h.a
      · obtain ⟨i, hi⟩ := h.t; exact lt_of_heap hi) (HS.out k hs) hk
    have z_t : ((World.setCell w1 ⟨bt, 0, none⟩ (.int .i64 t))).heap[bt]? = some (.cells #[.int .i64 t] 3 (0, 0)) := by
      rw [heap_setCell_same _ _ _ _ _ _ Q_t.out]; rfl
    refine ⟨rfl, go', hrm1.mod hm hfar, (hadv.advS _).trans (AdvS.of_mod hm fun k hk => .inl hk), ⟨(Below.heap_setCell _ _ _ _ (Ne.symm nt_a)).trans HI1.out.a, ⟨_, z_t⟩⟩, ?_⟩
    intro x hx
    have hx2 := hans x hx
    have e1 := hx2
    exact ⟨by rw [e1]; exact z_t⟩
structure SeI (ba bt : Nat) (a t : Int) (w : World) : Prop where
  a : w.heap[ba]? = some (.cells #[.int .i64 a] 3 (0, 0))
  t : w.heap[bt]? = some (.cells #[.int .u32 t] 52 (0, 0))
def SeS (ba bt : Nat) (k : Nat) : Prop := k = ba ∨ k = bt
theorem SeI.of_blocks {ba bt : Nat} {a t : Int} {w w' : World} (h : SeI ba bt a t w) (hb : ∀ k, SeS ba bt k → k < w.heap.size → w'.heap[k]? = w.heap[k]?) : SeI ba bt a t w' :=
  ⟨(hb _ (.inl rfl) (lt_of_heap h.a)).trans h.a, (hb _ (.inr (rfl)) (lt_of_heap h.t)).trans h.t⟩
set_option maxRecDepth 100000 in
set_option maxHeartbeats 2000000 in
theorem Se_clo {findP : Int → Int → List Nat → Pr (Int × Int)} (K : KeptDict findP) {a t : Int} (a0 : 0 ≤ a) (a1 : a ≤ 1000000) (t0 : 0 ≤ t) (t1 : t ≤ 4294967295) (ba bt rb mb cb Bd : Nat) (hB : Bd < 1000000000)   :
    Clo 20 #[.pointer (some ⟨ba, 0, none⟩), .pointer (some ⟨bt, 0, none⟩)] rb mb cb (SeS ba bt) (SeI ba bt a t) (setTailR a t) (fun _ _ => True) Bd where
  enter := fun args w => rfl
  keepI := fun w w' h _ hb => h.of_blocks hb
  keepP := fun x w w' go st h _ hm => trivial
  old := fun w h k hk => by
    rcases hk with rfl | rfl
    · exact lt_of_heap h.a
    · exact lt_of_heap h.t
  call := fun w go st hrm hfine hoff hI hS => by
    have HI := Lib.hid hI
    have HK := Lib.hid (K.setTail a t hrm hfine hB a0 a1 t0 t1)
    have HS := Lib.hid hS
    have c_a := cell_at hI.a 0
    have c_t := cell_at hI.t 0
    clear hI hrm hfine hoff hS a0 a1
    show Calls Try.prog 20 #[.pointer (some ⟨rb, 0, none⟩), .pointer (some ⟨ba, 0, none⟩), .pointer (some ⟨bt, 0, none⟩)] w _
    go_enter Try.func20, Try.ntmps20
    go_wp2_with fail
    refine HK.out.mono ?_
    clear HK
    rintro e w1 ⟨go', rfl, hrm1, hadv⟩
    have hb : ∀ k, SeS ba bt k → k < w.heap.size → w1.heap[k]? = w.heap[k]? := fun k hk hlt => hadv.mod.block k hlt fun e => HS.out k hk e
    have hI1 := HI.out.of_blocks hb
    have HI1 := Lib.hid hI1
    have HA := Lib.hid (And.intro hrm1 hadv)
    clear hb hI1 hrm1 hadv c_a c_t  
    go_wp2_with fail
    go_end0
    obtain ⟨hrm1, hadv⟩ := HA.out
    have hm : Mod (SeS ba bt) w1 w1 := Mod.refl _ _
    have hfar : ∀ k, Feet rb mb cb go' k → ¬ SeS ba bt k := fun k hk hs => (hadv.advS (fun _ => False)).apart (show k < w.heap.size by
      have h := HI.out
      rcases hs with rfl | rfl
      · exact lt_of_heap h.a
      · exact lt_of_heap h.t) (HS.out k hs) hk
    refine ⟨rfl, go', hrm1.mod hm hfar, (hadv.advS _).trans (AdvS.of_mod hm fun k hk => .inl hk), ⟨HI1.out.a, HI1.out.t⟩, ?_⟩
    intro x hx
    trivial
/-! ### The closure of a Find on its way -/
structure UnI (bs bq ba : Nat) (s : Int) (key : ByteArray) (w : World) : Prop where
  s : w.heap[bs]? = some (.cells #[.int .i64 s] 3 (0, 0))
  q : w.heap[bq]? = some (.cells #[.string key] 9 (0, 0))
  a : ∃ i : Int, w.heap[ba]? = some (.cells #[.int .i64 i] 3 (0, 0))
def UnS (bs bq ba : Nat) (k : Nat) : Prop := k = bs ∨ k = bq ∨ k = ba
theorem UnI.of_blocks {bs bq ba : Nat} {s : Int} {key : ByteArray} {w w' : World} (h : UnI bs bq ba s key w) (hb : ∀ k, UnS bs bq ba k → k < w.heap.size → w'.heap[k]? = w.heap[k]?) : UnI bs bq ba s key w' :=
  ⟨(hb _ (.inl rfl) (lt_of_heap h.s)).trans h.s, (hb _ (.inr (.inl rfl)) (lt_of_heap h.q)).trans h.q, (by obtain ⟨i, hi⟩ := h.a; exact ⟨i, (hb _ (.inr (.inr (rfl))) (lt_of_heap hi)).trans hi⟩)⟩
structure UnQ (ba : Nat) (x : Int × Int) (w : World) : Prop where
  a : w.heap[ba]? = some (.cells #[.int .i64 x.1] 3 (0, 0))
set_option maxRecDepth 100000 in
set_option maxHeartbeats 2000000 in
theorem Un_clo {findP : Int → Int → List Nat → Pr (Int × Int)} (K : KeptDict findP) {s : Int} {key : ByteArray} (s0 : 0 ≤ s) (s1 : s ≤ 1000000) (hk : key.size ≤ reachBytes) (bs bq ba rb mb cb Bd : Nat) (hB : Bd < 1000000000) (na_s : ba ≠ bs) (na_q : ba ≠ bq) (l_a : ba < rb) :
    Clo 14 #[.pointer (some ⟨bs, 0, none⟩), .pointer (some ⟨bq, 0, none⟩), .pointer (some ⟨ba, 0, none⟩)] rb mb cb (UnS bs bq ba) (UnI bs bq ba s key) (findP s 16 (bytesL key)) (UnQ ba) Bd where
  enter := fun args w => rfl
  keepI := fun w w' h _ hb => h.of_blocks hb
  keepP := fun x w w' go st h _ hm => ⟨(hm.block _ (lt_of_heap h.a) (by omega)).trans h.a⟩
  old := fun w h k hk => by
    rcases hk with rfl | rfl | rfl
    · exact lt_of_heap h.s
    · exact lt_of_heap h.q
    · obtain ⟨i, hi⟩ := h.a; exact lt_of_heap hi
  call := fun w go st hrm hfine hoff hI hS => by
    have HI := Lib.hid hI
    have HK := Lib.hid (K.find s 16 key hrm hfine hB s0 s1 (by omega) (by omega) hk)
    have HS := Lib.hid hS
    have c_s := cell_at hI.s 0
    have c_q := cell_at hI.q 0
    clear hI hrm hfine hoff hS s0 s1 hk
    have HNE := Lib.hid (And.intro na_s (na_q))
    show Calls Try.prog 14 #[.pointer (some ⟨rb, 0, none⟩), .pointer (some ⟨bs, 0, none⟩), .pointer (some ⟨bq, 0, none⟩), .pointer (some ⟨ba, 0, none⟩)] w _
    go_enter Try.func14, Try.ntmps14
    go_wp2_with fail
    refine HK.out.mono ?_
    clear HK
    rintro e w1 ⟨a, k, go', rfl, hrm1, hadv, hans⟩
    have hb : ∀ k, UnS bs bq ba k → k < w.heap.size → w1.heap[k]? = w.heap[k]? := fun k hk hlt => hadv.mod.block k hlt fun e => HS.out k hk e
    have hI1 := HI.out.of_blocks hb
    obtain ⟨i_a, r_a⟩ := hI1.a
    have q_a : (w1).heap[ba]? = some (.cells #[.int .i64 i_a] 3 (0, 0)) := r_a
    have f_a := free_at q_a 0
    have k_a := cell_at q_a 0
    have Q_a := Lib.hid q_a
    have HI1 := Lib.hid hI1
    have HA := Lib.hid (And.intro hrm1 (And.intro hadv hans))
    clear hb hI1 hrm1 hadv hans c_s c_q r_a q_a
    go_wp2_with fail
    go_end0
    obtain ⟨hrm1, hadv, hans⟩ := HA.out
    obtain ⟨na_s, na_q⟩ := HNE.out
    have hm : Mod (UnS bs bq ba) w1 (World.setCell w1 ⟨ba, 0, none⟩ (.int .i64 a)) := Mod.setCell (S := UnS bs bq ba) (Mod.refl _ _) (.inr (.inr (.inr (rfl)))) _
    have hfar : ∀ k, Feet rb mb cb go' k → ¬ UnS bs bq ba k := fun k hk hs => (hadv.advS (fun _ => False)).apart (show k < w.heap.size by
      have h := HI.out
      rcases hs with rfl | rfl | rfl
      · exact lt_of_heap h.s
      · exact lt_of_heap h.q
      · obtain ⟨i, hi⟩ := h.a; exact lt_of_heap hi) (HS.out k hs) hk
    have z_a : ((World.setCell w1 ⟨ba, 0, none⟩ (.int .i64 a))).heap[ba]? = some (.cells #[.int .i64 a] 3 (0, 0)) := by
      rw [heap_setCell_same _ _ _ _ _ _ Q_a.out]; rfl
    refine ⟨rfl, go', hrm1.mod hm hfar, (hadv.advS _).trans (AdvS.of_mod hm fun k hk => .inl hk), ⟨(Below.heap_setCell _ _ _ _ (Ne.symm na_s)).trans HI1.out.s, (Below.heap_setCell _ _ _ _ (Ne.symm na_q)).trans HI1.out.q, ⟨_, z_a⟩⟩, ?_⟩
    intro x hx
    have hx2 := hans x hx
    have e1 := hx2.1
    exact ⟨by rw [e1]; exact z_a⟩
end Go.Proofs.Yteliaammffmmiaa
