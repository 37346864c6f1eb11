/-
  What the laws' walks share: the plan, the memory, the dictionary in it. Over the program's own text.
-/
import Derived.Test.YteliaammffmmiaaDictFixed
namespace Go.Proofs.Yteliaammffmmiaa
open Go.RowKit

structure LawD (W : World) (bk : Int) (C p mb cb : Nat) (Us : Nat → Int) (d : Dict) (cs : List Int) (N : Nat) (wr : World) : Prop where
  pl : wr.heap[p]? = some (.cells (planC (dB bk) (dS bk) (19 + bk) (slotsOf 64) (liveOf 1 64)) 25 (0, 0))
  ds : DS 16 (dB bk 5) (dB bk) (dS bk) Us C mb cb d cs N wr
  low : Below W.heap.size W wr
  old : W.heap.size ≤ p ∧ p < cb ∧ cb < mb
section
variable {W wr w' : World} {bk : Int} {C p mb cb : Nat} {Us : Nat → Int} {d : Dict} {cs : List Int} {N : Nat}
theorem LawD.below (h : LawD W bk C p mb cb Us d cs N wr) (hb : Below wr.heap.size wr w') : LawD W bk C p mb cb Us d cs N w' :=
  ⟨(hb.block _ (lt_of_heap h.pl)).trans h.pl, h.ds.below hb, h.low.trans (hb.mono h.low.size), h.old⟩
theorem LawD.turn (h : LawD W bk C p mb cb Us d cs N wr) (hm : Mod (fun k => k = mb ∨ k = cb) wr w') {Us' : Nat → Int} {d' : Dict} {cs' : List Int} {N' : Nat} (hd : DS 16 (dB bk 5) (dB bk) (dS bk) Us' C mb cb d' cs' N' w') : LawD W bk C p mb cb Us' d' cs' N' w' := by
  obtain ⟨o1, o2, o3⟩ := h.old
  exact ⟨(hm.block _ (lt_of_heap h.pl) (by omega)).trans h.pl, hd, low_mem h.low hm (by omega) (by omega), h.old⟩
theorem LawD.lt (h : LawD W bk C p mb cb Us d cs N wr) : p < wr.heap.size ∧ cb < wr.heap.size ∧ mb < wr.heap.size := ⟨lt_of_heap h.pl, h.ds.lt.2, h.ds.lt.1⟩
theorem LawD.more (h : LawD W bk C p mb cb Us d cs N wr) (M : Nat) (hM : N ≤ M) : LawD W bk C p mb cb Us d cs M wr := ⟨h.pl, h.ds.more M hM, h.low, h.old⟩
/-- A cell of one's own turns. -/
theorem LawD.mod (h : LawD W bk C p mb cb Us d cs N wr) {T : Nat → Prop} (hm : Mod T wr w') (hT : ∀ k, T k → mb < k) : LawD W bk C p mb cb Us d cs N w' := by
  obtain ⟨o1, o2, o3⟩ := h.old
  exact ⟨(hm.block _ (lt_of_heap h.pl) (fun e => by have := hT _ e; omega)).trans h.pl, h.ds.mod hm (fun e => by have := hT _ e; omega) (fun e => by have := hT _ e; omega), ⟨hm.os.trans h.low.os, hm.tape.trans h.low.tape, hm.output.trans h.low.output, Nat.le_trans h.low.size hm.size, fun b hlt => (hm.block b (Nat.lt_of_lt_of_le hlt h.low.size) (fun e => by have := hT _ e; omega)).trans (h.low.block b hlt)⟩, h.old⟩
end
theorem low_mod {W wr w' : World} {T : Nat → Prop} (h : Below W.heap.size W wr) (hm : Mod T wr w') (hT : ∀ k, T k → W.heap.size ≤ k) : Below W.heap.size W w' :=
  ⟨hm.os.trans h.os, hm.tape.trans h.tape, hm.output.trans h.output, Nat.le_trans h.size hm.size, fun b hlt => (hm.block b (Nat.lt_of_lt_of_le hlt h.size) (fun e => by have := hT _ e; omega)).trans (h.block b hlt)⟩
/-- What a Find that was on its way answers. -/
theorem Found.spec {n : Nat} {s lo hi s' lo' hi' : Int} {d0 d : Dict} {cs cs' : List Int} {k : List Nat} {x : Int × Int} (h : Found n k d0 d x) (h0 : DictAt n s lo hi d0 cs) (hd : DictAt n s' lo' hi' d cs') : (Has d k x.1 ∧ x.1 ≠ 0) ∨ (x.1 = 0 ∧ ∀ a, ¬ Has d0 k a) := by
  obtain ⟨d1, hl0, hl1, hg⟩ := h
  have none_of : ∀ t, t ≤ n → Passed n d1 k t → (t < n → d1 (slotOf n (hashN k) t) = none) → ∀ a, ¬ Has d0 k a := by
    rintro t htn hp hnone a ⟨i, hi⟩
    obtain ⟨u, hu, rfl, hq⟩ := h0.probe i a k hi
    rcases Nat.lt_trichotomy u t with e | e | e
    · obtain ⟨c, k', h1, h2⟩ := hp u e
      rw [hl0 _ _ hi] at h1
      cases h1
      exact absurd rfl h2
    · subst e
      rw [hl0 _ _ hi] at hnone
      cases hnone hu
    · obtain ⟨c, k', h1, h2⟩ := hq t e
      have h3 := hl0 _ _ h1
      rw [hnone (by omega)] at h3
      cases h3
  rcases hg with ⟨t, ht, _, hp, ⟨h1, h2⟩ | h1⟩ | ⟨h1, _, hp⟩
  · exact .inr ⟨h2, none_of t (by omega) hp fun _ => h1⟩
  · have hh : Has d k x.1 := ⟨_, hl1 _ _ h1⟩
    exact .inl ⟨hh, by have := hd.pos hh; omega⟩
  · exact .inr ⟨h1, none_of n (Nat.le_refl _) hp fun h => by omega⟩
/-- A Put of any key at any slot of the room. -/
theorem putD_does {B S Us : Nat → Int} {s slot : Int} {k : List Nat} {cs : List Int} (hb : 0 ≤ B 4 + Us 4) (hk : ∀ x ∈ k, x < 256) (hkl : k.length ≤ 100) (hf : 2 + ((cellsN k).length : Int) ≤ S 4 - Us 4) (hc : B 4 + S 4 ≤ cs.length) (hs : 0 ≤ s + slot) (hs2 : s + slot < cs.length) (hl : cs.length ≤ 1000000) :
    ∃ cs', Does (putDP B S Us s slot k) cs ((cellsN k).length + 2) (B 4 + Us 4, more Us 4 (2 + ((cellsN k).length : Int)), 0) cs' ∧ cs'.length = cs.length := by
  obtain ⟨a, ha⟩ : ∃ a, a = B 4 + Us 4 := ⟨_, rfl⟩
  obtain ⟨p, hpa⟩ : ∃ p : Nat, a = (p : Int) := ⟨a.toNat, by omega⟩
  obtain ⟨m, hm⟩ : ∃ m, m = (cellsN k).length := ⟨_, rfl⟩
  obtain ⟨cs1, h1⟩ : ∃ cs1, cs1 = cs.set (p + 1) (k.length : Int) := ⟨_, rfl⟩
  obtain ⟨cs2, h2⟩ : ∃ cs2, cs2 = setL cs1 (p + 2) (cellsN k) := ⟨_, rfl⟩
  have l1 : cs1.length = cs.length := by rw [h1]; simp
  have l2 : cs2.length = cs.length := by rw [h2, setL_length, l1]
  rw [← hm] at hf ⊢
  rw [← ha]
  refine ⟨cs2.set (s + slot).toNat (p : Int), ?_, by simp [l2]⟩
  unfold putDP
  rw [← hm, if_pos (by omega), ← ha]
  refine .store (by omega) (by omega) ?_
  rw [u32_in (v := (k.length : Int)) ⟨by omega, by omega⟩, show (a + 1).toNat = p + 1 by omega, ← h1, show a + 2 = ((p + 2 : Nat) : Int) by omega]
  have := stores_does (rest := .store (s + slot) a (.ret (a, more Us 4 (2 + (m : Int)), (0 : Int)))) (n := 1) (x := (a, more Us 4 (2 + (m : Int)), (0 : Int))) (cs' := cs2.set (s + slot).toNat (p : Int)) (cellsN k) cs1 (p + 2) (cells_lt hk) (by omega) (by
    rw [← h2]
    refine .store (by omega) (by omega) ?_
    rw [u32_in (v := a) ⟨by omega, by omega⟩, hpa]
    exact .ret _ _)
  rw [show 1 + (cellsN k).length = m + 1 by omega] at this
  exact this
end Go.Proofs.Yteliaammffmmiaa
