/-
  Layer 18 as it landed: what is read while the leaves' lists are taken one by one; the next leaf's list. Over the program's own text.
-/
import Derived.Test.YtaaeooimalglaaaMatF
import Derived.Test.YtaaeooimalglaaaNodeFew
namespace Go.Proofs.Ytaaeooimalglaaa
open Go.RowKit

/-- Numbers that lie outside of a block. -/
def RdZS (w : World) (fb : Nat) (p : Value) (l : List Int) : Prop := RdP w p l ∧ ∀ g o n c, p = .slice (some ⟨g, o, none⟩) n c → l ≠ [] → g ≠ fb
/-- What was found, outside of a block. -/
def RdFoS (w : World) (fb : Nat) (p : Value) (l : List Fo) : Prop := RdFo w p l ∧ ∀ g o n c, p = .slice (some ⟨g, o, none⟩) n c → l ≠ [] → g ≠ fb
def RowsFo (w : World) (fb : Nat) (oa : Option Addr) (L : List (List Fo)) : Prop := ∀ (j : Nat) (l : List Fo), L[j]? = some l → ∃ g o : Nat, oa = some ⟨g, o, none⟩ ∧ g ≠ fb ∧ ∃ p, w.cell? ⟨g, o + j, none⟩ = some p ∧ RdFoS w fb p l
/-- The lists of the leaves that are still to be met. -/
def FiAt (w : World) (fb : Nat) (L : List (List Fo)) : Prop := ∃ la lc, w.heap[fb]? = some (.cells #[.slice la L.length lc] 56 (0, 0)) ∧ L.length ≤ lc ∧ lc ≤ maxLen ∧ (la = none → lc = 0) ∧ RowsFo w fb la L
/-- All other blocks stay. -/
def Kp (fb : Nat) (w w' : World) : Prop := ∀ b, b ≠ fb → b < w.heap.size → w'.heap[b]? = w.heap[b]?
theorem Mod.kp {fb : Nat} {w w' : World} (h : Mod (fun k => k = fb) w w') : Kp fb w w' := fun b h1 h2 => h.block b h2 h1
theorem below_kp {fb : Nat} {w w' : World} (h : Below w.heap.size w w') : Kp fb w w' := fun b _ h2 => h.block b h2
theorem RdZS.keep {w w' : World} {fb : Nat} {p : Value} {l : List Int} (h : RdZS w fb p l) (hk : Kp fb w w') : RdZS w' fb p l := by
  obtain ⟨⟨pa, c, rfl, h2, h3, h4, h5⟩, h6⟩ := h
  refine ⟨⟨pa, c, rfl, h2, h3, h4, fun j x hj => ?_⟩, h6⟩
  obtain ⟨g, o, rfl, h8⟩ := h5 j x hj
  exact ⟨g, o, rfl, cell_keep (S := fun b => b ≠ fb) hk (h6 g o _ _ rfl (some_ne hj)) h8⟩
theorem RdFoS.keep {w w' : World} {fb : Nat} {p : Value} {l : List Fo} (h : RdFoS w fb p l) (hk : Kp fb w w') : RdFoS w' fb p l := by
  obtain ⟨⟨pa, c, rfl, h2, h3, h4, h5⟩, h6⟩ := h
  refine ⟨⟨pa, c, rfl, h2, h3, h4, fun j x hj => ?_⟩, h6⟩
  obtain ⟨g, o, rfl, h8, h9⟩ := h5 j x hj
  have hg := h6 g o _ _ rfl (some_ne hj)
  exact ⟨g, o, rfl, cell_keep (S := fun b => b ≠ fb) hk hg h8, cell_keep (S := fun b => b ≠ fb) hk hg h9⟩
theorem RowsFo.keep {w w' : World} {fb : Nat} {oa : Option Addr} {L : List (List Fo)} (h : RowsFo w fb oa L) (hk : Kp fb w w') : RowsFo w' fb oa L := fun j l hj => by
  obtain ⟨g, o, h1, h2, p, h3, h4⟩ := h j l hj
  exact ⟨g, o, h1, h2, p, cell_keep (S := fun b => b ≠ fb) hk h2 h3, h4.keep hk⟩
theorem FiAt.below {w w' : World} {fb : Nat} {L : List (List Fo)} (h : FiAt w fb L) (hb : Below w.heap.size w w') : FiAt w' fb L := by
  obtain ⟨la, lc, h1, h2, h3, h4, h5⟩ := h
  exact ⟨la, lc, blk_keep h1 hb, h2, h3, h4, h5.keep (below_kp hb)⟩
theorem FiAt.lt {w : World} {fb : Nat} {L : List (List Fo)} (h : FiAt w fb L) : fb < w.heap.size := by
  obtain ⟨la, lc, h1, _⟩ := h
  exact lt_of_heap h1
theorem own_rdzs {w : World} {fb base : Nat} {v : Value} {l : List Int} (h : OwnZ w base v l) (hb : fb < base) : RdZS w fb v l := by
  refine ⟨h.reads, fun g o n c hv _ => ?_⟩
  rcases h.2 with ⟨h1, _⟩ | ⟨g', cap, cur, h1, h2, _⟩
  · rw [hv] at h1; cases h1
  · rw [hv] at h1
    injection h1 with h1
    injection h1 with h1
    injection h1 with h1
    omega
theorem nil_rdzs (w : World) (fb : Nat) : RdZS w fb (.slice none 0 0) [] := ⟨⟨none, 0, rfl, by simp, by simp [maxLen], fun _ => rfl, ReadZ.nil _ _⟩, fun g o n c h => by cases h⟩
theorem tail_fos {w : World} {fb : Nat} {la : Option Addr} {lc : Nat} {l : List Fo} {L : List (List Fo)} (hc : (l :: L).length ≤ lc) (hm : lc ≤ maxLen) (hn : la = none → lc = 0) (h : RowsFo w fb la (l :: L)) :
    ∃ ob, (∀ w : World, (Instr.slice 33 (.slice la (l :: L).length lc) (some (.int .i64 1)) none none).run Try.prog w = .ok (.slice ob L.length (lc - 1)) w) ∧ L.length ≤ lc - 1 ∧ lc - 1 ≤ maxLen ∧ (ob = none → lc - 1 = 0) ∧ RowsFo w fb ob L := by
  simp only [List.length_cons] at hc
  refine ⟨if lc = 1 then la else la.map (·.add 1), fun w => ?_, by omega, by omega, tail_addr hn (by omega), fun j y hj => ?_⟩
  · rw [tail_run _ _ 1 _ lc la elem_fos under_fos size_fos (by simp)]
    simp [tailK]
  · have hlt := (List.getElem?_eq_some_iff.1 hj).1
    rw [if_neg (by omega)]
    obtain ⟨g, o, rfl, h2, p, h3, h4⟩ := h (j + 1) y (by simpa using hj)
    exact ⟨g, o + 1, by simp [Addr.add], h2, p, by rw [show o + 1 + j = o + (j + 1) by omega]; exact h3, h4⟩
set_option maxRecDepth 100000 in
set_option maxHeartbeats 4000000 in
theorem next_any (w : World) (fb : Nat) (L : List (List Fo)) (h : FiAt w fb L) :
    Calls Try.prog 32 #[.pointer (some ⟨fb, 0, none⟩)] w fun e w' => ∃ p, e = .returned p ∧ RdFoS w' fb p (L.headD []) ∧ FiAt w' fb (L.drop 1) ∧ Mod (fun k => k = fb) w w' := by
  obtain ⟨la, lc, h1, h2, h3, h4, h5⟩ := h
  have c0 := cell_at h1 0
  have f0 := free_at h1 0
  simp only [List.getElem?_toArray, List.getElem?_cons_zero] at c0
  cases L with
  | nil =>
    have HF := Lib.hid (show FiAt w fb [] from ⟨la, lc, h1, h2, h3, h4, h5⟩)
    rw [show (([] : List (List Fo)).length) = 0 from rfl] at c0
    clear h1 h2 h3 h4 h5
    go_enter Try.func32, Try.ntmps32
    go_wp2_with fail
    go_ret
    exact ⟨_, rfl, ⟨⟨none, 0, rfl, by simp, by simp [maxLen], fun _ => rfl, fun j x hj => by simp at hj⟩, fun g o n c h => by cases h⟩, HF.out, Mod.refl _ _⟩
  | cons l L =>
    obtain ⟨ob, ht, hc, hm, hn, hrow⟩ := tail_fos h2 h3 h4 h5
    obtain ⟨g, o, rfl, hg, p, k0, hp⟩ := h5 0 l rfl
    rw [Nat.add_zero] at k0
    obtain ⟨n, hnn⟩ : ∃ n, n = (l :: L).length := ⟨_, rfl⟩
    have hn0 : 0 < n := by rw [hnn]; simp
    have hnz : ¬ n = 0 := by omega
    have hn1 : (0 : Int) < (n : Int) := by omega
    have hnb : ((n : Int) == 0) = false := beq_eq_false_iff_ne.2 (by omega)
    rw [← hnn] at ht c0
    have HW := Lib.hid (show ∀ w', w' = w.setCell ⟨fb, 0, none⟩ (.slice ob L.length (lc - 1)) → FiAt w' fb L ∧ RdFoS w' fb p l ∧ Mod (fun k => k = fb) w w' from fun w' hw => by
      subst hw
      have hmod : Mod (fun k => k = fb) w (w.setCell ⟨fb, 0, none⟩ (.slice ob L.length (lc - 1))) := Mod.setCell (S := fun k => k = fb) (Mod.refl _ _) (.inr rfl) _
      refine ⟨⟨ob, lc - 1, ?_, hc, hm, hn, hrow.keep hmod.kp⟩, hp.keep hmod.kp, hmod⟩
      rw [heap_setCell_same _ _ _ _ _ _ h1]
      rfl)
    obtain ⟨k, hk⟩ : ∃ k, k = L.length := ⟨_, rfl⟩
    rw [← hk] at ht HW
    clear h1 h2 h3 h4 h5 hc hm hn hrow hp hnn hk
    go_enter Try.func32, Try.ntmps32
    go_wp2_with fail
    go_ret
    obtain ⟨q1, q2, q3⟩ := HW.out _ rfl
    exact ⟨_, rfl, q2, q1, q3⟩
end Go.Proofs.Ytaaeooimalglaaa
