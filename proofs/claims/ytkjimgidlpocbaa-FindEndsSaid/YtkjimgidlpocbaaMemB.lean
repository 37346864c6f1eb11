/-
  More words on memories: what a store or a load at any address comes to.
-/
import Derived.Test.YtkjimgidlpocbaaMem
namespace Go.Proofs.Ytkjimgidlpocbaa
open Go.RowKit

theorem new_int (w : World) (n : Int) (h1 : 1 ≤ n) (h2 : n ≤ 65536) :
    Calls Try.prog 31 #[.int .i64 n] w fun e w' => e = .returned (.tuple #[.pointer (some ⟨w.heap.size + 1, 0, none⟩), .int .i64 0]) ∧ MemAt w' (w.heap.size + 1) w.heap.size (List.replicate n.toNat 0) 0 0 ∧ Below w.heap.size w w' := by
  obtain ⟨k, rfl⟩ := Int.eq_ofNat_of_zero_le (show 0 ≤ n by omega)
  exact new_ok w k (by omega) (by omega)

/-- Is there a cell of this address? -/
def okAt (n : Nat) (a : Int) : Bool := decide (0 ≤ a) && decide (a < n)
theorem okAt_yes {n : Nat} {a : Int} (h0 : 0 ≤ a) (h1 : a < n) : okAt n a = true := by simp [okAt, h0, h1]
theorem okAt_no {n : Nat} {a : Int} (h : a < 0 ∨ (n : Int) ≤ a) : okAt n a = false := by simp [okAt]; omega
/-- What a store answers, what the cells are behind it, and how many were answered OK. -/
def errAt (n : Nat) (a : Int) : Int := if okAt n a then 0 else 2
def putAt (cs : List Int) (a v : Int) : List Int := if okAt cs.length a then cs.set a.toNat v else cs
def cntAt (n : Nat) (a s : Int) : Int := if okAt n a then s + 1 else s
theorem length_putAt (cs : List Int) (a v : Int) : (putAt cs a v).length = cs.length := by unfold putAt; split <;> simp
theorem cntAt_lo (n : Nat) (a s : Int) : s ≤ cntAt n a s := by unfold cntAt; split <;> omega
theorem cntAt_hi (n : Nat) (a s : Int) : cntAt n a s ≤ s + 1 := by unfold cntAt; split <;> omega

theorem store_any {w : World} {b c : Nat} {cs : List Int} {l s : Int} (h : MemAt w b c cs l s) (a v : Int) (hs0 : 0 ≤ s) (hs : s < 1000000000) :
    Calls Try.prog 32 #[.pointer (some ⟨b, 0, none⟩), .int .i64 a, .int .u32 v] w fun e w' => e = .returned (.int .i64 (errAt cs.length a)) ∧ MemAt w' b c (putAt cs a v) l (cntAt cs.length a s) ∧ Mod (fun k => k = b ∨ k = c) w w' := by
  by_cases ho : 0 ≤ a ∧ a < cs.length
  · have e := okAt_yes ho.1 ho.2
    obtain ⟨k, rfl⟩ := Int.eq_ofNat_of_zero_le ho.1
    refine (store_in h k v (by omega) hs0 hs).mono fun e' w' ⟨he, hm, hx⟩ => ?_
    simp only [errAt, putAt, cntAt, e, if_true]
    exact ⟨he, by simpa using hm, hx⟩
  · have e : okAt cs.length a = false := okAt_no (by omega)
    refine (store_out h a v (by omega)).mono fun e' w' ⟨he, hw⟩ => ?_
    subst hw
    simp only [errAt, putAt, cntAt, e]
    exact ⟨he, h, Mod.refl _ _⟩

theorem load_z {w : World} {b c : Nat} {cs : List Int} {l s : Int} (h : MemAt w b c cs l s) (a : Nat) (z : Int) (hz : cs[a]? = some z) (hl0 : 0 ≤ l) (hl : l < 1000000000) :
    Calls Try.prog 45 #[.pointer (some ⟨b, 0, none⟩), .int .i64 a] w fun e w' => e = .returned (.tuple #[.int .u32 z, .int .i64 0]) ∧ MemAt w' b c cs (l + 1) s ∧ Mod (· = b) w w' := by
  obtain ⟨ha, rfl⟩ := List.getElem?_eq_some_iff.1 hz
  exact load_in h a ha hl0 hl
theorem cell_u32 {w : World} {g : Nat} {l : List Int} {t : TypeId} (h : w.heap[g]? = some (.cells (l.map (Value.int .u32)).toArray t (0, 0))) {i : Nat} {z : Int} (hz : l[i]? = some z) : w.cell? ⟨g, i, none⟩ = some (.int .u32 z) := by
  rw [cell_at h]; simp [hz]
theorem row_set {w : World} {g : Nat} {l : List Int} {t : TypeId} (h : w.heap[g]? = some (.cells (l.map (Value.int .u32)).toArray t (0, 0))) (i : Nat) (z : Int) : (w.setCell ⟨g, i, none⟩ (.int .u32 z)).heap[g]? = some (.cells ((l.set i z).map (Value.int .u32)).toArray t (0, 0)) := by
  rw [heap_setCell_same _ _ _ _ _ _ h]; simp [List.map_set]

end Go.Proofs.Ytkjimgidlpocbaa
