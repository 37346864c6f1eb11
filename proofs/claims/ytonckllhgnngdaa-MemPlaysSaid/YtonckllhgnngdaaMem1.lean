/-
  The laws' own example, and the reference's functions, over the program's own text.
-/
import Derived.Test.YtonckllhgnngdaaMem
import Derived.RegionTactic
import Derived.ChangeAlike
namespace Go.Proofs.Ytonckllhgnngdaa
open Go.RowKit

set_option maxHeartbeats 1000000 in
/-- The chapter's example comes out as it stands there. -/
theorem fixed_any (w : World) : Calls Try.prog 10 #[] w fun e w' => e = .returned (.bool true) ∧ Below w.heap.size w w' := by
  have hmk : ∀ w, (Instr.makeSlice 46 (.int .i64 2) (.int .i64 2)).run Try.prog w = .ok (.slice (some ⟨w.heap.size, 0, none⟩) 2 2) (w.alloc (.cells #[.int .u32 0, .int .u32 0] 34)) := run_make_u32 2 (by omega)
  go_enter Try.func10, Try.ntmps10
  go_wp2
  go_ret
  refine ⟨rfl, ?_⟩
  exact ((Below.refl _ _).alloc (Nat.le_refl _) _).alloc (by simp) _

theorem new_int (w : World) (n : Int) (h1 : 1 ≤ n) (h2 : n ≤ 65536) :
    Calls Try.prog 8 #[.int .i64 n] w fun e w' => e = .returned (.tuple #[.pointer (some ⟨w.heap.size + 1, 0, none⟩), .int .i64 0]) ∧ MemAt w' (w.heap.size + 1) w.heap.size (List.replicate n.toNat 0) 0 0 ∧ Below w.heap.size w w' := by
  obtain ⟨k, rfl⟩ := Int.eq_ofNat_of_zero_le (show 0 ≤ n by omega)
  exact new_ok w k (by omega) (by omega)

/-- Is there a cell of this address? -/
def okAt (n : Nat) (a : Int) : Bool := decide (0 ≤ a) && decide (a < n)
theorem okAt_yes {n : Nat} {a : Int} (h0 : 0 ≤ a) (h1 : a < n) : okAt n a = true := by simp [okAt, h0, h1]
theorem okAt_no {n : Nat} {a : Int} (h : a < 0 ∨ (n : Int) ≤ a) : okAt n a = false := by simp [okAt]; omega
/-- What a store answers, what the cells are behind it, and how many were answered OK. -/
def errAt (n : Nat) (a : Int) : Int := if okAt n a then 0 else 2
def putAt (cs : List Int) (a v : Int) : List Int := if okAt cs.length a then cs.set a.toNat v else cs
def cntAt (n : Nat) (a s : Int) : Int := if okAt n a then s + 1 else s
theorem length_putAt (cs : List Int) (a v : Int) : (putAt cs a v).length = cs.length := by unfold putAt; split <;> simp
theorem cntAt_lo (n : Nat) (a s : Int) : s ≤ cntAt n a s := by unfold cntAt; split <;> omega
theorem cntAt_hi (n : Nat) (a s : Int) : cntAt n a s ≤ s + 1 := by unfold cntAt; split <;> omega

theorem store_any {w : World} {b c : Nat} {cs : List Int} {l s : Int} (h : MemAt w b c cs l s) (a v : Int) (hs0 : 0 ≤ s) (hs : s < 1000000000) :
    Calls Try.prog 14 #[.pointer (some ⟨b, 0, none⟩), .int .i64 a, .int .u32 v] w fun e w' => e = .returned (.int .i64 (errAt cs.length a)) ∧ MemAt w' b c (putAt cs a v) l (cntAt cs.length a s) ∧ Mod (fun k => k = b ∨ k = c) w w' := by
  by_cases ho : 0 ≤ a ∧ a < cs.length
  · have e := okAt_yes ho.1 ho.2
    obtain ⟨k, rfl⟩ := Int.eq_ofNat_of_zero_le ho.1
    refine (store_in h k v (by omega) hs0 hs).mono fun e' w' ⟨he, hm, hx⟩ => ?_
    simp only [errAt, putAt, cntAt, e, if_true]
    exact ⟨he, by simpa using hm, hx⟩
  · have e : okAt cs.length a = false := okAt_no (by omega)
    refine (store_out h a v (by omega)).mono fun e' w' ⟨he, hw⟩ => ?_
    subst hw
    simp only [errAt, putAt, cntAt, e]
    exact ⟨he, h, Mod.refl _ _⟩

theorem load_z {w : World} {b c : Nat} {cs : List Int} {l s : Int} (h : MemAt w b c cs l s) (a : Nat) (z : Int) (hz : cs[a]? = some z) (hl0 : 0 ≤ l) (hl : l < 1000000000) :
    Calls Try.prog 11 #[.pointer (some ⟨b, 0, none⟩), .int .i64 a] w fun e w' => e = .returned (.tuple #[.int .u32 z, .int .i64 0]) ∧ MemAt w' b c cs (l + 1) s ∧ Mod (· = b) w w' := by
  obtain ⟨ha, rfl⟩ := List.getElem?_eq_some_iff.1 hz
  exact load_in h a ha hl0 hl
theorem cell_u32 {w : World} {g : Nat} {l : List Int} {t : TypeId} (h : w.heap[g]? = some (.cells (l.map (Value.int .u32)).toArray t (0, 0))) {i : Nat} {z : Int} (hz : l[i]? = some z) : w.cell? ⟨g, i, none⟩ = some (.int .u32 z) := by
  rw [cell_at h]; simp [hz]
theorem row_set {w : World} {g : Nat} {l : List Int} {t : TypeId} (h : w.heap[g]? = some (.cells (l.map (Value.int .u32)).toArray t (0, 0))) (i : Nat) (z : Int) : (w.setCell ⟨g, i, none⟩ (.int .u32 z)).heap[g]? = some (.cells ((l.set i z).map (Value.int .u32)).toArray t (0, 0)) := by
  rw [heap_setCell_same _ _ _ _ _ _ h]; simp [List.map_set]

/-- Behind i stores of a row of them: a memory of the call's own, of as many cells. -/
def Stored (w : World) (b c n i : Nat) (wr : World) : Prop := ∃ cs s, MemAt wr b c cs 0 s ∧ cs.length = n ∧ 0 ≤ s ∧ s ≤ i ∧ i ≤ 301 ∧ Below w.heap.size w wr

/-! ### The reference -/
theorem ref_new_ok (w : World) (n : Int) (h1 : 1 ≤ n) (h2 : n ≤ 65536) :
    Calls Try.prog 9 #[.int .i64 n] w fun e w' => e = .returned (.tuple #[.agg #[.int .i64 n, .slice none 0 0, .int .i64 0], .int .i64 0]) ∧ Below w.heap.size w w' := by
  go_enter Try.func9, Try.ntmps9
  go_wp2
  refine bodyPost_ret (v := .tuple #[.agg #[.int .i64 n, .slice none 0 0, .int .i64 0], .int .i64 0]) (by simp [results, Try.results9, go_sem]) rfl ⟨rfl, ?_⟩
  exact (Below.refl _ _).alloc (Nat.le_refl _) _
theorem ref_new_bad (w : World) (n : Int) (h : n < 1 ∨ 65536 < n) :
    Calls Try.prog 9 #[.int .i64 n] w fun e w' => e = .returned (.tuple #[.agg #[.int .i64 0, .slice none 0 0, .int .i64 0], .int .i64 1]) ∧ Below w.heap.size w w' := by
  rcases h with h | h
  · go_enter Try.func9, Try.ntmps9
    go_wp2
    refine bodyPost_ret (v := .tuple #[.agg #[.int .i64 0, .slice none 0 0, .int .i64 0], .int .i64 1]) (by simp [results, Try.results9, go_sem]) rfl ⟨rfl, ?_⟩
    exact (Below.refl _ _).alloc (Nat.le_refl _) _
  · have h' : ¬ n < 1 := by omega
    go_enter Try.func9, Try.ntmps9
    go_wp2
    refine bodyPost_ret (v := .tuple #[.agg #[.int .i64 0, .slice none 0 0, .int .i64 0], .int .i64 1]) (by simp [results, Try.results9, go_sem]) rfl ⟨rfl, ?_⟩
    exact (Below.refl _ _).alloc (Nat.le_refl _) _

/-- Two rows of the same numbers are the same. -/
theorem same_eq (w : World) (g1 g2 n : Nat) (l : List Int) (t1 t2 : TypeId) (hn : n = l.length) (hl : n ≤ 1000000) (h1 : w.heap[g1]? = some (.cells (l.map (Value.int .u32)).toArray t1 (0, 0))) (h2 : w.heap[g2]? = some (.cells (l.map (Value.int .u32)).toArray t2 (0, 0))) :
    Calls Try.prog 19 #[.slice (some ⟨g1, 0, none⟩) n n, .slice (some ⟨g2, 0, none⟩) n n] w fun e w' => e = .returned (.bool true) ∧ Below w.heap.size w w' := by
  have HH := Lib.hid (And.intro h1 h2)
  clear h1 h2
  have HN := Lib.hid hn
  clear hn
  go_enter Try.func19, Try.ntmps19
  go_wp2_with fail
  go_loopw [13] (fun i wr => ∃ i' : Nat, i' ≤ n ∧ i = .int .i64 i' ∧ ∃ m, wr = w.drewN m) (fun i _ => n - (intOf i).toNat)
  case atStart => exact ⟨0, by omega, rfl, 0, rfl⟩
  case round =>
    obtain ⟨i, hi, rfl, m, rfl⟩ := hrel
    by_cases hlt : i < n
    · obtain ⟨z, hz⟩ : ∃ z, l[i]? = some z := ⟨_, List.getElem?_eq_getElem (by have := HN.out; omega)⟩
      have c1 := cell_u32 HH.out.1 hz
      have c2 := cell_u32 HH.out.2 hz
      have hlt1 : (i : Int) < (n : Int) := by omega
      clear hz
      go_wp2_with fail
      go_quiet (fail)
      go_wp2_with fail
      go_roundw
      case rel => exact ⟨i + 1, by omega, by go_num, _, rfl⟩
      case measure => simp [intOf]; omega
    · go_wp2_with fail
      go_ret
      exact ⟨rfl, below_drawn (Below.refl _ _) _⟩
end Go.Proofs.Ytonckllhgnngdaa
