/-
  The reference's Same: two rows of the same numbers.
-/
import Derived.Test.YteliaammffmmiaaMemB
namespace Go.Proofs.Yteliaammffmmiaa
open Go.RowKit

/-- Two rows of the same numbers are the same. -/
theorem same_eq (w : World) (g1 g2 n : Nat) (l : List Int) (t1 t2 : TypeId) (hn : n = l.length) (hl : n ≤ 1000000) (h1 : w.heap[g1]? = some (.cells (l.map (Value.int .u32)).toArray t1 (0, 0))) (h2 : w.heap[g2]? = some (.cells (l.map (Value.int .u32)).toArray t2 (0, 0))) :
    Calls Try.prog 24 #[.slice (some ⟨g1, 0, none⟩) n n, .slice (some ⟨g2, 0, none⟩) n n] w fun e w' => e = .returned (.bool true) ∧ Below w.heap.size w w' := by
  have HH := Lib.hid (And.intro h1 h2)
  clear h1 h2
  have HN := Lib.hid hn
  clear hn
  go_enter Try.func24, Try.ntmps24
  go_wp2_with fail
  go_loopw [13] (fun i wr => ∃ i' : Nat, i' ≤ n ∧ i = .int .i64 i' ∧ ∃ m, wr = w.drewN m) (fun i _ => n - (intOf i).toNat)
  case atStart => exact ⟨0, by omega, rfl, 0, rfl⟩
  case round =>
    obtain ⟨i, hi, rfl, m, rfl⟩ := hrel
    by_cases hlt : i < n
    · obtain ⟨z, hz⟩ : ∃ z, l[i]? = some z := ⟨_, List.getElem?_eq_getElem (by have := HN.out; omega)⟩
      have c1 := cell_u32 HH.out.1 hz
      have c2 := cell_u32 HH.out.2 hz
      have hlt1 : (i : Int) < (n : Int) := by omega
      clear hz
      go_wp2_with fail
      go_quiet (fail)
      go_wp2_with fail
      go_roundw
      case rel => exact ⟨i + 1, by omega, by go_num, _, rfl⟩
      case measure => simp [intOf]; omega
    · go_wp2_with fail
      go_ret
      exact ⟨rfl, below_drawn (Below.refl _ _) _⟩
end Go.Proofs.Yteliaammffmmiaa
