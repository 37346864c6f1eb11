/-
  Whether there is room: the reference's Fits.
-/
import Derived.Test.YtiabmbkmahlhkaaPoolH
namespace Go.Proofs.Ytiabmbkmahlhkaa
open Go.RowKit

/-- Is there room for so many more of one pool? -/
def okJ (U M S : Nat → Int) (j : Nat) : Bool := decide (0 ≤ U j) && (decide (U j ≤ S j) && (decide (0 ≤ M j) && decide (M j ≤ S j - U j)))
theorem okJ_iff {U M S : Nat → Int} {j : Nat} : okJ U M S j = true ↔ 0 ≤ U j ∧ U j ≤ S j ∧ 0 ≤ M j ∧ M j ≤ S j - U j := by simp [okJ]
def fitsB (U M S : Nat → Int) : Bool := (List.range 6).all (okJ U M S)
theorem fitsB_yes {U M S : Nat → Int} (h : ∀ j, j < 6 → okJ U M S j = true) : fitsB U M S = true := List.all_eq_true.2 fun j hj => h j (List.mem_range.1 hj)
theorem fitsB_no {U M S : Nat → Int} {j : Nat} (hj : j < 6) (h : ¬ (0 ≤ U j ∧ U j ≤ S j ∧ 0 ≤ M j ∧ M j ≤ S j - U j)) : fitsB U M S = false := by
  cases hf : fitsB U M S with
  | false => rfl
  | true => exact absurd (okJ_iff.1 (List.all_eq_true.1 hf j (List.mem_range.2 hj))) h

/-- The three copies at three blocks in a row. -/
def ThreeAt (w : World) (B S : Nat → Int) (C T L : Int) (U M : Nat → Int) (wr : World) : Prop :=
  wr.heap[w.heap.size]? = some (.cells (planC B S C T L) 29 (0, 0)) ∧ wr.heap[w.heap.size + 1]? = some (.cells (six U) 27 (0, 0)) ∧
  wr.heap[w.heap.size + 1 + 1]? = some (.cells (six M) 27 (0, 0)) ∧ Below w.heap.size w wr
theorem ThreeAt.below {w : World} {B S : Nat → Int} {C T L : Int} {U M : Nat → Int} {wr w' : World} (h : ThreeAt w B S C T L U M wr) (hb : Below wr.heap.size wr w') : ThreeAt w B S C T L U M w' :=
  ⟨(hb.block _ (lt_of_heap h.1)).trans h.1, (hb.block _ (lt_of_heap h.2.1)).trans h.2.1, (hb.block _ (lt_of_heap h.2.2.1)).trans h.2.2.1, h.2.2.2.trans (hb.mono h.2.2.2.size)⟩
theorem ThreeAt.drawn {w : World} {B S : Nat → Int} {C T L : Int} {U M : Nat → Int} {wr : World} (h : ThreeAt w B S C T L U M wr) (n : Nat) : ThreeAt w B S C T L U M (wr.drewN n) := ⟨h.1, h.2.1, h.2.2.1, below_drawn h.2.2.2 n⟩
theorem ThreeAt.drew {w : World} {B S : Nat → Int} {C T L : Int} {U M : Nat → Int} {wr : World} (h : ThreeAt w B S C T L U M wr) : ThreeAt w B S C T L U M wr.drew := ⟨h.1, h.2.1, h.2.2.1, h.2.2.2.drew⟩

set_option maxHeartbeats 1000000 in
theorem ref_fits_any (w : World) (B S : Nat → Int) (C T L : Int) (U M : Nat → Int) (hs : ∀ j, j < 6 → S j ≤ 1000000) :
    Calls Try.prog 20 #[.agg (planC B S C T L), .agg (six U), .agg (six M)] w fun e w' => e = .returned (.bool (fitsB U M S)) ∧ Below w.heap.size w w' := by
  obtain ⟨R, hR⟩ : ∃ R, R = fitsB U M S := ⟨_, rfl⟩
  rw [← hR]
  have HR := Lib.hid hR
  clear hR
  go_enter Try.func20, Try.ntmps20
  go_wp2_with fail
  go_loopw [7] (fun i wr => ∃ k : Nat, k ≤ 6 ∧ i = .int .i64 k ∧ Hid (∀ j, j < k → okJ U M S j = true) ∧ ThreeAt w B S C T L U M wr) (fun i _ => 6 - (intOf i).toNat)
  case atStart => exact ⟨0, by omega, rfl, Lib.hid (fun j hj => by omega), heap3_0 _ _ _ _, heap3_1 _ _ _ _, heap3_2 _ _ _ _, below_al3⟩
  case round =>
    obtain ⟨k, hk, rfl, HO, hT⟩ := hrel
    by_cases hlt : k < 6
    · have hlt6 : (k : Int) < 6 := by omega
      have c0 : wr.cell? ⟨w.heap.size, 6 + k, none⟩ = some (.int .i64 (S k)) := (cell_at hT.1 (6 + k)).trans (planC_size _ _ _ _ _ k hlt)
      have c1 : wr.cell? ⟨w.heap.size + 1, k, none⟩ = some (.int .i64 (U k)) := (cell_at hT.2.1 k).trans (six_get _ k hlt)
      have c2 : wr.cell? ⟨w.heap.size + 1 + 1, k, none⟩ = some (.int .i64 (M k)) := (cell_at hT.2.2.1 k).trans (six_get _ k hlt)
      have hsk := hs k hlt
      have HT := Lib.hid hT
      have HS := Lib.hid hs
      clear hT hs
      have fin : ∀ m, ¬ (0 ≤ U k ∧ U k ≤ S k ∧ 0 ≤ M k ∧ M k ≤ S k - U k) → Hid (Ending.returned (.bool false) = Ending.returned (.bool R) ∧ Below w.heap.size w (wr.drewN m)) := fun m h => Lib.hid ⟨by rw [HR.out, fitsB_no hlt h], below_drawn HT.out.2.2.2 m⟩
      have FIN := Lib.hid fin
      clear fin
      by_cases d0 : U k < 0
      · have e0 : decide (U k < 0) = true := decide_eq_true d0
        go_wp2_with fail
        go_quiet (fail)
        go_wp2_with fail
        go_ret
        exact (FIN.out _ (by omega)).out
      · have e0 : decide (U k < 0) = false := decide_eq_false d0
        by_cases d1 : M k < 0
        · have e1 : decide (M k < 0) = true := decide_eq_true d1
          go_wp2_with fail
          go_quiet (fail)
          go_wp2_with fail
          go_ret
          exact (FIN.out _ (by omega)).out
        · have e1 : decide (M k < 0) = false := decide_eq_false d1
          by_cases d2 : S k < U k
          · have e2 : decide (S k < U k) = true := decide_eq_true d2
            go_wp2_with fail
            go_quiet (fail)
            go_wp2_with fail
            go_ret
            exact (FIN.out _ (by omega)).out
          · have e2 : decide (S k < U k) = false := decide_eq_false d2
            have u0 : 0 ≤ U k := by omega
            have u1 : U k ≤ S k := by omega
            by_cases d3 : S k - U k < M k
            · have e3 : decide (S k - U k < M k) = true := decide_eq_true d3
              go_wp2_with fail
              go_quiet (fail)
              go_wp2_with fail
              go_ret
              exact (FIN.out _ (by omega)).out
            · have e3 : decide (S k - U k < M k) = false := decide_eq_false d3
              have HJ := Lib.hid (okJ_iff.2 (show 0 ≤ U k ∧ U k ≤ S k ∧ 0 ≤ M k ∧ M k ≤ S k - U k from ⟨u0, u1, by omega, by omega⟩))
              go_wp2_with fail
              go_quiet (fail)
              go_wp2_with fail
              go_roundw
              case rel =>
                refine ⟨k + 1, by omega, by go_num, Lib.hid (fun j hj => ?_), HT.out.drawn _⟩
                by_cases e : j = k
                · subst e; exact HJ.out
                · exact HO.out j (by omega)
              case measure => simp [intOf]; omega
    · obtain rfl : k = 6 := by omega
      have HE := Lib.hid (show R = true by rw [HR.out]; exact fitsB_yes HO.out)
      have HB := Lib.hid hT.2.2.2
      clear hT hs
      go_wp2_with fail
      go_ret
      exact ⟨by rw [HE.out]; exact rfl, HB.out⟩
end Go.Proofs.Ytiabmbkmahlhkaa
