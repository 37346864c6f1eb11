/-
  Whether there is room: pool.Fits.
-/
import Derived.Test.YtniejikbbmileaaPoolK
import Derived.Test.YtniejikbbmileaaRegion
namespace Go.Proofs.Ytniejikbbmileaa
open Go.RowKit

theorem within_yes (w : World) (B S U : Nat → Int) (C T L : Int) (k : Nat) (hk : k < 6) (h0 : 0 ≤ U k) (h1 : U k ≤ S k) :
    Calls Try.prog 24 #[.agg (planC B S C T L), .agg (six U), .int .i64 k] w fun e w' => e = .returned (.bool true) ∧ Below w.heap.size w w' :=
  (within_any w B S U C T L k hk).mono fun _ _ ⟨he, hb⟩ => ⟨by rw [he, wB_yes h0 h1], hb⟩
theorem within_no (w : World) (B S U : Nat → Int) (C T L : Int) (k : Nat) (hk : k < 6) (h : U k < 0 ∨ S k < U k) :
    Calls Try.prog 24 #[.agg (planC B S C T L), .agg (six U), .int .i64 k] w fun e w' => e = .returned (.bool false) ∧ Below w.heap.size w w' :=
  (within_any w B S U C T L k hk).mono fun _ _ ⟨he, hb⟩ => ⟨by rw [he, wB_no h], hb⟩

set_option maxHeartbeats 2000000 in
theorem fits_any (w : World) (B S : Nat → Int) (C T L : Int) (U M : Nat → Int) (hs : ∀ j, j < 6 → S j ≤ 1000000) :
    Calls Try.prog 14 #[.agg (planC B S C T L), .agg (six U), .agg (six M)] w fun e w' => e = .returned (.bool (fitsB U M S)) ∧ Below w.heap.size w w' := by
  obtain ⟨R, hR⟩ : ∃ R, R = fitsB U M S := ⟨_, rfl⟩
  rw [← hR]
  have HR := Lib.hid hR
  clear hR
  go_enter Try.func14, Try.ntmps14
  go_wp2_with fail
  go_loopw [8] (fun i wr => ∃ k : Nat, k ≤ 6 ∧ i = .int .i64 k ∧ Hid (∀ j, j < k → okJ U M S j = true) ∧ ThreeAt w B S C T L U M wr) (fun i _ => 6 - (intOf i).toNat)
  case atStart => exact ⟨0, by omega, rfl, Lib.hid (fun j hj => by omega), heap3_0 _ _ _ _, heap3_1 _ _ _ _, heap3_2 _ _ _ _, below_al3⟩
  case round =>
    obtain ⟨k, hk, rfl, HO, hT⟩ := hrel
    by_cases hlt : k < 6
    · have hlt6 : (k : Int) < 6 := by omega
      have hsk := hs k hlt
      have HT := Lib.hid hT
      have HS := Lib.hid hs
      clear hs
      have fin : ∀ wx, ThreeAt w B S C T L U M wx → ¬ (0 ≤ U k ∧ U k ≤ S k ∧ 0 ≤ M k ∧ M k ≤ S k - U k) → Hid (Ending.returned (.bool false) = Ending.returned (.bool R) ∧ Below w.heap.size w wx) := fun wx hx h => Lib.hid ⟨by rw [HR.out, fitsB_no hlt h], hx.2.2.2⟩
      have FIN := Lib.hid fin
      clear fin
      by_cases hu0 : 0 ≤ U k
      rotate_left
      · have hu : U k < 0 ∨ S k < U k := by omega
        go_upto_region 4 with fail
        refine wp_region_by (fun (_ : Unit) j => [.agg (planC B S C T L), .agg (six U), .int .i64 k, .bool false, .bool true, .bool true, undef, undef, undef, undef, .bool true, .bool true, undef, undef, undef, undef, undef, undef, undef, undef, .bool true].getD j undef) (fun _ _ wx => ThreeAt w B S C T L U M wx) (by kernel_rfl) (by kernel_rfl)
          (fun q => by simp only [putTo, dstOf, Act.put, List.size_toArray, List.length_cons, List.length_nil, List.getElem?_toArray, Nat.reduceAdd, Option.bind_some, List.getElem?_cons_zero, List.getElem?_cons_succ, List.setIfInBounds_toArray, List.set_cons_zero, List.set_cons_succ, List.getD_cons_zero, List.getD_cons_succ]; exact rfl) () hT.drew ?_ ?_
        · intro i o ho q l wx hR hl he K hK
          have c2 : wx.cell? ⟨w.heap.size + 1 + 1, k, none⟩ = some (.int .i64 (M k)) := (cell_at hR.2.2.1 k).trans (six_get _ k hlt)
          rcases i with _ | _ | _ | _ | _ | _ | _ | _ | _ | _ | _ | _ | _ | _ | _ | _ | _ | _ | _ | _ | _ | i
          · obtain rfl : _ = o := Option.some.inj ho
            exact region_load_row rfl 28 (.tmp 3) rfl w.heap.size rfl 28 (planC B S C T L) (0, 0) _ hR.1 Try.underlying28 rfl (planC_info _ _ _ _ _) (hK () wx (fun _ _ => rfl) hR)
          · obtain rfl : _ = o := Option.some.inj ho
            exact region_load_row rfl 26 (.tmp 4) rfl (w.heap.size + 1) rfl 26 (six U) (0, 0) _ hR.2.1 Try.underlying26 rfl (six_info _) (hK () wx (fun _ _ => rfl) hR)
          · obtain rfl : _ = o := Option.some.inj ho
            go_simp; exact hK () wx (fun _ _ => rfl) hR
          · obtain rfl : _ = o := Option.some.inj ho
            go_simp; refine (within_no _ B S U C T L k hlt hu).mono ?_; rintro e w2 ⟨rfl, hb2⟩; exact hK () w2 (fun _ _ => rfl) (hR.below hb2)
          · obtain rfl : _ = o := Option.some.inj ho
            go_simp; exact hK () wx (fun _ _ => rfl) hR
          · obtain rfl : _ = o := Option.some.inj ho
            go_simp; exact hK () wx (fun _ _ => rfl) hR
          · obtain rfl : _ = o := Option.some.inj ho
            go_simp; exact hK () wx (fun _ _ => rfl) hR
          · obtain rfl : _ = o := Option.some.inj ho
            go_simp; exact hK () wx (fun _ _ => rfl) hR
          · obtain rfl : _ = o := Option.some.inj ho
            go_simp; exact hK () wx (fun _ _ => rfl) hR
          · obtain rfl : _ = o := Option.some.inj ho
            go_simp; exact hK () wx (fun _ _ => rfl) hR
          · obtain rfl : _ = o := Option.some.inj ho
            go_simp; exact hK () wx (fun _ _ => rfl) hR
          · obtain rfl : _ = o := Option.some.inj ho
            go_simp; exact hK () wx (fun _ _ => rfl) hR
          · obtain rfl : _ = o := Option.some.inj ho
            go_simp; exact hK () wx (fun _ _ => rfl) hR
          · obtain rfl : _ = o := Option.some.inj ho
            go_simp; exact hK () wx (fun _ _ => rfl) hR
          · obtain rfl : _ = o := Option.some.inj ho
            go_simp; exact hK () wx (fun _ _ => rfl) hR
          · obtain rfl : _ = o := Option.some.inj ho
            go_simp; exact hK () wx (fun _ _ => rfl) hR
          · obtain rfl : _ = o := Option.some.inj ho
            go_simp; exact hK () wx (fun _ _ => rfl) hR
          · obtain rfl : _ = o := Option.some.inj ho
            go_simp; exact hK () wx (fun _ _ => rfl) hR
          · obtain rfl : _ = o := Option.some.inj ho
            go_simp; exact hK () wx (fun _ _ => rfl) hR
          · obtain rfl : _ = o := Option.some.inj ho
            go_simp; exact hK () wx (fun _ _ => rfl) hR
          · obtain rfl : _ = o := Option.some.inj ho
            go_simp; exact hK () wx (fun _ _ => rfl) hR
          · simp at ho
        · intro q l wx hl hR
          have HF := Lib.hid (FIN.out wx hR (by omega)).out
          clear hT
          go_wp2_with fail
          go_ret
          exact HF.out
      by_cases hu1 : U k ≤ S k
      rotate_left
      · have hu : U k < 0 ∨ S k < U k := by omega
        go_upto_region 4 with fail
        refine wp_region_by (fun (_ : Unit) j => [.agg (planC B S C T L), .agg (six U), .int .i64 k, .bool false, .bool true, .bool true, undef, undef, undef, undef, .bool true, .bool true, undef, undef, undef, undef, undef, undef, undef, undef, .bool true].getD j undef) (fun _ _ wx => ThreeAt w B S C T L U M wx) (by kernel_rfl) (by kernel_rfl)
          (fun q => by simp only [putTo, dstOf, Act.put, List.size_toArray, List.length_cons, List.length_nil, List.getElem?_toArray, Nat.reduceAdd, Option.bind_some, List.getElem?_cons_zero, List.getElem?_cons_succ, List.setIfInBounds_toArray, List.set_cons_zero, List.set_cons_succ, List.getD_cons_zero, List.getD_cons_succ]; exact rfl) () hT.drew ?_ ?_
        · intro i o ho q l wx hR hl he K hK
          have c2 : wx.cell? ⟨w.heap.size + 1 + 1, k, none⟩ = some (.int .i64 (M k)) := (cell_at hR.2.2.1 k).trans (six_get _ k hlt)
          rcases i with _ | _ | _ | _ | _ | _ | _ | _ | _ | _ | _ | _ | _ | _ | _ | _ | _ | _ | _ | _ | _ | i
          · obtain rfl : _ = o := Option.some.inj ho
            exact region_load_row rfl 28 (.tmp 3) rfl w.heap.size rfl 28 (planC B S C T L) (0, 0) _ hR.1 Try.underlying28 rfl (planC_info _ _ _ _ _) (hK () wx (fun _ _ => rfl) hR)
          · obtain rfl : _ = o := Option.some.inj ho
            exact region_load_row rfl 26 (.tmp 4) rfl (w.heap.size + 1) rfl 26 (six U) (0, 0) _ hR.2.1 Try.underlying26 rfl (six_info _) (hK () wx (fun _ _ => rfl) hR)
          · obtain rfl : _ = o := Option.some.inj ho
            go_simp; exact hK () wx (fun _ _ => rfl) hR
          · obtain rfl : _ = o := Option.some.inj ho
            go_simp; refine (within_no _ B S U C T L k hlt hu).mono ?_; rintro e w2 ⟨rfl, hb2⟩; exact hK () w2 (fun _ _ => rfl) (hR.below hb2)
          · obtain rfl : _ = o := Option.some.inj ho
            go_simp; exact hK () wx (fun _ _ => rfl) hR
          · obtain rfl : _ = o := Option.some.inj ho
            go_simp; exact hK () wx (fun _ _ => rfl) hR
          · obtain rfl : _ = o := Option.some.inj ho
            go_simp; exact hK () wx (fun _ _ => rfl) hR
          · obtain rfl : _ = o := Option.some.inj ho
            go_simp; exact hK () wx (fun _ _ => rfl) hR
          · obtain rfl : _ = o := Option.some.inj ho
            go_simp; exact hK () wx (fun _ _ => rfl) hR
          · obtain rfl : _ = o := Option.some.inj ho
            go_simp; exact hK () wx (fun _ _ => rfl) hR
          · obtain rfl : _ = o := Option.some.inj ho
            go_simp; exact hK () wx (fun _ _ => rfl) hR
          · obtain rfl : _ = o := Option.some.inj ho
            go_simp; exact hK () wx (fun _ _ => rfl) hR
          · obtain rfl : _ = o := Option.some.inj ho
            go_simp; exact hK () wx (fun _ _ => rfl) hR
          · obtain rfl : _ = o := Option.some.inj ho
            go_simp; exact hK () wx (fun _ _ => rfl) hR
          · obtain rfl : _ = o := Option.some.inj ho
            go_simp; exact hK () wx (fun _ _ => rfl) hR
          · obtain rfl : _ = o := Option.some.inj ho
            go_simp; exact hK () wx (fun _ _ => rfl) hR
          · obtain rfl : _ = o := Option.some.inj ho
            go_simp; exact hK () wx (fun _ _ => rfl) hR
          · obtain rfl : _ = o := Option.some.inj ho
            go_simp; exact hK () wx (fun _ _ => rfl) hR
          · obtain rfl : _ = o := Option.some.inj ho
            go_simp; exact hK () wx (fun _ _ => rfl) hR
          · obtain rfl : _ = o := Option.some.inj ho
            go_simp; exact hK () wx (fun _ _ => rfl) hR
          · obtain rfl : _ = o := Option.some.inj ho
            go_simp; exact hK () wx (fun _ _ => rfl) hR
          · simp at ho
        · intro q l wx hl hR
          have HF := Lib.hid (FIN.out wx hR (by omega)).out
          clear hT
          go_wp2_with fail
          go_ret
          exact HF.out
      by_cases hm : 0 ≤ M k
      rotate_left
      · have e0 : decide (M k < 0) = true := decide_eq_true (by omega)
        go_upto_region 4 with fail
        refine wp_region_by (fun (_ : Unit) j => [.agg (planC B S C T L), .agg (six U), .int .i64 k, .bool true, .bool false, .bool false, .int .i64 k, .pointer (some ⟨w.heap.size + 1 + 1, k, none⟩), .int .i64 (M k), .bool true, .bool true, .bool true, undef, undef, undef, undef, undef, undef, undef, undef, .bool true].getD j undef) (fun _ _ wx => ThreeAt w B S C T L U M wx) (by kernel_rfl) (by kernel_rfl)
          (fun q => by simp only [putTo, dstOf, Act.put, List.size_toArray, List.length_cons, List.length_nil, List.getElem?_toArray, Nat.reduceAdd, Option.bind_some, List.getElem?_cons_zero, List.getElem?_cons_succ, List.setIfInBounds_toArray, List.set_cons_zero, List.set_cons_succ, List.getD_cons_zero, List.getD_cons_succ]; exact rfl) () hT.drew ?_ ?_
        · intro i o ho q l wx hR hl he K hK
          have c2 : wx.cell? ⟨w.heap.size + 1 + 1, k, none⟩ = some (.int .i64 (M k)) := (cell_at hR.2.2.1 k).trans (six_get _ k hlt)
          rcases i with _ | _ | _ | _ | _ | _ | _ | _ | _ | _ | _ | _ | _ | _ | _ | _ | _ | _ | _ | _ | _ | i
          · obtain rfl : _ = o := Option.some.inj ho
            exact region_load_row rfl 28 (.tmp 3) rfl w.heap.size rfl 28 (planC B S C T L) (0, 0) _ hR.1 Try.underlying28 rfl (planC_info _ _ _ _ _) (hK () wx (fun _ _ => rfl) hR)
          · obtain rfl : _ = o := Option.some.inj ho
            exact region_load_row rfl 26 (.tmp 4) rfl (w.heap.size + 1) rfl 26 (six U) (0, 0) _ hR.2.1 Try.underlying26 rfl (six_info _) (hK () wx (fun _ _ => rfl) hR)
          · obtain rfl : _ = o := Option.some.inj ho
            go_simp; exact hK () wx (fun _ _ => rfl) hR
          · obtain rfl : _ = o := Option.some.inj ho
            go_simp; refine (within_yes _ B S U C T L k hlt hu0 hu1).mono ?_; rintro e w2 ⟨rfl, hb2⟩; exact hK () w2 (fun _ _ => rfl) (hR.below hb2)
          · obtain rfl : _ = o := Option.some.inj ho
            go_simp; exact hK () wx (fun _ _ => rfl) hR
          · obtain rfl : _ = o := Option.some.inj ho
            go_simp; exact hK () wx (fun _ _ => rfl) hR
          · obtain rfl : _ = o := Option.some.inj ho
            go_simp; exact hK () wx (fun _ _ => rfl) hR
          · obtain rfl : _ = o := Option.some.inj ho
            go_simp; exact hK () wx (fun _ _ => rfl) hR
          · obtain rfl : _ = o := Option.some.inj ho
            go_simp; exact hK () wx (fun _ _ => rfl) hR
          · obtain rfl : _ = o := Option.some.inj ho
            go_simp; exact hK () wx (fun _ _ => rfl) hR
          · obtain rfl : _ = o := Option.some.inj ho
            go_simp; exact hK () wx (fun _ _ => rfl) hR
          · obtain rfl : _ = o := Option.some.inj ho
            go_simp; exact hK () wx (fun _ _ => rfl) hR
          · obtain rfl : _ = o := Option.some.inj ho
            go_simp; exact hK () wx (fun _ _ => rfl) hR
          · obtain rfl : _ = o := Option.some.inj ho
            go_simp; exact hK () wx (fun _ _ => rfl) hR
          · obtain rfl : _ = o := Option.some.inj ho
            go_simp; exact hK () wx (fun _ _ => rfl) hR
          · obtain rfl : _ = o := Option.some.inj ho
            go_simp; exact hK () wx (fun _ _ => rfl) hR
          · obtain rfl : _ = o := Option.some.inj ho
            go_simp; exact hK () wx (fun _ _ => rfl) hR
          · obtain rfl : _ = o := Option.some.inj ho
            go_simp; exact hK () wx (fun _ _ => rfl) hR
          · obtain rfl : _ = o := Option.some.inj ho
            go_simp; exact hK () wx (fun _ _ => rfl) hR
          · obtain rfl : _ = o := Option.some.inj ho
            go_simp; exact hK () wx (fun _ _ => rfl) hR
          · obtain rfl : _ = o := Option.some.inj ho
            go_simp; exact hK () wx (fun _ _ => rfl) hR
          · simp at ho
        · intro q l wx hl hR
          have HF := Lib.hid (FIN.out wx hR (by omega)).out
          clear hT
          go_wp2_with fail
          go_ret
          exact HF.out
      have e0 : decide (M k < 0) = false := decide_eq_false (by omega)
      by_cases hf : M k ≤ S k - U k
      · have e1 : decide (S k - U k < M k) = false := decide_eq_false (by omega)
        go_upto_region 4 with fail
        refine wp_region_by (fun (_ : Unit) j => [.agg (planC B S C T L), .agg (six U), .int .i64 k, .bool true, .bool false, .bool false, .int .i64 k, .pointer (some ⟨w.heap.size + 1 + 1, k, none⟩), .int .i64 (M k), .bool false, .bool false, .bool false, .int .i64 k, .pointer (some ⟨w.heap.size + 1 + 1, k, none⟩), .int .i64 (M k), .agg (planC B S C T L), .agg (six U), .int .i64 k, .int .i64 (S k - U k), .bool false, .bool false].getD j undef) (fun _ _ wx => ThreeAt w B S C T L U M wx) (by kernel_rfl) (by kernel_rfl)
          (fun q => by simp only [putTo, dstOf, Act.put, List.size_toArray, List.length_cons, List.length_nil, List.getElem?_toArray, Nat.reduceAdd, Option.bind_some, List.getElem?_cons_zero, List.getElem?_cons_succ, List.setIfInBounds_toArray, List.set_cons_zero, List.set_cons_succ, List.getD_cons_zero, List.getD_cons_succ]; exact rfl) () hT.drew ?_ ?_
        · intro i o ho q l wx hR hl he K hK
          have c2 : wx.cell? ⟨w.heap.size + 1 + 1, k, none⟩ = some (.int .i64 (M k)) := (cell_at hR.2.2.1 k).trans (six_get _ k hlt)
          rcases i with _ | _ | _ | _ | _ | _ | _ | _ | _ | _ | _ | _ | _ | _ | _ | _ | _ | _ | _ | _ | _ | i
          · obtain rfl : _ = o := Option.some.inj ho
            exact region_load_row rfl 28 (.tmp 3) rfl w.heap.size rfl 28 (planC B S C T L) (0, 0) _ hR.1 Try.underlying28 rfl (planC_info _ _ _ _ _) (hK () wx (fun _ _ => rfl) hR)
          · obtain rfl : _ = o := Option.some.inj ho
            exact region_load_row rfl 26 (.tmp 4) rfl (w.heap.size + 1) rfl 26 (six U) (0, 0) _ hR.2.1 Try.underlying26 rfl (six_info _) (hK () wx (fun _ _ => rfl) hR)
          · obtain rfl : _ = o := Option.some.inj ho
            go_simp; exact hK () wx (fun _ _ => rfl) hR
          · obtain rfl : _ = o := Option.some.inj ho
            go_simp; refine (within_yes _ B S U C T L k hlt hu0 hu1).mono ?_; rintro e w2 ⟨rfl, hb2⟩; exact hK () w2 (fun _ _ => rfl) (hR.below hb2)
          · obtain rfl : _ = o := Option.some.inj ho
            go_simp; exact hK () wx (fun _ _ => rfl) hR
          · obtain rfl : _ = o := Option.some.inj ho
            go_simp; exact hK () wx (fun _ _ => rfl) hR
          · obtain rfl : _ = o := Option.some.inj ho
            go_simp; exact hK () wx (fun _ _ => rfl) hR
          · obtain rfl : _ = o := Option.some.inj ho
            go_simp; exact hK () wx (fun _ _ => rfl) hR
          · obtain rfl : _ = o := Option.some.inj ho
            go_simp; exact hK () wx (fun _ _ => rfl) hR
          · obtain rfl : _ = o := Option.some.inj ho
            go_simp; exact hK () wx (fun _ _ => rfl) hR
          · obtain rfl : _ = o := Option.some.inj ho
            go_simp; exact hK () wx (fun _ _ => rfl) hR
          · obtain rfl : _ = o := Option.some.inj ho
            go_simp; exact hK () wx (fun _ _ => rfl) hR
          · obtain rfl : _ = o := Option.some.inj ho
            go_simp; exact hK () wx (fun _ _ => rfl) hR
          · obtain rfl : _ = o := Option.some.inj ho
            go_simp; exact hK () wx (fun _ _ => rfl) hR
          · obtain rfl : _ = o := Option.some.inj ho
            go_simp; exact hK () wx (fun _ _ => rfl) hR
          · obtain rfl : _ = o := Option.some.inj ho
            exact region_load_row rfl 28 (.tmp 3) rfl w.heap.size rfl 28 (planC B S C T L) (0, 0) _ hR.1 Try.underlying28 rfl (planC_info _ _ _ _ _) (hK () wx (fun _ _ => rfl) hR)
          · obtain rfl : _ = o := Option.some.inj ho
            exact region_load_row rfl 26 (.tmp 4) rfl (w.heap.size + 1) rfl 26 (six U) (0, 0) _ hR.2.1 Try.underlying26 rfl (six_info _) (hK () wx (fun _ _ => rfl) hR)
          · obtain rfl : _ = o := Option.some.inj ho
            go_simp; exact hK () wx (fun _ _ => rfl) hR
          · obtain rfl : _ = o := Option.some.inj ho
            go_simp; refine (left_any _ B S U C T L k hlt hu0 hu1 hsk).mono ?_; rintro e w2 ⟨rfl, hb2⟩; exact hK () w2 (fun _ _ => rfl) (hR.below hb2)
          · obtain rfl : _ = o := Option.some.inj ho
            go_simp; exact hK () wx (fun _ _ => rfl) hR
          · obtain rfl : _ = o := Option.some.inj ho
            go_simp; exact hK () wx (fun _ _ => rfl) hR
          · simp at ho
        · intro q l wx hl hR
          have HJ := Lib.hid (okJ_iff.2 (show 0 ≤ U k ∧ U k ≤ S k ∧ 0 ≤ M k ∧ M k ≤ S k - U k from ⟨hu0, hu1, hm, hf⟩))
          have HX := Lib.hid hR
          clear hT hR
          go_wp2_with fail
          go_roundw
          case rel =>
            refine ⟨k + 1, by omega, by go_num, Lib.hid (fun j hj => ?_), HX.out⟩
            by_cases e : j = k
            · subst e; exact HJ.out
            · exact HO.out j (by omega)
          case measure => simp [intOf]; omega
      · have e1 : decide (S k - U k < M k) = true := decide_eq_true (by omega)
        go_upto_region 4 with fail
        refine wp_region_by (fun (_ : Unit) j => [.agg (planC B S C T L), .agg (six U), .int .i64 k, .bool true, .bool false, .bool false, .int .i64 k, .pointer (some ⟨w.heap.size + 1 + 1, k, none⟩), .int .i64 (M k), .bool false, .bool false, .bool false, .int .i64 k, .pointer (some ⟨w.heap.size + 1 + 1, k, none⟩), .int .i64 (M k), .agg (planC B S C T L), .agg (six U), .int .i64 k, .int .i64 (S k - U k), .bool true, .bool true].getD j undef) (fun _ _ wx => ThreeAt w B S C T L U M wx) (by kernel_rfl) (by kernel_rfl)
          (fun q => by simp only [putTo, dstOf, Act.put, List.size_toArray, List.length_cons, List.length_nil, List.getElem?_toArray, Nat.reduceAdd, Option.bind_some, List.getElem?_cons_zero, List.getElem?_cons_succ, List.setIfInBounds_toArray, List.set_cons_zero, List.set_cons_succ, List.getD_cons_zero, List.getD_cons_succ]; exact rfl) () hT.drew ?_ ?_
        · intro i o ho q l wx hR hl he K hK
          have c2 : wx.cell? ⟨w.heap.size + 1 + 1, k, none⟩ = some (.int .i64 (M k)) := (cell_at hR.2.2.1 k).trans (six_get _ k hlt)
          rcases i with _ | _ | _ | _ | _ | _ | _ | _ | _ | _ | _ | _ | _ | _ | _ | _ | _ | _ | _ | _ | _ | i
          · obtain rfl : _ = o := Option.some.inj ho
            exact region_load_row rfl 28 (.tmp 3) rfl w.heap.size rfl 28 (planC B S C T L) (0, 0) _ hR.1 Try.underlying28 rfl (planC_info _ _ _ _ _) (hK () wx (fun _ _ => rfl) hR)
          · obtain rfl : _ = o := Option.some.inj ho
            exact region_load_row rfl 26 (.tmp 4) rfl (w.heap.size + 1) rfl 26 (six U) (0, 0) _ hR.2.1 Try.underlying26 rfl (six_info _) (hK () wx (fun _ _ => rfl) hR)
          · obtain rfl : _ = o := Option.some.inj ho
            go_simp; exact hK () wx (fun _ _ => rfl) hR
          · obtain rfl : _ = o := Option.some.inj ho
            go_simp; refine (within_yes _ B S U C T L k hlt hu0 hu1).mono ?_; rintro e w2 ⟨rfl, hb2⟩; exact hK () w2 (fun _ _ => rfl) (hR.below hb2)
          · obtain rfl : _ = o := Option.some.inj ho
            go_simp; exact hK () wx (fun _ _ => rfl) hR
          · obtain rfl : _ = o := Option.some.inj ho
            go_simp; exact hK () wx (fun _ _ => rfl) hR
          · obtain rfl : _ = o := Option.some.inj ho
            go_simp; exact hK () wx (fun _ _ => rfl) hR
          · obtain rfl : _ = o := Option.some.inj ho
            go_simp; exact hK () wx (fun _ _ => rfl) hR
          · obtain rfl : _ = o := Option.some.inj ho
            go_simp; exact hK () wx (fun _ _ => rfl) hR
          · obtain rfl : _ = o := Option.some.inj ho
            go_simp; exact hK () wx (fun _ _ => rfl) hR
          · obtain rfl : _ = o := Option.some.inj ho
            go_simp; exact hK () wx (fun _ _ => rfl) hR
          · obtain rfl : _ = o := Option.some.inj ho
            go_simp; exact hK () wx (fun _ _ => rfl) hR
          · obtain rfl : _ = o := Option.some.inj ho
            go_simp; exact hK () wx (fun _ _ => rfl) hR
          · obtain rfl : _ = o := Option.some.inj ho
            go_simp; exact hK () wx (fun _ _ => rfl) hR
          · obtain rfl : _ = o := Option.some.inj ho
            go_simp; exact hK () wx (fun _ _ => rfl) hR
          · obtain rfl : _ = o := Option.some.inj ho
            exact region_load_row rfl 28 (.tmp 3) rfl w.heap.size rfl 28 (planC B S C T L) (0, 0) _ hR.1 Try.underlying28 rfl (planC_info _ _ _ _ _) (hK () wx (fun _ _ => rfl) hR)
          · obtain rfl : _ = o := Option.some.inj ho
            exact region_load_row rfl 26 (.tmp 4) rfl (w.heap.size + 1) rfl 26 (six U) (0, 0) _ hR.2.1 Try.underlying26 rfl (six_info _) (hK () wx (fun _ _ => rfl) hR)
          · obtain rfl : _ = o := Option.some.inj ho
            go_simp; exact hK () wx (fun _ _ => rfl) hR
          · obtain rfl : _ = o := Option.some.inj ho
            go_simp; refine (left_any _ B S U C T L k hlt hu0 hu1 hsk).mono ?_; rintro e w2 ⟨rfl, hb2⟩; exact hK () w2 (fun _ _ => rfl) (hR.below hb2)
          · obtain rfl : _ = o := Option.some.inj ho
            go_simp; exact hK () wx (fun _ _ => rfl) hR
          · obtain rfl : _ = o := Option.some.inj ho
            go_simp; exact hK () wx (fun _ _ => rfl) hR
          · simp at ho
        · intro q l wx hl hR
          have HF := Lib.hid (FIN.out wx hR (by omega)).out
          clear hT
          go_wp2_with fail
          go_ret
          exact HF.out
    · obtain rfl : k = 6 := by omega
      have HE := Lib.hid (show R = true by rw [HR.out]; exact fitsB_yes HO.out)
      have HB := Lib.hid hT.2.2.2
      clear hT hs
      go_wp2_with fail
      go_ret
      exact ⟨by rw [HE.out]; exact rfl, HB.out⟩
end Go.Proofs.Ytniejikbbmileaa
