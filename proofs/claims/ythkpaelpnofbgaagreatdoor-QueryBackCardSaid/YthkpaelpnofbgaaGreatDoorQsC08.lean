/-
  The library's strings.Builder in a block of the call's own: its check, a rune written, its length, its text; the bytes of any rune appended. Over the program's own text.
-/
import Derived.Test.YthkpaelpnofbgaaGreatDoorQsC02
import Derived.Test.YthkpaelpnofbgaaGreatDoorQsC06
import Derived.Lib.Builder
import Derived.Lib.OwnKind
import Derived.Lib.UnsafeStr
import Derived.Lib.OthersKept
import Derived.Laws.Externs
import Derived.Laws.BitsLemmas
namespace Go.Proofs.YthkpaelpnofbgaaGreatDoor
open Go.RowKit
open Go.Lib (IsBuilder BuilderAt OthersKept byteCells)

set_option maxRecDepth 100000 in
theorem builder_lies : liesAt Tryz.prog Tryz.prog.depth 77 (2 / Tryz.prog.cellsOf 77) 0 77 1 = true := by kernel_rfl
set_option maxRecDepth 100000 in
theorem builder_size : (Tryz.prog.info? 77).map (·.size) = some 2 := by kernel_rfl
set_option maxRecDepth 100000 in
theorem byte_cells : Tryz.prog.cellsOf 5 = 1 := by kernel_rfl

set_option maxHeartbeats 1000000 in
set_option maxRecDepth 100000 in
theorem check_used (b : Nat) (w : World) (h0 : w.cell? ⟨b, 0, none⟩ = some (.pointer (some ⟨b, 0, none⟩))) :
    Calls Tryz.prog 67 #[.pointer (some ⟨b, 0, none⟩)] w fun e w' => e = .returned (.tuple #[]) ∧ w' = w := by
  obtain ⟨j, hj, _⟩ := Option.map_eq_some_iff.1 builder_size
  go_enter Tryz.func67, Tryz.ntmps67
  go_wp2
  rw [Lib.run_neq_ptr_same w _ Tryz.underlying75 hj]
  go_wp2
  go_end0
  exact ⟨rfl, rfl⟩

set_option maxHeartbeats 1000000 in
set_option maxRecDepth 100000 in
theorem check_fresh (b : Nat) (w : World) (h0 : w.cell? ⟨b, 0, none⟩ = some (.pointer none)) (hsh : w.shape? b = some (77, 2)) (hfz : w.frozen? ⟨b, 0, none⟩ = false) :
    Calls Tryz.prog 67 #[.pointer (some ⟨b, 0, none⟩)] w fun e w' => e = .returned (.tuple #[]) ∧ w' = w.setCell ⟨b, 0, none⟩ (.pointer (some ⟨b, 0, none⟩)) := by
  obtain ⟨j, hj, hjs⟩ := Option.map_eq_some_iff.1 builder_size
  go_enter Tryz.func67, Tryz.ntmps67
  go_wp2
  rw [Lib.run_to_unsafe w ⟨b, 0, none⟩ Tryz.underlying75 Tryz.underlying115 hj (by rw [hjs]; decide) hsh (Nat.zero_lt_succ 1)]
  simp only [Result.andThen]
  rw [Oper.upon_value]
  go_wp2
  rw [run_callFunc_extern Tryz.func88 (by kernel_rfl) (by kernel_rfl) (by kernel_rfl) (e := Extern.AbiNoEscape.same) (by kernel_rfl)]
  rw [Lib.run_noEscape]
  simp only [Result.andThen]
  rw [Oper.upon_value]
  go_wp2
  rw [Lib.run_from_unsafe w ⟨b, 0, none⟩ Tryz.underlying115 Tryz.underlying75 hj hsh builder_lies]
  simp only [Result.andThen]
  rw [Oper.upon_value]
  go_wp2
  go_end0
  exact ⟨rfl, rfl⟩

set_option maxRecDepth 100000 in
theorem builder_check (B b : Nat) (bs : List Value) (w : World) (h : IsBuilder 77 5 B b bs w) :
    Calls Tryz.prog 67 #[.pointer (some ⟨b, 0, none⟩)] w fun e w' => e = .returned (.tuple #[]) ∧ BuilderAt 77 5 B b (.pointer (some ⟨b, 0, none⟩)) bs w' ∧ Below B w w' ∧ OthersKept 5 (some b) w w' := by
  rcases h with h | h
  · refine (check_fresh b w h.cell0 h.shape h.frozen0).mono ?_
    rintro e w' ⟨rfl, rfl⟩
    exact ⟨rfl, h.used _, (Below.refl B w).setCell (p := ⟨b, 0, none⟩) h.1 _, (OthersKept.refl _ _ w).setCell ⟨b, 0, none⟩ rfl _⟩
  · refine (check_used b w h.cell0).mono ?_
    rintro e w' ⟨rfl, rfl⟩
    exact ⟨rfl, h, Below.refl B _, OthersKept.refl _ _ _⟩

/-! ### A rune's bytes appended -/
def cellsB (l : List Nat) : List Value := l.map fun (b : Nat) => Value.int .u8 (b : Int)
set_option maxRecDepth 100000 in
theorem cellsB_append (a b : List Nat) : cellsB (a ++ b) = cellsB a ++ cellsB b := by simp [cellsB]
set_option maxRecDepth 100000 in
theorem cellsB_length (a : List Nat) : (cellsB a).length = a.length := by simp [cellsB]

set_option maxHeartbeats 4000000 in
set_option maxRecDepth 100000 in
theorem append_two (B : Nat) (v : Value) (n : Nat) (xs : List Value) (r : Int) (h0 : 128 ≤ r) (h1 : r ≤ 2047) (w : World) (hown : w.ownsRow B 5 1 v n xs) (hlen : n + 4 ≤ 140737488355328) (hBw : B ≤ w.heap.size) :
    Calls Tryz.prog 105 #[v, .int .i32 r] w fun e w' => ∃ v', e = .returned v' ∧ w'.ownsRow B 5 1 v' (n + 2) (xs ++ [.int .u8 (192 + r / 64), .int .u8 (128 + r % 64)]) ∧ ∃ o, (w.alloc o).grownBy w' v.ownBlock := by
  obtain ⟨i0, hi, hz0, hz1, hz2⟩ := info_parts info_u8
  go_enter Tryz.func105, Tryz.ntmps105
  go_wp2_with (at_builtin; refine wpList_append_own _ rfl _ _ 45 rfl B 5 i0 (.int .u8 0) 1 1 Tryz.underlying45 hi hz0 hz1 hz2 rfl (by decide) _ _ _ rfl (hown.alloc _) ⟨w.heap.size, 0, none⟩ 2 2 [.int .u8 (192 + r / 64), .int .u8 (128 + r % 64)] rfl rfl ?c1 ?c2 ?c3 ?c4 ?c5 ?_)
  case c1 =>
    intro j u hj
    match j, hj with
    | 0, hj => simp at hj; subst hj; simp [Addr.add]
    | 1, hj => simp at hj; subst hj; simp [Addr.add]
    | (j + 2), hj => simp at hj
  case c2 => intro u hu; simp at hu; rcases hu with rfl | rfl <;> rfl
  case c3 => unfold maxLen; omega
  case c4 => omega
  case c5 => simp; omega
  intro v' w2 hown' hgrow _
  go_wp2
  go_ret
  exact ⟨_, rfl, hown', _, hgrow⟩

set_option maxHeartbeats 4000000 in
set_option maxRecDepth 100000 in
theorem append_three_lo (B : Nat) (v : Value) (n : Nat) (xs : List Value) (r : Int) (h0 : 2048 ≤ r) (h1 : r < 55296) (w : World) (hown : w.ownsRow B 5 1 v n xs) (hlen : n + 4 ≤ 140737488355328) (hBw : B ≤ w.heap.size) :
    Calls Tryz.prog 105 #[v, .int .i32 r] w fun e w' => ∃ v', e = .returned v' ∧ w'.ownsRow B 5 1 v' (n + 3) (xs ++ [.int .u8 (224 + r / 4096), .int .u8 (128 + r / 64 % 64), .int .u8 (128 + r % 64)]) ∧ ∃ o, (w.alloc o).grownBy w' v.ownBlock := by
  obtain ⟨i0, hi, hz0, hz1, hz2⟩ := info_parts info_u8
  go_enter Tryz.func105, Tryz.ntmps105
  go_wp2_with (at_builtin; refine wpList_append_own _ rfl _ _ 45 rfl B 5 i0 (.int .u8 0) 1 1 Tryz.underlying45 hi hz0 hz1 hz2 rfl (by decide) _ _ _ rfl (hown.alloc _) ⟨w.heap.size, 0, none⟩ 3 3 [.int .u8 (224 + r / 4096), .int .u8 (128 + r / 64 % 64), .int .u8 (128 + r % 64)] rfl rfl ?c1 ?c2 ?c3 ?c4 ?c5 ?_)
  case c1 =>
    intro j u hj
    match j, hj with
    | 0, hj => simp at hj; subst hj; simp [Addr.add]
    | 1, hj => simp at hj; subst hj; simp [Addr.add]
    | 2, hj => simp at hj; subst hj; simp [Addr.add]
    | (j + 3), hj => simp at hj
  case c2 => intro u hu; simp at hu; rcases hu with rfl | rfl | rfl <;> rfl
  case c3 => unfold maxLen; omega
  case c4 => omega
  case c5 => simp; omega
  intro v' w2 hown' hgrow _
  go_wp2
  go_ret
  exact ⟨_, rfl, hown', _, hgrow⟩

set_option maxHeartbeats 4000000 in
set_option maxRecDepth 100000 in
theorem append_three_hi (B : Nat) (v : Value) (n : Nat) (xs : List Value) (r : Int) (h0 : 57343 < r) (h1 : r ≤ 65535) (w : World) (hown : w.ownsRow B 5 1 v n xs) (hlen : n + 4 ≤ 140737488355328) (hBw : B ≤ w.heap.size) :
    Calls Tryz.prog 105 #[v, .int .i32 r] w fun e w' => ∃ v', e = .returned v' ∧ w'.ownsRow B 5 1 v' (n + 3) (xs ++ [.int .u8 (224 + r / 4096), .int .u8 (128 + r / 64 % 64), .int .u8 (128 + r % 64)]) ∧ ∃ o, (w.alloc o).grownBy w' v.ownBlock := by
  obtain ⟨i0, hi, hz0, hz1, hz2⟩ := info_parts info_u8
  go_enter Tryz.func105, Tryz.ntmps105
  go_wp2_with (at_builtin; refine wpList_append_own _ rfl _ _ 45 rfl B 5 i0 (.int .u8 0) 1 1 Tryz.underlying45 hi hz0 hz1 hz2 rfl (by decide) _ _ _ rfl (hown.alloc _) ⟨w.heap.size, 0, none⟩ 3 3 [.int .u8 (224 + r / 4096), .int .u8 (128 + r / 64 % 64), .int .u8 (128 + r % 64)] rfl rfl ?c1 ?c2 ?c3 ?c4 ?c5 ?_)
  case c1 =>
    intro j u hj
    match j, hj with
    | 0, hj => simp at hj; subst hj; simp [Addr.add]
    | 1, hj => simp at hj; subst hj; simp [Addr.add]
    | 2, hj => simp at hj; subst hj; simp [Addr.add]
    | (j + 3), hj => simp at hj
  case c2 => intro u hu; simp at hu; rcases hu with rfl | rfl | rfl <;> rfl
  case c3 => unfold maxLen; omega
  case c4 => omega
  case c5 => simp; omega
  intro v' w2 hown' hgrow _
  go_wp2
  go_ret
  exact ⟨_, rfl, hown', _, hgrow⟩

set_option maxHeartbeats 4000000 in
set_option maxRecDepth 100000 in
theorem append_four (B : Nat) (v : Value) (n : Nat) (xs : List Value) (r : Int) (h0 : 65536 ≤ r) (h1 : r ≤ 1114111) (w : World) (hown : w.ownsRow B 5 1 v n xs) (hlen : n + 4 ≤ 140737488355328) (hBw : B ≤ w.heap.size) :
    Calls Tryz.prog 105 #[v, .int .i32 r] w fun e w' => ∃ v', e = .returned v' ∧ w'.ownsRow B 5 1 v' (n + 4) (xs ++ [.int .u8 (240 + r / 262144), .int .u8 (128 + r / 4096 % 64), .int .u8 (128 + r / 64 % 64), .int .u8 (128 + r % 64)]) ∧ ∃ o, (w.alloc o).grownBy w' v.ownBlock := by
  obtain ⟨i0, hi, hz0, hz1, hz2⟩ := info_parts info_u8
  go_enter Tryz.func105, Tryz.ntmps105
  go_wp2_with (at_builtin; refine wpList_append_own _ rfl _ _ 45 rfl B 5 i0 (.int .u8 0) 1 1 Tryz.underlying45 hi hz0 hz1 hz2 rfl (by decide) _ _ _ rfl (hown.alloc _) ⟨w.heap.size, 0, none⟩ 4 4 [.int .u8 (240 + r / 262144), .int .u8 (128 + r / 4096 % 64), .int .u8 (128 + r / 64 % 64), .int .u8 (128 + r % 64)] rfl rfl ?c1 ?c2 ?c3 ?c4 ?c5 ?_)
  case c1 =>
    intro j u hj
    match j, hj with
    | 0, hj => simp at hj; subst hj; simp [Addr.add]
    | 1, hj => simp at hj; subst hj; simp [Addr.add]
    | 2, hj => simp at hj; subst hj; simp [Addr.add]
    | 3, hj => simp at hj; subst hj; simp [Addr.add]
    | (j + 4), hj => simp at hj
  case c2 => intro u hu; simp at hu; rcases hu with rfl | rfl | rfl | rfl <;> rfl
  case c3 => unfold maxLen; omega
  case c4 => omega
  case c5 => simp; omega
  intro v' w2 hown' hgrow _
  go_wp2
  go_ret
  exact ⟨_, rfl, hown', _, hgrow⟩

set_option maxHeartbeats 4000000 in
set_option maxRecDepth 100000 in
theorem append_bad_neg (B : Nat) (v : Value) (n : Nat) (xs : List Value) (r : Int) (h0 : -2147483648 ≤ r) (h1 : r < 0) (w : World) (hown : w.ownsRow B 5 1 v n xs) (hlen : n + 4 ≤ 140737488355328) (hBw : B ≤ w.heap.size) :
    Calls Tryz.prog 105 #[v, .int .i32 r] w fun e w' => ∃ v', e = .returned v' ∧ w'.ownsRow B 5 1 v' (n + 3) (xs ++ [.int .u8 (239), .int .u8 (191), .int .u8 (189)]) ∧ ∃ o, (w.alloc o).grownBy w' v.ownBlock := by
  obtain ⟨i0, hi, hz0, hz1, hz2⟩ := info_parts info_u8
  go_enter Tryz.func105, Tryz.ntmps105
  go_wp2_with (at_builtin; refine wpList_append_own _ rfl _ _ 45 rfl B 5 i0 (.int .u8 0) 1 1 Tryz.underlying45 hi hz0 hz1 hz2 rfl (by decide) _ _ _ rfl (hown.alloc _) ⟨w.heap.size, 0, none⟩ 3 3 [.int .u8 (239), .int .u8 (191), .int .u8 (189)] rfl rfl ?c1 ?c2 ?c3 ?c4 ?c5 ?_)
  all_goals first
    | (intro v' w2 hown' hgrow _; go_wp2; go_ret; exact ⟨_, rfl, hown', _, hgrow⟩)
    | (unfold maxLen; omega)
    | omega
    | (simp; omega)
    | exact ⟨rfl, rfl, rfl⟩
    | (intro u hu; simp at hu; rcases hu with rfl | rfl | rfl <;> rfl)
    | (intro j u hj
       match j, hj with
       | 0, hj => simp at hj; subst hj; simp [Addr.add]
       | 1, hj => simp at hj; subst hj; simp [Addr.add]
       | 2, hj => simp at hj; subst hj; simp [Addr.add]
       | (j + 3), hj => simp at hj)

set_option maxHeartbeats 4000000 in
set_option maxRecDepth 100000 in
theorem append_bad_sur (B : Nat) (v : Value) (n : Nat) (xs : List Value) (r : Int) (h0 : 55296 ≤ r) (h1 : r ≤ 57343) (w : World) (hown : w.ownsRow B 5 1 v n xs) (hlen : n + 4 ≤ 140737488355328) (hBw : B ≤ w.heap.size) :
    Calls Tryz.prog 105 #[v, .int .i32 r] w fun e w' => ∃ v', e = .returned v' ∧ w'.ownsRow B 5 1 v' (n + 3) (xs ++ [.int .u8 (239), .int .u8 (191), .int .u8 (189)]) ∧ ∃ o, (w.alloc o).grownBy w' v.ownBlock := by
  obtain ⟨i0, hi, hz0, hz1, hz2⟩ := info_parts info_u8
  go_enter Tryz.func105, Tryz.ntmps105
  go_wp2_with (at_builtin; refine wpList_append_own _ rfl _ _ 45 rfl B 5 i0 (.int .u8 0) 1 1 Tryz.underlying45 hi hz0 hz1 hz2 rfl (by decide) _ _ _ rfl (hown.alloc _) ⟨w.heap.size, 0, none⟩ 3 3 [.int .u8 (239), .int .u8 (191), .int .u8 (189)] rfl rfl ?c1 ?c2 ?c3 ?c4 ?c5 ?_)
  all_goals first
    | (intro v' w2 hown' hgrow _; go_wp2; go_ret; exact ⟨_, rfl, hown', _, hgrow⟩)
    | (unfold maxLen; omega)
    | omega
    | (simp; omega)
    | exact ⟨rfl, rfl, rfl⟩
    | (intro u hu; simp at hu; rcases hu with rfl | rfl | rfl <;> rfl)
    | (intro j u hj
       match j, hj with
       | 0, hj => simp at hj; subst hj; simp [Addr.add]
       | 1, hj => simp at hj; subst hj; simp [Addr.add]
       | 2, hj => simp at hj; subst hj; simp [Addr.add]
       | (j + 3), hj => simp at hj)

set_option maxHeartbeats 4000000 in
set_option maxRecDepth 100000 in
theorem append_bad_big (B : Nat) (v : Value) (n : Nat) (xs : List Value) (r : Int) (h0 : 1114111 < r) (h1 : r ≤ 2147483647) (w : World) (hown : w.ownsRow B 5 1 v n xs) (hlen : n + 4 ≤ 140737488355328) (hBw : B ≤ w.heap.size) :
    Calls Tryz.prog 105 #[v, .int .i32 r] w fun e w' => ∃ v', e = .returned v' ∧ w'.ownsRow B 5 1 v' (n + 3) (xs ++ [.int .u8 (239), .int .u8 (191), .int .u8 (189)]) ∧ ∃ o, (w.alloc o).grownBy w' v.ownBlock := by
  obtain ⟨i0, hi, hz0, hz1, hz2⟩ := info_parts info_u8
  go_enter Tryz.func105, Tryz.ntmps105
  go_wp2_with (at_builtin; refine wpList_append_own _ rfl _ _ 45 rfl B 5 i0 (.int .u8 0) 1 1 Tryz.underlying45 hi hz0 hz1 hz2 rfl (by decide) _ _ _ rfl (hown.alloc _) ⟨w.heap.size, 0, none⟩ 3 3 [.int .u8 (239), .int .u8 (191), .int .u8 (189)] rfl rfl ?c1 ?c2 ?c3 ?c4 ?c5 ?_)
  all_goals first
    | (intro v' w2 hown' hgrow _; go_wp2; go_ret; exact ⟨_, rfl, hown', _, hgrow⟩)
    | (unfold maxLen; omega)
    | omega
    | (simp; omega)
    | exact ⟨rfl, rfl, rfl⟩
    | (intro u hu; simp at hu; rcases hu with rfl | rfl | rfl <;> rfl)
    | (intro j u hj
       match j, hj with
       | 0, hj => simp at hj; subst hj; simp [Addr.add]
       | 1, hj => simp at hj; subst hj; simp [Addr.add]
       | 2, hj => simp at hj; subst hj; simp [Addr.add]
       | (j + 3), hj => simp at hj)

set_option maxHeartbeats 4000000 in
set_option maxRecDepth 100000 in
theorem append_ascii (B : Nat) (v : Value) (n : Nat) (xs : List Value) (r : Int) (h0 : 0 ≤ r) (h1 : r ≤ 127) (w : World) (hown : w.ownsRow B 5 1 v n xs) (hlen : n + 4 ≤ 140737488355328) (hBw : B ≤ w.heap.size) :
    Calls Tryz.prog 95 #[v, .int .i32 r] w fun e w' => ∃ v', e = .returned v' ∧ w'.ownsRow B 5 1 v' (n + 1) (xs ++ [.int .u8 r]) ∧ ∃ o, (w.alloc o).grownBy w' v.ownBlock := by
  obtain ⟨i0, hi, hz0, hz1, hz2⟩ := info_parts info_u8
  have hm : n + 1 ≤ maxLen := by unfold maxLen; omega
  go_enter Tryz.func95, Tryz.ntmps95
  go_wp2_with (at_builtin; refine wpList_append_own _ rfl _ _ 45 rfl B 5 i0 (.int .u8 0) 1 1 Tryz.underlying45 hi hz0 hz1 hz2 rfl (by decide) _ _ _ rfl (hown.alloc _) ⟨w.heap.size, 0, none⟩ 1 1 [.int .u8 r] rfl rfl one_cell (by simp [Value.oneCell']) hm (by omega) (by simp; omega) ?_)
  intro v' w2 hown' hgrow _
  go_wp2
  go_ret
  exact ⟨_, rfl, hown', _, hgrow⟩

set_option maxRecDepth 100000 in
theorem cells_one {r : Int} (h0 : 0 ≤ r) (h1 : r ≤ 127) : cellsB (encR (normR r)) = [.int .u8 r] := by
  obtain ⟨n, rfl⟩ := Int.eq_ofNat_of_zero_le h0
  have h : okR n := by unfold okR; omega
  rw [show ((n : Nat) : Int) = Int.ofNat n from rfl] at *
  rw [show normR (Int.ofNat n) = n from normR_self h]
  have a : n < 128 := by simp only [Int.ofNat_eq_natCast] at h1; omega
  simp [cellsB, encR, a]
set_option maxRecDepth 100000 in
theorem cells_two {r : Int} (h0 : 128 ≤ r) (h1 : r ≤ 2047) : cellsB (encR (normR r)) = [.int .u8 (192 + r / 64), .int .u8 (128 + r % 64)] := by
  obtain ⟨n, rfl⟩ := Int.eq_ofNat_of_zero_le (by omega : 0 ≤ r)
  have h : okR n := by unfold okR; omega
  rw [normR_self h]
  have a : ¬ n < 128 := by omega
  have b : n < 2048 := by omega
  simp [cellsB, encR, a, b]
set_option maxRecDepth 100000 in
theorem cells_three {r : Int} (h : (2048 ≤ r ∧ r < 55296) ∨ (57343 < r ∧ r ≤ 65535)) : cellsB (encR (normR r)) = [.int .u8 (224 + r / 4096), .int .u8 (128 + r / 64 % 64), .int .u8 (128 + r % 64)] := by
  obtain ⟨n, rfl⟩ := Int.eq_ofNat_of_zero_le (by omega : 0 ≤ r)
  have hk : okR n := by unfold okR; omega
  rw [normR_self hk]
  have a : ¬ n < 128 := by omega
  have b : ¬ n < 2048 := by omega
  have c : n < 65536 := by omega
  simp [cellsB, encR, a, b, c]
set_option maxRecDepth 100000 in
theorem cells_four {r : Int} (h0 : 65536 ≤ r) (h1 : r ≤ 1114111) : cellsB (encR (normR r)) = [.int .u8 (240 + r / 262144), .int .u8 (128 + r / 4096 % 64), .int .u8 (128 + r / 64 % 64), .int .u8 (128 + r % 64)] := by
  obtain ⟨n, rfl⟩ := Int.eq_ofNat_of_zero_le (by omega : 0 ≤ r)
  have hk : okR n := by unfold okR; omega
  rw [normR_self hk]
  have a : ¬ n < 128 := by omega
  have b : ¬ n < 2048 := by omega
  have c : ¬ n < 65536 := by omega
  simp [cellsB, encR, a, b, c]
set_option maxRecDepth 100000 in
theorem cells_bad {r : Int} (h : r < 0 ∨ (55296 ≤ r ∧ r ≤ 57343) ∨ 1114111 < r) : cellsB (encR (normR r)) = [.int .u8 239, .int .u8 191, .int .u8 189] := by
  have hk : ¬ (0 ≤ r ∧ okR r.toNat) := by unfold okR; omega
  unfold normR
  rw [if_neg hk]
  rfl

set_option maxRecDepth 100000 in
theorem append_other (B : Nat) (v : Value) (n : Nat) (xs : List Value) (r : Int) (hr0 : -2147483648 ≤ r) (hr1 : r ≤ 2147483647) (hna : r < 0 ∨ 128 ≤ r) (w : World) (hown : w.ownsRow B 5 1 v n xs) (hlen : n + 4 ≤ 140737488355328) (hBw : B ≤ w.heap.size) :
    Calls Tryz.prog 105 #[v, .int .i32 r] w fun e w' => ∃ v', e = .returned v' ∧ w'.ownsRow B 5 1 v' (n + (encR (normR r)).length) (xs ++ cellsB (encR (normR r))) ∧ ∃ o, (w.alloc o).grownBy w' v.ownBlock := by
  rw [← cellsB_length]
  by_cases c0 : r < 0
  · rw [cells_bad (Or.inl c0)]
    exact append_bad_neg B v n xs r hr0 c0 w hown hlen hBw
  by_cases c1 : r ≤ 2047
  · rw [cells_two (by omega) c1]
    exact append_two B v n xs r (by omega) c1 w hown hlen hBw
  by_cases c2 : r < 55296
  · rw [cells_three (Or.inl ⟨by omega, c2⟩)]
    exact append_three_lo B v n xs r (by omega) c2 w hown hlen hBw
  by_cases c3 : r ≤ 57343
  · rw [cells_bad (Or.inr (Or.inl ⟨by omega, c3⟩))]
    exact append_bad_sur B v n xs r (by omega) c3 w hown hlen hBw
  by_cases c4 : r ≤ 65535
  · rw [cells_three (Or.inr ⟨by omega, c4⟩)]
    exact append_three_hi B v n xs r (by omega) c4 w hown hlen hBw
  by_cases c5 : r ≤ 1114111
  · rw [cells_four (by omega) c5]
    exact append_four B v n xs r (by omega) c5 w hown hlen hBw
  · rw [cells_bad (Or.inr (Or.inr (by omega)))]
    exact append_bad_big B v n xs r (by omega) hr1 w hown hlen hBw

set_option maxHeartbeats 4000000 in
set_option maxRecDepth 100000 in
theorem append_far (B : Nat) (v : Value) (n : Nat) (xs : List Value) (r : Int) (hr0 : -2147483648 ≤ r) (hr1 : r ≤ 2147483647) (hna : r < 0 ∨ 128 ≤ r) (w : World) (hown : w.ownsRow B 5 1 v n xs) (hlen : n + 4 ≤ 140737488355328) (hBw : B ≤ w.heap.size) :
    Calls Tryz.prog 95 #[v, .int .i32 r] w fun e w' => ∃ v', e = .returned v' ∧ w'.ownsRow B 5 1 v' (n + (encR (normR r)).length) (xs ++ cellsB (encR (normR r))) ∧ ∃ o, (w.alloc o).grownBy w' v.ownBlock := by
  have HA := Lib.hid (append_other B v n xs r hr0 hr1 hna w hown hlen hBw)
  clear hown
  rcases hna with hna | hna
  all_goals
    go_enter Tryz.func95, Tryz.ntmps95
    go_wp2_with fail
    refine HA.out.mono ?_
    rintro e w1 ⟨v', rfl, h1, o, h2⟩
    go_wp2
    go_ret
    exact ⟨_, rfl, h1, o, h2⟩

set_option maxRecDepth 100000 in
theorem append_rune (B : Nat) (v : Value) (n : Nat) (xs : List Value) (r : Int) (hr0 : -2147483648 ≤ r) (hr1 : r ≤ 2147483647) (w : World) (hown : w.ownsRow B 5 1 v n xs) (hlen : n + 4 ≤ 140737488355328) (hBw : B ≤ w.heap.size) :
    Calls Tryz.prog 95 #[v, .int .i32 r] w fun e w' => ∃ v', e = .returned v' ∧ w'.ownsRow B 5 1 v' (n + (encR (normR r)).length) (xs ++ cellsB (encR (normR r))) ∧ ∃ o, (w.alloc o).grownBy w' v.ownBlock := by
  by_cases c : 0 ≤ r ∧ r ≤ 127
  · rw [← cellsB_length, cells_one c.1 c.2]
    exact append_ascii B v n xs r c.1 c.2 w hown hlen hBw
  · exact append_far B v n xs r hr0 hr1 (by omega) w hown hlen hBw

set_option maxHeartbeats 4000000 in
set_option maxRecDepth 100000 in
/-- A rune written. -/
theorem builder_rune (B b : Nat) (l : List Nat) (r : Int) (hr0 : -2147483648 ≤ r) (hr1 : r ≤ 2147483647) (w : World) (h : IsBuilder 77 5 B b (cellsB l) w) (hlen : l.length + 4 ≤ 140737488355328) (hBw : B ≤ w.heap.size) :
    Calls Tryz.prog 75 #[.pointer (some ⟨b, 0, none⟩), .int .i32 r] w fun e w' => ∃ v, e = .returned v ∧ IsBuilder 77 5 B b (cellsB (l ++ encR (normR r))) w' ∧ Below B w w' ∧ OthersKept 5 (some b) w w' := by
  have hk4 := enc_le (normR r)
  have HC := Lib.hid (builder_check B b (cellsB l) w h)
  clear h
  go_enter Tryz.func75, Tryz.ntmps75
  go_wp2_with fail
  refine HC.out.mono ?_
  rintro e w1 ⟨rfl, h1, hb1, hk1⟩
  obtain ⟨hB, v, hbk, hown, hne⟩ := h1
  rw [cellsB_length] at hown
  obtain ⟨ao, cap, rfl⟩ : ∃ ao cap, v = .slice ao l.length cap := by
    rcases hown.2 with ⟨hv, h0⟩ | ⟨g, cap, cur, hv, _⟩
    · exact ⟨none, 0, by rw [hv, h0]⟩
    · exact ⟨_, _, hv⟩
  have c1 : w1.cell? ⟨b, 1, none⟩ = some (.slice ao l.length cap) := by rw [Lib.cell_of_heap hbk]; rfl
  have HA := Lib.hid (append_rune B _ l.length (cellsB l) r hr0 hr1 w1 hown hlen (by have := hb1.size; omega))
  have HO := Lib.hid hown
  have HB := Lib.hid hbk
  have HN := Lib.hid hne
  clear hown hbk hne HC
  go_wp2_with fail
  refine HA.out.mono ?_
  rintro e w2 ⟨v', rfl, hown', o, hgrow⟩
  have hlt : b < w1.heap.size := lt_of_heap HB.out
  have hb2 : w2.heap[b]? = some (.cells #[.pointer (some ⟨b, 0, none⟩), .slice ao l.length cap] 77 (0, 0)) := by
    rw [hgrow.block b (by simp; omega) (fun e => HN.out e.symm), Lib.alloc_old w1 _ b hlt]
    exact HB.out
  have d1 : w2.cell? ⟨b, 1, none⟩ = some (.slice ao l.length cap) := by rw [Lib.cell_of_heap hb2]; rfl
  have f1 : w2.frozen? ⟨b, 1, none⟩ = false := Lib.frozen_of_heap hb2 1
  obtain ⟨g, cap', rfl⟩ : ∃ g cap', v' = .slice g (l.length + (encR (normR r)).length) cap' := by
    rcases hown'.2 with ⟨hv, h0⟩ | ⟨g, cap', cur, hv, _⟩
    · exact ⟨none, 0, by rw [hv, h0]⟩
    · exact ⟨_, cap', hv⟩
  have HP := Lib.hid (BuilderAt.put (T := 77) (e := 5) hB hb2 (bs' := cellsB (l ++ encR (normR r))) (by simpa [cellsB_append, cellsB_length] using hown') (by decide))
  have HW := Lib.hid (((hb1.alloc (by have := hb1.size; omega) o).grown hgrow (by have := hb1.size; simp; omega) (fun k hk => (HO.out.lt k hk).1)).setCell (p := ⟨b, 1, none⟩) hB (.slice g (l.length + (encR (normR r)).length) cap'))
  have HK := Lib.hid (((hk1.alloc o).grown hgrow (Lib.ownsRow_kind (HO.out.alloc _))).setCell ⟨b, 1, none⟩ rfl (.slice g (l.length + (encR (normR r)).length) cap'))
  clear hown' hgrow hb2 HA HO HB HN hb1 hk1
  go_wp2_with fail
  go_ret2
  exact ⟨_, rfl, Or.inr HP.out, HW.out, HK.out⟩

set_option maxHeartbeats 1000000 in
set_option maxRecDepth 100000 in
theorem builder_len (B b : Nat) (bs : List Value) (w : World) (h : IsBuilder 77 5 B b bs w) :
    Calls Tryz.prog 102 #[.pointer (some ⟨b, 0, none⟩)] w fun e w' => e = .returned (.int .i64 bs.length) ∧ w' = w := by
  obtain ⟨p, hB, v, hbk, hown, hne⟩ : ∃ p, BuilderAt 77 5 B b p bs w := by
    rcases h with h | h
    · exact ⟨_, h⟩
    · exact ⟨_, h⟩
  obtain ⟨ao, cap, rfl⟩ : ∃ ao cap, v = .slice ao bs.length cap := by
    rcases hown.2 with ⟨hv, h0⟩ | ⟨g, cap, cur, hv, _⟩
    · exact ⟨none, 0, by rw [hv, h0]⟩
    · exact ⟨_, _, hv⟩
  have c1 : w.cell? ⟨b, 1, none⟩ = some (.slice ao bs.length cap) := by rw [Lib.cell_of_heap hbk]; rfl
  clear hbk hown hne
  go_enter Tryz.func102, Tryz.ntmps102
  go_wp2_with fail
  go_ret
  exact ⟨rfl, rfl⟩

set_option maxRecDepth 100000 in
theorem byteCells_of (l : List Nat) (h : ∀ b ∈ l, b < 256) : byteCells (l.map UInt8.ofNat) = cellsB l := by
  simp only [byteCells, cellsB, List.map_map]
  apply List.map_congr_left
  intro b hb
  have := h b hb
  simp
  omega

set_option maxHeartbeats 2000000 in
set_option maxRecDepth 100000 in
theorem text_some (B b : Nat) (l : List UInt8) (w : World) (h : IsBuilder 77 5 B b (byteCells l) w) (h0 : l ≠ []) :
    Calls Tryz.prog 49 #[.pointer (some ⟨b, 0, none⟩)] w fun e w' => e = .returned (.string ⟨l.toArray⟩) ∧ Below B w w' := by
  obtain ⟨p, hB, v, hbk, hown, hne⟩ : ∃ p, BuilderAt 77 5 B b p (byteCells l) w := by
    rcases h with h | h
    · exact ⟨_, h⟩
    · exact ⟨_, h⟩
  rw [Lib.byteCells_length] at hown
  have hl : l.length ≠ 0 := by simpa using h0
  obtain ⟨g, cap, cur, rfl, hbg, hg, hnc, hcm, hcs, _⟩ : ∃ g cap cur, v = .slice (some ⟨g, 0, none⟩) l.length cap ∧ B ≤ g ∧ w.heap[g]? = some (.cells cur 5 (0, 0)) ∧ l.length ≤ cap ∧ cap ≤ maxLen ∧ cur.size = cap * 1 ∧ cur.toList.take (l.length * 1) = byteCells l := by
    rcases hown.2 with ⟨_, h00⟩ | ⟨g, cap, cur, hv, a, b, c, d, e, f⟩
    · exact absurd h00 hl
    · exact ⟨g, cap, cur, hv, a, b, c, d, e, f⟩
  have c1 : w.drew.cell? ⟨b, 1, none⟩ = some (.slice (some ⟨g, 0, none⟩) l.length cap) := by
    have : w.drew.heap[b]? = some (.cells #[p, .slice (some ⟨g, 0, none⟩) l.length cap] 77 (0, 0)) := hbk
    rw [Lib.cell_of_heap this]; rfl
  have hSD : (Builtin.unsafeSliceData_ #[45] 92 #[.slice (some ⟨g, 0, none⟩) l.length cap]).run Tryz.prog w.drew = .ok (.pointer (some ⟨g, 0, none⟩)) w.drew :=
    Lib.run_unsafeSliceData_row _ _ _ _ _ _ (by omega)
  have hUS : (Builtin.unsafeString_ #[92, 3] 9 #[.pointer (some ⟨g, 0, none⟩), .int .i64 l.length]).run Tryz.prog w.drew = .ok (.string ⟨l.toArray⟩) (w.drew.freeze ⟨g, 0, none⟩ l.length) := by
    refine Lib.run_unsafeString_row w.drew 92 3 9 5 Tryz.underlying92 byte_cells g cur.size (by have hg' : w.drew.heap[g]? = some (.cells cur 5 (0, 0)) := hg; simp [World.shape?, hg']) l h0 (by omega) (by unfold maxLen at hcm; omega) ?_
    intro j x hx
    have := hown.cells (g := g) rfl j (.int .u8 x.toNat) (by simp [byteCells, hx])
    exact this
  go_enter Tryz.func49, Tryz.ntmps49
  go_wp2
  go_region
  all_goals (go_wp2; go_ret; exact ⟨rfl, Lib.below_freeze (Below.drew (Below.refl B w)) (p := ⟨g, 0, none⟩) hbg _⟩)

set_option maxHeartbeats 2000000 in
set_option maxRecDepth 100000 in
theorem text_none (B b : Nat) (w : World) (h : IsBuilder 77 5 B b [] w) (hBw : B ≤ w.heap.size) :
    Calls Tryz.prog 49 #[.pointer (some ⟨b, 0, none⟩)] w fun e w' => e = .returned (.string ⟨#[]⟩) ∧ Below B w w' := by
  obtain ⟨p, hB, v, hbk, hown, hne⟩ : ∃ p, BuilderAt 77 5 B b p [] w := by
    rcases h with h | h
    · exact ⟨_, h⟩
    · exact ⟨_, h⟩
  have hUS : ∀ (W : World) (q : Option Addr), (Builtin.unsafeString_ #[92, 3] 9 #[.pointer q, .int .i64 0]).run Tryz.prog W = .ok (.string .empty) W := fun W q => Lib.run_unsafeString_none W _ _ _ q
  rcases hown.2 with ⟨rfl, _⟩ | ⟨g, cap, cur, rfl, hbg, hg, _, _, _, _⟩
  · have c1 : w.drew.cell? ⟨b, 1, none⟩ = some (.slice none 0 0) := by
      have : w.drew.heap[b]? = some (.cells #[p, .slice none 0 0] 77 (0, 0)) := hbk
      rw [Lib.cell_of_heap this]; rfl
    have hSD : (Builtin.unsafeSliceData_ #[45] 92 #[.slice none 0 0]).run Tryz.prog w.drew = .ok (.pointer none) w.drew := rfl
    go_enter Tryz.func49, Tryz.ntmps49
    go_wp2
    go_region
    all_goals (go_wp2; go_ret; exact ⟨rfl, Below.drew (Below.refl B w)⟩)
  · by_cases hc0 : cap = 0
    · subst hc0
      have hlt : b < w.heap.size := lt_of_heap hbk
      have c1 : w.drew.cell? ⟨b, 1, none⟩ = some (.slice (some ⟨g, 0, none⟩) 0 0) := by
        have : w.drew.heap[b]? = some (.cells #[p, .slice (some ⟨g, 0, none⟩) 0 0] 77 (0, 0)) := hbk
        rw [Lib.cell_of_heap this]; rfl
      have hSD : (Builtin.unsafeSliceData_ #[45] 92 #[.slice (some ⟨g, 0, none⟩) 0 0]).run Tryz.prog w.drew = .ok (.pointer (some ⟨w.drew.heap.size, 0, none⟩)) (w.drew.alloc (.view ⟨g, 0, none⟩ 5)) :=
        Lib.run_unsafeSliceData_zero w.drew _ _ 5 Tryz.underlying92 ⟨g, 0, none⟩ 0 (5, cur.size) (by have hg' : w.drew.heap[g]? = some (.cells cur 5 (0, 0)) := hg; simp [World.shape?, hg'])
      have c2 : (w.drew.alloc (.view ⟨g, 0, none⟩ 5)).cell? ⟨b, 1, none⟩ = some (.slice (some ⟨g, 0, none⟩) 0 0) := by
        have : (w.drew.alloc (.view ⟨g, 0, none⟩ 5)).heap[b]? = _ := (Lib.alloc_old w.drew _ b hlt).trans hbk
        rw [Lib.cell_of_heap this]; rfl
      have c3 : (w.alloc (.view ⟨g, 0, none⟩ 5)).drew.cell? ⟨b, 1, none⟩ = some (.slice (some ⟨g, 0, none⟩) 0 0) := c2
      have c0 : w.cell? ⟨b, 1, none⟩ = some (.slice (some ⟨g, 0, none⟩) 0 0) := c1
      go_enter Tryz.func49, Tryz.ntmps49
      go_wp2
      go_region
      all_goals (go_wp2; go_ret; exact ⟨rfl, (Below.drew (Below.refl B w)).alloc hBw _⟩)
    · have c1 : w.drew.cell? ⟨b, 1, none⟩ = some (.slice (some ⟨g, 0, none⟩) 0 cap) := by
        have : w.drew.heap[b]? = some (.cells #[p, .slice (some ⟨g, 0, none⟩) 0 cap] 77 (0, 0)) := hbk
        rw [Lib.cell_of_heap this]; rfl
      have hSD : (Builtin.unsafeSliceData_ #[45] 92 #[.slice (some ⟨g, 0, none⟩) 0 cap]).run Tryz.prog w.drew = .ok (.pointer (some ⟨g, 0, none⟩)) w.drew :=
        Lib.run_unsafeSliceData_row _ _ _ _ _ _ hc0
      clear hc0
      go_enter Tryz.func49, Tryz.ntmps49
      go_wp2
      go_region
      all_goals (go_wp2; go_ret; exact ⟨rfl, Below.drew (Below.refl B w)⟩)

set_option maxRecDepth 100000 in
/-- Its text. -/
theorem builder_text (B b : Nat) (l : List Nat) (w : World) (h : IsBuilder 77 5 B b (cellsB l) w) (hl : ∀ x ∈ l, x < 256) (hBw : B ≤ w.heap.size) :
    Calls Tryz.prog 49 #[.pointer (some ⟨b, 0, none⟩)] w fun e w' => e = .returned (.string (byteText l)) ∧ Below B w w' := by
  rw [← byteCells_of l hl] at h
  cases l with
  | nil => exact text_none B b w h hBw
  | cons x r => exact text_some B b ((x :: r).map UInt8.ofNat) w h (by simp)
set_option maxRecDepth 100000 in
theorem builder_length (B b : Nat) (l : List Nat) (w : World) (h : IsBuilder 77 5 B b (cellsB l) w) :
    Calls Tryz.prog 102 #[.pointer (some ⟨b, 0, none⟩)] w fun e w' => e = .returned (.int .i64 l.length) ∧ w' = w := by
  rw [← cellsB_length l]
  exact builder_len B b _ w h
set_option maxRecDepth 100000 in
/-- What an iterator's step leaves of it. -/
theorem ownsRow_iter {w : World} {B e n k : Nat} {v : Value} {xs : List Value} {s : ByteArray} {pos : Nat} (h : w.ownsRow B e 1 v n xs) (hk : w.heap[k]? = some (.stringIter s pos)) (pos' : Nat) : (w.iterAt k s pos').ownsRow B e 1 v n xs := by
  obtain ⟨h0, h | ⟨g, cap, cur, h1, h2, h3, h4⟩⟩ := h
  · exact ⟨h0, .inl h⟩
  · refine ⟨h0, .inr ⟨g, cap, cur, h1, h2, (Lib.iterAt_other _ _ _ _ _ ?_).trans h3, h4⟩⟩
    rintro rfl
    rw [h3] at hk
    cases hk
set_option maxRecDepth 100000 in
theorem builder_iter {B b k : Nat} {bs : List Value} {w : World} {s : ByteArray} {pos : Nat} (h : IsBuilder 77 5 B b bs w) (hk : w.heap[k]? = some (.stringIter s pos)) (pos' : Nat) : IsBuilder 77 5 B b bs (w.iterAt k s pos') := by
  have go : ∀ p, BuilderAt 77 5 B b p bs w → BuilderAt 77 5 B b p bs (w.iterAt k s pos') := by
    rintro p ⟨hB, v, hb, hown, hne⟩
    refine ⟨hB, v, (Lib.iterAt_other _ _ _ _ _ ?_).trans hb, ownsRow_iter hown hk pos', hne⟩
    rintro rfl
    rw [hb] at hk
    cases hk
  exact h.elim (fun x => .inl (go _ x)) (fun x => .inr (go _ x))
set_option maxRecDepth 100000 in
theorem builder_alloc {B b : Nat} {bs : List Value} {w : World} (h : IsBuilder 77 5 B b bs w) (o : Obj) : IsBuilder 77 5 B b bs (w.alloc o) := by
  have go : ∀ p, BuilderAt 77 5 B b p bs w → BuilderAt 77 5 B b p bs (w.alloc o) := by
    rintro p ⟨hB, v, hb, hown, hne⟩
    exact ⟨hB, v, (Lib.alloc_old _ _ _ (lt_of_heap hb)).trans hb, hown.alloc o, hne⟩
  exact h.elim (fun x => .inl (go _ x)) (fun x => .inr (go _ x))
end Go.Proofs.YthkpaelpnofbgaaGreatDoor
/-
  What the program's three functions of layer 4 keep, as the laws' walks take it. Over the program's own text.
-/
namespace Go.Proofs.YthkpaelpnofbgaaGreatDoor
open Go.RowKit

/-- Each of the three answers as the chapter says: taken as given here, proved of the landed code elsewhere. -/
structure Kept : Prop where
  runes : ∀ (w : World) (s : ByteArray), s.size ≤ 1000000 → Calls Tryz.prog 19 #[.string s] w fun e w' => ∃ oa c, e = .returned (.slice oa (ints (runesOf s)).length c) ∧ (ints (runesOf s)).length ≤ c ∧ c ≤ maxLen ∧ ReadI w' oa (ints (runesOf s)) ∧ Below w.heap.size w w' ∧ (oa = none → c = 0)
  text : ∀ (w : World) (oa : Option Addr) (c : Nat) (l : List Int), l.length ≤ 1000000 → l.length ≤ c → c ≤ maxLen → ReadI w oa l → (∀ r ∈ l, -2147483648 ≤ r ∧ r ≤ 2147483647) → Calls Tryz.prog 59 #[.slice oa l.length c] w fun e w' => e = .returned (.string (textZ l)) ∧ Below w.heap.size w w'
  fit : ∀ (w : World) (s : ByteArray) (n : Int), s.size ≤ 1000000 → -9223372036854775808 ≤ n → n ≤ 9223372036854775807 → Calls Tryz.prog 87 #[.string s, .int .i64 n] w fun e w' => e = .returned (.string (textZ ((ints (runesOf s)).take (fitK (ints (runesOf s)) n)))) ∧ Below w.heap.size w w'

set_option maxRecDepth 100000 in
theorem ints_i32 {l : List Nat} (h : ∀ r ∈ l, okR r) : ∀ r ∈ ints l, -2147483648 ≤ r ∧ r ≤ 2147483647 := by
  intro r hr
  obtain ⟨x, hx, rfl⟩ := List.mem_map.1 hr
  have := h x hx
  unfold okR at this
  omega
set_option maxRecDepth 100000 in
theorem Kept.runes_of (K : Kept) (s : ByteArray) (L : List Int) (hs : s.size ≤ 1000000) (hL : ints (runesOf s) = L) (w : World) : Calls Tryz.prog 19 #[.string s] w fun e w' => ∃ oa c, e = .returned (.slice oa L.length c) ∧ L.length ≤ c ∧ c ≤ maxLen ∧ ReadI w' oa L ∧ Below w.heap.size w w' := by
  subst hL
  exact (K.runes w s hs).mono fun _ _ ⟨oa, c, h1, h2, h3, h4, h5, _⟩ => ⟨oa, c, h1, h2, h3, h4, h5⟩
set_option maxRecDepth 100000 in
theorem Kept.runes_all (K : Kept) (s : ByteArray) (hs : s.size ≤ 1000000) (w : World) : Calls Tryz.prog 19 #[.string s] w fun e w' => ∃ oa c, e = .returned (.slice oa (ints (runesOf s)).length c) ∧ (ints (runesOf s)).length ≤ c ∧ c ≤ maxLen ∧ ReadI w' oa (ints (runesOf s)) ∧ Below w.heap.size w w' := K.runes_of s _ hs rfl w
set_option maxRecDepth 100000 in
theorem Kept.fit_of (K : Kept) (s t : ByteArray) (n : Int) (hs : s.size ≤ 1000000) (h1 : -9223372036854775808 ≤ n) (h2 : n ≤ 9223372036854775807) (ht : textZ ((ints (runesOf s)).take (fitK (ints (runesOf s)) n)) = t) (w : World) : Calls Tryz.prog 87 #[.string s, .int .i64 n] w fun e w' => e = .returned (.string t) ∧ Below w.heap.size w w' := by
  subst ht
  exact K.fit w s n hs h1 h2
set_option maxRecDepth 100000 in
/-- A row just made, read. -/
theorem read_new (w : World) (l : List Int) (t : TypeId) : ReadI (w.alloc (.cells (l.map (Value.int .i32)).toArray t)) (some ⟨w.heap.size, 0, none⟩) l := by
  intro j r hj
  refine ⟨_, rfl, ?_⟩
  rw [Addr.add_lit, cell_of_row _ _ _ _ _ _ (heap_alloc_new w _)]
  simp [hj]

end Go.Proofs.YthkpaelpnofbgaaGreatDoor
/-
  What the program's three functions of layer 4 keep, proved of the landed code: a list made for as many runes as are counted, a builder of strings that each rune is written to, left where the next one no longer fits. Over the program's own text.
-/
namespace Go.Proofs.YthkpaelpnofbgaaGreatDoor
open Go.RowKit
open Go.Lib (IsBuilder OthersKept iterAt_other iterAt_size iterAt_heap below_iterAt run_next_any_at run_next_end_at)

set_option maxRecDepth 100000 in
theorem decode_eq' (s : ByteArray) (pos : Nat) : (((Utf8.decode s pos).1 : Nat) : Int) = ((decAt s pos).1 : Int) ∧ (Utf8.decode s pos).2 = (decAt s pos).2 := by
  rw [decode_eq]; exact ⟨rfl, rfl⟩

set_option maxRecDepth 100000 in
set_option maxHeartbeats 2000000 in
/-- How many runes a text has. -/
theorem count_runes (W : World) (s : ByteArray) (hs : s.size ≤ 1000000) :
    Calls Tryz.prog 29 #[.string s] W fun e w' => e = .returned (.int .i64 (runesOf s).length) ∧ Below W.heap.size W w' := by
  have HL := Lib.hid (runesOf_many s).1
  go_enter Tryz.func29, Tryz.ntmps29
  go_wp2_with fail
  go_loopw [2] (fun nv wr => ∃ (pos i : Nat), nv = .int .i64 i ∧ pos ≤ s.size ∧ wr.heap[W.heap.size]? = some (.stringIter s pos) ∧ (runesOf s).length = i + (runesL ((bytesL s).drop pos)).length ∧ Below W.heap.size W wr) (fun _ wr => s.size - wr.iterPos W.heap.size)
  case atStart => exact ⟨0, 0, rfl, by omega, World.iter_heap _ _ _, by simp [runesOf], below_one⟩
  case round =>
    obtain ⟨pos, i, rfl, hpos, hit, heq, hlow⟩ := hrel
    have hps : wr.iterPos W.heap.size = pos := by unfold World.iterPos; rw [hit]
    have hi := HL.out
    by_cases hlt : pos < s.size
    · have hnx : ∀ ty, (Instr.next (.pointer (some ⟨W.heap.size, 0, none⟩)) true ty).run Tryz.prog wr = .ok (.tuple #[.bool true, .int .i64 pos, .int .i32 (decAt s pos).1]) (wr.iterAt W.heap.size s (pos + (decAt s pos).2)) := fun ty => by rw [run_next_any_at wr _ s pos ty hit hlt, decode_eq]
      have hd := decAt_le hlt
      rw [runes_at hlt, List.length_cons] at heq
      have HI := Lib.hid (iterAt_heap wr W.heap.size s pos (pos + (decAt s pos).2) hit)
      have HB := Lib.hid (below_iterAt hlow (Nat.le_refl _) s (pos + (decAt s pos).2))
      have HE := Lib.hid heq
      generalize hwi : wr.iterAt W.heap.size s (pos + (decAt s pos).2) = wi at hnx HI HB
      have hi2 : i ≤ 1000000 := by omega
      clear hit heq hlow hwi hi
      go_wp2_with fail
      go_roundw
      case rel => exact ⟨pos + (decAt s pos).2, i + 1, by go_num, by omega, HI.out, by have := HE.out; omega, HB.out⟩
      case measure =>
                    have : wi.iterPos W.heap.size = pos + (decAt s pos).2 := (by unfold World.iterPos; rw [HI.out])
                    omega
    · have hnx : ∀ ty, (Instr.next (.pointer (some ⟨W.heap.size, 0, none⟩)) true ty).run Tryz.prog wr = .ok (.tuple #[.bool false]) wr := fun ty => run_next_end_at wr _ s pos ty hit hlt
      have HE := Lib.hid (show (runesOf s).length = i by rw [heq, List.drop_eq_nil_of_le (by rw [bytesL_length]; omega)]; simp [runesL_nil])
      have HB := Lib.hid hlow
      clear hit heq hlow hi
      go_wp2_with fail
      go_ret
      exact ⟨by rw [HE.out]; rfl, HB.out⟩

set_option maxRecDepth 100000 in
set_option maxHeartbeats 2000000 in
/-- How many bytes a rune has. -/
theorem rune_len (w : World) (r : Nat) (h : okR r) :
    Calls Tryz.prog 103 #[.int .i32 r] w fun e w' => e = .returned (.int .i64 (encR r).length) ∧ w' = w := by
  rw [encR_length]
  unfold okR at h
  by_cases c1 : r ≤ 127
  · rw [if_pos (by omega)]
    go_enter Tryz.func103, Tryz.ntmps103
    go_wp2_with fail
    go_ret
    exact ⟨rfl, rfl⟩
  by_cases c2 : r ≤ 2047
  · rw [if_neg (by omega), if_pos (by omega)]
    go_enter Tryz.func103, Tryz.ntmps103
    go_wp2_with fail
    go_ret
    exact ⟨rfl, rfl⟩
  by_cases c3 : r < 55296
  · rw [if_neg (by omega), if_neg (by omega), if_pos (by omega)]
    go_enter Tryz.func103, Tryz.ntmps103
    go_wp2_with fail
    go_ret
    exact ⟨rfl, rfl⟩
  by_cases c4 : r ≤ 65535
  · rw [if_neg (by omega), if_neg (by omega), if_pos (by omega)]
    have h2 : 57344 ≤ r := by omega
    clear h
    go_enter Tryz.func103, Tryz.ntmps103
    go_wp2_with fail
    go_ret
    exact ⟨rfl, rfl⟩
  · rw [if_neg (by omega), if_neg (by omega), if_neg (by omega)]
    have h2 : r ≤ 1114111 := by omega
    clear h
    go_enter Tryz.func103, Tryz.ntmps103
    go_wp2_with fail
    go_ret
    exact ⟨rfl, rfl⟩

/-! ### Runes -/
/-- Behind so many bytes. -/
structure GoingU (W : World) (k : Nat) (s : ByteArray) (pos : Nat) (l : List Nat) (v : Value) (w : World) : Prop where
  le : pos ≤ s.size
  it : w.heap[k]? = some (.stringIter s pos)
  kb : W.heap.size ≤ k
  eq : runesOf s = l ++ runesL ((bytesL s).drop pos)
  own : w.ownsRow W.heap.size 21 1 v l.length (l.map fun (r : Nat) => Value.int .i32 (r : Int))
  low : Below W.heap.size W w
set_option maxRecDepth 100000 in
theorem GoingU.pos {W : World} {k : Nat} {s : ByteArray} {pos : Nat} {l : List Nat} {v : Value} {w : World} (h : GoingU W k s pos l v w) : w.iterPos k = pos := by unfold World.iterPos; rw [h.it]
set_option maxRecDepth 100000 in
theorem owns_not_iter {w : World} {B e n k : Nat} {v : Value} {xs : List Value} {s : ByteArray} {pos : Nat} (h : w.ownsRow B e 1 v n xs) (hk : w.heap[k]? = some (.stringIter s pos)) : v.ownBlock ≠ some k := by
  intro e1
  obtain ⟨c, fz, hc⟩ := Lib.ownsRow_kind h k e1
  rw [hk] at hc
  cases hc
set_option maxRecDepth 100000 in
/-- A rune more. -/
theorem GoingU.more {W : World} {k : Nat} {s : ByteArray} {pos : Nat} {l : List Nat} {v v' : Value} {w w2 : World} {o : Obj} (h : GoingU W k s pos l v w) (hp : pos < s.size)
    (ho : w2.ownsRow W.heap.size 21 1 v' (l.length + 1) (l.map (fun (r : Nat) => Value.int .i32 (r : Int)) ++ [.int .i32 (decAt s pos).1])) (hg : ((w.iterAt k s (pos + (decAt s pos).2)).alloc o).grownBy w2 v.ownBlock) :
    GoingU W k s (pos + (decAt s pos).2) (l ++ [(decAt s pos).1]) v' w2 := by
  have hd := decAt_le hp
  have hsz := lt_of_heap h.it
  have hl := h.low.size
  refine ⟨hd.2.1, ?_, h.kb, ?_, by simpa using ho, ?_⟩
  · rw [hg.block _ (by simp [iterAt_size]; omega) (fun e => owns_not_iter h.own h.it e.symm), heap_alloc_old _ _ (by rw [iterAt_size]; omega)]
    exact iterAt_heap _ _ _ _ _ h.it
  · rw [h.eq, runes_at hp]
    simp
  · exact ((below_iterAt h.low h.kb s _).alloc (by rw [iterAt_size]; omega) _).grown hg (by simp [iterAt_size]; omega) (fun j hj => (h.own.lt j hj).1)

set_option maxRecDepth 100000 in
set_option maxHeartbeats 2000000 in
theorem lands_runes (W : World) (s : ByteArray) (hs : s.size ≤ 1000000) :
    Calls Tryz.prog 19 #[.string s] W fun e w' => ∃ v, e = .returned v ∧ RunesIn w' W.heap.size v (runesOf s) ∧ Below W.heap.size W w' := by
  obtain ⟨i0, hi, hz0, hz1, hz2⟩ := info_parts info_i32
  have HI := Lib.hid (And.intro hi (And.intro hz0 (And.intro hz1 hz2)))
  have HL := Lib.hid (runesOf_many s).1
  have HC := Lib.hid (count_runes W s hs)
  clear hi hz0 hz1 hz2
  go_enter Tryz.func19, Tryz.ntmps19
  go_wp2_with fail
  refine HC.out.mono ?_
  rintro e w1 ⟨rfl, hb1⟩
  have hn1 : (runesOf s).length ≤ 1000000 := by have := HL.out; omega
  have HB1 := Lib.hid hb1
  clear hb1 HC
  go_wp2_with (at_make; refine wpList_make_own _ rfl _ _ 50 rfl W.heap.size 21 i0 (.int .i32 0) 1 Tryz.underlying50 HI.out.1 HI.out.2.1 HI.out.2.2.1 .i64 .i64 _ (runesOf s).length rfl rfl rfl ?mb2 ?mb3 HB1.out.size ?_)
  case mb2 => rw [HI.out.2.2.2]; omega
  case mb3 => unfold maxLen; omega
  intro w2 hown0 hgrow0
  have HO0 := Lib.hid hown0
  have HB2 := Lib.hid (HB1.out.grown hgrow0 HB1.out.size (fun k h => by cases h))
  clear hown0 hgrow0
  go_wp2_with fail
  go_loopw [3] (fun v wr => ∃ (pos : Nat) (l : List Nat), GoingU W w2.heap.size s pos l v wr) (fun _ wr => s.size - wr.iterPos w2.heap.size)
  case atStart => exact ⟨0, [], by omega, World.iter_heap _ _ _, HB2.out.size, by simp [runesOf], HO0.out.alloc _, HB2.out.alloc HB2.out.size _⟩
  case round =>
    obtain ⟨pos, l, hG⟩ := hrel
    have hps := hG.pos
    by_cases hlt : pos < s.size
    · have hnx : ∀ ty, (Instr.next (.pointer (some ⟨w2.heap.size, 0, none⟩)) true ty).run Tryz.prog wr = .ok (.tuple #[.bool true, .int .i64 pos, .int .i32 (decAt s pos).1]) (wr.iterAt w2.heap.size s (pos + (decAt s pos).2)) := fun ty => by rw [run_next_any_at wr _ s pos ty hG.it hlt, decode_eq]
      have HG := Lib.hid hG
      have hd := decAt_le hlt
      have hll : l.length ≤ 1000000 := by have := congrArg List.length hG.eq; simp at *; omega
      have HM := Lib.hid (fun (v' : Value) (w2 : World) (o : Obj) => hG.more (v' := v') (w2 := w2) (o := o) hlt)
      have HO := Lib.hid (ownsRow_iter hG.own hG.it (pos + (decAt s pos).2))
      have HSz := Lib.hid (show W.heap.size ≤ (wr.iterAt w2.heap.size s (pos + (decAt s pos).2)).heap.size by rw [iterAt_size]; exact hG.low.size)
      generalize hwi : wr.iterAt w2.heap.size s (pos + (decAt s pos).2) = wi at hnx HM HO HSz
      generalize hk : (decAt s pos).2 = k at HM hd
      generalize hr : (decAt s pos).1 = r at hnx HM
      clear hG hwi hk hr HO0 HB2 HB1 hn1
      go_wp2_with (at_builtin; refine wpList_append_own _ rfl (.tmp 14) (.tmp 16) 50 rfl W.heap.size 21 i0 _ 1 4 Tryz.underlying50 HI.out.1 HI.out.2.1 HI.out.2.2.1 HI.out.2.2.2 rfl (by decide) _ l.length (l.map fun (r : Nat) => Value.int .i32 (r : Int)) rfl (World.ownsRow.alloc HO.out _) ⟨_, 0, none⟩ 1 1 [.int .i32 r] rfl rfl one_cell (by simp [Value.oneCell']) (by unfold maxLen; omega) (by omega) (by have := HSz.out; simp; omega) ?_; intro v' w5 ho hg _; have HG5 := Lib.hid (HM.out _ _ _ ho hg); clear ho hg)
      go_roundw
      case rel => exact ⟨pos + k, l ++ [r], HG5.out⟩
      case measure => have := HG5.out.pos; omega
    · have hnx : ∀ ty, (Instr.next (.pointer (some ⟨w2.heap.size, 0, none⟩)) true ty).run Tryz.prog wr = .ok (.tuple #[.bool false]) wr := fun ty => run_next_end_at wr _ s pos ty hG.it hlt
      have hl : runesOf s = l := by
        have := hG.eq
        rw [List.drop_eq_nil_of_le (by rw [bytesL_length]; omega)] at this
        simpa [runesL_nil] using this
      have HG := Lib.hid hG
      have HE := Lib.hid hl
      clear hG hl HO0 HB2 HB1
      go_wp2_with fail
      go_ret
      exact ⟨_, rfl, by rw [HE.out]; exact HG.out.own, HG.out.low⟩

/-! ### Text -/
set_option maxRecDepth 100000 in
theorem textZ_text (l : List Int) : byteText (textB l) = textZ l := rfl
set_option maxRecDepth 100000 in
theorem fresh_builder (w : World) : IsBuilder 77 5 w.heap.size w.heap.size (cellsB (textB [])) (w.alloc (.cells #[.pointer none, .slice none 0 0] 77)) := Lib.fresh_isBuilder _ _ _

set_option maxRecDepth 100000 in
set_option maxHeartbeats 2000000 in
theorem lands_text (w : World) (oa : Option Addr) (c : Nat) (l : List Int) (hn : l.length ≤ 1000000) (hv : ReadI w oa l) (h32 : ∀ r ∈ l, -2147483648 ≤ r ∧ r ≤ 2147483647) :
    Calls Tryz.prog 59 #[.slice oa l.length c] w fun e w' => e = .returned (.string (textZ l)) ∧ Below w.heap.size w w' := by
  have HV := Lib.hid hv
  have H32 := Lib.hid h32
  clear hv h32
  go_enter Tryz.func59, Tryz.ntmps59
  go_wp2_with fail
  go_loopw [8] (fun iv wr => ∃ (i : Nat), i ≤ l.length ∧ iv = .int .i64 i ∧ IsBuilder 77 5 w.heap.size w.heap.size (cellsB (textB (l.take i))) wr ∧ Below w.heap.size w wr) (fun iv _ => l.length - (intOf iv).toNat)
  case atStart => exact ⟨0, by omega, rfl, fresh_builder w, below_one⟩
  case round =>
    obtain ⟨i, hi, rfl, hI, hb⟩ := hrel
    have HI := Lib.hid hI
    have HB := Lib.hid hb
    have hsz := hb.size
    clear hI hb
    by_cases hlt : i < l.length
    · obtain ⟨r, hr⟩ : ∃ r, l[i]? = some r := ⟨_, List.getElem?_eq_getElem hlt⟩
      obtain ⟨ad, rfl, hcell⟩ := (HV.out.below HB.out) i r hr
      have hr2 := H32.out r (List.mem_of_getElem? hr)
      have HT := Lib.hid (show textB (l.take (i + 1)) = textB (l.take i) ++ encR (normR r) by rw [List.take_add_one, hr]; exact textB_snoc _ _)
      have HW := Lib.hid (builder_rune w.heap.size w.heap.size (textB (l.take i)) r hr2.1 hr2.2 wr HI.out (by have := textB_le (l.take i); rw [List.length_take] at this; omega) hsz)
      clear hr hr2
      go_wp2_with fail
      refine HW.out.mono ?_
      rintro e w5 ⟨v5, rfl, h5, hb5, _⟩
      have HI5 := Lib.hid h5
      have HB5 := Lib.hid (HB.out.trans hb5)
      clear h5 hb5
      go_wp2_with fail
      go_roundw
      case rel => exact ⟨i + 1, by omega, by go_num, by rw [HT.out]; exact HI5.out, HB5.out⟩
      case measure => simp [intOf]; omega
    · have hi' : i = l.length := by omega
      subst hi'
      have HT := Lib.hid (builder_text w.heap.size w.heap.size (textB l) wr (by have := HI.out; rwa [List.take_length] at this) (textB_byte l) hsz)
      clear HI
      go_wp2_with fail
      refine HT.out.mono ?_
      rintro e w5 ⟨rfl, hb5⟩
      have HB5 := Lib.hid (HB.out.trans hb5)
      clear hb5
      go_wp2_with fail
      go_ret
      exact ⟨rfl, HB5.out⟩

/-! ### Fit -/
set_option maxRecDepth 100000 in
theorem ints_cons (r : Nat) (l : List Nat) : ints (r :: l) = (r : Int) :: ints l := rfl
set_option maxRecDepth 100000 in
theorem fitK_cons (r : Int) (l : List Int) (n : Int) : fitK (r :: l) n = if ((encR (normR r)).length : Int) ≤ n then fitK l (n - (encR (normR r)).length) + 1 else 0 := rfl
set_option maxRecDepth 100000 in
theorem ints_snoc (l : List Nat) (r : Nat) : ints (l ++ [r]) = ints l ++ [(r : Int)] := by simp [ints]
set_option maxRecDepth 100000 in
theorem decAt_ok (s : ByteArray) (i : Nat) : okR (decAt s i).1 := dec4_ok _ _ _ _
/-- Behind so many bytes. -/
structure Past (W : World) (k : Nat) (s : ByteArray) (n : Int) (pos : Nat) (l : List Nat) (w : World) : Prop where
  le : pos ≤ s.size
  it : w.heap[k]? = some (.stringIter s pos)
  kb : W.heap.size < k
  eq : runesOf s = l ++ runesL ((bytesL s).drop pos)
  fit : fitK (ints (runesOf s)) n = l.length + fitK (ints (runesL ((bytesL s).drop pos))) (n - (textB (ints l)).length)
  own : IsBuilder 77 5 W.heap.size W.heap.size (cellsB (textB (ints l))) w
  low : Below W.heap.size W w
set_option maxRecDepth 100000 in
theorem Past.pos {W : World} {k : Nat} {s : ByteArray} {n : Int} {pos : Nat} {l : List Nat} {w : World} (h : Past W k s n pos l w) : w.iterPos k = pos := by unfold World.iterPos; rw [h.it]
set_option maxRecDepth 100000 in
theorem Past.small {W : World} {k : Nat} {s : ByteArray} {n : Int} {pos : Nat} {l : List Nat} {w : World} (h : Past W k s n pos l w) (hs : s.size ≤ 1000000) : (textB (ints l)).length ≤ 4000000 := by
  have h1 := congrArg List.length h.eq
  have h2 := (runesOf_many s).1
  have h3 := textB_le (ints l)
  rw [List.length_append] at h1
  rw [ints_length] at h3
  omega
set_option maxRecDepth 100000 in
theorem Past.more {W : World} {k : Nat} {s : ByteArray} {n : Int} {pos : Nat} {l : List Nat} {w w2 : World} (h : Past W k s n pos l w) (hp : pos < s.size) (hf : ((textB (ints l)).length : Int) + ((encR (decAt s pos).1).length : Int) ≤ n)
    (hI : IsBuilder 77 5 W.heap.size W.heap.size (cellsB (textB (ints l) ++ encR (normR ((decAt s pos).1 : Int)))) w2) (hb : Below W.heap.size (w.iterAt k s (pos + (decAt s pos).2)) w2) (hk : OthersKept 5 (some W.heap.size) (w.iterAt k s (pos + (decAt s pos).2)) w2) :
    Past W k s n (pos + (decAt s pos).2) (l ++ [(decAt s pos).1]) w2 := by
  have hkb := h.kb
  refine ⟨(decAt_le hp).2.1, hk.iter (iterAt_heap _ _ _ _ _ h.it) (by omega), hkb, ?_, ?_, ?_, (below_iterAt h.low (by omega) s _).trans hb⟩
  · rw [h.eq, runes_at hp]
    simp
  · have hfit := h.fit
    rw [runes_at hp, ints_cons, fitK_cons, normR_self (decAt_ok s pos)] at hfit
    rw [if_pos (by omega)] at hfit
    rw [hfit, ints_snoc, textB_snoc, normR_self (decAt_ok s pos), List.length_append, List.length_append]
    have e : n - ((textB (ints l)).length : Int) - ((encR (decAt s pos).1).length : Int) = n - (((textB (ints l)).length + (encR (decAt s pos).1).length : Nat) : Int) := by omega
    rw [e]
    simp
    omega
  · rw [ints_snoc, textB_snoc]
    exact hI
set_option maxRecDepth 100000 in
/-- No more fits: then that was it. -/
theorem Past.stop {W : World} {k : Nat} {s : ByteArray} {n : Int} {pos : Nat} {l : List Nat} {w : World} (h : Past W k s n pos l w) (h0 : fitK (ints (runesL ((bytesL s).drop pos))) (n - (textB (ints l)).length) = 0) :
    textZ ((ints (runesOf s)).take (fitK (ints (runesOf s)) n)) = textZ (ints l) := by
  rw [h.fit, h0, Nat.add_zero, ints_take, h.eq, List.take_left]
set_option maxRecDepth 100000 in
theorem Past.full {W : World} {k : Nat} {s : ByteArray} {n : Int} {pos : Nat} {l : List Nat} {w : World} (h : Past W k s n pos l w) (hp : pos < s.size) (hf : ¬ ((textB (ints l)).length : Int) + ((encR (decAt s pos).1).length : Int) ≤ n) :
    textZ ((ints (runesOf s)).take (fitK (ints (runesOf s)) n)) = textZ (ints l) := by
  refine h.stop ?_
  rw [runes_at hp, ints_cons, fitK_cons, normR_self (decAt_ok s pos), if_neg (by omega)]
set_option maxRecDepth 100000 in
theorem Past.over {W : World} {k : Nat} {s : ByteArray} {n : Int} {pos : Nat} {l : List Nat} {w : World} (h : Past W k s n pos l w) (hp : ¬ pos < s.size) :
    textZ ((ints (runesOf s)).take (fitK (ints (runesOf s)) n)) = textZ (ints l) := by
  refine h.stop ?_
  rw [List.drop_eq_nil_of_le (by rw [bytesL_length]; omega)]
  rfl

set_option maxRecDepth 100000 in
set_option maxHeartbeats 2000000 in
theorem lands_fit (W : World) (s : ByteArray) (n : Int) (hs : s.size ≤ 1000000) (h1 : -9223372036854775808 ≤ n) (h2 : n ≤ 9223372036854775807) :
    Calls Tryz.prog 87 #[.string s, .int .i64 n] W fun e w' => e = .returned (.string (textZ ((ints (runesOf s)).take (fitK (ints (runesOf s)) n)))) ∧ Below W.heap.size W w' := by
  have HA := Lib.hid (fresh_builder W)
  go_enter Tryz.func87, Tryz.ntmps87
  go_wp2_with fail
  go_loopw [] (fun wr => ∃ (pos : Nat) (l : List Nat), Past W (W.heap.size + 1) s n pos l wr) (fun wr => s.size - wr.iterPos (W.heap.size + 1))
  case atStart =>
    refine ⟨0, [], by omega, ?_, by omega, by simp [runesOf], by simp [runesOf, ints, textB], builder_alloc HA.out _, below_one.alloc (by simp) _⟩
    have := World.iter_heap (W.alloc (.cells #[.pointer none, .slice none 0 0] 77)) s 0
    simpa using this
  case round =>
    obtain ⟨pos, l, hG⟩ := hrel
    have hps := hG.pos
    have HSz := Lib.hid (show W.heap.size ≤ wr.heap.size from hG.low.size)
    by_cases hlt : pos < s.size
    · have hnx : ∀ ty, (Instr.next (.pointer (some ⟨W.heap.size + 1, 0, none⟩)) true ty).run Tryz.prog wr = .ok (.tuple #[.bool true, .int .i64 pos, .int .i32 (decAt s pos).1]) (wr.iterAt (W.heap.size + 1) s (pos + (decAt s pos).2)) := fun ty => by rw [run_next_any_at wr _ s pos ty hG.it hlt, decode_eq]
      have hd := decAt_le hlt
      have hs1 := hG.small hs
      have hok := decAt_ok s pos
      have hr3 : (decAt s pos).1 ≤ 1114111 := by unfold okR at hok; omega
      have hs2 := enc_le (decAt s pos).1
      have HM := Lib.hid (fun hf (w2 : World) => hG.more (w2 := w2) hlt hf)
      have HF := Lib.hid (fun hf => hG.full hlt hf)
      have HB := Lib.hid (below_iterAt hG.low (show W.heap.size ≤ W.heap.size + 1 by omega) s (pos + (decAt s pos).2))
      have HI := Lib.hid (builder_iter hG.own hG.it (pos + (decAt s pos).2))
      generalize hwi : wr.iterAt (W.heap.size + 1) s (pos + (decAt s pos).2) = wi at hnx HM HB HI
      generalize hk : (decAt s pos).2 = k at HM hd
      generalize hr : (decAt s pos).1 = r at hnx HM HF hs2 hok hr3
      have HLn := Lib.hid (builder_length _ _ _ wi HI.out)
      have HRl := Lib.hid (rune_len wi r hok)
      have HTx := Lib.hid (builder_text _ _ _ wi HI.out (textB_byte (ints l)) HB.out.size)
      have HWr := Lib.hid (builder_rune _ _ _ (r : Int) (by omega) (by omega) wi HI.out (by omega) HB.out.size)
      clear hG hwi hk hr hok
      go_wp2_with fail
      refine HLn.out.mono ?_
      rintro e w5 ⟨rfl, rfl⟩
      go_wp2_with fail
      refine HRl.out.mono ?_
      rintro e w6 ⟨rfl, rfl⟩
      by_cases hgt : n < ((textB (ints l)).length : Int) + ((encR r).length : Int)
      · go_wp2_with fail
        refine HTx.out.mono ?_
        rintro e w7 ⟨rfl, hb7⟩
        have HB7 := Lib.hid (HB.out.trans hb7)
        clear hb7
        go_wp2_with fail
        go_ret
        exact ⟨by rw [HF.out (by omega)]; rfl, HB7.out⟩
      · go_wp2_with fail
        refine HWr.out.mono ?_
        rintro e w7 ⟨v7, rfl, h7, hb7, hk7⟩
        have HM2 := Lib.hid (HM.out (by omega) _ h7 hb7 hk7)
        clear h7 hb7 hk7
        go_wp2_with fail
        go_roundw
        case rel => exact ⟨pos + k, l ++ [r], HM2.out⟩
        case measure => have := HM2.out.pos; omega
    · have hnx : ∀ ty, (Instr.next (.pointer (some ⟨W.heap.size + 1, 0, none⟩)) true ty).run Tryz.prog wr = .ok (.tuple #[.bool false]) wr := fun ty => run_next_end_at wr _ s pos ty hG.it hlt
      have HG := Lib.hid hG
      have HE := Lib.hid (hG.over hlt)
      have HTx := Lib.hid (builder_text _ _ _ wr hG.own (textB_byte (ints l)) HSz.out)
      clear hG
      go_wp2_with fail
      refine HTx.out.mono ?_
      rintro e w7 ⟨rfl, hb7⟩
      have HB7 := Lib.hid (HG.out.low.trans hb7)
      clear hb7
      go_wp2_with fail
      go_ret
      exact ⟨by rw [HE.out]; rfl, HB7.out⟩

set_option maxRecDepth 100000 in
/-- A row of its own is what the laws' walks take. -/
theorem runes_given {w w' : World} {e : Ending} {l : List Nat} (h : ∃ v, e = .returned v ∧ RunesIn w' w.heap.size v l ∧ Below w.heap.size w w') :
    ∃ oa c, e = .returned (.slice oa (ints l).length c) ∧ (ints l).length ≤ c ∧ c ≤ maxLen ∧ ReadI w' oa (ints l) ∧ Below w.heap.size w w' ∧ (oa = none → c = 0) := by
  obtain ⟨v, rfl, hr, hb⟩ := h
  by_cases hn : v = .slice none 0 0
  · subst hn
    rcases hr.2 with ⟨_, h0⟩ | ⟨g, cap, cur, e, _⟩
    · have : l = [] := List.eq_nil_of_length_eq_zero h0
      subst this
      exact ⟨none, 0, rfl, by simp [ints], by simp [maxLen], fun j r hj => by simp [ints] at hj, hb, fun _ => rfl⟩
    · cases e
  · obtain ⟨g, cap, rfl, _, _, h1, h2, h3⟩ := runes_read hr hn
    exact ⟨_, cap, by rw [ints_length], by rw [ints_length]; exact h1, h2, h3, hb, fun e => by cases e⟩
set_option maxRecDepth 100000 in
theorem kept : Kept := ⟨fun w s hs => (lands_runes w s hs).mono fun _ _ h => runes_given h, fun w oa c l hn _ _ hv h32 => lands_text w oa c l hn hv h32, fun w s n hs h1 h2 => lands_fit w s n hs h1 h2⟩
end Go.Proofs.YthkpaelpnofbgaaGreatDoor
