/-
  A text's cells and its number, for texts as long as the statements' form reaches. Over the program's own text.
-/
import Derived.Test.YteliaammffmmiaaPackLandsA
namespace Go.Proofs.Yteliaammffmmiaa
open Go.RowKit

set_option maxRecDepth 100000 in
theorem wide_shift (w : World) (i k t : Nat) (hi : (i : Int) ≤ 140737488355327) (hk : i % 4 = k) (ht : k * 8 = t) : Calls Try.prog 45 #[.int .i64 (i : Int)] w fun e w' => e = .returned (.int .i64 (t : Int)) ∧ w' = w := by
  have r1 : (i : Int) % 4 = (k : Int) := by omega
  have r2 : (i : Int).tmod 4 = (k : Int) := by rw [Int.tmod_eq_emod_of_nonneg (by omega)]; exact r1
  have r3 : IntKind.i64.wrap (k : Int) = (k : Int) := IntWalk.i64_in _ (by omega)
  have r4 : IntKind.i64.wrap ((k : Int) * 8) = (t : Int) := by rw [IntWalk.i64_in _ (by omega)]; omega
  have HM := Lib.hid (show (k : Int) * 8 = (t : Int) by omega)
  clear hk ht
  go_enter Try.func45, Try.ntmps45
  go_wp2_with fail
  go_ret
  first
  | exact ⟨rfl, rfl⟩
  | exact ⟨by rw [HM.out], rfl⟩

theorem make_wide (k : Nat) (hk : (k : Int) ≤ 70368744177664) (w : World) : (Instr.makeSlice 50 (.int .i64 k) (.int .i64 k)).run Try.prog w = .ok (.slice (some ⟨w.heap.size, 0, none⟩) k k) (w.alloc (.cells (madeCells #[.int .u32 0] k) 52)) :=
  run_make_row' 50 52 (.int .u32 0) 4 Try.underlying50 info_u32 rfl .i64 .i64 k (by omega) (by omega) w
set_option maxRecDepth 100000 in
set_option maxHeartbeats 1000000 in
theorem wide_hash (w : World) (s : ByteArray) (hs : (s.size : Int) ≤ 140737488355327) : Calls Try.prog 46 #[.string s] w fun e w' => e = .returned (.int .u32 (hashN (bytesL s))) ∧ w' = w := by
  have HLt := Lib.hid (bytesL_lt s)
  have HLn := Lib.hid (bytesL_length s)
  go_enter Try.func46, Try.ntmps46
  go_wp2_with fail
  go_loopw [3, 7] (fun hv iv wr => ∃ i : Nat, i ≤ s.size ∧ iv = .int .i64 i ∧ hv = .int .u32 (hashN ((bytesL s).take i)) ∧ wr = w) (fun _ iv _ => s.size - (intOf iv).toNat)
  case atStart => exact ⟨0, by omega, rfl, rfl, rfl⟩
  case round =>
    obtain ⟨i, hi, rfl, rfl, rfl⟩ := hrel
    by_cases hlt : i < s.size
    · have hh := hash_lt ((bytesL s).take i)
      have hb : (s[i]'hlt).toNat < 256 := (s[i]'hlt).toNat_lt
      have HT := Lib.hid (show hashN ((bytesL s).take (i + 1)) = hashStep (hashN ((bytesL s).take i)) (s[i]'hlt).toNat by rw [bytes_take hlt, hash_snoc])
      generalize hashN ((bytesL s).take i) = h at hh HT
      have HW := Lib.hid (hash_walk32 h (s[i]'hlt).toNat hh hb)
      clear hb
      go_wp2_with fail
      refine ⟨⟨i + 1, by omega, by simp, ?_, trivial⟩, by simp [intOf]; omega⟩
      rw [HT.out]
      exact congrArg (Value.int IntKind.u32) HW.out
    · have hi' : s.size = i := by omega
      rw [show (bytesL s).take i = bytesL s from List.take_of_length_le (by rw [bytesL_length]; omega)]
      have hh := hash_lt (bytesL s)
      obtain ⟨h, hE⟩ : ∃ h, hashN (bytesL s) = h := ⟨_, rfl⟩
      have HE := Lib.hid hE
      rw [hE] at hh ⊢
      clear hi' hE
      go_wp2_with fail
      go_ret
      exact ⟨by rw [HE.out]; rfl, rfl⟩

set_option maxRecDepth 100000 in
set_option maxHeartbeats 2000000 in
theorem wide_cells (W : World) (s : ByteArray) (hs : (s.size : Int) ≤ 140737488355327) : Calls Try.prog 34 #[.string s] W fun e w' => ∃ v, e = .returned v ∧ OwnN 52 .u32 w' W.heap.size v (cellsN (bytesL s)) ∧ Below W.heap.size W w' := by
  obtain ⟨L, hL⟩ : ∃ L, L = bytesL s := ⟨_, rfl⟩
  have HLt := Lib.hid (show ∀ b ∈ L, b < 256 by rw [hL]; exact bytesL_lt s)
  have HLn := Lib.hid (show L.length = s.size by rw [hL]; exact bytesL_length s)
  have HIn := Lib.hid (show ∀ (i : Nat) (h : i < s.size), L.getD i 0 = (s[i]'h).toNat from fun i h => by rw [hL]; exact byte_at h)
  rw [← hL]
  clear hL
  obtain ⟨n, hn⟩ : ∃ n, n = (s.size + 3) / 4 := ⟨_, rfl⟩
  have hn0 : (n : Int) ≤ 70368744177664 := by omega
  have HN := Lib.hid hn
  have HC := Lib.hid (fun w => lands_count w (s.size : Int) n (by omega) (by omega) (by omega))
  have hmk := make_wide n hn0
  have HFin := Lib.hid (show ∀ (w : World) (F : Nat → Value), w.rowIs W.heap.size 52 n F → (∀ j : Nat, F j = .int .u32 (cellAt L j : Nat)) → OwnN 52 .u32 w W.heap.size (.slice (some ⟨W.heap.size, 0, none⟩) n n) (cellsN L) from fun w F h hF =>
    row_owns (k := .u32) W.heap.size (Nat.le_refl _) (by rw [cellsN_length, HLn.out, HN.out]) (by unfold maxLen; omega) h (fun j x hj => by
      rw [hF j]
      unfold cellsN cellsTo at hj
      rw [List.getElem?_map] at hj
      obtain ⟨y, hy, rfl⟩ := Option.map_eq_some_iff.1 hj
      have := List.getElem?_eq_some_iff.1 hy
      obtain ⟨h1, h2⟩ := this
      rw [List.getElem_range] at h2
      rw [h2]))
  clear hn
  go_enter Try.func34, Try.ntmps34
  go_wp2_with fail
  refine (HC.out _).mono ?_; rintro e w1 ⟨rfl, rfl⟩
  go_wp2_with fail
  have HRow := Lib.hid (show (w1.alloc (.cells (madeCells #[.int .u32 0] n) 52)).rowIs w1.heap.size 52 n (fun j => .int .u32 (cellAt (L.take 0) j : Nat)) from (World.rowIs_made w1 (.int .u32 0) n 52).congr fun j _ => by simp [cellAt])
  have HB := Lib.hid (show Below w1.heap.size w1 (w1.alloc (.cells (madeCells #[.int .u32 0] n) 52)) from below_one)
  generalize w1.alloc (.cells (madeCells #[.int .u32 0] n) 52) = w2 at HRow HB
  go_loopw [11] (fun iv wr => ∃ i : Nat, i ≤ s.size ∧ iv = .int .i64 i ∧ wr.rowIs w1.heap.size 52 n (fun j => .int .u32 (cellAt (L.take i) j : Nat)) ∧ Below w1.heap.size w1 wr) (fun iv _ => s.size - (intOf iv).toNat)
  case atStart => exact ⟨0, by omega, rfl, HRow.out, HB.out⟩
  case round =>
    obtain ⟨i, hi, rfl, hrow, hlow⟩ := hrel
    have HR := Lib.hid hrow
    have HL := Lib.hid hlow
    clear hrow hlow
    by_cases hlt : i < s.size
    · have hlt1 : (i : Int) < (s.size : Int) := by omega
      obtain ⟨k, hk⟩ : ∃ k, i % 4 = k := ⟨_, rfl⟩
      obtain ⟨j, hj⟩ : ∃ j, j = i / 4 := ⟨_, rfl⟩
      have hjn : j < n := by have := HN.out; omega
      have hjn1 : (j : Int) < (n : Int) := by omega
      obtain ⟨b, hb⟩ : ∃ b, b = (s[i]'hlt).toNat := ⟨_, rfl⟩
      have hb256 : b < 256 := by rw [hb]; exact (s[i]'hlt).toNat_lt
      have hst := cell_step HLt.out i k hk
      rw [← hj, HIn.out i hlt, ← hb] at hst
      have hcell := HR.out.cell hjn
      have hfr := HR.out.frozen j
      obtain ⟨c, hc⟩ : ∃ c, c = cellAt (L.take i) j := ⟨_, rfl⟩
      rw [← hc] at hst hcell
      obtain ⟨x, hx⟩ : ∃ x, b * 2 ^ (k * 8) = x := ⟨_, rfl⟩
      rw [hx] at hst
      obtain ⟨hs1, hs2, hs3⟩ := hst
      have HS := Lib.hid hs1
      have HJ := Lib.hid hj
      obtain ⟨m, hm⟩ : ∃ m, k * 8 = m := ⟨_, rfl⟩
      have hm24 : m ≤ 24 := by omega
      rw [hm] at hs2 hx
      have HSh := Lib.hid (fun w => wide_shift w i k m (by omega) hk hm)
      have hor := or_walk hs2 hm24 b hx.symm hs3
      have q1 : (i : Int) / 4 = (j : Int) := by omega
      have q2 : (i : Int).tdiv 4 = (j : Int) := by rw [Int.tdiv_eq_ediv_of_nonneg (by omega)]; exact q1
      have q3 : IntKind.i64.wrap (j : Int) = (j : Int) := IntWalk.i64_in _ (by omega)
      have b1 : IntKind.u32.wrap ((s[i]'hlt).toNat : Int) = (b : Int) := by rw [← hb]; exact IntWalk.u32_in _ (by omega)
      have HBb := Lib.hid hb
      have HOr := Lib.hid (show bits BinOp.or IntKind.u32 (c : Int) ((b : Int) * 2 ^ m % 4294967296) = ((c + x : Nat) : Int) by
        rw [show ((b : Int) * 2 ^ m) = (x : Int) by rw [← hx]; simp, show (x : Int) % 4294967296 = (x : Int) by omega]; exact hor)
      clear hor hs1 hs2 hs3 hx hk hj hc hb hm
      go_wp2_with fail
      refine wp_region_still_tail 14 (by kernel_rfl) (by kernel_rfl) ?_
      simp only [List.take_succ_cons, List.take_zero, List.drop_succ_cons, List.drop_zero]
      repeat still_step
      still_call (HSh.out _)
      repeat still_step
      refine wpStill_nil ?_
      change wpList _ _ _ _ _ (World.drew _)
      go_wp2_with fail
      go_roundw
      case rel =>
        refine ⟨i + 1, by omega, by go_num, ?_, (HL.out.setCell (by simp) _).drew⟩
        refine ((HR.out.drew).set j _).congr fun y hy => ?_
        by_cases hyj : y = j
        · rw [if_pos hyj, hyj, HS.out]; exact congrArg (Value.int IntKind.u32) HOr.out
        · rw [if_neg hyj, cell_other L i y (by rw [← HJ.out]; exact hyj)]
      case measure => simp [intOf]; omega
    · have hi' : s.size = i := by omega
      have hlt1 : ¬ (i : Int) < (s.size : Int) := by omega
      have HO := Lib.hid (HFin.out wr _ HR.out (fun j => by rw [List.take_of_length_le (by rw [HLn.out]; omega)]))
      clear hi'
      go_wp2_with fail
      go_ret
      exact ⟨_, rfl, HO.out, HL.out⟩

end Go.Proofs.Yteliaammffmmiaa
