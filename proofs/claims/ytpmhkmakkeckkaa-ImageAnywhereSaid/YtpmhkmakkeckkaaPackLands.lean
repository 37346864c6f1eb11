/-
  What the landed code's functions of layer 7 keep: a text's cells, the bytes of cells. Over the program's own text.
-/
import Derived.Test.YtpmhkmakkeckkaaPackLandsA
namespace Go.Proofs.Ytpmhkmakkeckkaa
open Go.RowKit

set_option maxRecDepth 100000 in
set_option maxHeartbeats 2000000 in
theorem lands_cells (W : World) (s : ByteArray) (hs : s.size ≤ 1000000) : Calls Try.prog 38 #[.string s] W fun e w' => ∃ v, e = .returned v ∧ OwnN 47 .u32 w' W.heap.size v (cellsN (bytesL s)) ∧ Below W.heap.size W w' := by
  obtain ⟨L, hL⟩ : ∃ L, L = bytesL s := ⟨_, rfl⟩
  have HLt := Lib.hid (show ∀ b ∈ L, b < 256 by rw [hL]; exact bytesL_lt s)
  have HLn := Lib.hid (show L.length = s.size by rw [hL]; exact bytesL_length s)
  have HIn := Lib.hid (show ∀ (i : Nat) (h : i < s.size), L.getD i 0 = (s[i]'h).toNat from fun i h => by rw [hL]; exact byte_at h)
  rw [← hL]
  clear hL
  obtain ⟨n, hn⟩ : ∃ n, n = (s.size + 3) / 4 := ⟨_, rfl⟩
  have hn0 : n ≤ 1000000 := by omega
  have HN := Lib.hid hn
  have HC := Lib.hid (fun w => lands_count w (s.size : Int) n (by omega) (by omega) (by omega))
  have hmk := make_cells n hn0
  have HFin := Lib.hid (show ∀ (w : World) (F : Nat → Value), w.rowIs W.heap.size 47 n F → (∀ j : Nat, F j = .int .u32 (cellAt L j : Nat)) → OwnN 47 .u32 w W.heap.size (.slice (some ⟨W.heap.size, 0, none⟩) n n) (cellsN L) from fun w F h hF =>
    row_owns (k := .u32) W.heap.size (Nat.le_refl _) (by rw [cellsN_length, HLn.out, HN.out]) (by unfold maxLen; omega) h (fun j x hj => by
      rw [hF j]
      unfold cellsN cellsTo at hj
      rw [List.getElem?_map] at hj
      obtain ⟨y, hy, rfl⟩ := Option.map_eq_some_iff.1 hj
      have := List.getElem?_eq_some_iff.1 hy
      obtain ⟨h1, h2⟩ := this
      rw [List.getElem_range] at h2
      rw [h2]))
  clear hn
  go_enter Try.func38, Try.ntmps38
  go_wp2_with fail
  refine (HC.out _).mono ?_; rintro e w1 ⟨rfl, rfl⟩
  go_wp2_with fail
  have HRow := Lib.hid (show (w1.alloc (.cells (madeCells #[.int .u32 0] n) 47)).rowIs w1.heap.size 47 n (fun j => .int .u32 (cellAt (L.take 0) j : Nat)) from (World.rowIs_made w1 (.int .u32 0) n 47).congr fun j _ => by simp [cellAt])
  have HB := Lib.hid (show Below w1.heap.size w1 (w1.alloc (.cells (madeCells #[.int .u32 0] n) 47)) from below_one)
  generalize w1.alloc (.cells (madeCells #[.int .u32 0] n) 47) = w2 at HRow HB
  go_loopw [11] (fun iv wr => ∃ i : Nat, i ≤ s.size ∧ iv = .int .i64 i ∧ wr.rowIs w1.heap.size 47 n (fun j => .int .u32 (cellAt (L.take i) j : Nat)) ∧ Below w1.heap.size w1 wr) (fun iv _ => s.size - (intOf iv).toNat)
  case atStart => exact ⟨0, by omega, rfl, HRow.out, HB.out⟩
  case round =>
    obtain ⟨i, hi, rfl, hrow, hlow⟩ := hrel
    have HR := Lib.hid hrow
    have HL := Lib.hid hlow
    clear hrow hlow
    by_cases hlt : i < s.size
    · have hlt1 : (i : Int) < (s.size : Int) := by omega
      obtain ⟨k, hk⟩ : ∃ k, i % 4 = k := ⟨_, rfl⟩
      obtain ⟨j, hj⟩ : ∃ j, j = i / 4 := ⟨_, rfl⟩
      have hjn : j < n := by have := HN.out; omega
      have hjn1 : (j : Int) < (n : Int) := by omega
      obtain ⟨b, hb⟩ : ∃ b, b = (s[i]'hlt).toNat := ⟨_, rfl⟩
      have hb256 : b < 256 := by rw [hb]; exact (s[i]'hlt).toNat_lt
      have hst := cell_step HLt.out i k hk
      rw [← hj, HIn.out i hlt, ← hb] at hst
      have hcell := HR.out.cell hjn
      have hfr := HR.out.frozen j
      obtain ⟨c, hc⟩ : ∃ c, c = cellAt (L.take i) j := ⟨_, rfl⟩
      rw [← hc] at hst hcell
      obtain ⟨x, hx⟩ : ∃ x, b * 2 ^ (k * 8) = x := ⟨_, rfl⟩
      rw [hx] at hst
      obtain ⟨hs1, hs2, hs3⟩ := hst
      have HS := Lib.hid hs1
      have HJ := Lib.hid hj
      obtain ⟨m, hm⟩ : ∃ m, k * 8 = m := ⟨_, rfl⟩
      have hm24 : m ≤ 24 := by omega
      rw [hm] at hs2 hx
      have HSh := Lib.hid (fun w => lands_shift w i k m (by omega) hk hm)
      have hor := or_walk hs2 hm24 b hx.symm hs3
      have q1 : (i : Int) / 4 = (j : Int) := by omega
      have q2 : (i : Int).tdiv 4 = (j : Int) := by rw [Int.tdiv_eq_ediv_of_nonneg (by omega)]; exact q1
      have q3 : IntKind.i64.wrap (j : Int) = (j : Int) := IntWalk.i64_in _ (by omega)
      have b1 : IntKind.u32.wrap ((s[i]'hlt).toNat : Int) = (b : Int) := by rw [← hb]; exact IntWalk.u32_in _ (by omega)
      have HBb := Lib.hid hb
      have HOr := Lib.hid (show bits BinOp.or IntKind.u32 (c : Int) ((b : Int) * 2 ^ m % 4294967296) = ((c + x : Nat) : Int) by
        rw [show ((b : Int) * 2 ^ m) = (x : Int) by rw [← hx]; simp, show (x : Int) % 4294967296 = (x : Int) by omega]; exact hor)
      clear hor hs1 hs2 hs3 hx hk hj hc hb hm
      go_wp2_with fail
      refine wp_region_still_tail 14 (by kernel_rfl) (by kernel_rfl) ?_
      simp only [List.take_succ_cons, List.take_zero, List.drop_succ_cons, List.drop_zero]
      repeat still_step
      still_call (HSh.out _)
      repeat still_step
      refine wpStill_nil ?_
      change wpList _ _ _ _ _ (World.drew _)
      go_wp2_with fail
      go_roundw
      case rel =>
        refine ⟨i + 1, by omega, by go_num, ?_, (HL.out.setCell (by simp) _).drew⟩
        refine ((HR.out.drew).set j _).congr fun y hy => ?_
        by_cases hyj : y = j
        · rw [if_pos hyj, hyj, HS.out]; exact congrArg (Value.int IntKind.u32) HOr.out
        · rw [if_neg hyj, cell_other L i y (by rw [← HJ.out]; exact hyj)]
      case measure => simp [intOf]; omega
    · have hi' : s.size = i := by omega
      have hlt1 : ¬ (i : Int) < (s.size : Int) := by omega
      have HO := Lib.hid (HFin.out wr _ HR.out (fun j => by rw [List.take_of_length_le (by rw [HLn.out]; omega)]))
      clear hi'
      go_wp2_with fail
      go_ret
      exact ⟨_, rfl, HO.out, HL.out⟩

def fillB (B : List Nat) (i j : Nat) : Value := .int .u8 ((if j < i then B.getD j 0 else 0 : Nat) : Int)

set_option maxRecDepth 100000 in
set_option maxHeartbeats 2000000 in
theorem lands_bytes (W : World) (oa : Option Addr) (c N : Nat) (L : List Nat) (n : Int) (en : L.length = N) (ha : ReadN .u32 W oa L) (_hc : N ≤ c) (_hcm : c ≤ maxLen) (hl : N ≤ 1000000) (hx : ∀ x ∈ L, x < 4294967296) (h0 : -9223372036854775808 ≤ n) (h1 : n ≤ 9223372036854775807) :
    Calls Try.prog 57 #[.slice oa N c, .int .i64 n] W fun e w' => e = .returned (.tuple #[.string (bytesX L n), .int .i64 (bytesE L n)]) ∧ Below W.heap.size W w' := by
  by_cases hn : n < 0
  · have e1 : bytesE L n = 1 := by unfold bytesE; rw [if_pos hn]
    have e2 : bytesX L n = byteText [] := by unfold bytesX; rw [e1]; rfl
    rw [e1, e2]
    clear e1 e2 ha hx
    go_enter Try.func57, Try.ntmps57
    go_wp2_with fail
    go_ret2
    exact ⟨rfl, Below.refl _ _⟩
  obtain ⟨q, hq⟩ : ∃ q : Nat, (q : Int) = (n + 3) / 4 := ⟨((n + 3) / 4).toNat, by omega⟩
  have HC := Lib.hid (fun w => lands_count w n q (by omega) h1 hq)
  by_cases hbig : (4 * (N : Int)) < n
  · have e1 : bytesE L n = 12 := by unfold bytesE; rw [if_neg (by omega), en, if_pos hbig]
    have e2 : bytesX L n = byteText [] := by unfold bytesX; rw [e1]; rfl
    rw [e1, e2]
    have hqN : (N : Int) < (q : Int) := by omega
    clear e1 e2 ha hx hq
    go_enter Try.func57, Try.ntmps57
    go_wp2_with fail
    refine (HC.out _).mono ?_; rintro e w1 ⟨rfl, rfl⟩
    go_wp2_with fail
    go_ret2
    exact ⟨rfl, Below.refl _ _⟩
  have e1 : bytesE L n = 0 := by unfold bytesE; rw [if_neg (by omega), en, if_neg hbig]
  obtain ⟨M, rfl⟩ := Int.eq_ofNat_of_zero_le (by omega : 0 ≤ n)
  have e2 : bytesX L (M : Int) = byteText ((bytesC L).take M) := by unfold bytesX; rw [e1]; rfl
  rw [e1, e2]
  have hqN : ¬ (N : Int) < (q : Int) := by omega
  have hqd : decide (N < q) = false := decide_eq_false (by omega)
  have hM : M ≤ 4000000 := by omega
  have HMN := Lib.hid (show M ≤ 4 * N by omega)
  have hmk := make_bytes M hM
  have HA := Lib.hid ha
  have HX := Lib.hid hx
  have HEn := Lib.hid en
  have HFin := Lib.hid (show ∀ (w : World), w.rowIs W.heap.size 5 M (fillB (bytesC L) M) → (convert 46 9 (.slice (some ⟨W.heap.size, 0, none⟩) M M)).run Try.prog w = .ok (.string (byteText ((bytesC L).take M))) w from fun w h =>
    bytes_string (w := w) (base := W.heap.size) (row_owns (k := .u8) W.heap.size (Nat.le_refl _) (by rw [List.length_take, bytesC_length]; omega) (by unfold maxLen; omega) h (fun j x hj => by
      have hjl := (List.getElem?_eq_some_iff.1 hj).1
      rw [List.length_take] at hjl
      rw [List.getElem?_take, if_pos (by omega)] at hj
      unfold fillB
      rw [if_pos (by omega), List.getD_eq_getElem?_getD, hj]
      rfl)) (fun b hb => bytesC_lt L b (List.mem_of_mem_take hb)))
  clear e1 e2 ha hx hq en
  go_enter Try.func57, Try.ntmps57
  go_wp2_with fail
  refine (HC.out _).mono ?_; rintro e w1 ⟨rfl, rfl⟩
  go_wp2_with fail
  have HRow := Lib.hid (show (w1.alloc (.cells (madeCells #[.int .u8 0] M) 5)).rowIs w1.heap.size 5 M (fillB (bytesC L) 0) from (World.rowIs_made w1 (.int .u8 0) M 5).congr fun j _ => rfl)
  have HB := Lib.hid (show Below w1.heap.size w1 (w1.alloc (.cells (madeCells #[.int .u8 0] M) 5)) from below_one)
  generalize w1.alloc (.cells (madeCells #[.int .u8 0] M) 5) = w2 at HRow HB
  go_loopw [19] (fun iv wr => ∃ i : Nat, i ≤ M ∧ iv = .int .i64 i ∧ wr.rowIs w1.heap.size 5 M (fillB (bytesC L) i) ∧ Below w1.heap.size w1 wr) (fun iv _ => M - (intOf iv).toNat)
  case atStart => exact ⟨0, by omega, rfl, HRow.out, HB.out⟩
  case round =>
    obtain ⟨i, hi, rfl, hrow, hlow⟩ := hrel
    have HR := Lib.hid hrow
    have HL := Lib.hid hlow
    clear hrow hlow
    by_cases hlt : i < M
    · have hlt1 : (i : Int) < (M : Int) := by omega
      obtain ⟨k, hk⟩ : ∃ k, i % 4 = k := ⟨_, rfl⟩
      obtain ⟨j, hj⟩ : ∃ j, j = i / 4 := ⟨_, rfl⟩
      have hjn : j < N := by have := HMN.out; omega
      have hjn1 : (j : Int) < (N : Int) := by omega
      obtain ⟨x, hx⟩ : ∃ x, L[j]? = some x := ⟨_, List.getElem?_eq_getElem (by have := HEn.out; omega)⟩
      obtain ⟨g, o, rfl, hcell⟩ := HA.out.below HL.out j x hx
      have hx2 := HX.out x (List.mem_of_getElem? hx)
      have hfr := HR.out.frozen i
      have hc2 := HR.out.cell hlt
      unfold fillB at hc2
      rw [if_neg (by omega)] at hc2
      obtain ⟨m, hm⟩ : ∃ m, k * 8 = m := ⟨_, rfl⟩
      have hm24 : m ≤ 24 := by omega
      have HSh := Lib.hid (fun w => lands_shift w i k m (by omega) hk hm)
      obtain ⟨y, hy⟩ : ∃ y, x / 2 ^ m = y := ⟨_, rfl⟩
      have hy2 : y < 4294967296 := by rw [← hy]; exact Nat.lt_of_le_of_lt (Nat.div_le_self _ _) hx2
      have hbyte : (bytesC L).getD i 0 = y % 256 := by
        have h := bytesC_get L j k x hx (by omega)
        rw [show 4 * j + k = i by omega, byte_part x k (by omega), hm, hy] at h
        rw [List.getD_eq_getElem?_getD, h]
        rfl
      have HBy := Lib.hid hbyte
      have hyx : (x : Int) / 2 ^ m = (y : Int) := by rw [← hy]; simp
      have HYX := Lib.hid hyx
      have q1 : (i : Int) / 4 = (j : Int) := by omega
      have q2 : (i : Int).tdiv 4 = (j : Int) := by rw [Int.tdiv_eq_ediv_of_nonneg (by omega)]; exact q1
      have q3 : IntKind.i64.wrap (j : Int) = (j : Int) := IntWalk.i64_in _ (by omega)
      clear hx hk hj hm hy hbyte hx2
      go_wp2_with fail
      refine wp_region_still_tail 12 (by kernel_rfl) (by kernel_rfl) ?_
      simp only [List.take_succ_cons, List.take_zero, List.drop_succ_cons, List.drop_zero]
      repeat still_step
      still_call (HSh.out _)
      repeat still_step
      refine wpStill_nil ?_
      change wpList _ _ _ _ _ (World.drew _)
      go_wp2_with fail
      go_roundw
      case rel =>
        refine ⟨i + 1, by omega, by go_num, ?_, (HL.out.setCell (by simp) _).drew⟩
        refine ((HR.out.drew).set i _).congr fun z hz => ?_
        unfold fillB
        by_cases hzi : z = i
        · rw [if_pos hzi, if_pos (by omega), hzi, HBy.out]
          refine congrArg (Value.int IntKind.u8) ?_
          omega
        · rw [if_neg hzi]
          by_cases hz2 : z < i
          · rw [if_pos hz2, if_pos (by omega)]
          · rw [if_neg hz2, if_neg (by omega)]
      case measure => simp [intOf]; omega
    · have hi' : M = i := by omega
      have hlt1 : ¬ (i : Int) < (M : Int) := by omega
      have hfin := HFin.out wr (by have := HR.out; rwa [← hi'] at this)
      clear hi'
      go_wp2_with fail
      go_ret2
      exact ⟨rfl, HL.out⟩

end Go.Proofs.Ytpmhkmakkeckkaa
