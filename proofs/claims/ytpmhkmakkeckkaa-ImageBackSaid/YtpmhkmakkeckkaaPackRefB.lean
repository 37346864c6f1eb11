/-
  The reference of layer 7: a text's cells, the bytes of cells. Over the program's own text.
-/
import Derived.Test.YtpmhkmakkeckkaaPackRef
import Derived.Test.YtpmhkmakkeckkaaSame32
namespace Go.Proofs.Ytpmhkmakkeckkaa
open Go.RowKit

set_option maxRecDepth 100000 in
theorem byte_at {s : ByteArray} {i : Nat} (h : i < s.size) : (bytesL s).getD i 0 = (s[i]'h).toNat := by
  have hl : i < (bytesL s).length := by rw [bytesL_length]; exact h
  rw [List.getD_eq_getElem?_getD, List.getElem?_eq_getElem hl]
  simp [bytesL]
  rfl
set_option maxRecDepth 100000 in
theorem byte_out {s : ByteArray} {i : Nat} (h : ¬ i < s.size) : (bytesL s).getD i 0 = 0 := by
  rw [List.getD_eq_getElem?_getD, List.getElem?_eq_none (by rw [bytesL_length]; omega)]
  rfl

set_option maxRecDepth 100000 in
set_option maxHeartbeats 2000000 in
theorem ref_cells (W : World) (s : ByteArray) (hs : s.size ≤ 1000000) : Calls Try.prog 40 #[.string s] W fun e w' => ∃ v, e = .returned v ∧ OwnN 47 .u32 w' W.heap.size v (cellsN (bytesL s)) ∧ Below W.heap.size W w' := by
  obtain ⟨i0, hi, hz0, hz1, hz2⟩ := info_parts info_u32
  have HI := Lib.hid (And.intro hi (And.intro hz0 (And.intro hz1 hz2)))
  clear hi hz0 hz1 hz2
  obtain ⟨L, hL⟩ : ∃ L, L = bytesL s := ⟨_, rfl⟩
  have HLt := Lib.hid (show ∀ b ∈ L, b < 256 by rw [hL]; exact bytesL_lt s)
  have HLn := Lib.hid (show L.length = s.size by rw [hL]; exact bytesL_length s)
  have HIn := Lib.hid (show ∀ (i : Nat) (h : i < s.size), L.getD i 0 = (s[i]'h).toNat from fun i h => by rw [hL]; exact byte_at h)
  have HOut := Lib.hid (show ∀ (i : Nat), ¬ i < s.size → L.getD i 0 = 0 from fun i h => by rw [hL]; exact byte_out h)
  rw [← hL]
  clear hL
  go_enter Try.func40, Try.ntmps40
  go_wp2_with fail
  go_loopw [3, 4] (fun v iv wr => ∃ j b : Nat, Hid (b = 4 * j ∧ b ≤ s.size + 3) ∧ iv = .int .i64 (b : Int) ∧ OwnN 47 .u32 wr W.heap.size v (cellsTo L j) ∧ Below W.heap.size W wr) (fun _ iv _ => s.size + 4 - (intOf iv).toNat)
  case atStart => exact ⟨0, 0, Lib.hid ⟨rfl, by omega⟩, rfl, OwnN.new _ _ W _ (Nat.le_refl _), below_one⟩
  case round =>
    obtain ⟨j, b, HBJ, rfl, hown, hlow⟩ := hrel
    have HO := Lib.hid hown
    have HW := Lib.hid hlow
    clear hown hlow
    by_cases hlt : b < s.size
    · have hlt1 : (b : Int) < (s.size : Int) := by omega
      go_wp2_with fail
      go_loopw [5, 6] (fun nv kv wq => ∃ t : Nat, t ≤ 4 ∧ kv = .int .i64 ((t : Int) - 1) ∧ nv = .int .u32 (hornD L b (4 - t) : Nat) ∧ wq = wr) (fun _ kv _ => (intOf kv + 1).toNat)
      case atStart => exact ⟨4, by omega, rfl, rfl, rfl⟩
      case round =>
        obtain ⟨t, ht, rfl, rfl, hw⟩ := hrel
        have hw' := hw.symm
        subst hw'
        rcases t with _ | t
        · have hh := hornD_four L j
          rw [← HBJ.out.1] at hh
          obtain ⟨cv, hcv⟩ : ∃ cv, cv = hornD L b 4 := ⟨_, rfl⟩
          have HT := Lib.hid (show cellsTo L (j + 1) = cellsTo L j ++ [cv] by rw [cellsTo_snoc, hcv, hh])
          have HLen := Lib.hid (cellsTo_length L j)
          rw [← hcv]
          have e0 : (((0 : Nat) : Int) - 1) = -1 := by omega
          rw [e0]
          clear hh hcv e0
          go_wp2_with (at_builtin; refine wpList_append_own _ rfl (.tmp 34) (.tmp 36) 26 rfl W.heap.size 47 i0 _ 1 4 Try.underlying26 HI.out.1 HI.out.2.1 HI.out.2.2.1 HI.out.2.2.2 rfl (by decide) _ (cellsTo L j).length (numC .u32 (cellsTo L j)) rfl (World.ownsRow.alloc HO.out _) ⟨_, 0, none⟩ 1 1 [.int .u32 cv] rfl rfl one_cell (by simp [Value.oneCell']) (by have := HLen.out; have := HBJ.out; unfold maxLen; omega) (by have := HLen.out; have := HBJ.out; omega) (by have := HW.out.size; simp; omega) ?_; intro v' w5 ho hg _; have HO5 := Lib.hid (OwnN.more (m := [cv]) HW.out HO.out ho hg); clear ho hg)
          go_roundw
          case rel =>
            refine ⟨j + 1, b + 4, Lib.hid ⟨by have := HBJ.out; omega, by omega⟩, by go_num, ?_, HO5.out.2⟩
            rw [HT.out]; exact HO5.out.1
          case measure => simp [intOf]; omega
        · have e0 : (((t + 1 : Nat) : Int) - 1) = (t : Int) := by omega
          rw [e0]
          have hm := hornD_bound HLt.out b (4 - (t + 1)) (by omega)
          have hstep : hornD L b (4 - t) = 256 * hornD L b (4 - (t + 1)) + L.getD (b + t) 0 := by
            have e1 : 4 - t = (4 - (t + 1)) + 1 := by omega
            rw [e1]
            show 256 * hornD L b (4 - (t + 1)) + L.getD (b + (3 - (4 - (t + 1)))) 0 = _
            have e2 : 3 - (4 - (t + 1)) = t := by omega
            rw [e2]
          obtain ⟨p, hp⟩ : ∃ p, p = b + t := ⟨_, rfl⟩
          rw [← hp] at hstep
          have hs1 : (b : Int) + (t : Int) = (p : Int) := by omega
          have hs2 : IntKind.i64.wrap ((b : Int) + (t : Int)) = (p : Int) := by rw [hs1]; exact IntWalk.i64_in _ (by omega)
          have ht4 : t ≤ 3 := by omega
          generalize hornD L b (4 - (t + 1)) = h at hm hstep
          obtain ⟨h2, hh2⟩ : ∃ h2, h2 = 256 * h := ⟨_, rfl⟩
          have hw1 : IntKind.u32.wrap ((h : Int) * 256) = (h2 : Int) := by rw [IntWalk.u32_in _ (by omega)]; omega
          have HST := Lib.hid hstep
          have HH2 := Lib.hid hh2
          have hb2 : h2 ≤ 4294967040 := by omega
          have HP := Lib.hid hp
          clear hstep hh2 hm e0 hp
          by_cases hin : p < s.size
          · have hin1 : (p : Int) < (s.size : Int) := by omega
            have hb := (s[p]'hin).toNat_lt
            obtain ⟨h3, hh3⟩ : ∃ h3, h3 = h2 + (s[p]'hin).toNat := ⟨_, rfl⟩
            have hw2 : IntKind.u32.wrap ((s[p]'hin).toNat : Int) = ((s[p]'hin).toNat : Int) := IntWalk.u32_in _ (by omega)
            have hw3 : IntKind.u32.wrap ((h2 : Int) + ((s[p]'hin).toNat : Int)) = (h3 : Int) := by rw [IntWalk.u32_in _ (by omega)]; omega
            have HH3 := Lib.hid hh3
            clear hb hh3
            go_wp2_with fail
            go_roundw
            case rel => exact ⟨t, by omega, by go_num, by rw [HST.out, HH3.out, HH2.out, HIn.out p hin], trivial⟩
            case measure => simp [intOf]
          · have hin1 : ¬ (p : Int) < (s.size : Int) := by omega
            go_wp2_with fail
            go_roundw
            case rel => exact ⟨t, by omega, by go_num, by rw [HST.out, HH2.out, HOut.out p hin]; rfl, trivial⟩
            case measure => simp [intOf]
    · have hj : cellsTo L j = cellsN L := by
        unfold cellsN
        have := HBJ.out
        have := HLn.out
        rw [show (L.length + 3) / 4 = j by omega]
      have hlt1 : ¬ (b : Int) < (s.size : Int) := by omega
      rw [hj] at HO
      go_wp2_with fail
      go_ret
      exact ⟨_, rfl, HO.out, HW.out⟩

set_option maxRecDepth 100000 in
set_option maxHeartbeats 2000000 in
theorem ref_bytes (W : World) (oa : Option Addr) (c N : Nat) (L : List Nat) (n : Int) (en : L.length = N) (ha : ReadN .u32 W oa L) (hl : N ≤ 1000000) (hx : ∀ x ∈ L, x < 4294967296) (h0 : -9223372036854775808 ≤ n) (h1 : n ≤ 9223372036854775807) :
    Calls Try.prog 44 #[.slice oa N c, .int .i64 n] W fun e w' => e = .returned (.tuple #[.string (bytesX L n), .int .i64 (bytesE L n)]) ∧ Below W.heap.size W w' := by
  by_cases hn : n < 0
  · have e1 : bytesE L n = 1 := by unfold bytesE; rw [if_pos hn]
    have e2 : bytesX L n = byteText [] := by unfold bytesX; rw [e1]; rfl
    rw [e1, e2]
    clear e1 e2 ha hx
    go_enter Try.func44, Try.ntmps44
    go_wp2_with fail
    go_ret2
    exact ⟨rfl, Below.refl _ _⟩
  obtain ⟨i0, hi, hz0, hz1, hz2⟩ := info_parts info_u8
  have HI := Lib.hid (And.intro hi (And.intro hz0 (And.intro hz1 hz2)))
  clear hi hz0 hz1 hz2
  have HA := Lib.hid ha
  have HX := Lib.hid hx
  have HEn := Lib.hid en
  clear ha hx en
  go_enter Try.func44, Try.ntmps44
  go_wp2_with fail
  go_loopw [6, 15] (fun v iv wr => ∃ i : Nat, i ≤ N ∧ iv = .int .i64 (i : Int) ∧ v ≠ .slice none 0 0 ∧ OwnN 5 .u8 wr W.heap.size v (bytesC (L.take i)) ∧ Below W.heap.size W wr) (fun _ iv _ => N - (intOf iv).toNat)
  case atStart => exact ⟨0, by omega, rfl, by simp, OwnN.new _ _ W _ (Nat.le_refl _), below_one⟩
  case round =>
    obtain ⟨i, hi, rfl, hnn, hown, hlow⟩ := hrel
    have HNN := Lib.hid hnn
    have HO := Lib.hid hown
    have HW := Lib.hid hlow
    clear hnn hown hlow
    by_cases hlt : i < N
    · obtain ⟨x, hx⟩ : ∃ x, L[i]? = some x := ⟨_, List.getElem?_eq_getElem (by have := HEn.out; omega)⟩
      obtain ⟨g, o, rfl, hcell⟩ := HA.out.below HW.out i x hx
      have hlt1 : (i : Int) < (N : Int) := by omega
      have hx2 := HX.out x (List.mem_of_getElem? hx)
      have HT := Lib.hid (show bytesC (L.take (i + 1)) = bytesC (L.take i) ++ fourB x by rw [List.take_add_one, hx]; exact bytesC_snoc _ _)
      have HLen := Lib.hid (show (bytesC (L.take i)).length ≤ 4000000 by rw [bytesC_length, List.length_take]; omega)
      clear hx
      go_wp2_with fail
      go_loopw [6, 8, 9] (fun v yv kv wq => ∃ k : Nat, k ≤ 4 ∧ kv = .int .i64 (k : Int) ∧ yv = .int .u32 (partB x k : Nat) ∧ v ≠ .slice none 0 0 ∧ OwnN 5 .u8 wq W.heap.size v (bytesC (L.take i) ++ (fourB x).take k) ∧ Below W.heap.size W wq) (fun _ _ kv _ => 4 - (intOf kv).toNat)
      case atStart => exact ⟨0, by omega, rfl, rfl, HNN.out, by rw [List.take_zero, List.append_nil]; exact HO.out, HW.out⟩
      case round =>
        obtain ⟨k, hk, rfl, rfl, hnn, hown, hlow⟩ := hrel
        have HNN := Lib.hid hnn
        have HO := Lib.hid hown
        have HW := Lib.hid hlow
        clear hnn hown hlow
        by_cases hk4 : k < 4
        · have hk1 : (k : Int) < 4 := by omega
          have hple := partB_le x k
          have HF := Lib.hid (show bytesC (L.take i) ++ (fourB x).take (k + 1) = (bytesC (L.take i) ++ (fourB x).take k) ++ [partB x k % 256] by rw [fourB_take x k hk4, List.append_assoc])
          have HQ := Lib.hid (show partB x (k + 1) = partB x k / 256 from rfl)
          have HLn := Lib.hid (show (bytesC (L.take i) ++ (fourB x).take k).length ≤ 4000004 by rw [List.length_append, List.length_take]; have := HLen.out; have : (fourB x).length = 4 := rfl; omega)
          generalize bytesC (L.take i) ++ (fourB x).take k = M at HF HLn HO
          generalize partB x k = y at hple HF HQ
          obtain ⟨r, hr⟩ : ∃ r, r = y % 256 := ⟨_, rfl⟩
          obtain ⟨q, hq⟩ : ∃ q, q = y / 256 := ⟨_, rfl⟩
          rw [← hr] at HF
          rw [← hq] at HQ
          have hy0 : (0 : Int) ≤ (y : Int) := by omega
          have hr1 : (y : Int) % 256 = (r : Int) := by omega
          have hq1 : (y : Int) / 256 = (q : Int) := by omega
          have hr2 : (y : Int).tmod 256 = (r : Int) := by rw [Int.tmod_eq_emod_of_nonneg hy0]; exact hr1
          have hq2 : (y : Int).tdiv 256 = (q : Int) := by rw [Int.tdiv_eq_ediv_of_nonneg hy0]; exact hq1
          have hr3 : IntKind.u8.wrap (r : Int) = (r : Int) := IntWalk.u8_in _ (by omega)
          have hr4 : IntKind.u32.wrap (r : Int) = (r : Int) := IntWalk.u32_in _ (by omega)
          have hq4 : IntKind.u32.wrap (q : Int) = (q : Int) := IntWalk.u32_in _ (by omega)
          clear hr hq hple hx2
          go_wp2_with (at_builtin; refine wpList_append_own _ rfl (.tmp 26) (.tmp 30) 46 rfl W.heap.size 5 i0 _ 1 1 Try.underlying46 HI.out.1 HI.out.2.1 HI.out.2.2.1 HI.out.2.2.2 rfl (by decide) _ M.length (numC .u8 M) rfl (World.ownsRow.alloc HO.out _) ⟨_, 0, none⟩ 1 1 [.int .u8 r] rfl rfl one_cell (by simp [Value.oneCell']) (by have := HLn.out; unfold maxLen; omega) (by have := HLn.out; omega) (by have := HW.out.size; simp; omega) ?_; intro v' w5 ho hg hn'; have HN5 := Lib.hid (fun h => absurd (hn'.1 h).2 (by decide) : v' ≠ .slice none 0 0); have HO5 := Lib.hid (OwnN.more (m := [r]) HW.out HO.out ho hg); clear ho hg hn')
          go_roundw
          case rel =>
            refine ⟨k + 1, by omega, by go_num, by rw [HQ.out], HN5.out, ?_, HO5.out.2⟩
            rw [HF.out]; exact HO5.out.1
          case measure => simp [intOf]; omega
        · obtain rfl : k = 4 := by omega
          have e4 : (fourB x).take 4 = fourB x := rfl
          rw [e4, ← HT.out] at HO
          clear e4
          go_wp2_with fail
          go_roundw
          case rel => exact ⟨i + 1, by omega, by go_num, HNN.out, HO.out, HW.out⟩
          case measure => simp [intOf]; omega
    · obtain rfl : i = N := by omega
      have hlt1 : ¬ (i : Int) < (i : Int) := by omega
      rw [List.take_of_length_le (by have := HEn.out; omega)] at HO
      have hbl := bytesC_length L
      rw [HEn.out] at hbl
      obtain ⟨g, cap, rfl, hcap, hcm⟩ := HO.out.at_ HNN.out (4 * i) hbl
      by_cases hbig : (4 * (i : Int)) < n
      · have e1 : bytesE L n = 12 := by unfold bytesE; rw [if_neg (by omega), HEn.out, if_pos hbig]
        have e2 : bytesX L n = byteText [] := by unfold bytesX; rw [e1]; rfl
        have HE := Lib.hid (And.intro e1 e2)
        clear e1 e2
        go_wp2_with fail
        go_ret2
        exact ⟨by rw [HE.out.1, HE.out.2]; rfl, HW.out⟩
      · have e1 : bytesE L n = 0 := by unfold bytesE; rw [if_neg (by omega), HEn.out, if_neg hbig]
        obtain ⟨m, rfl⟩ := Int.eq_ofNat_of_zero_le (by omega : 0 ≤ n)
        have e2 : bytesX L (m : Int) = byteText ((bytesC L).take m) := by unfold bytesX; rw [e1]; rfl
        have HE := Lib.hid (And.intro e1 e2)
        have hmc : m ≤ cap := by omega
        have hO2 := OwnN.first HO.out m (by omega)
        have hc := bytes_string (w := wr) (l := (bytesC L).take m) hO2 (fun b hb => bytesC_lt L b (List.mem_of_mem_take hb))
        clear e1 e2 hO2
        go_wp2_with fail
        go_ret2
        exact ⟨by rw [HE.out.1, HE.out.2]; rfl, HW.out⟩
end Go.Proofs.Ytpmhkmakkeckkaa
