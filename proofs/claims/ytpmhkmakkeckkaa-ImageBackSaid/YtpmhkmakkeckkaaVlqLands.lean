/-
  What the landed code's functions of layer 8 keep: a number's bytes, the number at a place, all of them. Over the program's own text.
-/
import Derived.Test.YtpmhkmakkeckkaaVlqKept
import Derived.StillTailTactics
namespace Go.Proofs.Ytpmhkmakkeckkaa
open Go.RowKit

/-! ### Bits behind bits -/
set_option maxRecDepth 100000 in
theorem or_more {c x k : Nat} (hc : c < 2 ^ k) (hk : k ≤ 28) (b : Nat) (hx : b * 2 ^ k = x) (hx2 : x < 4294967296) : bits .or .u32 (c : Int) (x : Int) = ((c + x : Nat) : Int) := by
  have hc2 : c < 4294967296 := Nat.lt_of_lt_of_le hc (by calc 2 ^ k ≤ 2 ^ 28 := Nat.pow_le_pow_right (by decide) hk
      _ ≤ 4294967296 := by decide)
  have h := (bits_nat .u32 32 (by decide) (fun n a b => IntWalk.u32_in n (by omega)) c x (by omega) (by omega)).2
  rw [h, ← hx, Nat.or_comm, Nat.mul_comm b, ← Nat.two_pow_add_eq_or_of_lt hc b, Nat.add_comm]
set_option maxRecDepth 100000 in
theorem shl_more (b k : Nat) (hk : k ≤ 28) (x : Nat) (hx : b * 2 ^ k = x) (hx2 : x < 4294967296) : Op.shift .shl .u32 (b : Int) .i64 (k : Int) = pure (.int .u32 (x : Int)) := by
  rw [shift_shl .u32 .i64 _ _ (by omega) (by show (k : Int) ≤ 32; omega)]
  rw [show ((k : Int)).toNat = k from rfl, show ((b : Int) * 2 ^ k) = (x : Int) by rw [← hx]; simp, IntWalk.u32_in _ (by omega)]

/-! ### All behind so many -/
set_option maxRecDepth 100000 in
theorem size_byte (w : World) : (Go.sizeOf 5).run Try.prog w = .ok 1 w := by kernel_rfl
set_option maxRecDepth 100000 in
theorem elem_bytes : Try.prog.elem 46 = 5 := by kernel_rfl
set_option maxRecDepth 100000 in
theorem under_bytes : Try.prog.underlying 46 = some (.slice (Try.prog.elem 46)) := by rw [elem_bytes]; exact Try.underlying46
set_option maxRecDepth 100000 in
theorem slice8_from {W : World} {oa : Option Addr} {L : List Nat} (n c a m : Nat) (hn : L.length = n) (ha : a + m = n) (hc : n ≤ c) (hm : c ≤ maxLen) (h : ReadN .u8 W oa L) :
    ∃ ob d, (∀ w : World, (Instr.slice 46 (.slice oa n c) (some (.int .i64 (a : Int))) none none).run Try.prog w = .ok (.slice ob m d) w) ∧ m ≤ d ∧ d ≤ maxLen ∧ ReadN .u8 W ob (L.drop a) := by
  refine ⟨if c = a then oa else oa.map (·.add a), c - a, fun w => ?_, by omega, by omega, ?_⟩
  · rw [run_slice_l w 46 oa n c under_bytes .i64 (a : Int) (by omega) (by omega), elem_bytes, size_byte]
    have e : ((a : Int)).toNat = a := by omega
    have e2 : n - a = m := by omega
    simp [Result.andThen, sliced, e, e2]
  · intro j x hj
    have hj2 : L[a + j]? = some x := by rw [List.getElem?_drop] at hj; exact hj
    have hlt := (List.getElem?_eq_some_iff.1 hj2).1
    obtain ⟨g, o, rfl, hc2⟩ := h _ x hj2
    rw [if_neg (by omega)]
    exact ⟨g, o + a, by rw [Option.map_some, Addr.add_lit], by rw [show o + a + j = o + (a + j) by omega]; exact hc2⟩

/-! ### What the bytes so far make -/
set_option maxRecDepth 100000 in
theorem valP_split : ∀ (k : Nat) (M : List Nat) (n : Nat), ConT M k → valP k M n = valP k M 0 + 128 ^ k * n
  | 0, M, n, _ => by simp [valP]
  | k + 1, [], n, h => by
    obtain ⟨x, hx, _⟩ := h 0 (by omega)
    simp at hx
  | k + 1, x :: M, n, h => by
    have ih := valP_split k M n fun j hj => by
      obtain ⟨z, hz, hz2⟩ := h (j + 1) (by omega)
      exact ⟨z, by simpa using hz, hz2⟩
    simp only [valP]
    rw [ih, Nat.pow_succ, Nat.mul_add, Nat.mul_comm (128 ^ k) 128, Nat.mul_assoc, Nat.add_assoc]
set_option maxRecDepth 100000 in
theorem valP_snoc : ∀ (k : Nat) (M : List Nat) (x n : Nat), ConT M k → M[k]? = some x → valP (k + 1) M n = valP k M (x - 128 + 128 * n)
  | 0, M, x, n, _, hx => by
    cases M with
    | nil => simp at hx
    | cons y M =>
      simp at hx
      subst hx
      simp [valP]
  | k + 1, [], x, n, h, _ => by
    obtain ⟨x, hx, _⟩ := h 0 (by omega)
    simp at hx
  | k + 1, y :: M, x, n, h, hx => by
    have ih := valP_snoc k M x n (fun j hj => by
      obtain ⟨z, hz, hz2⟩ := h (j + 1) (by omega)
      exact ⟨z, by simpa using hz, hz2⟩) (by simpa using hx)
    rw [valP, ih]
    rfl
set_option maxRecDepth 100000 in
theorem valP_below : ∀ (k : Nat) (M : List Nat), (∀ b ∈ M, b < 256) → valP k M 0 < 128 ^ k
  | 0, _, _ => by simp [valP]
  | k + 1, [], _ => by simp only [valP]; exact Nat.pow_pos (by omega)
  | k + 1, x :: M, hb => by
    have ih := valP_below k M fun b hm => hb b (by simp [hm])
    have hx := hb x (by simp)
    have e : 128 ^ (k + 1) = 128 ^ k * 128 := Nat.pow_succ ..
    simp only [valP]
    omega
set_option maxRecDepth 100000 in
theorem pow_seven (k : Nat) : 128 ^ k = 2 ^ (7 * k) := by rw [Nat.pow_mul]

set_option maxRecDepth 100000 in
set_option maxHeartbeats 2000000 in
theorem lands_put (W : World) (n : Nat) (hn : n < 4294967296) : Calls Try.prog 49 #[.int .u32 (n : Int)] W fun e w' => ∃ v, e = .returned v ∧ OwnN 5 .u8 w' W.heap.size v (putN n) ∧ Below W.heap.size W w' := by
  obtain ⟨i0, hi, hz0, hz1, hz2⟩ := info_parts info_u8
  have HI := Lib.hid (And.intro hi (And.intro hz0 (And.intro hz1 hz2)))
  clear hi hz0 hz1 hz2
  go_enter Try.func49, Try.ntmps49
  go_wp2_with fail
  go_loopw [0, 3] (fun nv v wr => ∃ (f m : Nat) (M : List Nat), nv = .int .u32 (m : Int) ∧ Hid (f ≤ 4 ∧ m < lim f ∧ M.length ≤ 4 - f ∧ M ++ putF f m = putN n) ∧ m < 4294967296 ∧ OwnN 5 .u8 wr W.heap.size v M ∧ Below W.heap.size W wr) (fun nv _ _ => (intOf nv).toNat)
  case atStart => exact ⟨4, n, [], rfl, Lib.hid ⟨Nat.le_refl _, hn, by simp, rfl⟩, hn, OwnN.nil _ _ _ _, Below.refl _ _⟩
  case round =>
    obtain ⟨f, m, M, rfl, HR, hm, hown, hlow⟩ := hrel
    have HO := Lib.hid hown
    have HW := Lib.hid hlow
    clear hown hlow
    by_cases hlt : 127 < m
    · have hlt1 : (128 : Int) ≤ (m : Int) := by omega
      have hf : ∃ g, f = g + 1 := by
        obtain ⟨_, h2, _⟩ := HR.out
        cases f with
        | zero => simp only [lim] at h2; omega
        | succ g => exact ⟨g, rfl⟩
      obtain ⟨g, rfl⟩ := hf
      obtain ⟨r0, hr0⟩ : ∃ r0, r0 = m % 128 := ⟨_, rfl⟩
      obtain ⟨r, hr⟩ : ∃ r, r = r0 + 128 := ⟨_, rfl⟩
      obtain ⟨q, hq⟩ : ∃ q, q = m / 128 := ⟨_, rfl⟩
      have HN := Lib.hid (show g ≤ 4 ∧ q < lim g ∧ (M ++ [r]).length ≤ 4 - g ∧ (M ++ [r]) ++ putF g q = putN n from by
        obtain ⟨h1, h2, h3, h4⟩ := HR.out
        simp only [lim] at h2
        refine ⟨by omega, by omega, by simp; omega, ?_⟩
        rw [← h4]
        conv => rhs; unfold putF
        rw [if_neg (by omega), hr, hr0, hq]
        simp)
      have HLen := Lib.hid (show M.length ≤ 4 from by have := HR.out; omega)
      have hy0 : (0 : Int) ≤ (m : Int) := by omega
      have hr1 : (m : Int) % 128 = (r0 : Int) := by omega
      have hq1 : (m : Int) / 128 = (q : Int) := by omega
      have hr2 : (m : Int).tmod 128 = (r0 : Int) := by rw [Int.tmod_eq_emod_of_nonneg hy0]; exact hr1
      have hq2 : (m : Int).tdiv 128 = (q : Int) := by rw [Int.tdiv_eq_ediv_of_nonneg hy0]; exact hq1
      have hr3 : IntKind.u32.wrap (r0 : Int) = (r0 : Int) := IntWalk.u32_in _ (by omega)
      have hr7 : IntKind.u8.wrap (r0 : Int) = (r0 : Int) := IntWalk.u8_in _ (by omega)
      have hr5 : (r0 : Int) + 128 = (r : Int) := by omega
      have hr4 : IntKind.u8.wrap ((r0 : Int) + 128) = (r : Int) := by rw [hr5]; exact IntWalk.u8_in _ (by omega)
      have hr6 : IntKind.u8.wrap (r : Int) = (r : Int) := IntWalk.u8_in _ (by omega)
      have hq4 : IntKind.u32.wrap (q : Int) = (q : Int) := IntWalk.u32_in _ (by omega)
      have hqm : q < m := by omega
      clear hr hr0 hq
      go_wp2_with (at_builtin; refine wpList_append_own _ rfl (.tmp 8) (.tmp 13) 46 rfl W.heap.size 5 i0 _ 1 1 Try.underlying46 HI.out.1 HI.out.2.1 HI.out.2.2.1 HI.out.2.2.2 rfl (by decide) _ M.length (numC .u8 M) rfl (World.ownsRow.alloc HO.out _) ⟨_, 0, none⟩ 1 1 [.int .u8 r] rfl rfl one_cell (by simp [Value.oneCell']) (by have := HLen.out; unfold maxLen; omega) (by have := HLen.out; omega) (by have := HW.out.size; simp; omega) ?_; intro v' w5 ho hg _; have HO5 := Lib.hid (OwnN.more (m := [r]) HW.out HO.out ho hg); clear ho hg)
      go_roundw
      case rel => exact ⟨g, q, M ++ [r], rfl, HN, by omega, HO5.out.1, HO5.out.2⟩
      case measure => simp [intOf]; omega
    · have hlt1 : ¬ (128 : Int) ≤ (m : Int) := by omega
      have hr3 : IntKind.u8.wrap (m : Int) = (m : Int) := IntWalk.u8_in _ (by omega)
      have HN := Lib.hid (show M ++ [m] = putN n from by
        obtain ⟨h1, h2, h3, h4⟩ := HR.out
        rw [← h4]
        cases f with
        | zero => rfl
        | succ f => unfold putF; rw [if_pos (by omega)])
      have HLen := Lib.hid (show M.length ≤ 4 from by have := HR.out; omega)
      go_wp2_with (at_builtin; refine wpList_append_own _ rfl (.tmp 15) (.tmp 18) 46 rfl W.heap.size 5 i0 _ 1 1 Try.underlying46 HI.out.1 HI.out.2.1 HI.out.2.2.1 HI.out.2.2.2 rfl (by decide) _ M.length (numC .u8 M) rfl (World.ownsRow.alloc HO.out _) ⟨_, 0, none⟩ 1 1 [.int .u8 m] rfl rfl one_cell (by simp [Value.oneCell']) (by have := HLen.out; unfold maxLen; omega) (by have := HLen.out; omega) (by have := HW.out.size; simp; omega) ?_; intro v' w5 ho hg _; have HO5 := Lib.hid (OwnN.more (m := [m]) HW.out HO.out ho hg); clear ho hg)
      go_ret
      exact ⟨_, rfl, by rw [← HN.out]; exact HO5.out.1, HO5.out.2⟩


set_option maxRecDepth 100000 in
theorem lands_may (w : World) (i x : Nat) (b : Bool) (hi : i ≤ 4) (hx : x < 256) (h : decide (¬ (i = 4 ∧ 15 < x) ∧ (i = 0 ∨ 0 < x)) = b) : Calls Try.prog 62 #[.int .i64 (i : Int), .int .u8 (x : Int)] w fun e w' => e = .returned (.bool b) ∧ w' = w := by
  subst h
  by_cases h4 : i = 4
  · subst h4
    by_cases h15 : 15 < x
    · have h15' : (15 : Int) < (x : Int) := by omega
      rw [decide_eq_false (fun c => c.1 ⟨rfl, h15⟩)]
      go_enter Try.func62, Try.ntmps62
      go_wp2_with fail
      go_ret
      exact ⟨rfl, rfl⟩
    · have h15' : ¬ (15 : Int) < (x : Int) := by omega
      by_cases h0 : 0 < x
      · have h0' : (0 : Int) < (x : Int) := by omega
        rw [decide_eq_true ⟨fun c => h15 c.2, .inr h0⟩]
        go_enter Try.func62, Try.ntmps62
        go_wp2_with fail
        go_ret
        first | exact ⟨rfl, rfl⟩ | exact ⟨by simp [h0], rfl⟩
      · have h0' : ¬ (0 : Int) < (x : Int) := by omega
        rw [decide_eq_false (fun c => by have := c.2; omega)]
        go_enter Try.func62, Try.ntmps62
        go_wp2_with fail
        go_ret
        first | exact ⟨rfl, rfl⟩ | exact ⟨by simp [h0], rfl⟩
  · have h4' : ((i : Int) == 4) = false := beq_eq_false_iff_ne.2 (by omega)
    by_cases hz : i = 0
    · subst hz
      rw [decide_eq_true ⟨fun c => h4 c.1, .inl rfl⟩]
      clear h4
      go_enter Try.func62, Try.ntmps62
      go_wp2_with fail
      go_ret
      exact ⟨rfl, rfl⟩
    · have hz' : ((i : Int) == 0) = false := beq_eq_false_iff_ne.2 (by omega)
      by_cases h0 : 0 < x
      · have h0' : (0 : Int) < (x : Int) := by omega
        rw [decide_eq_true ⟨fun c => h4 c.1, .inr h0⟩]
        clear h4 hz
        go_enter Try.func62, Try.ntmps62
        go_wp2_with fail
        go_ret
        first | exact ⟨rfl, rfl⟩ | exact ⟨by simp [h0], rfl⟩
      · have h0' : ¬ (0 : Int) < (x : Int) := by omega
        rw [decide_eq_false (fun c => by have := c.2; omega)]
        clear h4 hz
        go_enter Try.func62, Try.ntmps62
        go_wp2_with fail
        go_ret
        first | exact ⟨rfl, rfl⟩ | exact ⟨by simp [h0], rfl⟩

set_option maxRecDepth 100000 in
set_option maxHeartbeats 4000000 in
theorem lands_get (W : World) (oa : Option Addr) (c N : Nat) (L : List Nat) (z : Int) (en : L.length = N) (ha : ReadN .u8 W oa L) (hcN : N ≤ c) (hcm : c ≤ maxLen) (hl : N ≤ 1000000) (hx : ∀ x ∈ L, x < 256) (h0 : -9223372036854775808 ≤ z) (h1 : z ≤ 9223372036854775807) :
    Calls Try.prog 61 #[.slice oa N c, .int .i64 z] W fun e w' => e = .returned (.tuple #[.int .u32 ((getA L z).1 : Int), .int .i64 (getA L z).2.1, .int .i64 ((getA L z).2.2 : Int)]) ∧ w' = W := by
  by_cases hneg : z < 0
  · rw [getA_out (.inl hneg)]
    clear ha
    go_enter Try.func61, Try.ntmps61
    go_wp2_with fail
    go_ret3
    exact ⟨rfl, rfl⟩
  by_cases hbig : (N : Int) < z
  · rw [getA_out (.inr (by rw [en]; exact hbig))]
    clear ha
    go_enter Try.func61, Try.ntmps61
    go_wp2_with fail
    go_ret3
    exact ⟨rfl, rfl⟩
  obtain ⟨a, rfl⟩ := Int.eq_ofNat_of_zero_le (show 0 ≤ z by omega)
  obtain ⟨m, hm⟩ : ∃ m, a + m = N := ⟨N - a, by omega⟩
  obtain ⟨ob, d, hsl, hd1, hd2, hrd⟩ := slice8_from N c a m en hm hcN hcm ha
  have HG := Lib.hid (fun q (hq : getR 5 (L.drop a) = q) => getA_in (L := L) (a := a) (by omega) hq)
  obtain ⟨M, hM⟩ : ∃ M, M = L.drop a := ⟨_, rfl⟩
  rw [← hM] at HG hrd
  have HML := Lib.hid (show M.length = m by rw [hM, List.length_drop]; omega)
  have HX := Lib.hid (show ∀ b ∈ M, b < 256 from fun b hb => hx b (List.mem_of_mem_drop (by rw [← hM]; exact hb)))
  have HR := Lib.hid hrd
  clear hM hrd ha hx en
  go_enter Try.func61, Try.ntmps61
  go_wp2_with fail
  go_loopw [7, 22] (fun nv iv wr => ∃ k : Nat, k ≤ m ∧ k ≤ 4 ∧ iv = .int .i64 (k : Int) ∧ nv = .int .u32 (valP k M 0 : Nat) ∧ Hid (ConT M k) ∧ wr = W) (fun _ iv _ => m - (intOf iv).toNat)
  case atStart => exact ⟨0, by omega, by omega, rfl, rfl, Lib.hid fun j hj => absurd hj (by omega), rfl⟩
  case round =>
    obtain ⟨k, hkm, hk4, rfl, rfl, HC, hw⟩ := hrel
    have hw' := hw.symm
    subst hw'
    by_cases hlt : k < m
    · have hlt1 : (k : Int) < (m : Int) := by omega
      obtain ⟨x, hMx⟩ : ∃ x, M[k]? = some x := ⟨_, List.getElem?_eq_getElem (by rw [HML.out]; exact hlt)⟩
      have HMx := Lib.hid hMx
      have hxb := HX.out x (List.mem_of_getElem? hMx)
      obtain ⟨g, o, rfl, hcell⟩ := HR.out k x hMx
      clear hMx
      by_cases hmay : ¬ (k = 4 ∧ 15 < x) ∧ (k = 0 ∨ 0 < x)
      · have HMy := Lib.hid (fun w => lands_may w k x true hk4 hxb (decide_eq_true hmay))
        obtain ⟨y, hy⟩ : ∃ y, y = x % 128 := ⟨_, rfl⟩
        obtain ⟨t, ht⟩ : ∃ t, t = 7 * k := ⟨_, rfl⟩
        obtain ⟨s, hs⟩ : ∃ s, y * 2 ^ t = s := ⟨_, rfl⟩
        obtain ⟨n, hn⟩ : ∃ n, n = valP k M 0 := ⟨_, rfl⟩
        have hnb : n < 2 ^ t := by rw [hn, ht, ← pow_seven]; exact valP_below k M HX.out
        have ht28 : t ≤ 28 := by omega
        have hsb : s < 4294967296 := by
          rw [← hs]
          rcases (show k = 0 ∨ k = 1 ∨ k = 2 ∨ k = 3 ∨ k = 4 by omega) with rfl | rfl | rfl | rfl | rfl <;> subst ht <;> simp <;> omega
        have hshl := shl_more y t ht28 s hs hsb
        have hor := or_more hnb ht28 y hs hsb
        have hx0 : (0 : Int) ≤ (x : Int) := by omega
        have y1 : (x : Int) % 128 = (y : Int) := by omega
        have y2 : (x : Int).tmod 128 = (y : Int) := by rw [Int.tmod_eq_emod_of_nonneg hx0]; exact y1
        have y3 : IntKind.u8.wrap (y : Int) = (y : Int) := IntWalk.u8_in _ (by omega)
        have y4 : IntKind.u32.wrap (y : Int) = (y : Int) := IntWalk.u32_in _ (by omega)
        have t1 : 7 * (k : Int) = (t : Int) := by omega
        have t2 : IntKind.i64.wrap (7 * (k : Int)) = (t : Int) := by rw [t1]; exact IntWalk.i64_in _ (by omega)
        obtain ⟨v, hv⟩ : ∃ v, v = n + s := ⟨_, rfl⟩
        have HOr := Lib.hid (show bits BinOp.or IntKind.u32 (n : Int) ((y : Int) * 2 ^ t % 4294967296) = (v : Int) by
          rw [show ((y : Int) * 2 ^ t) = (s : Int) by rw [← hs]; simp, show (s : Int) % 4294967296 = (s : Int) by omega, hv]; exact hor)
        have HV := Lib.hid (show ∀ e, x = y + e → valP k M y = v from fun e _ => by rw [valP_split k M y HC.out, ← hn, hv, ← hs, ht, ← pow_seven, Nat.mul_comm])
        rw [← hn]
        by_cases hx7 : x < 128
        · have hx7' : (x : Int) < 128 := by omega
          have hok := get_ok HC.out hk4 HMx.out (by omega) (fun c => hmay.1 c) (fun c => by have := hmay.2; omega)
          have hg := HG.out _ hok
          rw [if_pos rfl] at hg
          simp only at hg
          have hyx : x = y := by omega
          rw [show valP k M x = v by rw [hyx]; exact HV.out 0 (by omega)] at hg
          obtain ⟨p, hp⟩ : ∃ p, p = a + k + 1 := ⟨_, rfl⟩
          obtain ⟨p0, hp0⟩ : ∃ p0, p0 = a + k := ⟨_, rfl⟩
          rw [show (a : Int) + ((k + 1 : Nat) : Int) = (p : Int) by omega] at hg
          have HGG := Lib.hid hg
          have p1 : (a : Int) + (k : Int) = (p0 : Int) := by omega
          have p2 : IntKind.i64.wrap ((a : Int) + (k : Int)) = (p0 : Int) := by rw [p1]; exact IntWalk.i64_in _ (by omega)
          have p3 : (p0 : Int) + 1 = (p : Int) := by omega
          have p4 : IntKind.i64.wrap ((p0 : Int) + 1) = (p : Int) := by rw [p3]; exact IntWalk.i64_in _ (by omega)
          clear hg hok hor hnb hn hs hsb hv ht hyx hp hp0 hmay hy
          go_wp2_with fail
          refine (HMy.out _).mono ?_; rintro e w1 ⟨rfl, hw⟩
          subst hw
          go_wp2_with fail
          go_ret3
          exact ⟨by rw [HGG.out]; exact congrArg (fun q : Int => Ending.returned (.tuple #[.int .u32 q, .int .i64 (p : Int), .int .i64 0])) HOr.out, rfl⟩
        · have hx7' : ¬ (x : Int) < 128 := by omega
          have hk3 : k + 1 ≤ 4 := by
            have := hmay.1
            omega
          have HN := Lib.hid (show valP (k + 1) M 0 = v by
            rw [valP_snoc k M x 0 HC.out HMx.out, show x - 128 + 128 * 0 = y by omega]
            exact HV.out 128 (by omega))
          clear hor hnb hn hs hsb hv ht hmay hy
          go_wp2_with fail
          refine (HMy.out _).mono ?_; rintro e w1 ⟨rfl, hw⟩
          subst hw
          go_wp2_with fail
          go_roundw
          case rel =>
            refine ⟨k + 1, by omega, hk3, by go_num, by rw [HN.out]; exact congrArg (Value.int IntKind.u32) HOr.out, Lib.hid fun j hj => ?_, trivial⟩
            by_cases hjk : j < k
            · exact HC.out j hjk
            · obtain rfl : j = k := by omega
              exact ⟨x, HMx.out, by omega⟩
          case measure => simp [intOf]; omega
      · have HMy := Lib.hid (fun w => lands_may w k x false hk4 hxb (decide_eq_false hmay))
        have hbad : getR 5 M = (0, 0, 11) := by
          by_cases hb : k = 4 ∧ 15 < x
          · obtain ⟨rfl, hb2⟩ := hb
            exact get_big HC.out HMx.out hb2
          · have hk0 : 0 < k ∧ x = 0 := by omega
            exact get_zero HC.out hk4 hk0.1 (by rw [← hk0.2]; exact HMx.out)
        have hg := HG.out _ hbad
        rw [if_neg (by simp)] at hg
        have HGG := Lib.hid hg
        clear hg hbad hmay
        go_wp2_with fail
        refine (HMy.out _).mono ?_; rintro e w1 ⟨rfl, hw⟩
        subst hw
        go_wp2_with fail
        go_ret3
        exact ⟨by rw [HGG.out]; rfl, rfl⟩
    · have hlt1 : ¬ (k : Int) < (m : Int) := by omega
      have hg := HG.out _ (get_end HC.out hk4 (by rw [HML.out]; omega))
      rw [if_neg (by simp)] at hg
      have HGG := Lib.hid hg
      clear hg
      go_wp2_with fail
      go_ret3
      exact ⟨by rw [HGG.out]; rfl, rfl⟩

end Go.Proofs.Ytpmhkmakkeckkaa
