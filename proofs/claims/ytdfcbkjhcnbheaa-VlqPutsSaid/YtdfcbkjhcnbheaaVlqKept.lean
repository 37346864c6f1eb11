/-
  What the program's three functions of layer 8 keep, as the laws' walks take it; the laws' own example, given that. Over the program's own text.
-/
import Derived.Test.YtdfcbkjhcnbheaaVlqAll
namespace Go.Proofs.Ytdfcbkjhcnbheaa
open Go.RowKit

/-- Each of the three answers as the chapter says: taken as given here, proved of the landed code elsewhere. -/
structure KeptVlq : Prop where
  put : ∀ (w : World) (n : Nat), n < 4294967296 → Calls Try.prog 9 #[.int .u32 (n : Int)] w fun e w' => ∃ v, e = .returned v ∧ OwnN 5 .u8 w' w.heap.size v (putN n) ∧ Below w.heap.size w w'
  get : ∀ (w : World) (oa : Option Addr) (c N : Nat) (L : List Nat) (z : Int), L.length = N → ReadN .u8 w oa L → N ≤ c → c ≤ maxLen → N ≤ 1000000 → (∀ x ∈ L, x < 256) → -9223372036854775808 ≤ z → z ≤ 9223372036854775807 → Calls Try.prog 10 #[.slice oa N c, .int .i64 z] w fun e w' => e = .returned (.tuple #[.int .u32 ((getA L z).1 : Int), .int .i64 (getA L z).2.1, .int .i64 ((getA L z).2.2 : Int)]) ∧ Below w.heap.size w w'
  all : ∀ (w : World) (oa : Option Addr) (c N : Nat) (L : List Nat), L.length = N → ReadN .u8 w oa L → N ≤ c → c ≤ maxLen → N ≤ 1000000 → (∀ x ∈ L, x < 256) → Calls Try.prog 15 #[.slice oa N c] w fun e w' => ∃ v, e = .returned (.tuple #[v, .int .i64 ((allR L).2 : Int)]) ∧ OwnN 22 .u32 w' w.heap.size v (allR L).1 ∧ Below w.heap.size w w'

theorem KeptVlq.put_of (K : KeptVlq) (n : Nat) (L : List Nat) (l : Nat) (hn : n < 4294967296) (hL : putN n = L) (hl : L.length = l) (w : World) : Calls Try.prog 9 #[.int .u32 (n : Int)] w fun e w' => ∃ oa c, e = .returned (.slice oa l c) ∧ l ≤ c ∧ c ≤ maxLen ∧ (oa = none → c = 0) ∧ ReadN .u8 w' oa L ∧ Below w.heap.size w w' := by
  subst hL
  refine (K.put w n hn).mono fun _ _ ⟨v, h1, h2, h3⟩ => ?_
  obtain ⟨oa, c, rfl, h4, h5, h6, h7⟩ := h2.reads_of l hl
  exact ⟨oa, c, h1, h4, h5, h6, h7, h3⟩
theorem ref_put_of (n : Nat) (L : List Nat) (l : Nat) (hn : n < 4294967296) (hL : putN n = L) (hl : L.length = l) (w : World) : Calls Try.prog 12 #[.int .u32 (n : Int)] w fun e w' => ∃ oa c, e = .returned (.slice oa l c) ∧ l ≤ c ∧ c ≤ maxLen ∧ (oa = none → c = 0) ∧ ReadN .u8 w' oa L ∧ Below w.heap.size w w' := by
  subst hL
  refine (ref_put w n hn).mono fun _ _ ⟨v, h1, h2, h3⟩ => ?_
  obtain ⟨oa, c, rfl, h4, h5, h6, h7⟩ := h2.reads_of l hl
  exact ⟨oa, c, h1, h4, h5, h6, h7, h3⟩
theorem KeptVlq.get_of (K : KeptVlq) (L : List Nat) (N : Nat) (z : Int) (n : Nat) (b : Int) (e : Nat) (hN : L.length = N) (hl : N ≤ 1000000) (hx : ∀ x ∈ L, x < 256) (h0 : -9223372036854775808 ≤ z) (h1 : z ≤ 9223372036854775807) (hg : getA L z = (n, b, e)) (w : World) (oa : Option Addr) (c : Nat) (hR : ReadN .u8 w oa L) (hc : N ≤ c) (hm : c ≤ maxLen) : Calls Try.prog 10 #[.slice oa N c, .int .i64 z] w fun e' w' => e' = .returned (.tuple #[.int .u32 (n : Int), .int .i64 b, .int .i64 (e : Int)]) ∧ Below w.heap.size w w' := by
  have := K.get w oa c N L z hN hR hc hm hl hx h0 h1
  rw [hg] at this
  exact this
theorem KeptVlq.all_of (K : KeptVlq) (L : List Nat) (N : Nat) (O : List Nat) (m e : Nat) (hN : L.length = N) (hl : N ≤ 1000000) (hx : ∀ x ∈ L, x < 256) (ha : allR L = (O, e)) (hm : O.length = m) (w : World) (oa : Option Addr) (c : Nat) (hR : ReadN .u8 w oa L) (hc : N ≤ c) (hcm : c ≤ maxLen) : Calls Try.prog 15 #[.slice oa N c] w fun e' w' => ∃ ob d, e' = .returned (.tuple #[.slice ob m d, .int .i64 (e : Int)]) ∧ ReadN .u32 w' ob O ∧ Below w.heap.size w w' := by
  have := K.all w oa c N L hN hR hc hcm hl hx
  rw [ha] at this
  refine this.mono fun _ _ ⟨v, h1, h2, h3⟩ => ?_
  obtain ⟨ob, d, rfl, _, _, _, h4⟩ := h2.reads_of m hm
  exact ⟨ob, d, h1, h4, h3⟩
theorem ref_all_of (L : List Nat) (N : Nat) (O : List Nat) (m e : Nat) (hN : L.length = N) (hl : N ≤ 1000000) (hx : ∀ x ∈ L, x < 256) (ha : allR L = (O, e)) (hm : O.length = m) (w : World) (oa : Option Addr) (c : Nat) (hR : ReadN .u8 w oa L) : Calls Try.prog 16 #[.slice oa N c] w fun e' w' => ∃ ob d, e' = .returned (.tuple #[.slice ob m d, .int .i64 (e : Int)]) ∧ ReadN .u32 w' ob O ∧ Below w.heap.size w w' := by
  have := ref_all w oa c N L hN hR hl hx
  rw [ha] at this
  refine this.mono fun _ _ ⟨v, h1, h2, h3⟩ => ?_
  obtain ⟨ob, d, rfl, _, _, _, h4⟩ := h2.reads_of m hm
  exact ⟨ob, d, h1, h4, h3⟩

set_option maxRecDepth 100000 in
set_option maxHeartbeats 1000000 in
theorem fixed_any (K : KeptVlq) (w : World) : Calls Try.prog 8 #[] w fun e w' => e = .returned (.bool true) ∧ Below w.heap.size w w' := by
  have H1 := Lib.hid (K.get_of [172, 2, 7] 3 0 300 2 0 rfl (by decide) (by decide) (by decide) (by decide) (by decide +kernel))
  have H2 := Lib.hid (K.get_of [128, 0] 2 0 0 0 11 rfl (by decide) (by decide) (by decide) (by decide) (by decide +kernel))
  have H3 := Lib.hid (K.get_of [255, 255, 255, 255, 16] 5 0 0 0 11 rfl (by decide) (by decide) (by decide) (by decide) (by decide +kernel))
  have H4 := Lib.hid (K.put_of 300 [172, 2] 2 (by decide) (by decide +kernel) rfl)
  clear K
  go_enter Try.func8, Try.ntmps8
  go_wp2_with fail
  refine (H1.out _ _ 3 (readN_new .u8 w [172, 2, 7] _) (by decide) (by decide)).mono ?_; rintro e w1 ⟨rfl, hb⟩
  have HB := Lib.hid (low_more below_one hb); clear hb
  go_wp2_with fail
  refine (H2.out _ _ 2 (readN_new .u8 w1 [128, 0] _) (by decide) (by decide)).mono ?_; rintro e w2 ⟨rfl, hb⟩
  have HB := Lib.hid (low_more (low_new HB.out) hb); clear hb
  go_wp2_with fail
  refine (H3.out _ _ 5 (readN_new .u8 w2 [255, 255, 255, 255, 16] _) (by decide) (by decide)).mono ?_; rintro e w3 ⟨rfl, hb⟩
  have HB := Lib.hid (low_more (low_new HB.out) hb); clear hb
  go_wp2_with fail
  refine (H4.out _).mono ?_; rintro e w4 ⟨oa, c, rfl, _, _, _, hr, hb⟩
  have HR := Lib.hid hr; have HB := Lib.hid (low_more HB.out hb); clear hr hb
  go_wp2_with fail
  refine (same8_at _ oa (some ⟨w4.heap.size, 0, none⟩) c 2 2 2 [172, 2] [172, 2] rfl rfl (HR.out.alloc _) (readN_new .u8 w4 [172, 2] _) (by decide)).mono ?_; rintro e w5 ⟨rfl, hb⟩
  have HB := Lib.hid (low_more (low_new HB.out) hb); clear hb
  go_wp2_with fail
  go_ret
  exact ⟨rfl, HB.out⟩
end Go.Proofs.Ytdfcbkjhcnbheaa
