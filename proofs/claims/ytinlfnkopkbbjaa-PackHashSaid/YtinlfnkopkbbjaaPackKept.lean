/-
  What the program's six functions of layer 7 keep, as the laws' walks take it; the laws' own example, given that. Over the program's own text.
-/
import Derived.Test.YtinlfnkopkbbjaaPackRefB
namespace Go.Proofs.Ytinlfnkopkbbjaa
open Go.RowKit

/-- Each of the six answers as the chapter says: taken as given here, proved of the landed code elsewhere. -/
structure KeptPack : Prop where
  word : ∀ (w : World) (d p : Int), -9223372036854775808 ≤ d → d ≤ 9223372036854775807 → -9223372036854775808 ≤ p → p ≤ 9223372036854775807 → Calls Try.prog 9 #[.int .i64 d, .int .i64 p] w fun e w' => e = .returned (.tuple #[.int .u32 (wordX d p), .int .i64 (wordE d p)]) ∧ Below w.heap.size w w'
  part : ∀ (w : World) (x : Int), 0 ≤ x → x ≤ 4294967295 → Calls Try.prog 11 #[.int .u32 x] w fun e w' => e = .returned (.tuple #[.int .i64 (x / 65536), .int .i64 (x % 65536)]) ∧ Below w.heap.size w w'
  key : ∀ (w : World) (f : Int) (s : ByteArray), 0 ≤ f → f ≤ 255 → s.size ≤ 1000000 → Calls Try.prog 18 #[.int .u8 f, .string s] w fun e w' => e = .returned (.string (byteText (f.toNat :: bytesL s))) ∧ Below w.heap.size w w'
  cells : ∀ (w : World) (s : ByteArray), s.size ≤ 1000000 → Calls Try.prog 14 #[.string s] w fun e w' => ∃ v, e = .returned v ∧ OwnN 22 .u32 w' w.heap.size v (cellsN (bytesL s)) ∧ Below w.heap.size w w'
  bytes : ∀ (w : World) (oa : Option Addr) (c N : Nat) (L : List Nat) (n : Int), L.length = N → ReadN .u32 w oa L → N ≤ c → c ≤ maxLen → N ≤ 1000000 → (∀ x ∈ L, x < 4294967296) → -9223372036854775808 ≤ n → n ≤ 9223372036854775807 → Calls Try.prog 15 #[.slice oa N c, .int .i64 n] w fun e w' => e = .returned (.tuple #[.string (bytesX L n), .int .i64 (bytesE L n)]) ∧ Below w.heap.size w w'
  hash : ∀ (w : World) (s : ByteArray), s.size ≤ 1000000 → Calls Try.prog 22 #[.string s] w fun e w' => e = .returned (.int .u32 (hashN (bytesL s))) ∧ Below w.heap.size w w'

theorem wordX_in {d p : Int} (h : inW d p) : wordX d p = 65536 * d + p ∧ wordE d p = 0 := ⟨by unfold wordX; rw [if_pos h], by unfold wordE; rw [if_pos h]⟩
theorem wordX_out {d p : Int} (h : ¬ inW d p) : wordX d p = 0 ∧ wordE d p = 1 := ⟨by unfold wordX; rw [if_neg h], by unfold wordE; rw [if_neg h]⟩
theorem KeptPack.word_of (K : KeptPack) (d p X E : Int) (h1 : -9223372036854775808 ≤ d) (h2 : d ≤ 9223372036854775807) (h3 : -9223372036854775808 ≤ p) (h4 : p ≤ 9223372036854775807) (hX : wordX d p = X) (hE : wordE d p = E) (w : World) : Calls Try.prog 9 #[.int .i64 d, .int .i64 p] w fun e w' => e = .returned (.tuple #[.int .u32 X, .int .i64 E]) ∧ Below w.heap.size w w' := by
  subst hX hE
  exact K.word w d p h1 h2 h3 h4
theorem KeptPack.part_of (K : KeptPack) (x d p : Int) (h1 : 0 ≤ x) (h2 : x ≤ 4294967295) (hd : x / 65536 = d) (hp : x % 65536 = p) (w : World) : Calls Try.prog 11 #[.int .u32 x] w fun e w' => e = .returned (.tuple #[.int .i64 d, .int .i64 p]) ∧ Below w.heap.size w w' := by
  subst hd hp
  exact K.part w x h1 h2
theorem ref_word_of (d p X E : Int) (h1 : -9223372036854775808 ≤ d) (h2 : d ≤ 9223372036854775807) (h3 : -9223372036854775808 ≤ p) (h4 : p ≤ 9223372036854775807) (hX : wordX d p = X) (hE : wordE d p = E) (w : World) : Calls Try.prog 10 #[.int .i64 d, .int .i64 p] w fun e w' => e = .returned (.tuple #[.int .u32 X, .int .i64 E]) ∧ w' = w := by
  subst hX hE
  exact ref_word w d p h1 h2 h3 h4
theorem ref_part_of (x d p : Int) (h1 : 0 ≤ x) (h2 : x ≤ 4294967295) (hd : x / 65536 = d) (hp : x % 65536 = p) (w : World) : Calls Try.prog 12 #[.int .u32 x] w fun e w' => e = .returned (.tuple #[.int .i64 d, .int .i64 p]) ∧ w' = w := by
  subst hd hp
  exact ref_part w x h1 h2
theorem KeptPack.hash_of (K : KeptPack) (s : ByteArray) (h : Nat) (hs : s.size ≤ 1000000) (hh : hashN (bytesL s) = h) (w : World) : Calls Try.prog 22 #[.string s] w fun e w' => e = .returned (.int .u32 (h : Int)) ∧ Below w.heap.size w w' := by
  subst hh
  exact K.hash w s hs
theorem KeptPack.cells_of (K : KeptPack) (s : ByteArray) (L : List Nat) (n : Nat) (hs : s.size ≤ 1000000) (hL : cellsN (bytesL s) = L) (hn : L.length = n) (w : World) : Calls Try.prog 14 #[.string s] w fun e w' => ∃ oa c, e = .returned (.slice oa n c) ∧ n ≤ c ∧ c ≤ maxLen ∧ ReadN .u32 w' oa L ∧ Below w.heap.size w w' := by
  subst hL hn
  refine (K.cells w s hs).mono fun _ _ ⟨v, h1, h2, h3⟩ => ?_
  obtain ⟨oa, c, rfl, h4, h5, _, h6⟩ := h2.reads
  exact ⟨oa, c, h1, h4, h5, h6, h3⟩
theorem ref_cells_of (s : ByteArray) (L : List Nat) (n : Nat) (hs : s.size ≤ 1000000) (hL : cellsN (bytesL s) = L) (hn : L.length = n) (w : World) : Calls Try.prog 17 #[.string s] w fun e w' => ∃ oa c, e = .returned (.slice oa n c) ∧ n ≤ c ∧ c ≤ maxLen ∧ ReadN .u32 w' oa L ∧ Below w.heap.size w w' := by
  subst hL hn
  refine (ref_cells w s hs).mono fun _ _ ⟨v, h1, h2, h3⟩ => ?_
  obtain ⟨oa, c, rfl, h4, h5, _, h6⟩ := h2.reads
  exact ⟨oa, c, h1, h4, h5, h6, h3⟩
theorem back_text (s : ByteArray) : bytesE (cellsN (bytesL s)) (s.size : Int) = 0 ∧ bytesX (cellsN (bytesL s)) (s.size : Int) = s := by
  have hE : bytesE (cellsN (bytesL s)) (s.size : Int) = 0 := by
    unfold bytesE
    have h := cellsN_length (bytesL s)
    rw [bytesL_length] at h
    rw [if_neg (by omega), if_neg (by omega)]
  refine ⟨hE, ?_⟩
  unfold bytesX
  rw [if_pos hE, show ((s.size : Int)).toNat = (bytesL s).length by rw [bytesL_length]; rfl, pack_back (bytesL_lt s), byteText_bytesL]
theorem cellsN_lt (s : ByteArray) : ∀ x ∈ cellsN (bytesL s), x < 4294967296 := by
  intro x hx
  obtain ⟨j, _, rfl⟩ := List.mem_map.1 hx
  exact cellAt_lt (bytesL_lt s) j
theorem list_ne {x s : ByteArray} (h : ¬ x = s) : (x.toList == s.toList) = false := by
  rw [beq_eq_false_iff_ne]
  intro e
  apply h
  rw [ByteArray.toList_eq, ByteArray.toList_eq] at e
  exact ByteArray.ext (Array.toList_inj.1 e)

set_option maxRecDepth 100000 in
set_option maxHeartbeats 1000000 in
theorem fixed_any (K : KeptPack) (w : World) : Calls Try.prog 13 #[] w fun e w' => e = .returned (.bool true) ∧ Below w.heap.size w w' := by
  have H1 := Lib.hid (K.word_of 1 2 65538 0 (by decide) (by decide) (by decide) (by decide) (by decide +kernel) (by decide +kernel))
  have H2 := Lib.hid (K.cells_of ⟨#[97, 98, 99, 100, 101]⟩ [1684234849, 101] 2 (by decide) (by decide +kernel) rfl)
  have H3 := Lib.hid (K.hash_of ⟨#[]⟩ 2166136261 (by decide) (by decide +kernel))
  have H4 := Lib.hid (K.hash_of ⟨#[97]⟩ 3826002220 (by decide) (by decide +kernel))
  clear K
  go_enter Try.func13, Try.ntmps13
  go_wp2_with fail
  refine (H1.out _).mono ?_; rintro e w1 ⟨rfl, hb⟩
  have HB := Lib.hid hb; clear hb
  go_wp2_with fail
  refine (H2.out _).mono ?_; rintro e w2 ⟨oa, c, rfl, _, _, hr, hb⟩
  have HR := Lib.hid hr; have HB := Lib.hid (low_more HB.out hb); clear hr hb
  go_wp2_with fail
  refine (same32_at _ oa (some ⟨w2.heap.size, 0, none⟩) c 2 2 2 [1684234849, 101] [1684234849, 101] rfl rfl (HR.out.alloc _) (readN_new .u32 w2 [1684234849, 101] _) (by decide)).mono ?_; rintro e w3 ⟨rfl, hb⟩
  have HB := Lib.hid (low_more (low_new HB.out) hb); clear hb
  go_wp2_with fail
  refine (H3.out _).mono ?_; rintro e w4 ⟨rfl, hb⟩
  have HB := Lib.hid (low_more HB.out hb); clear hb
  go_wp2_with fail
  refine (H4.out _).mono ?_; rintro e w5 ⟨rfl, hb⟩
  have HB := Lib.hid (low_more HB.out hb); clear hb
  go_wp2_with fail
  go_ret
  exact ⟨rfl, HB.out⟩
end Go.Proofs.Ytinlfnkopkbbjaa
