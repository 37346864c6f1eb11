/-
  The reference of layer 7: places as cells, keys, numbers of texts. Over the program's own text.
-/
import Derived.Test.YtinlfnkopkbbjaaPackPure
import Derived.Laws.Bits64
import Derived.IntWalk
namespace Go.Proofs.Ytinlfnkopkbbjaa
open Go.RowKit

set_option maxRecDepth 100000 in
theorem ref_word (w : World) (d p : Int) (hd0 : -9223372036854775808 ≤ d) (hd1 : d ≤ 9223372036854775807) (hp0 : -9223372036854775808 ≤ p) (hp1 : p ≤ 9223372036854775807) :
    Calls Try.prog 10 #[.int .i64 d, .int .i64 p] w fun e w' => e = .returned (.tuple #[.int .u32 (wordX d p), .int .i64 (wordE d p)]) ∧ w' = w := by
  by_cases h : inW d p
  · have hx : wordX d p = 65536 * d + p := by unfold wordX; rw [if_pos h]
    have he : wordE d p = 0 := by unfold wordE; rw [if_pos h]
    rw [hx, he]
    obtain ⟨h1, h2, h3, h4⟩ := h
    clear hx he
    go_enter Try.func10, Try.ntmps10
    go_wp2_with fail
    go_ret2
    exact ⟨rfl, rfl⟩
  · have hx : wordX d p = 0 := by unfold wordX; rw [if_neg h]
    have he : wordE d p = 1 := by unfold wordE; rw [if_neg h]
    rw [hx, he]
    clear hx he
    unfold inW at h
    by_cases h1 : d < 0
    · clear h
      go_enter Try.func10, Try.ntmps10
      go_wp2_with fail
      go_ret2
      exact ⟨rfl, rfl⟩
    by_cases h2 : 65535 < d
    · clear h
      go_enter Try.func10, Try.ntmps10
      go_wp2_with fail
      go_ret2
      exact ⟨rfl, rfl⟩
    by_cases h3 : p < 0
    · clear h
      go_enter Try.func10, Try.ntmps10
      go_wp2_with fail
      go_ret2
      exact ⟨rfl, rfl⟩
    · have h4 : 65535 < p := by omega
      clear h
      go_enter Try.func10, Try.ntmps10
      go_wp2_with fail
      go_ret2
      exact ⟨rfl, rfl⟩

set_option maxRecDepth 100000 in
theorem ref_part (w : World) (x : Int) (h0 : 0 ≤ x) (h1 : x ≤ 4294967295) : Calls Try.prog 12 #[.int .u32 x] w fun e w' => e = .returned (.tuple #[.int .i64 (x / 65536), .int .i64 (x % 65536)]) ∧ w' = w := by
  go_enter Try.func12, Try.ntmps12
  go_wp2_with fail
  go_ret2
  exact ⟨rfl, rfl⟩

theorem hash_walk (h b : Nat) (hh : h < 4294967296) (hb : b < 256) : (IntKind.u64.wrap (bits BinOp.xor IntKind.u64 (h : Int) (IntKind.u64.wrap (b : Int)) * 16777619)).tmod 4294967296 = ((hashStep h b : Nat) : Int) := by
  have hx : h ^^^ b < 4294967296 := Nat.xor_lt_two_pow (n := 32) hh (by omega)
  rw [IntWalk.u64_in (b : Int) (by omega), bits_xor_u64_nat h b (by omega) (by omega)]
  unfold hashStep
  generalize h ^^^ b = x at hx
  rw [IntWalk.u64_in _ (by omega), Int.tmod_eq_emod_of_nonneg (by omega)]
  omega
theorem bytes_take {s : ByteArray} {i : Nat} (h : i < s.size) : (bytesL s).take (i + 1) = (bytesL s).take i ++ [(s[i]'h).toNat] := by
  have hl : i < (bytesL s).length := by rw [bytesL_length]; exact h
  rw [List.take_add_one, List.getElem?_eq_getElem hl]
  simp [bytesL]
  rfl

set_option maxRecDepth 100000 in
set_option maxHeartbeats 1000000 in
theorem ref_hash (w : World) (s : ByteArray) (hs : s.size ≤ 1000000) : Calls Try.prog 23 #[.string s] w fun e w' => e = .returned (.int .u32 (hashN (bytesL s))) ∧ w' = w := by
  have HLt := Lib.hid (bytesL_lt s)
  have HLn := Lib.hid (bytesL_length s)
  go_enter Try.func23, Try.ntmps23
  go_wp2_with fail
  go_loopw [3, 4] (fun hv iv wr => ∃ i : Nat, i ≤ s.size ∧ iv = .int .i64 i ∧ hv = .int .u64 (hashN ((bytesL s).take i)) ∧ wr = w) (fun _ iv _ => s.size - (intOf iv).toNat)
  case atStart => exact ⟨0, by omega, rfl, rfl, rfl⟩
  case round =>
    obtain ⟨i, hi, rfl, rfl, rfl⟩ := hrel
    by_cases hlt : i < s.size
    · have hh := hash_lt ((bytesL s).take i)
      have hb : (s[i]'hlt).toNat < 256 := (s[i]'hlt).toNat_lt
      have HT := Lib.hid (show hashN ((bytesL s).take (i + 1)) = hashStep (hashN ((bytesL s).take i)) (s[i]'hlt).toNat by rw [bytes_take hlt, hash_snoc])
      generalize hashN ((bytesL s).take i) = h at hh HT
      have HW := Lib.hid (hash_walk h (s[i]'hlt).toNat hh hb)
      clear hb
      go_wp2_with fail
      refine ⟨⟨i + 1, by omega, by simp, ?_, trivial⟩, by simp [intOf]; omega⟩
      rw [HT.out]
      exact congrArg (Value.int IntKind.u64) HW.out
    · have hi' : s.size = i := by omega
      rw [show (bytesL s).take i = bytesL s from List.take_of_length_le (by rw [bytesL_length]; omega)]
      have hh := hash_lt (bytesL s)
      obtain ⟨h, hE⟩ : ∃ h, hashN (bytesL s) = h := ⟨_, rfl⟩
      have HE := Lib.hid hE
      rw [hE] at hh ⊢
      clear hi' hE
      go_wp2_with fail
      go_ret
      exact ⟨by rw [HE.out]; rfl, rfl⟩

theorem key_row {w : World} {base : Nat} {v : Value} {f : Int} {s : ByteArray} (h : w.ownsRow base 5 1 v (1 + s.size) ([.int .u8 f] ++ Lib.strCells s)) (h0 : 0 ≤ f) : BytesIn w base v (f.toNat :: bytesL s) := by
  unfold BytesIn
  rw [List.length_cons, bytesL_length, Nat.add_comm]
  have e : (f.toNat :: bytesL s).map (fun (b : Nat) => Value.int .u8 (b : Int)) = [.int .u8 f] ++ Lib.strCells s := by
    rw [List.map_cons, Int.toNat_of_nonneg h0]
    simp [bytesL, Lib.strCells]
  rw [e]
  exact h
theorem key_lt {f : Int} (h0 : 0 ≤ f) (h1 : f ≤ 255) (s : ByteArray) : ∀ b ∈ f.toNat :: bytesL s, b < 256 := by
  intro b hb
  rcases List.mem_cons.1 hb with rfl | hb
  · omega
  · exact bytesL_lt s b hb

set_option maxRecDepth 100000 in
set_option maxHeartbeats 1000000 in
theorem ref_key (w : World) (f : Int) (s : ByteArray) (h0 : 0 ≤ f) (h1 : f ≤ 255) (hs : s.size ≤ 1000000) : Calls Try.prog 19 #[.int .u8 f, .string s] w fun e w' => e = .returned (.string (byteText (f.toNat :: bytesL s))) ∧ Below w.heap.size w w' := by
  obtain ⟨iB, hi, hz0, hz1, hz2⟩ := info_parts info_u8
  have HIB := Lib.hid (And.intro hi (And.intro hz0 (And.intro hz1 hz2)))
  clear hi hz0 hz1 hz2
  go_enter Try.func19, Try.ntmps19
  have hrow : (w.alloc (.cells #[.int .u8 f] 5)).ownsRow w.heap.size 5 1 (.slice (some ⟨w.heap.size, 0, none⟩) 1 1) 1 [.int .u8 f] := World.ownsRow_lit (base := w.heap.size) (e := 5) (size := 1) w #[.int .u8 f] 1 (Nat.le_refl _) (by decide) rfl
  have HRow := Lib.hid hrow
  clear hrow
  go_wp2_with (at_builtin; refine Lib.wpList_append_own_string _ rfl (.tmp 8) (.tmp 9) 50 9 rfl w.heap.size 5 iB Try.underlying50 Try.underlying9 HIB.out.1 HIB.out.2.1 HIB.out.2.2.1 HIB.out.2.2.2 _ 1 [.int .u8 f] rfl HRow.out s rfl ?c3 ?c4 ?c5 ?_)
  case c3 => unfold maxLen; omega
  case c4 => omega
  case c5 => simp
  intro v' w2 ho hg _
  have hI := key_row (f := f) (s := s) ho h0
  have hB := (show Below w.heap.size w (w.alloc (.cells #[.int .u8 f] 5)) from below_one).grown hg (by simp) (fun k hk => by simp [Value.ownBlock] at hk; omega)
  clear ho hg
  have hc := bytes_string hI (key_lt h0 h1 s)
  have HB := Lib.hid hB
  clear hB hI
  go_wp2_with fail
  go_ret
  exact ⟨rfl, HB.out⟩
end Go.Proofs.Ytinlfnkopkbbjaa
