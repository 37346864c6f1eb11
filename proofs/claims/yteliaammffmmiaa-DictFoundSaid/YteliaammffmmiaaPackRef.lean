/-
  The reference of layer 7: places as cells, keys, numbers of texts. Over the program's own text.
-/
import Derived.Test.YteliaammffmmiaaPackPure
import Derived.Laws.Bits64
import Derived.IntWalk
namespace Go.Proofs.Yteliaammffmmiaa
open Go.RowKit

theorem hash_walk (h b : Nat) (hh : h < 4294967296) (hb : b < 256) : (IntKind.u64.wrap (bits BinOp.xor IntKind.u64 (h : Int) (IntKind.u64.wrap (b : Int)) * 16777619)).tmod 4294967296 = ((hashStep h b : Nat) : Int) := by
  have hx : h ^^^ b < 4294967296 := Nat.xor_lt_two_pow (n := 32) hh (by omega)
  rw [IntWalk.u64_in (b : Int) (by omega), bits_xor_u64_nat h b (by omega) (by omega)]
  unfold hashStep
  generalize h ^^^ b = x at hx
  rw [IntWalk.u64_in _ (by omega), Int.tmod_eq_emod_of_nonneg (by omega)]
  omega
theorem bytes_take {s : ByteArray} {i : Nat} (h : i < s.size) : (bytesL s).take (i + 1) = (bytesL s).take i ++ [(s[i]'h).toNat] := by
  have hl : i < (bytesL s).length := by rw [bytesL_length]; exact h
  rw [List.take_add_one, List.getElem?_eq_getElem hl]
  simp [bytesL]
  rfl

set_option maxRecDepth 100000 in
set_option maxHeartbeats 1000000 in
theorem ref_hash (w : World) (s : ByteArray) (hs : s.size ≤ 1000000) : Calls Try.prog 28 #[.string s] w fun e w' => e = .returned (.int .u32 (hashN (bytesL s))) ∧ w' = w := by
  have HLt := Lib.hid (bytesL_lt s)
  have HLn := Lib.hid (bytesL_length s)
  go_enter Try.func28, Try.ntmps28
  go_wp2_with fail
  go_loopw [3, 4] (fun hv iv wr => ∃ i : Nat, i ≤ s.size ∧ iv = .int .i64 i ∧ hv = .int .u64 (hashN ((bytesL s).take i)) ∧ wr = w) (fun _ iv _ => s.size - (intOf iv).toNat)
  case atStart => exact ⟨0, by omega, rfl, rfl, rfl⟩
  case round =>
    obtain ⟨i, hi, rfl, rfl, rfl⟩ := hrel
    by_cases hlt : i < s.size
    · have hh := hash_lt ((bytesL s).take i)
      have hb : (s[i]'hlt).toNat < 256 := (s[i]'hlt).toNat_lt
      have HT := Lib.hid (show hashN ((bytesL s).take (i + 1)) = hashStep (hashN ((bytesL s).take i)) (s[i]'hlt).toNat by rw [bytes_take hlt, hash_snoc])
      generalize hashN ((bytesL s).take i) = h at hh HT
      have HW := Lib.hid (hash_walk h (s[i]'hlt).toNat hh hb)
      clear hb
      go_wp2_with fail
      refine ⟨⟨i + 1, by omega, by simp, ?_, trivial⟩, by simp [intOf]; omega⟩
      rw [HT.out]
      exact congrArg (Value.int IntKind.u64) HW.out
    · have hi' : s.size = i := by omega
      rw [show (bytesL s).take i = bytesL s from List.take_of_length_le (by rw [bytesL_length]; omega)]
      have hh := hash_lt (bytesL s)
      obtain ⟨h, hE⟩ : ∃ h, hashN (bytesL s) = h := ⟨_, rfl⟩
      have HE := Lib.hid hE
      rw [hE] at hh ⊢
      clear hi' hE
      go_wp2_with fail
      go_ret
      exact ⟨by rw [HE.out]; rfl, rfl⟩

theorem key_row {w : World} {base : Nat} {v : Value} {f : Int} {s : ByteArray} (h : w.ownsRow base 5 1 v (1 + s.size) ([.int .u8 f] ++ Lib.strCells s)) (h0 : 0 ≤ f) : BytesIn w base v (f.toNat :: bytesL s) := by
  unfold BytesIn
  rw [List.length_cons, bytesL_length, Nat.add_comm]
  have e : (f.toNat :: bytesL s).map (fun (b : Nat) => Value.int .u8 (b : Int)) = [.int .u8 f] ++ Lib.strCells s := by
    rw [List.map_cons, Int.toNat_of_nonneg h0]
    simp [bytesL, Lib.strCells]
  rw [e]
  exact h
theorem key_lt {f : Int} (h0 : 0 ≤ f) (h1 : f ≤ 255) (s : ByteArray) : ∀ b ∈ f.toNat :: bytesL s, b < 256 := by
  intro b hb
  rcases List.mem_cons.1 hb with rfl | hb
  · omega
  · exact bytesL_lt s b hb

end Go.Proofs.Yteliaammffmmiaa
