/-
  The reference of layer 7: places as cells, keys, numbers of texts. Over the program's own text.
-/
import Derived.Test.YtpmhkmakkeckkaaPackPure
import Derived.Laws.Bits64
import Derived.IntWalk
namespace Go.Proofs.Ytpmhkmakkeckkaa
open Go.RowKit

set_option maxRecDepth 100000 in
theorem hash_walk (h b : Nat) (hh : h < 4294967296) (hb : b < 256) : (IntKind.u64.wrap (bits BinOp.xor IntKind.u64 (h : Int) (IntKind.u64.wrap (b : Int)) * 16777619)).tmod 4294967296 = ((hashStep h b : Nat) : Int) := by
  have hx : h ^^^ b < 4294967296 := Nat.xor_lt_two_pow (n := 32) hh (by omega)
  rw [IntWalk.u64_in (b : Int) (by omega), bits_xor_u64_nat h b (by omega) (by omega)]
  unfold hashStep
  generalize h ^^^ b = x at hx
  rw [IntWalk.u64_in _ (by omega), Int.tmod_eq_emod_of_nonneg (by omega)]
  omega
set_option maxRecDepth 100000 in
theorem bytes_take {s : ByteArray} {i : Nat} (h : i < s.size) : (bytesL s).take (i + 1) = (bytesL s).take i ++ [(s[i]'h).toNat] := by
  have hl : i < (bytesL s).length := by rw [bytesL_length]; exact h
  rw [List.take_add_one, List.getElem?_eq_getElem hl]
  simp [bytesL]
  rfl

set_option maxRecDepth 100000 in
theorem key_row {w : World} {base : Nat} {v : Value} {f : Int} {s : ByteArray} (h : w.ownsRow base 5 1 v (1 + s.size) ([.int .u8 f] ++ Lib.strCells s)) (h0 : 0 ≤ f) : BytesIn w base v (f.toNat :: bytesL s) := by
  unfold BytesIn
  rw [List.length_cons, bytesL_length, Nat.add_comm]
  have e : (f.toNat :: bytesL s).map (fun (b : Nat) => Value.int .u8 (b : Int)) = [.int .u8 f] ++ Lib.strCells s := by
    rw [List.map_cons, Int.toNat_of_nonneg h0]
    simp [bytesL, Lib.strCells]
  rw [e]
  exact h
set_option maxRecDepth 100000 in
theorem key_lt {f : Int} (h0 : 0 ≤ f) (h1 : f ≤ 255) (s : ByteArray) : ∀ b ∈ f.toNat :: bytesL s, b < 256 := by
  intro b hb
  rcases List.mem_cons.1 hb with rfl | hb
  · omega
  · exact bytesL_lt s b hb

end Go.Proofs.Ytpmhkmakkeckkaa
