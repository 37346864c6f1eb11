/-
  The reference of layer 6: stop words, and all words of a text. Over the program's own text.
-/
import Derived.Test.YtpfbhafcjipmeaaDoorTokPure
import Derived.Test.YtpfbhafcjipmeaaDoorFoldRef
import Derived.Test.YtpfbhafcjipmeaaDoorUtfWords
import Derived.OwnWalk
import Derived.Laws.AppendOwn
namespace Go.Proofs.YtpfbhafcjipmeaaDoor
open Go.RowKit

/-! ### Stop words -/
def stopS : List ByteArray := stopsL.map byteText
def stopCells : Array Value := (stopS.map Value.string).toArray
theorem stopS_length : stopS.length = 17 := rfl
theorem stopsL_byte : ∀ t ∈ stopsL, ∀ b ∈ t, b < 256 := by decide
theorem stop_mem (s : ByteArray) : s ∈ stopS ↔ stopB (bytesL s) = true := by
  unfold stopS stopB
  rw [List.contains_iff_mem, List.mem_map]
  constructor
  · rintro ⟨t, ht, rfl⟩
    rw [bytesL_byteText t (stopsL_byte t ht)]
    exact ht
  · intro h
    exact ⟨_, h, byteText_bytesL s⟩

set_option maxRecDepth 100000 in
set_option maxHeartbeats 1000000 in
theorem ref_stops (w : World) : Calls Tryd.prog 24 #[] w fun e w' => e = .returned (.slice (some ⟨w.heap.size, 0, none⟩) 17 17) ∧ w'.heap[w.heap.size]? = some (.cells stopCells 9 (0, 0)) ∧ Below w.heap.size w w' := by
  go_enter Tryd.func24, Tryd.ntmps24
  go_wp2_with fail
  go_ret
  exact ⟨rfl, heap_alloc_new w _, below_one⟩

theorem list_ne {x s : ByteArray} (h : ¬ x = s) : (x.toList == s.toList) = false := by
  rw [beq_eq_false_iff_ne]
  intro e
  apply h
  rw [ByteArray.toList_eq, ByteArray.toList_eq] at e
  exact ByteArray.ext (Array.toList_inj.1 e)

set_option maxRecDepth 100000 in
set_option maxHeartbeats 1000000 in
theorem ref_stop (w : World) (s : ByteArray) : Calls Tryd.prog 14 #[.string s] w fun e w' => e = .returned (.bool (stopB (bytesL s))) ∧ Below w.heap.size w w' := by
  go_enter Tryd.func14, Tryd.ntmps14
  go_wp2_with fail
  refine (ref_stops w).mono ?_
  rintro e w1 ⟨rfl, hh, hb⟩
  have hc : ∀ i x, stopS[i]? = some x → w1.cell? ⟨w.heap.size, i, none⟩ = some (.string x) := by
    intro i x hx
    rw [Lib.cell_of_heap hh i]
    unfold stopCells
    simp [hx]
  have HC := Lib.hid hc
  have HB := Lib.hid hb
  clear hh hb hc
  go_wp2_with fail
  go_loopw [8] (fun iv wr => ∃ i : Nat, i ≤ 17 ∧ iv = .int .i64 i ∧ wr = w1 ∧ ∀ j x, j < i → stopS[j]? = some x → x ≠ s) (fun iv _ => 17 - (intOf iv).toNat)
  case atStart => exact ⟨0, by omega, rfl, rfl, fun j x hj => by omega⟩
  case round =>
    obtain ⟨i, hi, rfl, rfl, hno⟩ := hrel
    have HN := Lib.hid hno
    clear hno
    by_cases hlt : i < 17
    · obtain ⟨x, hx⟩ : ∃ x, stopS[i]? = some x := ⟨_, List.getElem?_eq_getElem (by rw [stopS_length]; exact hlt)⟩
      have c0 := HC.out i x hx
      by_cases he : x = s
      · have HS := Lib.hid (show stopB (bytesL s) = true from (stop_mem s).1 (he ▸ List.mem_of_getElem? hx))
        subst he
        clear hx
        go_wp2_with fail
        go_ret
        exact ⟨by rw [HS.out]; rfl, HB.out⟩
      · have HX := Lib.hid hx
        have q := list_ne he
        clear hx
        go_wp2_with fail
        go_roundw
        case rel =>
          refine ⟨i + 1, by omega, by go_num, trivial, fun j y hj hy => ?_⟩
          by_cases hji : j < i
          · exact HN.out j y hji hy
          · obtain rfl : j = i := by omega
            rw [HX.out] at hy
            cases hy
            exact he
        case measure => simp [intOf]; omega
    · have HS := Lib.hid (show stopB (bytesL s) = false by
        have hm : ¬ s ∈ stopS := fun hm => by
          obtain ⟨j, hj⟩ := List.getElem?_of_mem hm
          exact HN.out j s (by have := (List.getElem?_eq_some_iff.1 hj).1; rw [stopS_length] at this; omega) hj rfl
        rw [stop_mem] at hm
        simpa using hm)
      go_wp2_with fail
      go_ret
      exact ⟨by rw [HS.out]; rfl, HB.out⟩

/-! ### Words in memory -/
/-- A word: its field, its term, its place. -/
abbrev Tk := Int × ByteArray × Int
def tokC (x : Tk) : List Value := [.int .u8 x.1, .string x.2.1, .int .i64 x.2.2]
def toksC (l : List Tk) : List Value := l.flatMap tokC
theorem toksC_append (a b : List Tk) : toksC (a ++ b) = toksC a ++ toksC b := List.flatMap_append
theorem toksC_length : ∀ l : List Tk, (toksC l).length = l.length * 3
  | [] => rfl
  | x :: l => by
    have e : toksC (x :: l) = tokC x ++ toksC l := rfl
    rw [e, List.length_append, toksC_length l, List.length_cons]
    simp [tokC]
    omega
theorem toksC_get : ∀ (l : List Tk) (j : Nat) (x : Tk), l[j]? = some x → (toksC l)[j * 3]? = some (.int .u8 x.1) ∧ (toksC l)[j * 3 + 1]? = some (.string x.2.1) ∧ (toksC l)[j * 3 + 2]? = some (.int .i64 x.2.2)
  | [], j, x, h => by simp at h
  | y :: l, 0, x, h => by
    simp at h
    subst h
    exact ⟨rfl, rfl, rfl⟩
  | y :: l, j + 1, x, h => by
    have := toksC_get l j x (by simpa using h)
    have e : toksC (y :: l) = tokC y ++ toksC l := rfl
    rw [e, show (j + 1) * 3 = (tokC y).length + j * 3 by simp [tokC]; omega]
    refine ⟨?_, ?_, ?_⟩
    · rw [List.getElem?_append_right (by omega), Nat.add_sub_cancel_left]; exact this.1
    · rw [Nat.add_assoc, List.getElem?_append_right (by omega), Nat.add_sub_cancel_left]; exact this.2.1
    · rw [Nat.add_assoc, List.getElem?_append_right (by omega), Nat.add_sub_cancel_left]; exact this.2.2
def ToksIn (w : World) (base : Nat) (v : Value) (l : List Tk) : Prop := w.ownsRow base 40 3 v l.length (toksC l)
theorem info_tok : (Tryd.prog.info? 40).map (fun i => (i.zero, i.size, i.bytes)) = some (some (.agg #[.int .u8 0, .string ⟨#[]⟩, .int .i64 0]), 3, 32) := by kernel_rfl
/-- A row of words that is only read. -/
def ReadT (w : World) (oa : Option Addr) (l : List Tk) : Prop := ∀ (j : Nat) (x : Tk), l[j]? = some x → ∃ g o : Nat, oa = some ⟨g, o, none⟩ ∧ w.cell? ⟨g, o + j * 3, none⟩ = some (.int .u8 x.1) ∧ w.cell? ⟨g, o + j * 3 + 1, none⟩ = some (.string x.2.1) ∧ w.cell? ⟨g, o + j * 3 + 2, none⟩ = some (.int .i64 x.2.2)
theorem ReadT.below {w w' : World} {oa : Option Addr} {l : List Tk} (h : ReadT w oa l) (hb : Below w.heap.size w w') : ReadT w' oa l := fun j x hj => by
  obtain ⟨g, o, h0, h1, h2, h3⟩ := h j x hj
  exact ⟨g, o, h0, below_cell h1 hb, below_cell h2 hb, below_cell h3 hb⟩
theorem toks_reads {w : World} {base : Nat} {v : Value} {l : List Tk} (h : ToksIn w base v l) : ∃ oa cap, v = .slice oa l.length cap ∧ l.length ≤ cap ∧ cap ≤ maxLen ∧ ReadT w oa l := by
  rcases h.2 with ⟨rfl, h0⟩ | ⟨g, cap, cur, rfl, hb, hg, hn, hm, hs, ht⟩
  · have : l = [] := List.eq_nil_of_length_eq_zero h0
    subst this
    exact ⟨none, 0, rfl, by simp, by simp [maxLen], fun j x hj => by simp at hj⟩
  · refine ⟨_, cap, rfl, hn, hm, fun j x hj => ⟨g, 0, rfl, ?_⟩⟩
    have h3 := toksC_get l j x hj
    have hc := World.ownsRow.cells h (g := g) rfl
    simp only [Addr.add_lit] at hc
    exact ⟨hc _ _ h3.1, by simpa [Nat.add_assoc] using hc _ _ h3.2.1, by simpa [Nat.add_assoc] using hc _ _ h3.2.2⟩
/-- The terms' words, of field 0, at their places. -/
def outT (o : List (List Nat)) : List Tk := o.zipIdx.map fun x => ((0 : Int), byteText x.1, (x.2 : Int))
theorem outT_snoc (o : List (List Nat)) (t : List Nat) : outT (o ++ [t]) = outT o ++ [((0 : Int), byteText t, (o.length : Int))] := by
  unfold outT
  rw [List.zipIdx_append]
  simp
theorem outT_length (o : List (List Nat)) : (outT o).length = o.length := by simp [outT]
end Go.Proofs.YtpfbhafcjipmeaaDoor
