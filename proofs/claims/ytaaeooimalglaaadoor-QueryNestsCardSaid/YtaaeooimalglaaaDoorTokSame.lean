/-
  The reference of layer 6: are two rows of words the same. Over the program's own text.
-/
import Derived.Test.YtaaeooimalglaaaDoorTokWords
import Derived.Laws.StructEq
namespace Go.Proofs.YtaaeooimalglaaaDoor
open Go.RowKit

set_option maxRecDepth 100000 in
theorem eq_tok (f g p q : Int) (s t : ByteArray) (w : World) : (Op.equalIn 10000 42 (.agg #[.int .u8 f, .string s, .int .i64 p]) (.agg #[.int .u8 g, .string t, .int .i64 q])).run Tryd.prog w = .ok (f == g && (s.toList == t.toList && p == q)) w := by
  have u5 := Tryd.underlying5
  have a5 := Tryd.isAgg5
  have z5 := Tryd.sizeOf5
  have u9 := Tryd.underlying9
  have a9 := Tryd.isAgg9
  have z9 := Tryd.sizeOf9
  have u3 := Tryd.underlying3
  have a3 := Tryd.isAgg3
  have z3 := Tryd.sizeOf3
  have hS : Tryd.prog.underlying 42 = some (.struct (Tryd.prog.fieldsOf 42)) := by kernel_rfl
  rw [show (10000 : Nat) = 9999 + 1 from rfl, run_equalIn_agg w 9999 42 _ _ hS (by kernel_rfl)]
  simp only [Program.fieldsOf, Tryd.underlying42]
  cases h1 : (f == g)
  · go_simp
  · go_simp
    by_cases hs : s.toList = t.toList <;> by_cases hp : p = q <;> simp [hs, hp]
set_option maxRecDepth 100000 in
theorem eq_tok_of (x y : Tk) (w : World) : (Op.equalIn 10000 42 (.agg #[.int .u8 x.1, .string x.2.1, .int .i64 x.2.2]) (.agg #[.int .u8 y.1, .string y.2.1, .int .i64 y.2.2])).run Tryd.prog w = .ok (decide (x = y)) w := by
  obtain ⟨f, s, p⟩ := x
  obtain ⟨g, t, q⟩ := y
  rw [eq_tok]
  congr 1
  have hs : (s.toList == t.toList) = decide (s = t) := by
    by_cases h : s = t
    · subst h; simp
    · rw [list_ne h]; simp [h]
  rw [hs]
  by_cases h1 : f = g <;> by_cases h2 : s = t <;> by_cases h3 : p = q <;> simp [h1, h2, h3]

set_option maxRecDepth 100000 in
set_option maxHeartbeats 2000000 in
theorem same_toks (w : World) (oa ob : Option Addr) (ca cb : Nat) (A B : List Tk) (ha : ReadT w oa A) (hb : ReadT w ob B) (hn : A.length ≤ 1000000) :
    Calls Tryd.prog 15 #[.slice oa A.length ca, .slice ob B.length cb] w fun e w' => e = .returned (.bool (decide (A = B))) ∧ Below w.heap.size w w' := by
  have HA := Lib.hid ha
  have HB := Lib.hid hb
  clear ha hb
  by_cases hl : A.length = B.length
  · have hI : (A.length : Int) = (B.length : Int) := by omega
    have HL := Lib.hid hl
    clear hl
    go_enter Tryd.func15, Tryd.ntmps15
    go_wp2_with fail
    go_loopw [13] (fun iv wr => ∃ i : Nat, i ≤ A.length ∧ iv = .int .i64 i ∧ Hid (A.take i = B.take i) ∧ ∃ m, wr = w.drewN m) (fun i _ => A.length - (intOf i).toNat)
    case atStart => exact ⟨0, by omega, rfl, Lib.hid rfl, 0, rfl⟩
    case round =>
      obtain ⟨i, hi, rfl, HT, m, rfl⟩ := hrel
      by_cases hlt : i < A.length
      · obtain ⟨x, hx⟩ : ∃ x, A[i]? = some x := ⟨_, List.getElem?_eq_getElem hlt⟩
        obtain ⟨y, hy⟩ : ∃ y, B[i]? = some y := ⟨_, List.getElem?_eq_getElem (by have := HL.out; omega)⟩
        obtain ⟨gx, ox, rfl, x0, x1, x2⟩ := HA.out i x hx
        obtain ⟨gy, oy, rfl, y0, y1, y2⟩ := HB.out i y hy
        have hlt1 : (i : Int) < (A.length : Int) := by omega
        have hlt2 : (i : Int) < (B.length : Int) := by omega
        have HX := Lib.hid (And.intro hx hy)
        have heq := eq_tok_of x y
        clear hx hy
        by_cases hxy : x = y
        · rw [decide_eq_true hxy] at heq
          have HXY := Lib.hid hxy
          obtain ⟨f, s, p⟩ := x
          obtain ⟨g, t, q⟩ := y
          simp only at x0 x1 x2 y0 y1 y2 heq
          clear hxy
          go_wp2_with fail
          go_quiet (fail)
          go_wp2_with fail
          go_roundw
          case rel => exact ⟨i + 1, by omega, by go_num, Lib.hid (by rw [List.take_add_one, List.take_add_one, HX.out.1, HX.out.2, HT.out, HXY.out]), _, rfl⟩
          case measure => simp [intOf]; omega
        · rw [decide_eq_false hxy] at heq
          have HXY := Lib.hid hxy
          have HD := Lib.hid (show A ≠ B from fun e => hxy (by have := HX.out.1; rw [e, HX.out.2] at this; simpa using this.symm))
          obtain ⟨f, s, p⟩ := x
          obtain ⟨g, t, q⟩ := y
          simp only at x0 x1 x2 y0 y1 y2 heq
          clear hxy
          go_wp2_with fail
          go_quiet (fail)
          go_wp2_with fail
          go_ret
          have := HD.out
          exact ⟨by simp [this], below_drawn (below_drawn (Below.refl _ _) _) _⟩
      · go_wp2_with fail
        go_ret
        have : A = B := by
          have := HT.out
          rwa [List.take_of_length_le (by omega), List.take_of_length_le (by have := HL.out; omega)] at this
        exact ⟨by simp [this], below_drawn (Below.refl _ _) _⟩
  · have hI : (A.length : Int) ≠ (B.length : Int) := by omega
    have : A ≠ B := fun e => hl (by rw [e])
    have HD := Lib.hid this
    clear hl this
    go_enter Tryd.func15, Tryd.ntmps15
    go_wp2_with fail
    go_ret
    have := HD.out
    exact ⟨by simp [this], Below.refl _ _⟩
end Go.Proofs.YtaaeooimalglaaaDoor
