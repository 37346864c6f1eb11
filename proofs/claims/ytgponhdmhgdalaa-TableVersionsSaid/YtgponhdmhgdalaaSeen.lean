/-
  Rows of documents that a version sees: in memory; are two of them the same. Over the program's own text.
-/
import Derived.Test.YtgponhdmhgdalaaKit
import Derived.Test.YtgponhdmhgdalaaRegion
import Derived.Laws.StructEq
namespace Go.Proofs.Ytgponhdmhgdalaa
open Go.RowKit

/-! ### Rows in memory -/
/-- A document that is seen: its number, its id, its length. -/
abbrev Sn := Int × Int × Int
def snC (x : Sn) : List Value := [.int .i64 x.1, .int .u32 x.2.1, .int .i64 x.2.2]
def snsC (l : List Sn) : List Value := l.flatMap snC
theorem snsC_append (a b : List Sn) : snsC (a ++ b) = snsC a ++ snsC b := List.flatMap_append
theorem snsC_length : ∀ l : List Sn, (snsC l).length = l.length * 3
  | [] => rfl
  | x :: l => by
    have e : snsC (x :: l) = snC x ++ snsC l := rfl
    rw [e, List.length_append, snsC_length l, List.length_cons]
    simp [snC]
    omega
theorem snsC_get : ∀ (l : List Sn) (j : Nat) (x : Sn), l[j]? = some x → (snsC l)[j * 3]? = some (.int .i64 x.1) ∧ (snsC l)[j * 3 + 1]? = some (.int .u32 x.2.1) ∧ (snsC l)[j * 3 + 2]? = some (.int .i64 x.2.2)
  | [], j, x, h => by simp at h
  | y :: l, 0, x, h => by
    simp at h
    subst h
    exact ⟨rfl, rfl, rfl⟩
  | y :: l, j + 1, x, h => by
    have := snsC_get l j x (by simpa using h)
    have e : snsC (y :: l) = snC y ++ snsC l := rfl
    rw [e, show (j + 1) * 3 = (snC y).length + j * 3 by simp [snC]; omega]
    refine ⟨?_, ?_, ?_⟩
    · rw [List.getElem?_append_right (by omega), Nat.add_sub_cancel_left]; exact this.1
    · rw [Nat.add_assoc, List.getElem?_append_right (by omega), Nat.add_sub_cancel_left]; exact this.2.1
    · rw [Nat.add_assoc, List.getElem?_append_right (by omega), Nat.add_sub_cancel_left]; exact this.2.2
def OwnS (w : World) (base : Nat) (v : Value) (l : List Sn) : Prop := w.ownsRow base 50 3 v l.length (snsC l)
theorem info_sn : (Try.prog.info? 50).map (fun i => (i.zero, i.size, i.bytes)) = some (some (.agg #[.int .i64 0, .int .u32 0, .int .i64 0]), 3, 24) := by kernel_rfl
/-- A row of words that is only read. -/
def ReadSn (w : World) (oa : Option Addr) (l : List Sn) : Prop := ∀ (j : Nat) (x : Sn), l[j]? = some x → ∃ g o : Nat, oa = some ⟨g, o, none⟩ ∧ w.cell? ⟨g, o + j * 3, none⟩ = some (.int .i64 x.1) ∧ w.cell? ⟨g, o + j * 3 + 1, none⟩ = some (.int .u32 x.2.1) ∧ w.cell? ⟨g, o + j * 3 + 2, none⟩ = some (.int .i64 x.2.2)
theorem ReadSn.below {w w' : World} {oa : Option Addr} {l : List Sn} (h : ReadSn w oa l) (hb : Below w.heap.size w w') : ReadSn w' oa l := fun j x hj => by
  obtain ⟨g, o, h0, h1, h2, h3⟩ := h j x hj
  exact ⟨g, o, h0, below_cell h1 hb, below_cell h2 hb, below_cell h3 hb⟩
theorem sns_reads {w : World} {base : Nat} {v : Value} {l : List Sn} (h : OwnS w base v l) : ∃ oa cap, v = .slice oa l.length cap ∧ l.length ≤ cap ∧ cap ≤ maxLen ∧ ReadSn w oa l := by
  rcases h.2 with ⟨rfl, h0⟩ | ⟨g, cap, cur, rfl, hb, hg, hn, hm, hs, ht⟩
  · have : l = [] := List.eq_nil_of_length_eq_zero h0
    subst this
    exact ⟨none, 0, rfl, by simp, by simp [maxLen], fun j x hj => by simp at hj⟩
  · refine ⟨_, cap, rfl, hn, hm, fun j x hj => ⟨g, 0, rfl, ?_⟩⟩
    have h3 := snsC_get l j x hj
    have hc := World.ownsRow.cells h (g := g) rfl
    simp only [Addr.add_lit] at hc
    exact ⟨hc _ _ h3.1, by simpa [Nat.add_assoc] using hc _ _ h3.2.1, by simpa [Nat.add_assoc] using hc _ _ h3.2.2⟩
theorem eq_sn (f g p q s t : Int) (w : World) : (Op.equalIn 10000 50 (.agg #[.int .i64 f, .int .u32 s, .int .i64 p]) (.agg #[.int .i64 g, .int .u32 t, .int .i64 q])).run Try.prog w = .ok (f == g && (s == t && p == q)) w := by
  have u5 := Try.underlying28
  have a5 := Try.isAgg28
  have z5 := Try.sizeOf28
  have u3 := Try.underlying3
  have a3 := Try.isAgg3
  have z3 := Try.sizeOf3
  have hS : Try.prog.underlying 50 = some (.struct (Try.prog.fieldsOf 50)) := by kernel_rfl
  rw [show (10000 : Nat) = 9999 + 1 from rfl, run_equalIn_agg w 9999 50 _ _ hS (by kernel_rfl)]
  simp only [Program.fieldsOf, Try.underlying50]
  cases h1 : (f == g)
  · go_simp
  · go_simp
    by_cases hs : s = t <;> by_cases hp : p = q <;> simp [hs, hp]
theorem eq_sn_of (x y : Sn) (w : World) : (Op.equalIn 10000 50 (.agg #[.int .i64 x.1, .int .u32 x.2.1, .int .i64 x.2.2]) (.agg #[.int .i64 y.1, .int .u32 y.2.1, .int .i64 y.2.2])).run Try.prog w = .ok (decide (x = y)) w := by
  obtain ⟨f, s, p⟩ := x
  obtain ⟨g, t, q⟩ := y
  rw [eq_sn]
  congr 1
  by_cases h1 : f = g <;> by_cases h2 : s = t <;> by_cases h3 : p = q <;> simp [h1, h2, h3]

set_option maxRecDepth 100000 in
set_option maxHeartbeats 2000000 in
theorem same_sns (w : World) (oa ob : Option Addr) (ca cb : Nat) (A B : List Sn) (ha : ReadSn w oa A) (hb : ReadSn w ob B) (hn : A.length ≤ 1000000) :
    Calls Try.prog 9 #[.slice oa A.length ca, .slice ob B.length cb] w fun e w' => e = .returned (.bool (decide (A = B))) ∧ Below w.heap.size w w' := by
  have HA := Lib.hid ha
  have HB := Lib.hid hb
  clear ha hb
  by_cases hl : A.length = B.length
  · have hI : (A.length : Int) = (B.length : Int) := by omega
    have HL := Lib.hid hl
    clear hl
    go_enter Try.func9, Try.ntmps9
    go_wp2_with fail
    go_loopw [13] (fun iv wr => ∃ i : Nat, i ≤ A.length ∧ iv = .int .i64 i ∧ Hid (A.take i = B.take i) ∧ ∃ m, wr = w.drewN m) (fun i _ => A.length - (intOf i).toNat)
    case atStart => exact ⟨0, by omega, rfl, Lib.hid rfl, 0, rfl⟩
    case round =>
      obtain ⟨i, hi, rfl, HT, m, rfl⟩ := hrel
      by_cases hlt : i < A.length
      · obtain ⟨x, hx⟩ : ∃ x, A[i]? = some x := ⟨_, List.getElem?_eq_getElem hlt⟩
        obtain ⟨y, hy⟩ : ∃ y, B[i]? = some y := ⟨_, List.getElem?_eq_getElem (by have := HL.out; omega)⟩
        obtain ⟨gx, ox, rfl, x0, x1, x2⟩ := HA.out i x hx
        obtain ⟨gy, oy, rfl, y0, y1, y2⟩ := HB.out i y hy
        have hlt1 : (i : Int) < (A.length : Int) := by omega
        have hlt2 : (i : Int) < (B.length : Int) := by omega
        have HX := Lib.hid (And.intro hx hy)
        have heq := eq_sn_of x y
        clear hx hy
        by_cases hxy : x = y
        · rw [decide_eq_true hxy] at heq
          have HXY := Lib.hid hxy
          obtain ⟨f, s, p⟩ := x
          obtain ⟨g, t, q⟩ := y
          simp only at x0 x1 x2 y0 y1 y2 heq
          clear hxy
          go_wp2_with fail
          go_quiet (fail)
          go_wp2_with fail
          go_roundw
          case rel => exact ⟨i + 1, by omega, by go_num, Lib.hid (by rw [List.take_add_one, List.take_add_one, HX.out.1, HX.out.2, HT.out, HXY.out]), _, rfl⟩
          case measure => simp [intOf]; omega
        · rw [decide_eq_false hxy] at heq
          have HXY := Lib.hid hxy
          have HD := Lib.hid (show A ≠ B from fun e => hxy (by have := HX.out.1; rw [e, HX.out.2] at this; simpa using this.symm))
          obtain ⟨f, s, p⟩ := x
          obtain ⟨g, t, q⟩ := y
          simp only at x0 x1 x2 y0 y1 y2 heq
          clear hxy
          go_wp2_with fail
          go_quiet (fail)
          go_wp2_with fail
          go_ret
          have := HD.out
          exact ⟨by simp [this], below_drawn (below_drawn (Below.refl _ _) _) _⟩
      · go_wp2_with fail
        go_ret
        have : A = B := by
          have := HT.out
          rwa [List.take_of_length_le (by omega), List.take_of_length_le (by have := HL.out; omega)] at this
        exact ⟨by simp [this], below_drawn (Below.refl _ _) _⟩
  · have hI : (A.length : Int) ≠ (B.length : Int) := by omega
    have : A ≠ B := fun e => hl (by rw [e])
    have HD := Lib.hid this
    clear hl this
    go_enter Try.func9, Try.ntmps9
    go_wp2_with fail
    go_ret
    have := HD.out
    exact ⟨by simp [this], Below.refl _ _⟩
end Go.Proofs.Ytgponhdmhgdalaa
