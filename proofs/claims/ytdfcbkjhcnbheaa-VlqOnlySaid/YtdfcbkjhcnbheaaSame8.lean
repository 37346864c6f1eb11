/-
  The reference of layer 8: are two rows of numbers the same, and a copy. Over the program's own text.
-/
import Derived.Test.YtdfcbkjhcnbheaaNums
import Derived.BigQuiet
import Derived.Laws.CopyOwn
namespace Go.Proofs.Ytdfcbkjhcnbheaa
open Go.RowKit

set_option maxRecDepth 100000 in
set_option maxHeartbeats 1000000 in
theorem same8_at (w : World) (oa ob : Option Addr) (ca cb na nb : Nat) (A B : List Nat) (ea : A.length = na) (eb : B.length = nb) (ha : ReadN .u8 w oa A) (hb : ReadN .u8 w ob B) (hn : na ≤ 1000000) :
    Calls Try.prog 11 #[.slice oa na ca, .slice ob nb cb] w fun e w' => e = .returned (.bool (decide (A = B))) ∧ Below w.heap.size w w' := by
  subst ea eb
  have HA := Lib.hid ha
  have HB := Lib.hid hb
  clear ha hb
  by_cases hl : A.length = B.length
  · have hI : (A.length : Int) = (B.length : Int) := by omega
    have HL := Lib.hid hl
    clear hl
    go_enter Try.func11, Try.ntmps11
    go_wp2_with fail
    go_loopw [13] (fun iv wr => ∃ i : Nat, i ≤ A.length ∧ iv = .int .i64 i ∧ Hid (A.take i = B.take i) ∧ ∃ m, wr = w.drewN m) (fun i _ => A.length - (intOf i).toNat)
    case atStart => exact ⟨0, by omega, rfl, Lib.hid rfl, 0, rfl⟩
    case round =>
      obtain ⟨i, hi, rfl, HT, m, rfl⟩ := hrel
      by_cases hlt : i < A.length
      · obtain ⟨x, hx⟩ : ∃ x, A[i]? = some x := ⟨_, List.getElem?_eq_getElem hlt⟩
        obtain ⟨y, hy⟩ : ∃ y, B[i]? = some y := ⟨_, List.getElem?_eq_getElem (by have := HL.out; omega)⟩
        obtain ⟨gx, ox, rfl, cx⟩ := HA.out i x hx
        obtain ⟨gy, oy, rfl, cy⟩ := HB.out i y hy
        have hlt1 : (i : Int) < (A.length : Int) := by omega
        have hlt2 : (i : Int) < (B.length : Int) := by omega
        have HX := Lib.hid (And.intro hx hy)
        clear hx hy
        by_cases hxy : x = y
        · subst hxy
          have hd : ((x : Int) != (x : Int)) = false := by simp
          go_wp2_with fail
          go_quiet (fail)
          go_wp2_with fail
          go_roundw
          case rel => exact ⟨i + 1, by omega, by go_num, Lib.hid (by rw [List.take_add_one, List.take_add_one, HX.out.1, HX.out.2, HT.out]), _, rfl⟩
          case measure => simp [intOf]; omega
        · have hd : ((x : Int) != (y : Int)) = true := bne_iff_ne.2 (by omega)
          go_wp2_with fail
          go_quiet (fail)
          go_wp2_with fail
          go_ret
          have : A ≠ B := fun e => hxy (by have := HX.out.1; rw [e, HX.out.2] at this; simpa using this.symm)
          exact ⟨by simp [this], below_drawn (below_drawn (Below.refl _ _) _) _⟩
      · go_wp2_with fail
        go_ret
        have : A = B := by
          have := HT.out
          rwa [List.take_of_length_le (by omega), List.take_of_length_le (by have := HL.out; omega)] at this
        exact ⟨by simp [this], below_drawn (Below.refl _ _) _⟩
  · have hI : (A.length : Int) ≠ (B.length : Int) := by omega
    have : A ≠ B := fun e => hl (by rw [e])
    have HD := Lib.hid this
    clear hl this
    go_enter Try.func11, Try.ntmps11
    go_wp2_with fail
    go_ret
    exact ⟨by simp [HD.out], Below.refl _ _⟩

theorem open_u8 {H : Type} {enc : TypeId × Value → H} {W : World} {v : Value} {d : DataW H} {p : List MemPlace} {base : Nat} (hv : Value.okWide Try.prog W .any base 23 v) (h : DataW.Trod enc Try.prog W 0 (fun _ => true) true 23 v d p) :
    ∃ ao L cap, v = .slice ao L.length cap ∧ ReadN .u8 W ao L ∧ L.length ≤ cap ∧ cap ≤ maxLen ∧ (ao = none → cap = 0) ∧ ∀ x ∈ L, x < 256 := open_nums (k := .u8) rfl Try.underlying23 Try.underlying5 (by kernel_rfl) hv h
theorem append_u8 {w W : World} {ops : Array Oper} {rest : List Oper} {o : Oper} {a : Act} {Q : Exit → Act → World → Prop} (hgd : o.guard = none) (s x : Operand) (hop : o.op = .call { callee := .builtin .append, args := #[s, x], argTypes := #[23, 23] })
    (v : Value) (A B : List Nat) (hs : a.eval s = v) (hlow : Below W.heap.size W w) (hown : OwnN 5 .u8 w W.heap.size v A) (oa : Option Addr) (c n : Nat) (hn : B.length = n) (hx : a.eval x = .slice oa n c) (hB : ReadN .u8 w oa B) (h0 : oa = none → c = 0) (hc : n ≤ c) (hl : A.length + n ≤ 1000000)
    (h : ∀ v' w', OwnN 5 .u8 w' W.heap.size v' (A ++ B) ∧ Below W.heap.size W w' → w.grownBy w' v.ownBlock → wpList Try.prog ops Q rest (a.put o.dst v') w') : wpList Try.prog ops Q (o :: rest) a w := by
  obtain ⟨i0, hi, hz0, hz1, hz2⟩ := info_parts info_u8
  exact append_nums hgd s x 23 5 .u8 i0 _ 1 hop Try.underlying23 hi hz0 hz1 hz2 rfl (by decide) v A B hs hlow hown oa c n hn hx hB h0 hc hl h
theorem size_u8 : (Try.prog.info? 5).map (·.size) = some 1 := by kernel_rfl
theorem made_u8 (n : Nat) : madeCells (Value.cells (.int .u8 0)) n = (numC .u8 (List.replicate n 0)).toArray := by
  apply Array.ext
  · simp [madeCells, numC, Value.cells]
  · intro i h1 h2
    simp [madeCells, Value.cells, numC]
    try simp [Nat.mod_one]
theorem make_u8 (n : Nat) (h2 : n ≤ 1000000) (w : World) : (Instr.makeSlice 23 (.int .i64 n) (.int .i64 n)).run Try.prog w = .ok (.slice (some ⟨w.heap.size, 0, none⟩) n n) (w.alloc (.cells (numC .u8 (List.replicate n 0)).toArray 5)) := by
  obtain ⟨i0, hi, hz0, hz1, hz2⟩ := info_parts info_u8
  have := run_make (P := Try.prog) w 23 5 i0 _ Try.underlying23 hi hz0 .i64 .i64 n n (by omega) (by omega) (by rw [hz2]; omega) (by omega)
  rw [this, hz1, made_u8]
  simp

set_option maxRecDepth 100000 in
set_option maxHeartbeats 1000000 in
theorem copy8_at (w : World) (oa : Option Addr) (c n : Nat) (L : List Nat) (en : L.length = n) (hl : n ≤ 1000000) (ha : ReadN .u8 w oa L) :
    Calls Try.prog 13 #[.slice oa n c] w fun e w' => e = .returned (.slice (some ⟨w.heap.size, 0, none⟩) n n) ∧ ReadN .u8 w' (some ⟨w.heap.size, 0, none⟩) L ∧ Below w.heap.size w w' := by
  have hmk := make_u8 n hl
  have HA := Lib.hid (ha.alloc (.cells (numC .u8 (List.replicate n 0)).toArray 5))
  have HO := Lib.hid (numC_one .u8 L)
  have HN := Lib.hid en
  clear ha en
  have H1 := Lib.hid (show (numC .u8 L).length = Nat.min n n by rw [numC_length, HN.out]; simp)
  have H3 := Lib.hid (show 0 + (numC .u8 L).length ≤ (numC .u8 (List.replicate n 0)).length by rw [numC_length, numC_length, HN.out]; simp)
  have H2 := Lib.hid (show 0 < (numC .u8 L).length → ∃ ad, oa = some ad ∧ ∀ j v, (numC .u8 L)[j]? = some v → (w.alloc (.cells (numC .u8 (List.replicate n 0)).toArray 5)).cell? (ad.add j) = some v from by
    intro hp
    rw [numC_length] at hp
    obtain ⟨g, o, e, _⟩ := HA.out 0 _ (List.getElem?_eq_getElem hp)
    refine ⟨⟨g, o, none⟩, e, fun j v hj => ?_⟩
    unfold numC at hj
    rw [List.getElem?_map] at hj
    obtain ⟨x, hx, rfl⟩ := Option.map_eq_some_iff.1 hj
    obtain ⟨g2, o2, e2, hc⟩ := HA.out j x hx
    cases e.symm.trans e2
    rw [Addr.add_lit]
    exact hc)
  go_enter Try.func13, Try.ntmps13
  go_wp2_with (with_reducible refine wpList_copy_splice rfl (.tmp 7) (.tmp 8) 23 23 rfl 5 Try.underlying23 size_u8 _ _ _ _ _ _ rfl rfl w.heap.size 0 (numC .u8 (List.replicate n 0)) 5 (heap_alloc_new w _) (numC .u8 L) H1.out (fun hp => ⟨rfl, H2.out hp⟩) H3.out HO.out w.heap.size w (low_new (Below.refl _ _)) (Nat.le_refl _) ?_)
  intro w2 hg2 hb2
  have HG := Lib.hid hg2.out
  have HB := Lib.hid hb2
  clear hg2 hb2
  go_wp2_with fail
  go_ret
  refine ⟨rfl, fun j x hj => ⟨_, _, rfl, ?_⟩, HB.out⟩
  rw [Lib.cell_of_heap HG.out]
  have e : splice (numC .u8 (List.replicate n 0)) 0 (numC .u8 L) = numC .u8 L := by
    unfold splice
    rw [List.take_zero, List.nil_append, List.drop_eq_nil_of_le (by rw [numC_length, numC_length, HN.out]; simp), List.append_nil]
  rw [e]
  simpa using numC_get hj
end Go.Proofs.Ytdfcbkjhcnbheaa
