/-
  The landed code of layer 13: cells read as a list, and Decode. Over the program's own text.
-/
import Derived.Test.YtpmhkmakkeckkaaBlkDecA
import Derived.Test.YtpmhkmakkeckkaaSame32
import Derived.Laws.IdiomStrings
namespace Go.Proofs.Ytpmhkmakkeckkaa
open Go.RowKit

set_option maxRecDepth 100000 in
set_option maxHeartbeats 1000000 in
theorem lands_equal (w : World) (oa ob : Option Addr) (ca cb na nb : Nat) (A B : List Nat) (ea : A.length = na) (eb : B.length = nb) (ha : ReadN .u32 w oa A) (hb : ReadN .u32 w ob B) (hn : na ≤ 1000000) :
    Calls Try.prog 55 #[.slice oa na ca, .slice ob nb cb] w fun e w' => e = .returned (.bool (decide (A = B))) ∧ Below w.heap.size w w' := by
  subst ea eb
  have HA := Lib.hid ha
  have HB := Lib.hid hb
  clear ha hb
  by_cases hl : A.length = B.length
  · have hI : (A.length : Int) = (B.length : Int) := by omega
    have HL := Lib.hid hl
    clear hl
    go_enter Try.func55, Try.ntmps55
    go_wp2_with fail
    go_loopw [13] (fun iv wr => ∃ i : Nat, i ≤ A.length ∧ iv = .int .i64 i ∧ Hid (A.take i = B.take i) ∧ ∃ m, wr = w.drewN m) (fun i _ => A.length - (intOf i).toNat)
    case atStart => exact ⟨0, by omega, rfl, Lib.hid rfl, 0, rfl⟩
    case round =>
      obtain ⟨i, hi, rfl, HT, m, rfl⟩ := hrel
      by_cases hlt : i < A.length
      · obtain ⟨x, hx⟩ : ∃ x, A[i]? = some x := ⟨_, List.getElem?_eq_getElem hlt⟩
        obtain ⟨y, hy⟩ : ∃ y, B[i]? = some y := ⟨_, List.getElem?_eq_getElem (by have := HL.out; omega)⟩
        obtain ⟨gx, ox, rfl, cx⟩ := HA.out i x hx
        obtain ⟨gy, oy, rfl, cy⟩ := HB.out i y hy
        have hlt1 : (i : Int) < (A.length : Int) := by omega
        have hlt2 : (i : Int) < (B.length : Int) := by omega
        have HX := Lib.hid (And.intro hx hy)
        clear hx hy
        by_cases hxy : x = y
        · subst hxy
          have hd : ((x : Int) != (x : Int)) = false := by simp
          go_wp2_with fail
          go_quiet (fail)
          go_wp2_with fail
          go_roundw
          case rel => exact ⟨i + 1, by omega, by go_num, Lib.hid (by rw [List.take_add_one, List.take_add_one, HX.out.1, HX.out.2, HT.out]), _, rfl⟩
          case measure => simp [intOf]; omega
        · have hd : ((x : Int) != (y : Int)) = true := bne_iff_ne.2 (by omega)
          go_wp2_with fail
          go_quiet (fail)
          go_wp2_with fail
          go_ret
          have : A ≠ B := fun e => hxy (by have := HX.out.1; rw [e, HX.out.2] at this; simpa using this.symm)
          exact ⟨by simp [this], below_drawn (below_drawn (Below.refl _ _) _) _⟩
      · go_wp2_with fail
        go_ret
        have : A = B := by
          have := HT.out
          rwa [List.take_of_length_le (by omega), List.take_of_length_le (by have := HL.out; omega)] at this
        exact ⟨by simp [this], below_drawn (Below.refl _ _) _⟩
  · have hI : (A.length : Int) ≠ (B.length : Int) := by omega
    have : A ≠ B := fun e => hl (by rw [e])
    have HD := Lib.hid this
    clear hl this
    go_enter Try.func55, Try.ntmps55
    go_wp2_with fail
    go_ret
    exact ⟨by simp [HD.out], Below.refl _ _⟩

set_option maxRecDepth 100000 in
theorem size_word (w : World) : (Go.sizeOf 47).run Try.prog w = .ok 1 w := by kernel_rfl
set_option maxRecDepth 100000 in
theorem elem_words : Try.prog.elem 26 = 47 := by kernel_rfl
set_option maxRecDepth 100000 in
theorem under_words : Try.prog.underlying 26 = some (.slice (Try.prog.elem 26)) := by rw [elem_words]; exact Try.underlying26
set_option maxRecDepth 100000 in
theorem slice32_from {W : World} {oa : Option Addr} {L : List Nat} (n c a m : Nat) (hn : L.length = n) (ha : a + m = n) (hc : n ≤ c) (hm : c ≤ maxLen) (h : ReadN .u32 W oa L) :
    ∃ ob d, (∀ w : World, (Instr.slice 26 (.slice oa n c) (some (.int .i64 (a : Int))) none none).run Try.prog w = .ok (.slice ob m d) w) ∧ m ≤ d ∧ d ≤ maxLen ∧ ReadN .u32 W ob (L.drop a) := by
  refine ⟨if c = a then oa else oa.map (·.add a), c - a, fun w => ?_, by omega, by omega, ?_⟩
  · rw [run_slice_l w 26 oa n c under_words .i64 (a : Int) (by omega) (by omega), elem_words, size_word]
    have e : ((a : Int)).toNat = a := by omega
    have e2 : n - a = m := by omega
    simp [Result.andThen, sliced, e, e2]
  · intro j x hj
    have hj2 : L[a + j]? = some x := by rw [List.getElem?_drop] at hj; exact hj
    have hlt := (List.getElem?_eq_some_iff.1 hj2).1
    obtain ⟨g, o, rfl, hc2⟩ := h _ x hj2
    rw [if_neg (by omega)]
    exact ⟨g, o + a, by rw [Option.map_some, Addr.add_lit], by rw [show o + a + j = o + (a + j) by omega]; exact hc2⟩
set_option maxRecDepth 100000 in
/-- A text's bytes as a row of bytes. -/
theorem bytes_of (w : World) (s : ByteArray) (hs : s.size ≤ 1000000) : ∃ cap w', (convert 9 46 (.string s)).run Try.prog w = .ok (.slice (some ⟨w.heap.size, 0, none⟩) s.size cap) w' ∧ w'.heap.size = w.heap.size + 1 ∧ s.size ≤ cap ∧ cap ≤ maxLen ∧ ReadN .u8 w' (some ⟨w.heap.size, 0, none⟩) (bytesL s) ∧ Below w.heap.size w w' := by
  have h := run_bytes_of_string (P := Try.prog) w 9 46 5 s Try.underlying9 Try.underlying46 Try.underlying5
  refine ⟨_, _, h, by simp, grownCap_ge _ _ _ _, grownCap_le_maxLen _ _ _ _ (by unfold maxLen; omega), fun j x hj => ⟨_, _, rfl, ?_⟩, (Below.refl _ _).drew.alloc (Nat.le_refl _) _⟩
  show World.cell? _ ⟨w.drew.heap.size, 0 + j, none⟩ = _
  rw [Lib.cell_of_heap (heap_alloc_new w.drew _)]
  have hlt := (List.getElem?_eq_some_iff.1 hj).1
  rw [bytesL_length] at hlt
  unfold bytesL at hj
  rw [List.getElem?_map] at hj
  obtain ⟨b, hb, rfl⟩ := Option.map_eq_some_iff.1 hj
  have hb2 : s.data[j]? = some b := by simpa using hb
  unfold bytesRow
  rw [Nat.zero_add, Array.getElem?_append_left (by simpa using hlt)]
  simp [hb2]
set_option maxRecDepth 100000 in
theorem OwnE.mod {w w' : World} {base q : Nat} {v : Value} {l : List En} (h : OwnE w base v l) (hm : ∀ k, k < w.heap.size → k ≠ q → w'.heap[k]? = w.heap[k]?) {c : Array Value} (hq : w.heap[q]? = some (.cells c 97 (0, 0))) : OwnE w' base v l := by
  obtain ⟨ps, h1, h2, h3⟩ := h
  refine ⟨ps, h1, row_mod h2 hm hq (by decide), fun j e hj => ?_⟩
  obtain ⟨u, h4, h5⟩ := h3 j e hj
  exact ⟨u, h4, row_mod h5 hm hq (by decide)⟩
set_option maxRecDepth 100000 in
theorem own_base {w : World} {base base' size n : Nat} {e : TypeId} {v : Value} {xs : List Value} (h : w.ownsRow base e size v n xs) (hb : base' ≤ base) : w.ownsRow base' e size v n xs := by
  obtain ⟨h0, h | ⟨g, cap, cur, k1, k2, k3⟩⟩ := h
  · exact ⟨h0, .inl h⟩
  · exact ⟨h0, .inr ⟨g, cap, cur, k1, Nat.le_trans hb k2, k3⟩⟩
set_option maxRecDepth 100000 in
theorem info_ent : (Try.prog.info? 52).map (fun i => (i.zero, i.size, i.bytes)) = some (some (.agg #[.int .i64 0, .slice none 0 0]), 2, 32) := by kernel_rfl
set_option maxRecDepth 100000 in
theorem two_cell {w : World} {u v : Value} {t : TypeId} : ∀ (j : Nat) (x : Value), [u, v][j]? = some x → (w.alloc (.cells #[u, v] t)).cell? ((⟨w.heap.size, 0, none⟩ : Addr).add j) = some x := by
  intro j x hj
  rw [Addr.add_lit, Lib.cell_of_heap (heap_alloc_new w _)]
  simpa using hj
set_option maxRecDepth 100000 in
theorem OwnE.push_from {W w w8 : World} {base B : Nat} {v v' u : Value} {ps : List Value} {l : List En} {e : En} (hB : B ≤ base) (hbs : B ≤ w.heap.size) (hl : Below B W w) (h0 : ps.length = l.length) (h1 : w.ownsRow base 52 2 v l.length (entC l ps)) (h2 : ∀ (j : Nat) (e : En), l[j]? = some e → ∃ u, ps[j]? = some u ∧ OwnZ w base u e.2)
    (hu : OwnZ w base u e.2) (ho : w8.ownsRow base 52 2 v' (l.length + 1) (entC l ps ++ [.int .i64 e.1, u])) (hg : w.grownBy w8 v.ownBlock) : OwnE w8 base v' (l ++ [e]) ∧ Below B W w8 := by
  refine ⟨⟨ps ++ [u], by simp [h0], ?_, fun j x hj => ?_⟩, hl.grown hg hbs (fun k hk => Nat.le_trans hB (World.ownsRow.lt h1 k hk).1)⟩
  · rw [entC_snoc l ps e u h0, List.length_append]
    exact ho
  · by_cases hj2 : j < l.length
    · rw [List.getElem?_append_left hj2] at hj
      obtain ⟨q, hq, hq2⟩ := h2 j x hj
      exact ⟨q, by rw [List.getElem?_append_left (by omega)]; exact hq, row_grown h1 hg hq2 (by decide)⟩
    · have hjl : j = l.length := by
        have := (List.getElem?_eq_some_iff.1 hj).1
        simp at this
        omega
      subst hjl
      simp at hj
      subst hj
      exact ⟨u, by rw [← h0]; simp, row_grown h1 hg hu (by decide)⟩

set_option maxRecDepth 100000 in
theorem OwnE.base {w : World} {base base' : Nat} {v : Value} {l : List En} (h : OwnE w base v l) (hb : base' ≤ base) : OwnE w base' v l := by
  obtain ⟨ps, h1, h2, h3⟩ := h
  refine ⟨ps, h1, own_base h2 hb, fun j e hj => ?_⟩
  obtain ⟨u, h4, h5⟩ := h3 j e hj
  exact ⟨u, h4, own_base h5 hb⟩
/-- What is read so far. -/
structure RdI (W : World) (q : Nat) (v : Value) (acc : List En) (M : List Nat) (w : World) : Prop where
  own : OwnE w (q + 1) v acc
  nb : NB w q M
  low : Below W.heap.size W w
set_option maxRecDepth 100000 in
theorem all_getD {L : List Nat} {n : Nat} (h : ∀ x ∈ L, x < n) (h0 : 0 < n) : L.getD 0 0 < n := by
  cases L with
  | nil => simpa using h0
  | cons x L => exact h x (by simp)
set_option maxRecDepth 100000 in
theorem entR_doc (a : Int) (L : List Nat) (hb : ∀ x ∈ L, x < 256) (h0 : 0 ≤ a) : 0 ≤ (entR a L).1.1 ∧ (entR a L).1.1 ≤ a + 4294967296 := by
  have := (next_lt hb).1
  show 0 ≤ a + ((nextN L).1 : Int) ∧ a + ((nextN L).1 : Int) ≤ _
  omega
set_option maxRecDepth 100000 in
theorem posR_rest : ∀ (n : Nat) (a : Int) (L : List Nat), (∀ x ∈ L, x < 256) → ∀ x ∈ (posR n a L).2, x < 256
  | 0, _, _, h => h
  | n + 1, _, _, h => posR_rest n _ _ fun x hx => h x (List.mem_of_mem_drop hx)
set_option maxRecDepth 100000 in
theorem entR_rest (a : Int) (L : List Nat) (h : ∀ x ∈ L, x < 256) : ∀ x ∈ (entR a L).2, x < 256 :=
  posR_rest _ _ _ fun x hx => h x (List.mem_of_mem_drop (List.mem_of_mem_drop hx))

set_option maxRecDepth 100000 in
set_option maxHeartbeats 4000000 in
theorem lands_read13 (W : World) (oa : Option Addr) (c N : Nat) (C : List Nat) (en : C.length = N) (ha : ReadN .u32 W oa C) (hc : N ≤ c) (hm : c ≤ maxLen) (hl : N ≤ 200000) (hx : ∀ x ∈ C, x < 4294967296) :
    Calls Try.prog 54 #[.slice oa N c] W fun e w' => ∃ v, e = .returned v ∧ OwnE w' W.heap.size v (readN C) ∧ Below W.heap.size W w' := by
  by_cases h0 : N = 0
  · have hr : readN C = [] := by
      have : C = [] := List.eq_nil_of_length_eq_zero (by omega)
      subst this
      rfl
    rw [hr]
    subst h0
    clear ha hr en
    go_enter Try.func54, Try.ntmps54
    go_wp2_with fail
    go_ret
    exact ⟨_, rfl, OwnE.nil _ _, Below.refl _ _⟩
  obtain ⟨n, hn⟩ : ∃ n, C.getD 0 0 = n := ⟨_, rfl⟩
  obtain ⟨g, o, rfl, c0⟩ := ha 0 n (by rw [← hn, List.getD_eq_getElem?_getD, List.getElem?_eq_getElem (by omega)]; rfl)
  rw [Nat.add_zero] at c0
  have hnlt : n < 4294967296 := by rw [← hn]; exact all_getD hx (by omega)
  have h0i : ((N : Int) == 0) = false := beq_eq_false_iff_ne.2 (by omega)
  by_cases h64 : 64 < n
  · have hr : readN C = [] := by unfold readN; rw [if_pos (.inr (.inl (by rw [hn]; exact h64)))]
    have HR := Lib.hid hr
    have h64i : (64 : Int) < (n : Int) := by omega
    have hN0 : (0 : Int) < (N : Int) := by omega
    clear ha hr en hx hn
    go_enter Try.func54, Try.ntmps54
    go_wp2_with fail
    go_ret
    exact ⟨_, rfl, by rw [HR.out]; exact OwnE.nil _ _, Below.refl _ _⟩
  have h64i : ¬ (64 : Int) < (n : Int) := by omega
  have hN0 : (0 : Int) < (N : Int) := by omega
  obtain ⟨k, hk⟩ : ∃ k, (n + 3) / 4 = k := ⟨_, rfl⟩
  obtain ⟨h, hh⟩ : ∃ h, 1 + k = h := ⟨_, rfl⟩
  have hfrom : fromN C = h := by unfold fromN; rw [hn, hk, hh]
  obtain ⟨n4, hn4⟩ : ∃ n4, n + 4 = n4 := ⟨_, rfl⟩
  obtain ⟨n3, hn3⟩ : ∃ n3, n + 3 = n3 := ⟨_, rfl⟩
  have s0 : IntKind.i64.wrap (n : Int) = (n : Int) := IntWalk.i64_in _ (by omega)
  have s1 : (n : Int) + 4 = (n4 : Int) := by omega
  have s2 : IntKind.i64.wrap (n4 : Int) = (n4 : Int) := IntWalk.i64_in _ (by omega)
  have s3 : (n4 : Int) - 1 = (n3 : Int) := by omega
  have s4 : IntKind.i64.wrap (n3 : Int) = (n3 : Int) := IntWalk.i64_in _ (by omega)
  have s5 : (n3 : Int) / 4 = (k : Int) := by omega
  have s6 : (n3 : Int).tdiv 4 = (k : Int) := by rw [Int.tdiv_eq_ediv_of_nonneg (by omega)]; exact s5
  have s7 : 1 + (k : Int) = (h : Int) := by omega
  have s8 : IntKind.i64.wrap (h : Int) = (h : Int) := IntWalk.i64_in _ (by omega)
  have s9 : IntKind.i64.wrap (k : Int) = (k : Int) := IntWalk.i64_in _ (by omega)
  by_cases hsh : N < h
  · have hr : readN C = [] := by unfold readN; rw [if_pos (.inr (.inr (by rw [hfrom, en]; exact hsh)))]
    have HR := Lib.hid hr
    have hshi : (N : Int) < (h : Int) := by omega
    clear ha hr en hx hn hk hh hn4 hn3 hfrom
    go_enter Try.func54, Try.ntmps54
    go_wp2_with fail
    go_ret
    exact ⟨_, rfl, by rw [HR.out]; exact OwnE.nil _ _, Below.refl _ _⟩
  have hshi : ¬ (N : Int) < (h : Int) := by omega
  obtain ⟨m, hm2⟩ : ∃ m, h + m = N := ⟨N - h, by omega⟩
  obtain ⟨o2, c2, hsl, d1, d2, hrd⟩ := slice32_from N c h m en hm2 hc hm ha
  have hdl : (C.drop h).length = m := by rw [List.length_drop]; omega
  obtain ⟨m4, hm4⟩ : ∃ m4, 4 * m = m4 := ⟨_, rfl⟩
  have t1 : 4 * (m : Int) = (m4 : Int) := by omega
  have t2 : IntKind.i64.wrap (m4 : Int) = (m4 : Int) := IntWalk.i64_in _ (by omega)
  have hE : bytesE (C.drop h) (m4 : Int) = 0 := by unfold bytesE; rw [if_neg (by omega), if_neg (by omega)]
  obtain ⟨L0, hL0⟩ : ∃ L0, bytesC (C.drop h) = L0 := ⟨_, rfl⟩
  have hLb : ∀ x ∈ L0, x < 256 := by rw [← hL0]; exact bytesC_lt _
  have hLl : L0.length = m4 := by rw [← hL0, bytesC_length]; omega
  obtain ⟨S, hS⟩ : ∃ S, S = byteText L0 := ⟨_, rfl⟩
  have hSb : bytesL S = L0 := by rw [hS]; exact bytesL_byteText _ hLb
  have hSs : S.size = m4 := by rw [← bytesL_length, hSb, hLl]
  have hX : bytesX (C.drop h) (m4 : Int) = S := by
    unfold bytesX
    rw [if_pos hE, hS, hL0, Int.toNat_natCast, List.take_of_length_le (by omega)]
  have HBy := Lib.hid (lands_bytes W o2 c2 m (C.drop h) (m4 : Int) hdl hrd d1 d2 (by omega) (fun x hx' => hx x (List.mem_of_mem_drop hx')) (by omega) (by omega))
  rw [hE, hX] at HBy
  have hgood : ¬ badC C := by
    unfold badC
    rw [hn, hfrom]
    rintro (c | c | c)
    · rw [c] at en; simp at en; omega
    · exact h64 c
    · omega
  have HOut := Lib.hid (show readN C = readR n [] L0 by unfold readN; rw [if_neg hgood, hn, hfrom, hL0])
  have HSb := Lib.hid hSb
  have HSs := Lib.hid (show S.size ≤ 1000000 by omega)
  have HLb := Lib.hid hLb
  have hm4b : m4 ≤ 800000 := by omega
  have h64n : n ≤ 64 := by omega
  obtain ⟨iE, e0, e1, e2, e3⟩ := info_parts info_ent
  have HIE := Lib.hid (And.intro e0 (And.intro e1 (And.intro e2 e3)))
  clear ha hx en hn hk hh hn4 hn3 hfrom hm2 hrd hdl hm4 hE hL0 hLb hLl hS hSb hSs hX hgood d1 d2 e0 e1 e2 e3 h0 h64
  go_enter Try.func54, Try.ntmps54
  go_wp2_with fail
  refine HBy.out.mono ?_; rintro e w1 ⟨rfl, hb⟩
  obtain ⟨cb, wb, hcv, hws, hc1, hc2, hrb, hbb⟩ := bytes_of w1 S HSs.out
  have HRb := Lib.hid hrb
  have HLow := Lib.hid (low_more hb hbb)
  have HNum := Lib.hid (And.intro hws (And.intro hc1 (And.intro hc2 hb.size)))
  clear hb hrb hbb hws hc1 hc2 c0
  go_wp2_with fail
  have HI0 := Lib.hid (show RdI W wb.heap.size (.slice none 0 0) [] L0 (wb.alloc (.cells #[.slice (some ⟨w1.heap.size, 0, none⟩) S.size cb] 97)) from
    ⟨OwnE.nil _ _, ⟨_, _, _, heap_alloc_new wb _, by rw [← HSb.out, bytesL_length], HNum.out.2.1, HNum.out.2.2.1, HSs.out, (HSb.out ▸ HRb.out).below below_one, HLb.out, fun g o e _ => by injection e with e; injection e with e; have := HNum.out.1; omega⟩, low_new HLow.out⟩)
  obtain ⟨q, hq⟩ : ∃ q, q = wb.heap.size := ⟨_, rfl⟩
  have hqW : W.heap.size ≤ q := by have := HNum.out.1; have := HNum.out.2.2.2; omega
  rw [← hq] at HI0 ⊢
  generalize wb.alloc (.cells #[.slice (some ⟨w1.heap.size, 0, none⟩) S.size cb] 97) = w2 at HI0 ⊢
  clear hq HRb HLow hcv
  go_loopw [9, 49] (fun lv iv wr => ∃ (i : Nat) (acc : List En) (M : List Nat), i ≤ n ∧ iv = .int .i64 (i : Int) ∧ Hid (acc.length = i ∧ (∀ x ∈ M, x < 256) ∧ readR (n - i) acc M = readR n [] L0 ∧ ∀ j, j < i → 0 ≤ (enAt acc j).1 ∧ (enAt acc j).1 ≤ 4294967296 * ((j : Int) + 1)) ∧ RdI W q lv acc M wr) (fun _ iv _ => n - (intOf iv).toNat)
  case atStart => exact ⟨0, [], L0, by omega, rfl, Lib.hid ⟨rfl, HLb.out, rfl, fun j hj => absurd hj (by omega)⟩, HI0.out⟩
  case round =>
    obtain ⟨i, acc, M, hi, rfl, HR, hI⟩ := hrel
    have HIr := Lib.hid hI
    clear hI
    by_cases hlt : i < n
    · have hlt1 : (i : Int) < (n : Int) := by omega
      obtain ⟨hal, hmb, hrr, hdoc⟩ := HR.out
      obtain ⟨j, hj⟩ : ∃ j, n - i = j + 1 := ⟨n - i - 1, by omega⟩
      rw [hj] at hrr
      simp only [readR] at hrr
      rw [hal] at hrr
      obtain ⟨a, hAh⟩ : ∃ a, aheadD acc i = a := ⟨_, rfl⟩
      rw [hAh] at hrr
      have hab : 0 ≤ a ∧ a ≤ 4294967296 * (i : Int) := by
        rw [← hAh]
        unfold aheadD
        split
        · omega
        · rename_i h4
          have := hdoc (i - 1) (by omega)
          omega
      have hed := entR_doc a M hmb hab.1
      have her := entR_rest a M hmb
      obtain ⟨d, hd⟩ : ∃ d, (entR a M).1.1 = d := ⟨_, rfl⟩
      obtain ⟨ps, hps⟩ : ∃ ps, (entR a M).1.2 = ps := ⟨_, rfl⟩
      obtain ⟨M2, hM2⟩ : ∃ M2, (entR a M).2 = M2 := ⟨_, rfl⟩
      rw [hd] at hed
      rw [hM2] at her hrr
      rw [show (entR a M).1 = (d, ps) from Prod.ext hd hps] at hrr
      have HNx := Lib.hid (show (acc ++ [(d, ps)]).length = i + 1 ∧ (∀ x ∈ M2, x < 256) ∧ readR (n - (i + 1)) (acc ++ [(d, ps)]) M2 = readR n [] L0 ∧ ∀ t, t < i + 1 → 0 ≤ (enAt (acc ++ [(d, ps)]) t).1 ∧ (enAt (acc ++ [(d, ps)]) t).1 ≤ 4294967296 * ((t : Int) + 1) from by
        refine ⟨by simp [hal], her, by rw [show n - (i + 1) = j by omega]; exact hrr, fun t ht => ?_⟩
        by_cases hti : t < i
        · have := hdoc t hti
          have e : enAt (acc ++ [(d, ps)]) t = enAt acc t := by unfold enAt; rw [List.getD_eq_getElem?_getD, List.getD_eq_getElem?_getD, List.getElem?_append_left (by omega)]
          rw [e]; exact this
        · obtain rfl : t = i := by omega
          have e : enAt (acc ++ [(d, ps)]) t = (d, ps) := enAt_some (by rw [List.getElem?_append_right (by omega), hal, Nat.sub_self]; rfl)
          rw [e]
          exact ⟨hed.1, by show d ≤ _; omega⟩)
      have HEnt := Lib.hid (fun (w' : World) (h' : NB w' q M) => lands_entry13 w' q M a h' hab.1 (by omega))
      rw [hd, hps, hM2] at HEnt
      have HAl := Lib.hid hal
      obtain ⟨r, hr⟩ : ∃ r, i % 4 = r := ⟨_, rfl⟩
      have r1 : (i : Int) % 4 = (r : Int) := by omega
      have r2 : (i : Int).tmod 4 = (r : Int) := by rw [Int.tmod_eq_emod_of_nonneg (by omega)]; exact r1
      have rest : ∀ (v11 : Value), True := fun _ => trivial
      clear hdoc hrr hj hmb hed her hd hps hM2 rest
      by_cases hr0 : r = 0
      · have ha0 : a = 0 := by rw [← hAh]; unfold aheadD; rw [if_pos (by omega)]
        have r3 : ¬ (0 : Int) < (r : Int) := by omega
        subst ha0
        clear hAh hr hr0 hal
        go_wp2_with fail
        refine (HEnt.out _ HIr.out.nb).mono ?_; rintro e w3 ⟨u, rfl, hou, hnb, hm⟩
        obtain ⟨cq, hcq⟩ := HIr.out.nb.heap
        obtain ⟨pss, hp1, hp2, hp3⟩ := HIr.out.own.mod (fun k hk hkq => hm.block k hk hkq) hcq
        have hql := HIr.out.nb.lt
        have hlow3 : Below W.heap.size W w3 := HIr.out.low.trans (hm.below HIr.out.low.size (fun k hk e => by omega))
        obtain ⟨ou, cu, hu, _⟩ := hou.reads
        subst hu
        obtain ⟨kp, hkp⟩ : ∃ kp, ps.length = kp := ⟨_, rfl⟩
        rw [hkp] at hou
        rw [hkp]
        have HRow := Lib.hid (show (w3.alloc (.cells #[.int .i64 d, .slice ou kp cu] 52)).ownsRow (q + 1) 52 2 _ i (entC acc pss) from World.ownsRow.alloc (HAl.out ▸ hp2) _)
        have hs3 := hm.size
        have HPush := Lib.hid (fun (v' : Value) (w8 : World) (ho : w8.ownsRow (q + 1) 52 2 v' (i + 1) (entC acc pss ++ [.int .i64 d, .slice ou kp cu])) (hg : (w3.alloc (.cells #[.int .i64 d, .slice ou kp cu] 52)).grownBy w8 _) =>
          (show RdI W q v' (acc ++ [(d, ps)]) M2 w8 from by
            have hb1 : Below w3.heap.size w3 (w3.alloc (.cells #[.int .i64 d, .slice ou kp cu] 52)) := below_one
            have hk := OwnE.push_from (e := (d, ps)) (B := W.heap.size) (by omega) (by simp; have := hlow3.size; omega) (low_new hlow3) hp1 (HAl.out ▸ HRow.out) (fun j e hj => by
              obtain ⟨y, hy1, hy2⟩ := hp3 j e hj
              exact ⟨y, hy1, hy2.below hb1⟩) (own_base (show OwnZ _ _ _ ps from hou.below hb1) (by omega)) (HAl.out.symm ▸ ho) hg
            refine ⟨hk.1, hnb.keep fun k hkq => ?_, hk.2⟩
            rw [hg.block k (by simp; omega) (fun e => by have := (World.ownsRow.lt HRow.out k e.symm).1; omega), Below.heap_alloc _ _ _ (by omega)]))
        clear hou hnb hm hp1 hp2 hp3 hcq hkp hlow3
        go_wp2_with (at_builtin; refine wpList_append_own _ rfl (.tmp 61) (.tmp 64) 42 rfl (q + 1) 52 iE _ 2 32 Try.underlying42 HIE.out.1 HIE.out.2.1 HIE.out.2.2.1 HIE.out.2.2.2 rfl (by decide) _ i (entC acc pss) rfl HRow.out ⟨_, 0, none⟩ 1 1 [.int .i64 d, .slice ou kp cu] rfl rfl two_cell (by simp [Value.oneCell']) (by unfold maxLen; omega) (by omega) (by simp; omega) ?_; intro v' w8 ho hg _; have HI8 := Lib.hid (HPush.out v' w8 ho hg); clear ho hg)
        go_roundw
        case rel => exact ⟨i + 1, acc ++ [(d, ps)], M2, by omega, by go_num, HNx, HI8.out⟩
        case measure => simp [intOf]; omega
      · have r3 : (0 : Int) < (r : Int) := by omega
        obtain ⟨i1, hi1⟩ : ∃ i1, i = i1 + 1 := ⟨i - 1, by omega⟩
        obtain ⟨ol, cl, hv, _, _, _, hrE⟩ := HIr.out.own.reads
        rw [HAl.out] at hv
        obtain ⟨gl, oo, rfl, ca, _⟩ := hrE i1 _ (enAt_lt (by omega))
        have haa : (enAt acc i1).1 = a := by rw [← hAh]; unfold aheadD; rw [if_neg (by omega), show i - 1 = i1 by omega]
        rw [haa] at ca
        subst hv
        have u1 : (i : Int) - 1 = (i1 : Int) := by omega
        have u2 : IntKind.i64.wrap ((i : Int) - 1) = (i1 : Int) := by rw [u1]; exact IntWalk.i64_in _ (by omega)
        have hi1l : i1 < i := by omega
        clear hAh hr hr0 hal hrE hi1 haa
        go_wp2_with fail
        refine (HEnt.out _ HIr.out.nb).mono ?_; rintro e w3 ⟨u, rfl, hou, hnb, hm⟩
        obtain ⟨cq, hcq⟩ := HIr.out.nb.heap
        obtain ⟨pss, hp1, hp2, hp3⟩ := HIr.out.own.mod (fun k hk hkq => hm.block k hk hkq) hcq
        have hql := HIr.out.nb.lt
        have hlow3 : Below W.heap.size W w3 := HIr.out.low.trans (hm.below HIr.out.low.size (fun k hk e => by omega))
        obtain ⟨ou, cu, hu, _⟩ := hou.reads
        subst hu
        obtain ⟨kp, hkp⟩ : ∃ kp, ps.length = kp := ⟨_, rfl⟩
        rw [hkp] at hou
        rw [hkp]
        have HRow := Lib.hid (show (w3.alloc (.cells #[.int .i64 d, .slice ou kp cu] 52)).ownsRow (q + 1) 52 2 _ i (entC acc pss) from World.ownsRow.alloc (HAl.out ▸ hp2) _)
        have hs3 := hm.size
        have HPush := Lib.hid (fun (v' : Value) (w8 : World) (ho : w8.ownsRow (q + 1) 52 2 v' (i + 1) (entC acc pss ++ [.int .i64 d, .slice ou kp cu])) (hg : (w3.alloc (.cells #[.int .i64 d, .slice ou kp cu] 52)).grownBy w8 _) =>
          (show RdI W q v' (acc ++ [(d, ps)]) M2 w8 from by
            have hb1 : Below w3.heap.size w3 (w3.alloc (.cells #[.int .i64 d, .slice ou kp cu] 52)) := below_one
            have hk := OwnE.push_from (e := (d, ps)) (B := W.heap.size) (by omega) (by simp; have := hlow3.size; omega) (low_new hlow3) hp1 (HAl.out ▸ HRow.out) (fun j e hj => by
              obtain ⟨y, hy1, hy2⟩ := hp3 j e hj
              exact ⟨y, hy1, hy2.below hb1⟩) (own_base (show OwnZ _ _ _ ps from hou.below hb1) (by omega)) (HAl.out.symm ▸ ho) hg
            refine ⟨hk.1, hnb.keep fun k hkq => ?_, hk.2⟩
            rw [hg.block k (by simp; omega) (fun e => by have := (World.ownsRow.lt HRow.out k e.symm).1; omega), Below.heap_alloc _ _ _ (by omega)]))
        clear hou hnb hm hp1 hp2 hp3 hcq hkp hlow3
        go_wp2_with (at_builtin; refine wpList_append_own _ rfl (.tmp 61) (.tmp 64) 42 rfl (q + 1) 52 iE _ 2 32 Try.underlying42 HIE.out.1 HIE.out.2.1 HIE.out.2.2.1 HIE.out.2.2.2 rfl (by decide) _ i (entC acc pss) rfl HRow.out ⟨_, 0, none⟩ 1 1 [.int .i64 d, .slice ou kp cu] rfl rfl two_cell (by simp [Value.oneCell']) (by unfold maxLen; omega) (by omega) (by simp; omega) ?_; intro v' w8 ho hg _; have HI8 := Lib.hid (HPush.out v' w8 ho hg); clear ho hg)
        go_roundw
        case rel => exact ⟨i + 1, acc ++ [(d, ps)], M2, by omega, by go_num, HNx, HI8.out⟩
        case measure => simp [intOf]; omega
    · obtain rfl : i = n := by omega
      have HF := Lib.hid (show acc = readN C by
        have := HR.out.2.2.1
        rw [Nat.sub_self] at this
        rw [HOut.out, ← this]
        rfl)
      go_wp2_with fail
      go_ret
      exact ⟨_, rfl, by rw [← HF.out]; exact HIr.out.own.base (by omega), HIr.out.low⟩
end Go.Proofs.Ytpmhkmakkeckkaa
