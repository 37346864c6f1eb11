/-
  What the program's three functions of layer 4 keep, proved of the landed code: a list made for as many runes as are counted, a builder of strings that each rune is written to, left where the next one no longer fits. Over the program's own text.
-/
import Derived.Test.YtaaeooimalglaaaDoorBuild
import Derived.Test.YtaaeooimalglaaaDoorUtfKept
namespace Go.Proofs.YtaaeooimalglaaaDoor
open Go.RowKit
open Go.Lib (IsBuilder OthersKept iterAt_other iterAt_size iterAt_heap below_iterAt run_next_any_at run_next_end_at)

set_option maxRecDepth 100000 in
theorem decode_eq' (s : ByteArray) (pos : Nat) : (((Utf8.decode s pos).1 : Nat) : Int) = ((decAt s pos).1 : Int) ∧ (Utf8.decode s pos).2 = (decAt s pos).2 := by
  rw [decode_eq]; exact ⟨rfl, rfl⟩

set_option maxRecDepth 100000 in
set_option maxHeartbeats 2000000 in
/-- How many runes a text has. -/
theorem count_runes (W : World) (s : ByteArray) (hs : s.size ≤ 1000000) :
    Calls Tryd.prog 24 #[.string s] W fun e w' => e = .returned (.int .i64 (runesOf s).length) ∧ Below W.heap.size W w' := by
  have HL := Lib.hid (runesOf_many s).1
  go_enter Tryd.func24, Tryd.ntmps24
  go_wp2_with fail
  go_loopw [2] (fun nv wr => ∃ (pos i : Nat), nv = .int .i64 i ∧ pos ≤ s.size ∧ wr.heap[W.heap.size]? = some (.stringIter s pos) ∧ (runesOf s).length = i + (runesL ((bytesL s).drop pos)).length ∧ Below W.heap.size W wr) (fun _ wr => s.size - wr.iterPos W.heap.size)
  case atStart => exact ⟨0, 0, rfl, by omega, World.iter_heap _ _ _, by simp [runesOf], below_one⟩
  case round =>
    obtain ⟨pos, i, rfl, hpos, hit, heq, hlow⟩ := hrel
    have hps : wr.iterPos W.heap.size = pos := by unfold World.iterPos; rw [hit]
    have hi := HL.out
    by_cases hlt : pos < s.size
    · have hnx : ∀ ty, (Instr.next (.pointer (some ⟨W.heap.size, 0, none⟩)) true ty).run Tryd.prog wr = .ok (.tuple #[.bool true, .int .i64 pos, .int .i32 (decAt s pos).1]) (wr.iterAt W.heap.size s (pos + (decAt s pos).2)) := fun ty => by rw [run_next_any_at wr _ s pos ty hit hlt, decode_eq]
      have hd := decAt_le hlt
      rw [runes_at hlt, List.length_cons] at heq
      have HI := Lib.hid (iterAt_heap wr W.heap.size s pos (pos + (decAt s pos).2) hit)
      have HB := Lib.hid (below_iterAt hlow (Nat.le_refl _) s (pos + (decAt s pos).2))
      have HE := Lib.hid heq
      generalize hwi : wr.iterAt W.heap.size s (pos + (decAt s pos).2) = wi at hnx HI HB
      have hi2 : i ≤ 1000000 := by omega
      clear hit heq hlow hwi hi
      go_wp2_with fail
      go_roundw
      case rel => exact ⟨pos + (decAt s pos).2, i + 1, by go_num, by omega, HI.out, by have := HE.out; omega, HB.out⟩
      case measure =>
                    have : wi.iterPos W.heap.size = pos + (decAt s pos).2 := (by unfold World.iterPos; rw [HI.out])
                    omega
    · have hnx : ∀ ty, (Instr.next (.pointer (some ⟨W.heap.size, 0, none⟩)) true ty).run Tryd.prog wr = .ok (.tuple #[.bool false]) wr := fun ty => run_next_end_at wr _ s pos ty hit hlt
      have HE := Lib.hid (show (runesOf s).length = i by rw [heq, List.drop_eq_nil_of_le (by rw [bytesL_length]; omega)]; simp [runesL_nil])
      have HB := Lib.hid hlow
      clear hit heq hlow hi
      go_wp2_with fail
      go_ret
      exact ⟨by rw [HE.out]; rfl, HB.out⟩

set_option maxRecDepth 100000 in
set_option maxHeartbeats 2000000 in
/-- How many bytes a rune has. -/
theorem rune_len (w : World) (r : Nat) (h : okR r) :
    Calls Tryd.prog 87 #[.int .i32 r] w fun e w' => e = .returned (.int .i64 (encR r).length) ∧ w' = w := by
  rw [encR_length]
  unfold okR at h
  by_cases c1 : r ≤ 127
  · rw [if_pos (by omega)]
    go_enter Tryd.func87, Tryd.ntmps87
    go_wp2_with fail
    go_ret
    exact ⟨rfl, rfl⟩
  by_cases c2 : r ≤ 2047
  · rw [if_neg (by omega), if_pos (by omega)]
    go_enter Tryd.func87, Tryd.ntmps87
    go_wp2_with fail
    go_ret
    exact ⟨rfl, rfl⟩
  by_cases c3 : r < 55296
  · rw [if_neg (by omega), if_neg (by omega), if_pos (by omega)]
    go_enter Tryd.func87, Tryd.ntmps87
    go_wp2_with fail
    go_ret
    exact ⟨rfl, rfl⟩
  by_cases c4 : r ≤ 65535
  · rw [if_neg (by omega), if_neg (by omega), if_pos (by omega)]
    have h2 : 57344 ≤ r := by omega
    clear h
    go_enter Tryd.func87, Tryd.ntmps87
    go_wp2_with fail
    go_ret
    exact ⟨rfl, rfl⟩
  · rw [if_neg (by omega), if_neg (by omega), if_neg (by omega)]
    have h2 : r ≤ 1114111 := by omega
    clear h
    go_enter Tryd.func87, Tryd.ntmps87
    go_wp2_with fail
    go_ret
    exact ⟨rfl, rfl⟩

/-! ### Runes -/
/-- Behind so many bytes. -/
structure GoingU (W : World) (k : Nat) (s : ByteArray) (pos : Nat) (l : List Nat) (v : Value) (w : World) : Prop where
  le : pos ≤ s.size
  it : w.heap[k]? = some (.stringIter s pos)
  kb : W.heap.size ≤ k
  eq : runesOf s = l ++ runesL ((bytesL s).drop pos)
  own : w.ownsRow W.heap.size 21 1 v l.length (l.map fun (r : Nat) => Value.int .i32 (r : Int))
  low : Below W.heap.size W w
set_option maxRecDepth 100000 in
theorem GoingU.pos {W : World} {k : Nat} {s : ByteArray} {pos : Nat} {l : List Nat} {v : Value} {w : World} (h : GoingU W k s pos l v w) : w.iterPos k = pos := by unfold World.iterPos; rw [h.it]
set_option maxRecDepth 100000 in
theorem owns_not_iter {w : World} {B e n k : Nat} {v : Value} {xs : List Value} {s : ByteArray} {pos : Nat} (h : w.ownsRow B e 1 v n xs) (hk : w.heap[k]? = some (.stringIter s pos)) : v.ownBlock ≠ some k := by
  intro e1
  obtain ⟨c, fz, hc⟩ := Lib.ownsRow_kind h k e1
  rw [hk] at hc
  cases hc
set_option maxRecDepth 100000 in
/-- A rune more. -/
theorem GoingU.more {W : World} {k : Nat} {s : ByteArray} {pos : Nat} {l : List Nat} {v v' : Value} {w w2 : World} {o : Obj} (h : GoingU W k s pos l v w) (hp : pos < s.size)
    (ho : w2.ownsRow W.heap.size 21 1 v' (l.length + 1) (l.map (fun (r : Nat) => Value.int .i32 (r : Int)) ++ [.int .i32 (decAt s pos).1])) (hg : ((w.iterAt k s (pos + (decAt s pos).2)).alloc o).grownBy w2 v.ownBlock) :
    GoingU W k s (pos + (decAt s pos).2) (l ++ [(decAt s pos).1]) v' w2 := by
  have hd := decAt_le hp
  have hsz := lt_of_heap h.it
  have hl := h.low.size
  refine ⟨hd.2.1, ?_, h.kb, ?_, by simpa using ho, ?_⟩
  · rw [hg.block _ (by simp [iterAt_size]; omega) (fun e => owns_not_iter h.own h.it e.symm), heap_alloc_old _ _ (by rw [iterAt_size]; omega)]
    exact iterAt_heap _ _ _ _ _ h.it
  · rw [h.eq, runes_at hp]
    simp
  · exact ((below_iterAt h.low h.kb s _).alloc (by rw [iterAt_size]; omega) _).grown hg (by simp [iterAt_size]; omega) (fun j hj => (h.own.lt j hj).1)

set_option maxRecDepth 100000 in
set_option maxHeartbeats 2000000 in
theorem lands_runes (W : World) (s : ByteArray) (hs : s.size ≤ 1000000) :
    Calls Tryd.prog 17 #[.string s] W fun e w' => ∃ v, e = .returned v ∧ RunesIn w' W.heap.size v (runesOf s) ∧ Below W.heap.size W w' := by
  obtain ⟨i0, hi, hz0, hz1, hz2⟩ := info_parts info_i32
  have HI := Lib.hid (And.intro hi (And.intro hz0 (And.intro hz1 hz2)))
  have HL := Lib.hid (runesOf_many s).1
  have HC := Lib.hid (count_runes W s hs)
  clear hi hz0 hz1 hz2
  go_enter Tryd.func17, Tryd.ntmps17
  go_wp2_with fail
  refine HC.out.mono ?_
  rintro e w1 ⟨rfl, hb1⟩
  have hn1 : (runesOf s).length ≤ 1000000 := by have := HL.out; omega
  have HB1 := Lib.hid hb1
  clear hb1 HC
  go_wp2_with (at_make; refine wpList_make_own _ rfl _ _ 34 rfl W.heap.size 21 i0 (.int .i32 0) 1 Tryd.underlying34 HI.out.1 HI.out.2.1 HI.out.2.2.1 .i64 .i64 _ (runesOf s).length rfl rfl rfl ?mb2 ?mb3 HB1.out.size ?_)
  case mb2 => rw [HI.out.2.2.2]; omega
  case mb3 => unfold maxLen; omega
  intro w2 hown0 hgrow0
  have HO0 := Lib.hid hown0
  have HB2 := Lib.hid (HB1.out.grown hgrow0 HB1.out.size (fun k h => by cases h))
  clear hown0 hgrow0
  go_wp2_with fail
  go_loopw [3] (fun v wr => ∃ (pos : Nat) (l : List Nat), GoingU W w2.heap.size s pos l v wr) (fun _ wr => s.size - wr.iterPos w2.heap.size)
  case atStart => exact ⟨0, [], by omega, World.iter_heap _ _ _, HB2.out.size, by simp [runesOf], HO0.out.alloc _, HB2.out.alloc HB2.out.size _⟩
  case round =>
    obtain ⟨pos, l, hG⟩ := hrel
    have hps := hG.pos
    by_cases hlt : pos < s.size
    · have hnx : ∀ ty, (Instr.next (.pointer (some ⟨w2.heap.size, 0, none⟩)) true ty).run Tryd.prog wr = .ok (.tuple #[.bool true, .int .i64 pos, .int .i32 (decAt s pos).1]) (wr.iterAt w2.heap.size s (pos + (decAt s pos).2)) := fun ty => by rw [run_next_any_at wr _ s pos ty hG.it hlt, decode_eq]
      have HG := Lib.hid hG
      have hd := decAt_le hlt
      have hll : l.length ≤ 1000000 := by have := congrArg List.length hG.eq; simp at *; omega
      have HM := Lib.hid (fun (v' : Value) (w2 : World) (o : Obj) => hG.more (v' := v') (w2 := w2) (o := o) hlt)
      have HO := Lib.hid (ownsRow_iter hG.own hG.it (pos + (decAt s pos).2))
      have HSz := Lib.hid (show W.heap.size ≤ (wr.iterAt w2.heap.size s (pos + (decAt s pos).2)).heap.size by rw [iterAt_size]; exact hG.low.size)
      generalize hwi : wr.iterAt w2.heap.size s (pos + (decAt s pos).2) = wi at hnx HM HO HSz
      generalize hk : (decAt s pos).2 = k at HM hd
      generalize hr : (decAt s pos).1 = r at hnx HM
      clear hG hwi hk hr HO0 HB2 HB1 hn1
      go_wp2_with (at_builtin; refine wpList_append_own _ rfl (.tmp 14) (.tmp 16) 34 rfl W.heap.size 21 i0 _ 1 4 Tryd.underlying34 HI.out.1 HI.out.2.1 HI.out.2.2.1 HI.out.2.2.2 rfl (by decide) _ l.length (l.map fun (r : Nat) => Value.int .i32 (r : Int)) rfl (World.ownsRow.alloc HO.out _) ⟨_, 0, none⟩ 1 1 [.int .i32 r] rfl rfl one_cell (by simp [Value.oneCell']) (by unfold maxLen; omega) (by omega) (by have := HSz.out; simp; omega) ?_; intro v' w5 ho hg _; have HG5 := Lib.hid (HM.out _ _ _ ho hg); clear ho hg)
      go_roundw
      case rel => exact ⟨pos + k, l ++ [r], HG5.out⟩
      case measure => have := HG5.out.pos; omega
    · have hnx : ∀ ty, (Instr.next (.pointer (some ⟨w2.heap.size, 0, none⟩)) true ty).run Tryd.prog wr = .ok (.tuple #[.bool false]) wr := fun ty => run_next_end_at wr _ s pos ty hG.it hlt
      have hl : runesOf s = l := by
        have := hG.eq
        rw [List.drop_eq_nil_of_le (by rw [bytesL_length]; omega)] at this
        simpa [runesL_nil] using this
      have HG := Lib.hid hG
      have HE := Lib.hid hl
      clear hG hl HO0 HB2 HB1
      go_wp2_with fail
      go_ret
      exact ⟨_, rfl, by rw [HE.out]; exact HG.out.own, HG.out.low⟩

/-! ### Text -/
set_option maxRecDepth 100000 in
theorem textZ_text (l : List Int) : byteText (textB l) = textZ l := rfl
set_option maxRecDepth 100000 in
theorem fresh_builder (w : World) : IsBuilder 80 5 w.heap.size w.heap.size (cellsB (textB [])) (w.alloc (.cells #[.pointer none, .slice none 0 0] 80)) := Lib.fresh_isBuilder _ _ _

set_option maxRecDepth 100000 in
set_option maxHeartbeats 2000000 in
theorem lands_text (w : World) (oa : Option Addr) (c : Nat) (l : List Int) (hn : l.length ≤ 1000000) (hv : ReadI w oa l) (h32 : ∀ r ∈ l, -2147483648 ≤ r ∧ r ≤ 2147483647) :
    Calls Tryd.prog 43 #[.slice oa l.length c] w fun e w' => e = .returned (.string (textZ l)) ∧ Below w.heap.size w w' := by
  have HV := Lib.hid hv
  have H32 := Lib.hid h32
  clear hv h32
  go_enter Tryd.func43, Tryd.ntmps43
  go_wp2_with fail
  go_loopw [8] (fun iv wr => ∃ (i : Nat), i ≤ l.length ∧ iv = .int .i64 i ∧ IsBuilder 80 5 w.heap.size w.heap.size (cellsB (textB (l.take i))) wr ∧ Below w.heap.size w wr) (fun iv _ => l.length - (intOf iv).toNat)
  case atStart => exact ⟨0, by omega, rfl, fresh_builder w, below_one⟩
  case round =>
    obtain ⟨i, hi, rfl, hI, hb⟩ := hrel
    have HI := Lib.hid hI
    have HB := Lib.hid hb
    have hsz := hb.size
    clear hI hb
    by_cases hlt : i < l.length
    · obtain ⟨r, hr⟩ : ∃ r, l[i]? = some r := ⟨_, List.getElem?_eq_getElem hlt⟩
      obtain ⟨ad, rfl, hcell⟩ := (HV.out.below HB.out) i r hr
      have hr2 := H32.out r (List.mem_of_getElem? hr)
      have HT := Lib.hid (show textB (l.take (i + 1)) = textB (l.take i) ++ encR (normR r) by rw [List.take_add_one, hr]; exact textB_snoc _ _)
      have HW := Lib.hid (builder_rune w.heap.size w.heap.size (textB (l.take i)) r hr2.1 hr2.2 wr HI.out (by have := textB_le (l.take i); rw [List.length_take] at this; omega) hsz)
      clear hr hr2
      go_wp2_with fail
      refine HW.out.mono ?_
      rintro e w5 ⟨v5, rfl, h5, hb5, _⟩
      have HI5 := Lib.hid h5
      have HB5 := Lib.hid (HB.out.trans hb5)
      clear h5 hb5
      go_wp2_with fail
      go_roundw
      case rel => exact ⟨i + 1, by omega, by go_num, by rw [HT.out]; exact HI5.out, HB5.out⟩
      case measure => simp [intOf]; omega
    · have hi' : i = l.length := by omega
      subst hi'
      have HT := Lib.hid (builder_text w.heap.size w.heap.size (textB l) wr (by have := HI.out; rwa [List.take_length] at this) (textB_byte l) hsz)
      clear HI
      go_wp2_with fail
      refine HT.out.mono ?_
      rintro e w5 ⟨rfl, hb5⟩
      have HB5 := Lib.hid (HB.out.trans hb5)
      clear hb5
      go_wp2_with fail
      go_ret
      exact ⟨rfl, HB5.out⟩

/-! ### Fit -/
set_option maxRecDepth 100000 in
theorem ints_cons (r : Nat) (l : List Nat) : ints (r :: l) = (r : Int) :: ints l := rfl
set_option maxRecDepth 100000 in
theorem fitK_cons (r : Int) (l : List Int) (n : Int) : fitK (r :: l) n = if ((encR (normR r)).length : Int) ≤ n then fitK l (n - (encR (normR r)).length) + 1 else 0 := rfl
set_option maxRecDepth 100000 in
theorem ints_snoc (l : List Nat) (r : Nat) : ints (l ++ [r]) = ints l ++ [(r : Int)] := by simp [ints]
set_option maxRecDepth 100000 in
theorem decAt_ok (s : ByteArray) (i : Nat) : okR (decAt s i).1 := dec4_ok _ _ _ _
/-- Behind so many bytes. -/
structure Past (W : World) (k : Nat) (s : ByteArray) (n : Int) (pos : Nat) (l : List Nat) (w : World) : Prop where
  le : pos ≤ s.size
  it : w.heap[k]? = some (.stringIter s pos)
  kb : W.heap.size < k
  eq : runesOf s = l ++ runesL ((bytesL s).drop pos)
  fit : fitK (ints (runesOf s)) n = l.length + fitK (ints (runesL ((bytesL s).drop pos))) (n - (textB (ints l)).length)
  own : IsBuilder 80 5 W.heap.size W.heap.size (cellsB (textB (ints l))) w
  low : Below W.heap.size W w
set_option maxRecDepth 100000 in
theorem Past.pos {W : World} {k : Nat} {s : ByteArray} {n : Int} {pos : Nat} {l : List Nat} {w : World} (h : Past W k s n pos l w) : w.iterPos k = pos := by unfold World.iterPos; rw [h.it]
set_option maxRecDepth 100000 in
theorem Past.small {W : World} {k : Nat} {s : ByteArray} {n : Int} {pos : Nat} {l : List Nat} {w : World} (h : Past W k s n pos l w) (hs : s.size ≤ 1000000) : (textB (ints l)).length ≤ 4000000 := by
  have h1 := congrArg List.length h.eq
  have h2 := (runesOf_many s).1
  have h3 := textB_le (ints l)
  rw [List.length_append] at h1
  rw [ints_length] at h3
  omega
set_option maxRecDepth 100000 in
theorem Past.more {W : World} {k : Nat} {s : ByteArray} {n : Int} {pos : Nat} {l : List Nat} {w w2 : World} (h : Past W k s n pos l w) (hp : pos < s.size) (hf : ((textB (ints l)).length : Int) + ((encR (decAt s pos).1).length : Int) ≤ n)
    (hI : IsBuilder 80 5 W.heap.size W.heap.size (cellsB (textB (ints l) ++ encR (normR ((decAt s pos).1 : Int)))) w2) (hb : Below W.heap.size (w.iterAt k s (pos + (decAt s pos).2)) w2) (hk : OthersKept 5 (some W.heap.size) (w.iterAt k s (pos + (decAt s pos).2)) w2) :
    Past W k s n (pos + (decAt s pos).2) (l ++ [(decAt s pos).1]) w2 := by
  have hkb := h.kb
  refine ⟨(decAt_le hp).2.1, hk.iter (iterAt_heap _ _ _ _ _ h.it) (by omega), hkb, ?_, ?_, ?_, (below_iterAt h.low (by omega) s _).trans hb⟩
  · rw [h.eq, runes_at hp]
    simp
  · have hfit := h.fit
    rw [runes_at hp, ints_cons, fitK_cons, normR_self (decAt_ok s pos)] at hfit
    rw [if_pos (by omega)] at hfit
    rw [hfit, ints_snoc, textB_snoc, normR_self (decAt_ok s pos), List.length_append, List.length_append]
    have e : n - ((textB (ints l)).length : Int) - ((encR (decAt s pos).1).length : Int) = n - (((textB (ints l)).length + (encR (decAt s pos).1).length : Nat) : Int) := by omega
    rw [e]
    simp
    omega
  · rw [ints_snoc, textB_snoc]
    exact hI
set_option maxRecDepth 100000 in
/-- No more fits: then that was it. -/
theorem Past.stop {W : World} {k : Nat} {s : ByteArray} {n : Int} {pos : Nat} {l : List Nat} {w : World} (h : Past W k s n pos l w) (h0 : fitK (ints (runesL ((bytesL s).drop pos))) (n - (textB (ints l)).length) = 0) :
    textZ ((ints (runesOf s)).take (fitK (ints (runesOf s)) n)) = textZ (ints l) := by
  rw [h.fit, h0, Nat.add_zero, ints_take, h.eq, List.take_left]
set_option maxRecDepth 100000 in
theorem Past.full {W : World} {k : Nat} {s : ByteArray} {n : Int} {pos : Nat} {l : List Nat} {w : World} (h : Past W k s n pos l w) (hp : pos < s.size) (hf : ¬ ((textB (ints l)).length : Int) + ((encR (decAt s pos).1).length : Int) ≤ n) :
    textZ ((ints (runesOf s)).take (fitK (ints (runesOf s)) n)) = textZ (ints l) := by
  refine h.stop ?_
  rw [runes_at hp, ints_cons, fitK_cons, normR_self (decAt_ok s pos), if_neg (by omega)]
set_option maxRecDepth 100000 in
theorem Past.over {W : World} {k : Nat} {s : ByteArray} {n : Int} {pos : Nat} {l : List Nat} {w : World} (h : Past W k s n pos l w) (hp : ¬ pos < s.size) :
    textZ ((ints (runesOf s)).take (fitK (ints (runesOf s)) n)) = textZ (ints l) := by
  refine h.stop ?_
  rw [List.drop_eq_nil_of_le (by rw [bytesL_length]; omega)]
  rfl

set_option maxRecDepth 100000 in
set_option maxHeartbeats 2000000 in
theorem lands_fit (W : World) (s : ByteArray) (n : Int) (hs : s.size ≤ 1000000) (h1 : -9223372036854775808 ≤ n) (h2 : n ≤ 9223372036854775807) :
    Calls Tryd.prog 85 #[.string s, .int .i64 n] W fun e w' => e = .returned (.string (textZ ((ints (runesOf s)).take (fitK (ints (runesOf s)) n)))) ∧ Below W.heap.size W w' := by
  have HA := Lib.hid (fresh_builder W)
  go_enter Tryd.func85, Tryd.ntmps85
  go_wp2_with fail
  go_loopw [] (fun wr => ∃ (pos : Nat) (l : List Nat), Past W (W.heap.size + 1) s n pos l wr) (fun wr => s.size - wr.iterPos (W.heap.size + 1))
  case atStart =>
    refine ⟨0, [], by omega, ?_, by omega, by simp [runesOf], by simp [runesOf, ints, textB], builder_alloc HA.out _, below_one.alloc (by simp) _⟩
    have := World.iter_heap (W.alloc (.cells #[.pointer none, .slice none 0 0] 80)) s 0
    simpa using this
  case round =>
    obtain ⟨pos, l, hG⟩ := hrel
    have hps := hG.pos
    have HSz := Lib.hid (show W.heap.size ≤ wr.heap.size from hG.low.size)
    by_cases hlt : pos < s.size
    · have hnx : ∀ ty, (Instr.next (.pointer (some ⟨W.heap.size + 1, 0, none⟩)) true ty).run Tryd.prog wr = .ok (.tuple #[.bool true, .int .i64 pos, .int .i32 (decAt s pos).1]) (wr.iterAt (W.heap.size + 1) s (pos + (decAt s pos).2)) := fun ty => by rw [run_next_any_at wr _ s pos ty hG.it hlt, decode_eq]
      have hd := decAt_le hlt
      have hs1 := hG.small hs
      have hok := decAt_ok s pos
      have hr3 : (decAt s pos).1 ≤ 1114111 := by unfold okR at hok; omega
      have hs2 := enc_le (decAt s pos).1
      have HM := Lib.hid (fun hf (w2 : World) => hG.more (w2 := w2) hlt hf)
      have HF := Lib.hid (fun hf => hG.full hlt hf)
      have HB := Lib.hid (below_iterAt hG.low (show W.heap.size ≤ W.heap.size + 1 by omega) s (pos + (decAt s pos).2))
      have HI := Lib.hid (builder_iter hG.own hG.it (pos + (decAt s pos).2))
      generalize hwi : wr.iterAt (W.heap.size + 1) s (pos + (decAt s pos).2) = wi at hnx HM HB HI
      generalize hk : (decAt s pos).2 = k at HM hd
      generalize hr : (decAt s pos).1 = r at hnx HM HF hs2 hok hr3
      have HLn := Lib.hid (builder_length _ _ _ wi HI.out)
      have HRl := Lib.hid (rune_len wi r hok)
      have HTx := Lib.hid (builder_text _ _ _ wi HI.out (textB_byte (ints l)) HB.out.size)
      have HWr := Lib.hid (builder_rune _ _ _ (r : Int) (by omega) (by omega) wi HI.out (by omega) HB.out.size)
      clear hG hwi hk hr hok
      go_wp2_with fail
      refine HLn.out.mono ?_
      rintro e w5 ⟨rfl, rfl⟩
      go_wp2_with fail
      refine HRl.out.mono ?_
      rintro e w6 ⟨rfl, rfl⟩
      by_cases hgt : n < ((textB (ints l)).length : Int) + ((encR r).length : Int)
      · go_wp2_with fail
        refine HTx.out.mono ?_
        rintro e w7 ⟨rfl, hb7⟩
        have HB7 := Lib.hid (HB.out.trans hb7)
        clear hb7
        go_wp2_with fail
        go_ret
        exact ⟨by rw [HF.out (by omega)]; rfl, HB7.out⟩
      · go_wp2_with fail
        refine HWr.out.mono ?_
        rintro e w7 ⟨v7, rfl, h7, hb7, hk7⟩
        have HM2 := Lib.hid (HM.out (by omega) _ h7 hb7 hk7)
        clear h7 hb7 hk7
        go_wp2_with fail
        go_roundw
        case rel => exact ⟨pos + k, l ++ [r], HM2.out⟩
        case measure => have := HM2.out.pos; omega
    · have hnx : ∀ ty, (Instr.next (.pointer (some ⟨W.heap.size + 1, 0, none⟩)) true ty).run Tryd.prog wr = .ok (.tuple #[.bool false]) wr := fun ty => run_next_end_at wr _ s pos ty hG.it hlt
      have HG := Lib.hid hG
      have HE := Lib.hid (hG.over hlt)
      have HTx := Lib.hid (builder_text _ _ _ wr hG.own (textB_byte (ints l)) HSz.out)
      clear hG
      go_wp2_with fail
      refine HTx.out.mono ?_
      rintro e w7 ⟨rfl, hb7⟩
      have HB7 := Lib.hid (HG.out.low.trans hb7)
      clear hb7
      go_wp2_with fail
      go_ret
      exact ⟨by rw [HE.out]; rfl, HB7.out⟩

set_option maxRecDepth 100000 in
/-- A row of its own is what the laws' walks take. -/
theorem runes_given {w w' : World} {e : Ending} {l : List Nat} (h : ∃ v, e = .returned v ∧ RunesIn w' w.heap.size v l ∧ Below w.heap.size w w') :
    ∃ oa c, e = .returned (.slice oa (ints l).length c) ∧ (ints l).length ≤ c ∧ c ≤ maxLen ∧ ReadI w' oa (ints l) ∧ Below w.heap.size w w' ∧ (oa = none → c = 0) := by
  obtain ⟨v, rfl, hr, hb⟩ := h
  by_cases hn : v = .slice none 0 0
  · subst hn
    rcases hr.2 with ⟨_, h0⟩ | ⟨g, cap, cur, e, _⟩
    · have : l = [] := List.eq_nil_of_length_eq_zero h0
      subst this
      exact ⟨none, 0, rfl, by simp [ints], by simp [maxLen], fun j r hj => by simp [ints] at hj, hb, fun _ => rfl⟩
    · cases e
  · obtain ⟨g, cap, rfl, _, _, h1, h2, h3⟩ := runes_read hr hn
    exact ⟨_, cap, by rw [ints_length], by rw [ints_length]; exact h1, h2, h3, hb, fun e => by cases e⟩
set_option maxRecDepth 100000 in
theorem kept : Kept := ⟨fun w s hs => (lands_runes w s hs).mono fun _ _ h => runes_given h, fun w oa c l hn _ _ hv h32 => lands_text w oa c l hn hv h32, fun w s n hs h1 h2 => lands_fit w s n hs h1 h2⟩
end Go.Proofs.YtaaeooimalglaaaDoor
