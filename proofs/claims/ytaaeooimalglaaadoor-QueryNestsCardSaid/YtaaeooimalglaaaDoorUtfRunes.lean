/-
  The reference of layer 4: a text's runes. Over the program's own text.
-/
import Derived.Test.YtaaeooimalglaaaDoorUtfAtW
import Derived.Test.YtaaeooimalglaaaDoorBytes
import Derived.OwnWalk
import Derived.Laws.AppendOwn
namespace Go.Proofs.YtaaeooimalglaaaDoor
open Go.RowKit

set_option maxRecDepth 100000 in
theorem bytesL_get (s : ByteArray) (i : Nat) : (bytesL s).getD i 0 = byteAt s i := by
  unfold bytesL byteAt
  rw [List.getD_eq_getElem?_getD, List.getD_eq_getElem?_getD, List.getElem?_map]
  cases h : s.data.toList[i]? <;> simp
set_option maxRecDepth 100000 in
theorem decAt_drop (s : ByteArray) (i : Nat) : decL ((bytesL s).drop i) = decAt s i := by
  unfold decL decAt
  have h : ∀ j, ((bytesL s).drop i).getD j 0 = byteAt s (i + j) := by
    intro j
    rw [← bytesL_get]
    simp [List.getD_eq_getElem?_getD]
  rw [h 0, h 1, h 2, h 3]
  rfl
def runesOf (s : ByteArray) : List Nat := runesL (bytesL s)
set_option maxRecDepth 100000 in
theorem runes_at {s : ByteArray} {i : Nat} (h : i < s.size) : runesL ((bytesL s).drop i) = (decAt s i).1 :: runesL ((bytesL s).drop (i + (decAt s i).2)) := by
  have hne : (bytesL s).drop i ≠ [] := by
    intro e
    have := congrArg List.length e
    simp [bytesL_length] at this
    omega
  rw [runesL_step hne, decAt_drop, List.drop_drop]
set_option maxRecDepth 100000 in
theorem decAt_le {s : ByteArray} {i : Nat} (h : i < s.size) : 1 ≤ (decAt s i).2 ∧ i + (decAt s i).2 ≤ s.size ∧ (decAt s i).2 ≤ 4 := by
  have hne : (bytesL s).drop i ≠ [] := by
    intro e
    have := congrArg List.length e
    simp [bytesL_length] at this
    omega
  have h1 := decL_len ((bytesL s).drop i)
  have h2 := decL_in ((bytesL s).drop i) hne
  rw [decAt_drop] at h1 h2
  simp [bytesL_length] at h2
  omega
/-- Runes in memory. -/
def RunesIn (w : World) (base : Nat) (v : Value) (l : List Nat) : Prop := w.ownsRow base 21 1 v l.length (l.map fun (r : Nat) => Value.int .i32 (r : Int))
set_option maxRecDepth 100000 in
theorem info_i32 : (Tryd.prog.info? 21).map (fun i => (i.zero, i.size, i.bytes)) = some (some (.int .i32 0), 1, 4) := by kernel_rfl
set_option maxRecDepth 100000 in
theorem owned_lit0 (w : World) (e : TypeId) (size : Nat) : (w.alloc (.cells #[] e)).ownsRow w.heap.size e size (.slice (some ⟨w.heap.size, 0, none⟩) 0 0) 0 [] :=
  World.ownsRow_lit (base := w.heap.size) (e := e) (size := size) w #[] 0 (Nat.le_refl _) (by decide) (by simp)
set_option maxRecDepth 100000 in
theorem one_cell {w : World} {v : Value} {t : TypeId} : ∀ (j : Nat) (u : Value), [v][j]? = some u → (w.alloc (.cells #[v] t)).cell? ((⟨w.heap.size, 0, none⟩ : Addr).add j) = some u := by
  intro j u hj
  rcases j with _ | j
  · simp at hj; subst hj
    rw [Addr.add_lit]; exact cell_at (heap_alloc_new w _) 0
  · simp at hj

set_option maxRecDepth 100000 in
theorem owned_below {w w' : World} {e : TypeId} {size n base : Nat} {v : Value} {xs : List Value} (h : w.ownsRow base e size v n xs) (hb : Below w.heap.size w w') : w'.ownsRow base e size v n xs := by
  obtain ⟨h0, h | ⟨g, cap, cur, h1, h2, h3, h4⟩⟩ := h
  · exact ⟨h0, .inl h⟩
  · exact ⟨h0, .inr ⟨g, cap, cur, h1, h2, (hb.block _ (lt_of_heap h3)).trans h3, h4⟩⟩
set_option maxRecDepth 100000 in
/-- A rune more. -/
theorem runes_more {w w1 w2 : World} {v v' : Value} {l : List Nat} {r : Nat} {o : Obj} (hl : Below w.heap.size w w1) (hr : RunesIn w1 w.heap.size v l) (ho : w2.ownsRow w.heap.size 21 1 v' (l.length + 1) (l.map (fun (r : Nat) => Value.int .i32 (r : Int)) ++ [.int .i32 r])) (hg : (w1.alloc o).grownBy w2 v.ownBlock) :
    RunesIn w2 w.heap.size v' (l ++ [r]) ∧ Below w.heap.size w w2 :=
  ⟨by unfold RunesIn; simpa using ho, (hl.alloc hl.size _).grown hg (by have := hl.size; simp; omega) (fun k hk => (World.ownsRow.lt hr k hk).1)⟩

set_option maxRecDepth 100000 in
set_option maxHeartbeats 1000000 in
theorem ref_runes (w : World) (s : ByteArray) (hs : s.size ≤ 1000000) :
    Calls Tryd.prog 9 #[.string s] w fun e w' => ∃ v, e = .returned v ∧ v ≠ .slice none 0 0 ∧ RunesIn w' w.heap.size v (runesOf s) ∧ Below w.heap.size w w' := by
  obtain ⟨i0, hi, hz0, hz1, hz2⟩ := info_parts info_i32
  have HI := Lib.hid (And.intro hi (And.intro hz0 (And.intro hz1 hz2)))
  have HL := Lib.hid (runesL_many (bytesL s)).1
  clear hi hz0 hz1 hz2
  go_enter Tryd.func9, Tryd.ntmps9
  go_wp2_with fail
  go_loopw [3, 4] (fun v iv wr => ∃ (i : Nat) (l : List Nat), i ≤ s.size ∧ iv = .int .i64 i ∧ runesOf s = l ++ runesL ((bytesL s).drop i) ∧ v ≠ .slice none 0 0 ∧ RunesIn wr w.heap.size v l ∧ Below w.heap.size w wr) (fun _ iv _ => s.size - (intOf iv).toNat)
  case atStart => exact ⟨0, [], by omega, rfl, by simp [runesOf], by simp, owned_lit0 w _ _, below_one⟩
  case round =>
    obtain ⟨i, l, hi, rfl, hl, hnn, hown, hlow⟩ := hrel
    by_cases hlt : i < s.size
    · have hd := decAt_le hlt
      have HD := Lib.hid (runes_at hlt)
      have HS := Lib.hid hl
      have HO := Lib.hid hown
      have HW := Lib.hid hlow
      have hll : l.length ≤ 1000000 := by have := congrArg List.length hl; have := HL.out; rw [bytesL_length] at this; simp [runesOf] at *; omega
      obtain ⟨r, hr⟩ : ∃ r, r = (decAt s i).1 := ⟨_, rfl⟩
      obtain ⟨k, hk⟩ : ∃ k, k = (decAt s i).2 := ⟨_, rfl⟩
      rw [← hk] at hd
      have HRK := Lib.hid (And.intro hr hk)
      have hlt1 : (i : Int) < (s.size : Int) := by omega
      have hcall : ∀ w : World, Calls Tryd.prog 19 #[.string s, .int .i64 i] w fun e w' => e = .returned (.tuple #[.int .i32 (atR s i).1, .int .i64 (atR s i).2]) ∧ Below w.heap.size w w' := fun w => at_any w s i hlt (by unfold maxLen; omega)
      obtain ⟨hd1, hd2, hd3⟩ := hd
      by_cases hz : decAt s i = (65533, 1)
      · have e : atR s i = (0, 0) := by unfold atR; rw [if_pos hz]
        rw [e] at hcall
        have HC := Lib.hid hcall
        obtain rfl : r = 65533 := by rw [hr, hz]
        obtain rfl : k = 1 := by rw [hk, hz]
        clear hcall hl hown hlow hr hk hz e
        go_wp2_with fail
        refine (HC.out _).mono ?_; rintro e w2 ⟨rfl, hb2⟩
        have HO := Lib.hid (show RunesIn w2 _ _ l from owned_below HO.out hb2)
        have HW := Lib.hid (HW.out.trans (hb2.mono HW.out.size))
        clear hb2
        go_wp2_with (at_builtin; refine wpList_append_own _ rfl (.tmp 20) (.tmp 22) 34 rfl w.heap.size 21 i0 _ 1 4 Tryd.underlying34 HI.out.1 HI.out.2.1 HI.out.2.2.1 HI.out.2.2.2 rfl (by decide) _ l.length (l.map fun (r : Nat) => Value.int .i32 (r : Int)) rfl (World.ownsRow.alloc HO.out _) ⟨w2.heap.size, 0, none⟩ 1 1 [.int .i32 65533] rfl rfl one_cell (by simp [Value.oneCell']) (by unfold maxLen; omega) (by omega) (by have := HW.out.size; simp; omega) ?_; intro v' w5 ho hg hn'; have HN5 := Lib.hid (fun h => absurd (hn'.1 h).2 (by decide) : v' ≠ .slice none 0 0); have HO5 := Lib.hid (runes_more (r := 65533) HW.out HO.out ho hg); clear ho hg hn')
        go_roundw
        case rel =>
          refine ⟨i + 1, l ++ [65533], by omega, by go_num, ?_, HN5.out, HO5.out.1, HO5.out.2⟩
          rw [HS.out, HD.out, ← HRK.out.1, ← HRK.out.2]
          simp
        case measure => simp [intOf]; omega
      · have e : atR s i = (r, k) := by unfold atR; rw [if_neg hz, hr, hk]
        rw [e] at hcall
        have HC := Lib.hid hcall
        have hk0 : ((k : Int) == 0) = false := by simp; omega
        clear hcall hl hown hlow hr hk hz e
        go_wp2_with fail
        refine (HC.out _).mono ?_; rintro e w2 ⟨rfl, hb2⟩
        have HO := Lib.hid (show RunesIn w2 _ _ l from owned_below HO.out hb2)
        have HW := Lib.hid (HW.out.trans (hb2.mono HW.out.size))
        clear hb2
        go_wp2_with (at_builtin; refine wpList_append_own _ rfl (.tmp 20) (.tmp 22) 34 rfl w.heap.size 21 i0 _ 1 4 Tryd.underlying34 HI.out.1 HI.out.2.1 HI.out.2.2.1 HI.out.2.2.2 rfl (by decide) _ l.length (l.map fun (r : Nat) => Value.int .i32 (r : Int)) rfl (World.ownsRow.alloc HO.out _) ⟨w2.heap.size, 0, none⟩ 1 1 [.int .i32 r] rfl rfl one_cell (by simp [Value.oneCell']) (by unfold maxLen; omega) (by omega) (by have := HW.out.size; simp; omega) ?_; intro v' w5 ho hg hn'; have HN5 := Lib.hid (fun h => absurd (hn'.1 h).2 (by decide) : v' ≠ .slice none 0 0); have HO5 := Lib.hid (runes_more (r := r) HW.out HO.out ho hg); clear ho hg hn')
        go_roundw
        case rel =>
          refine ⟨i + k, l ++ [r], by omega, by go_num, ?_, HN5.out, HO5.out.1, HO5.out.2⟩
          rw [HS.out, HD.out, ← HRK.out.1, ← HRK.out.2]
          simp
        case measure => simp [intOf]; omega
    · go_wp2_with fail
      go_ret
      refine ⟨_, rfl, hnn, ?_, hlow⟩
      have : runesOf s = l := by
        rw [hl, List.drop_eq_nil_of_le (by rw [bytesL_length]; omega)]
        simp [runesL_nil]
      rw [this]
      exact hown
end Go.Proofs.YtaaeooimalglaaaDoor
