/-
  What each call of package mem does to a memory: contracts over the program's own text. A memory at block b whose cells lie in block c reads as a list of numbers and two counts.
-/
import Derived.Test.YtkjimgidlpocbaaKit
import Derived.Laws.CopyOwn
namespace Go.Proofs.Ytkjimgidlpocbaa
open Go.RowKit

/-- A memory: its record at block b, its cells in block c. -/
structure MemAt (w : World) (b c : Nat) (cs : List Int) (l s : Int) : Prop where
  rec_ : w.heap[b]? = some (.cells #[.slice (some ⟨c, 0, none⟩) cs.length cs.length, .int .i64 l, .int .i64 s] 69 (0, 0))
  row : w.heap[c]? = some (.cells (cs.map (Value.int .u32)).toArray 52 (0, 0))

theorem MemAt.ne {w : World} {b c : Nat} {cs : List Int} {l s : Int} (h : MemAt w b c cs l s) : b ≠ c := by
  rintro rfl
  have := h.rec_.symm.trans h.row
  simp at this
theorem MemAt.of_blocks {w w' : World} {b c : Nat} {cs : List Int} {l s : Int} (h : MemAt w b c cs l s) (hb : w'.heap[b]? = w.heap[b]?) (hc : w'.heap[c]? = w.heap[c]?) : MemAt w' b c cs l s := ⟨hb.trans h.rec_, hc.trans h.row⟩
theorem MemAt.mod {w w' : World} {b c : Nat} {cs : List Int} {l s : Int} (h : MemAt w b c cs l s) {S : Nat → Prop} (hm : Mod S w w') (hb : ¬ S b) (hc : ¬ S c) : MemAt w' b c cs l s :=
  h.of_blocks (hm.block b (lt_of_heap h.rec_) hb) (hm.block c (lt_of_heap h.row) hc)
theorem MemAt.below {w w' : World} {b c : Nat} {cs : List Int} {l s : Int} (h : MemAt w b c cs l s) (hm : Below w.heap.size w w') : MemAt w' b c cs l s :=
  h.of_blocks (hm.block b (lt_of_heap h.rec_)) (hm.block c (lt_of_heap h.row))
theorem MemAt.loaded {w : World} {b c : Nat} {cs : List Int} {l s : Int} (h : MemAt w b c cs l s) (l' : Int) : MemAt (w.setCell ⟨b, 1, none⟩ (.int .i64 l')) b c cs l' s := by
  refine ⟨?_, ?_⟩
  · rw [heap_setCell_same _ _ _ _ _ _ h.rec_]; rfl
  · rw [Below.heap_setCell _ _ _ _ h.ne.symm]; exact h.row
theorem MemAt.counted {w : World} {b c : Nat} {cs : List Int} {l s : Int} (h : MemAt w b c cs l s) (s' : Int) : MemAt (w.setCell ⟨b, 2, none⟩ (.int .i64 s')) b c cs l s' := by
  refine ⟨?_, ?_⟩
  · rw [heap_setCell_same _ _ _ _ _ _ h.rec_]; rfl
  · rw [Below.heap_setCell _ _ _ _ h.ne.symm]; exact h.row
theorem MemAt.stored {w : World} {b c : Nat} {cs : List Int} {l s : Int} (h : MemAt w b c cs l s) (a : Nat) (v : Int) : MemAt (w.setCell ⟨c, a, none⟩ (.int .u32 v)) b c (cs.set a v) l s := by
  refine ⟨?_, ?_⟩
  · rw [Below.heap_setCell _ _ _ _ h.ne]; simpa using h.rec_
  · rw [heap_setCell_same _ _ _ _ _ _ h.row]; simp [List.map_set]

theorem info_m32 : (Try.prog.info? 52).map (fun i => (i.zero, i.size, i.bytes)) = some (some (.int .u32 0), 1, 4) := by kernel_rfl
theorem made_m32 (n : Nat) : madeCells (Value.cells (.int .u32 0)) n = ((List.replicate n (0:Int)).map (Value.int .u32)).toArray := by
  apply Array.ext
  · simp [madeCells]
  · intro i h1 h2
    simp [madeCells, Value.cells]
    simp [Nat.mod_one]
theorem run_make_u32 (n : Nat) (h2 : n ≤ 65536) (w : World) : (Instr.makeSlice 26 (.int .i64 n) (.int .i64 n)).run Try.prog w = .ok (.slice (some ⟨w.heap.size, 0, none⟩) n n) (w.alloc (.cells (Array.replicate n (Value.int .u32 0)) 52)) := by
  obtain ⟨i0, hi, hz0, hz1, hz2⟩ := info_parts info_m32
  have := run_make (P := Try.prog) w 26 52 i0 _ Try.underlying26 hi hz0 .i64 .i64 n n (by omega) (by omega) (by rw [hz2]; omega) (by omega)
  rw [this, hz1, made_m32]; simp

theorem size_m32 : (Try.prog.info? 52).map (·.size) = some 1 := by kernel_rfl

/-! ### The calls -/

theorem new_ok (w : World) (n : Nat) (h1 : 1 ≤ n) (h2 : n ≤ 65536) :
    Calls Try.prog 31 #[.int .i64 n] w fun e w' => e = .returned (.tuple #[.pointer (some ⟨w.heap.size + 1, 0, none⟩), .int .i64 0]) ∧ MemAt w' (w.heap.size + 1) w.heap.size (List.replicate n 0) 0 0 ∧ Below w.heap.size w w' := by
  have hmk := run_make_u32 n h2
  go_enter Try.func31, Try.ntmps31
  go_wp2
  go_ret2
  refine ⟨rfl, ⟨?_, ?_⟩, ((Below.refl _ _).alloc (Nat.le_refl _) _).alloc (by simp) _⟩
  · simpa using heap_alloc_new (w.alloc (.cells (Array.replicate n (Value.int .u32 0)) 52)) (.cells #[.slice (some ⟨w.heap.size, 0, none⟩) n n, .int .i64 0, .int .i64 0] 69)
  · rw [Below.heap_alloc _ _ _ (by simp)]; simpa using heap_alloc_new w (.cells (Array.replicate n (Value.int .u32 0)) 52)
theorem new_bad (w : World) (n : Int) (h : n < 1 ∨ 65536 < n) :
    Calls Try.prog 31 #[.int .i64 n] w fun e w' => e = .returned (.tuple #[.pointer none, .int .i64 1]) ∧ w = w' := by
  rcases h with h | h
  · go_enter Try.func31, Try.ntmps31
    go_wp2
    go_ret2
    exact ⟨rfl, rfl⟩
  · have h' : ¬ n < 1 := by omega
    go_enter Try.func31, Try.ntmps31
    go_wp2
    go_ret2
    exact ⟨rfl, rfl⟩

theorem MemAt.c0 {w : World} {b c : Nat} {cs : List Int} {l s : Int} (h : MemAt w b c cs l s) : w.cell? ⟨b, 0, none⟩ = some (.slice (some ⟨c, 0, none⟩) cs.length cs.length) := cell_at h.rec_ 0
theorem MemAt.c1 {w : World} {b c : Nat} {cs : List Int} {l s : Int} (h : MemAt w b c cs l s) : w.cell? ⟨b, 1, none⟩ = some (.int .i64 l) := cell_at h.rec_ 1
theorem MemAt.c2 {w : World} {b c : Nat} {cs : List Int} {l s : Int} (h : MemAt w b c cs l s) : w.cell? ⟨b, 2, none⟩ = some (.int .i64 s) := cell_at h.rec_ 2
theorem MemAt.at_ {w : World} {b c : Nat} {cs : List Int} {l s : Int} (h : MemAt w b c cs l s) {a : Nat} (ha : a < cs.length) : w.cell? ⟨c, a, none⟩ = some (.int .u32 cs[a]) := by rw [cell_at h.row a]; simp [ha]

theorem len_at {w : World} {b c : Nat} {cs : List Int} {l s : Int} (h : MemAt w b c cs l s) :
    Calls Try.prog 56 #[.pointer (some ⟨b, 0, none⟩)] w fun e w' => e = .returned (.int .i64 cs.length) ∧ w = w' := by
  have h0 := h.c0
  go_enter Try.func56, Try.ntmps56
  go_wp2
  go_ret
  exact ⟨rfl, rfl⟩
theorem has_in {w : World} {b c : Nat} {cs : List Int} {l s : Int} (h : MemAt w b c cs l s) (a : Nat) (ha : a < cs.length) :
    Calls Try.prog 42 #[.pointer (some ⟨b, 0, none⟩), .int .i64 a] w fun e w' => e = .returned (.bool true) ∧ w = w' := by
  have hd : decide ((a : Int) < (cs.length : Int)) = true := by simpa using ha
  go_enter Try.func42, Try.ntmps42
  go_wp2_with (go_at_call 56; refine (len_at h).mono ?_; rintro e w' ⟨rfl, rfl⟩)
  go_ret
  exact ⟨by simp, rfl⟩
theorem has_out {w : World} {b c : Nat} {cs : List Int} {l s : Int} (h : MemAt w b c cs l s) (a : Int) (ha : a < 0 ∨ cs.length ≤ a) :
    Calls Try.prog 42 #[.pointer (some ⟨b, 0, none⟩), .int .i64 a] w fun e w' => e = .returned (.bool false) ∧ w = w' := by
  by_cases h0 : a < 0
  · go_enter Try.func42, Try.ntmps42
    go_wp2_with (go_at_call 56; refine (len_at h).mono ?_; rintro e w' ⟨rfl, rfl⟩)
    go_ret
    exact ⟨rfl, rfl⟩
  · have ha' : 0 ≤ a := by omega
    have hd : decide (a < (cs.length : Int)) = false := by simp; omega
    go_enter Try.func42, Try.ntmps42
    go_wp2_with (go_at_call 56; refine (len_at h).mono ?_; rintro e w' ⟨rfl, rfl⟩)
    go_ret
    exact ⟨by simp, rfl⟩
theorem load_in {w : World} {b c : Nat} {cs : List Int} {l s : Int} (h : MemAt w b c cs l s) (a : Nat) (ha : a < cs.length) (hl0 : 0 ≤ l) (hl : l < 1000000000) :
    Calls Try.prog 45 #[.pointer (some ⟨b, 0, none⟩), .int .i64 a] w fun e w' => e = .returned (.tuple #[.int .u32 cs[a], .int .i64 0]) ∧ MemAt w' b c cs (l + 1) s ∧ Mod (· = b) w w' := by
  have h0 := h.c0
  have h1 := h.c1
  have f1 := free_at h.rec_ 1
  have h2 := h.at_ ha
  have hne : ¬ c = b := fun e => h.ne e.symm
  go_enter Try.func45, Try.ntmps45
  go_wp2_with (go_at_call 42; refine (has_in h a ha).mono ?_; rintro e w' ⟨rfl, rfl⟩)
  go_ret2
  exact ⟨rfl, h.loaded _, Mod.setCell (S := fun k => k = b) (Mod.refl _ _) (.inr rfl) _⟩
theorem load_out {w : World} {b c : Nat} {cs : List Int} {l s : Int} (h : MemAt w b c cs l s) (a : Int) (ha : a < 0 ∨ cs.length ≤ a) :
    Calls Try.prog 45 #[.pointer (some ⟨b, 0, none⟩), .int .i64 a] w fun e w' => e = .returned (.tuple #[.int .u32 0, .int .i64 2]) ∧ w = w' := by
  go_enter Try.func45, Try.ntmps45
  go_wp2_with (go_at_call 42; refine (has_out h a ha).mono ?_; rintro e w' ⟨rfl, rfl⟩)
  go_ret2
  exact ⟨rfl, rfl⟩
theorem store_in {w : World} {b c : Nat} {cs : List Int} {l s : Int} (h : MemAt w b c cs l s) (a : Nat) (v : Int) (ha : a < cs.length) (hs0 : 0 ≤ s) (hs : s < 1000000000) :
    Calls Try.prog 32 #[.pointer (some ⟨b, 0, none⟩), .int .i64 a, .int .u32 v] w fun e w' => e = .returned (.int .i64 0) ∧ MemAt w' b c (cs.set a v) l (s + 1) ∧ Mod (fun k => k = b ∨ k = c) w w' := by
  have h0 := h.c0
  have h1 := h.c2
  have f1 := free_at h.rec_ 2
  have h2 := h.at_ ha
  have f2 := free_at h.row a
  have hne : ¬ c = b := fun e => h.ne e.symm
  go_enter Try.func32, Try.ntmps32
  go_wp2_with (go_at_call 42; refine (has_in h a ha).mono ?_; rintro e w' ⟨rfl, rfl⟩)
  go_ret
  exact ⟨rfl, (h.counted _).stored _ _, Mod.setCell (S := fun k => k = b ∨ k = c) (Mod.setCell (S := fun k => k = b ∨ k = c) (Mod.refl _ _) (.inr (.inl rfl)) _) (.inr (.inr rfl)) _⟩
theorem store_out {w : World} {b c : Nat} {cs : List Int} {l s : Int} (h : MemAt w b c cs l s) (a v : Int) (ha : a < 0 ∨ cs.length ≤ a) :
    Calls Try.prog 32 #[.pointer (some ⟨b, 0, none⟩), .int .i64 a, .int .u32 v] w fun e w' => e = .returned (.int .i64 2) ∧ w = w' := by
  go_enter Try.func32, Try.ntmps32
  go_wp2_with (go_at_call 42; refine (has_out h a ha).mono ?_; rintro e w' ⟨rfl, rfl⟩)
  go_ret
  exact ⟨rfl, rfl⟩

/-! ### What all hold: a copy -/
theorem cells_at {w : World} {b c : Nat} {cs : List Int} {l s : Int} (h : MemAt w b c cs l s) (hn : cs.length ≤ 65536) :
    Calls Try.prog 17 #[.pointer (some ⟨b, 0, none⟩)] w fun e w' => e = .returned (.slice (some ⟨w.heap.size, 0, none⟩) cs.length cs.length) ∧
      w'.heap[w.heap.size]? = some (.cells (cs.map (Value.int .u32)).toArray 52 (0, 0)) ∧ Below w.heap.size w w' := by
  have h0 := h.c0
  have hmk := run_make_u32 cs.length hn
  have hbl := lt_of_heap h.rec_
  have hrl := lt_of_heap h.row
  have hnew : (w.alloc (.cells (Array.replicate cs.length (Value.int .u32 0)) 52)).heap[w.heap.size]? = some (.cells (List.replicate cs.length (Value.int .u32 0)).toArray 52 (0, 0)) := by
    simpa using heap_alloc_new w (.cells (Array.replicate cs.length (Value.int .u32 0)) 52)
  have HN := Lib.hid hnew
  have hrow : ∀ (j : Nat) (v : Value), (cs.map (Value.int .u32))[j]? = some v → (w.alloc (.cells (Array.replicate cs.length (Value.int .u32 0)) 52)).cell? ((⟨c, 0, none⟩ : Addr).add j) = some v := by
    intro j v hj
    rw [Addr.add_lit, Nat.zero_add, World.cell?_of_block (w := w) (Below.heap_alloc w _ c hrl), cell_at h.row]
    simpa using hj
  have HR := Lib.hid hrow
  clear hnew hrow
  have H1 := Lib.hid (show (cs.map (Value.int .u32)).length = Nat.min cs.length cs.length by simp)
  have H3 := Lib.hid (show 0 + (cs.map (Value.int .u32)).length ≤ (List.replicate cs.length (Value.int .u32 0)).length by simp)
  have H4 := Lib.hid (show ∀ v ∈ cs.map (Value.int .u32), v.oneCell' = true by simp [Value.oneCell'])
  go_enter Try.func17, Try.ntmps17
  go_wp2_with (with_reducible refine wpList_copy_splice rfl (.tmp 12) (.tmp 16) 26 26 rfl 52 Try.underlying26 size_m32 _ _ _ _ _ _ rfl rfl w.heap.size 0 _ 52 HN.out (cs.map (Value.int .u32)) H1.out (fun _ => ⟨rfl, _, rfl, HR.out⟩) H3.out H4.out w.heap.size w ((Below.refl _ _).alloc (Nat.le_refl _) _) (Nat.le_refl _) ?_; intro w2 hg2 hb2)
  go_ret
  refine ⟨rfl, ?_, hb2⟩
  have := hg2.out
  simpa [splice] using this

/-! ### A nil memory -/
theorem len_nil (w : World) : Calls Try.prog 56 #[.pointer none] w fun e w' => e = .returned (.int .i64 0) ∧ w = w' := by
  go_enter Try.func56, Try.ntmps56
  go_wp2
  go_ret
  exact ⟨rfl, rfl⟩
theorem cells_nil (w : World) : Calls Try.prog 17 #[.pointer none] w fun e w' => e = .returned (.slice none 0 0) ∧ w = w' := by
  go_enter Try.func17, Try.ntmps17
  go_wp2
  go_ret
  exact ⟨rfl, rfl⟩
theorem has_nil (w : World) (a : Int) : Calls Try.prog 42 #[.pointer none, .int .i64 a] w fun e w' => e = .returned (.bool false) ∧ w = w' := by
  by_cases h0 : a < 0
  · go_enter Try.func42, Try.ntmps42
    go_wp2_with (go_at_call 56; refine (len_nil _).mono ?_; rintro e w' ⟨rfl, rfl⟩)
    go_ret
    exact ⟨rfl, rfl⟩
  · have ha' : 0 ≤ a := by omega
    go_enter Try.func42, Try.ntmps42
    go_wp2_with (go_at_call 56; refine (len_nil _).mono ?_; rintro e w' ⟨rfl, rfl⟩)
    go_ret
    exact ⟨by simp; omega, rfl⟩
theorem load_nil (w : World) (a : Int) : Calls Try.prog 45 #[.pointer none, .int .i64 a] w fun e w' => e = .returned (.tuple #[.int .u32 0, .int .i64 2]) ∧ w = w' := by
  go_enter Try.func45, Try.ntmps45
  go_wp2_with (go_at_call 42; refine (has_nil _ _).mono ?_; rintro e w' ⟨rfl, rfl⟩)
  go_ret2
  exact ⟨rfl, rfl⟩
theorem store_nil (w : World) (a v : Int) : Calls Try.prog 32 #[.pointer none, .int .i64 a, .int .u32 v] w fun e w' => e = .returned (.int .i64 2) ∧ w = w' := by
  go_enter Try.func32, Try.ntmps32
  go_wp2_with (go_at_call 42; refine (has_nil _ _).mono ?_; rintro e w' ⟨rfl, rfl⟩)
  go_ret
  exact ⟨rfl, rfl⟩
end Go.Proofs.Ytkjimgidlpocbaa
