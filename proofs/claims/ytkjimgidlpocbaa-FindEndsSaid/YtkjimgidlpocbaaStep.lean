/-
  What each small call of package step does to a run: contracts over the program's own text. A run at block rb holds its memory's block, its log (in a block of its own, or nil), and six plain fields.
-/
import Derived.Test.YtkjimgidlpocbaaMemB
import Derived.Laws.AppendOwn
import Derived.Defers
namespace Go.Proofs.Ytkjimgidlpocbaa
open Go.RowKit

/-- A run's log in memory: none yet, or the first cells of a row of its own. -/
def LogIn (w : World) (go : Option Nat) (cap : Nat) (log : List Int) : Prop := match go with
  | none => log = [] ∧ cap = 0
  | some g => ∃ cur, w.heap[g]? = some (.cells cur 52 (0, 0)) ∧ log.length ≤ cap ∧ cap ≤ maxLen ∧ cur.size = cap ∧ cur.toList.take log.length = log.map (Value.int .u32)

/-- A run: its record at block rb. -/
structure RunAt (w : World) (rb mb : Nat) (go : Option Nat) (cap : Nat) (log : List Int) (at_ : Nat) (wi ma off ov : Bool) (er : Int) : Prop where
  rec_ : w.heap[rb]? = some (.cells #[.pointer (some ⟨mb, 0, none⟩), .slice (go.map fun g => ⟨g, 0, none⟩) log.length cap, .int .i64 at_, .bool wi, .bool ma, .bool off, .bool ov, .int .i64 er] 71 (0, 0))
  row : LogIn w go cap log

/-- The blocks of a run. -/
def Foot (rb : Nat) (go : Option Nat) (k : Nat) : Prop := k = rb ∨ go = some k

theorem LogIn.of_block {w w' : World} {go : Option Nat} {cap : Nat} {log : List Int} (h : LogIn w go cap log) (hb : ∀ g, go = some g → w'.heap[g]? = w.heap[g]?) : LogIn w' go cap log := by
  cases go with
  | none => exact h
  | some g =>
    obtain ⟨cur, h1, h2⟩ := h
    exact ⟨cur, (hb g rfl).trans h1, h2⟩
theorem LogIn.lt {w : World} {g cap : Nat} {log : List Int} (h : LogIn w (some g) cap log) : g < w.heap.size := by
  obtain ⟨cur, h1, _⟩ := h
  exact lt_of_heap h1
theorem RunAt.lt {w : World} {rb mb cap at_ : Nat} {go : Option Nat} {log : List Int} {wi ma off ov : Bool} {er : Int} (h : RunAt w rb mb go cap log at_ wi ma off ov er) : ∀ k, Foot rb go k → k < w.heap.size := by
  rintro k (rfl | hk)
  · exact lt_of_heap h.rec_
  · subst hk; exact h.row.lt
theorem RunAt.ne {w : World} {rb mb cap at_ : Nat} {go : Option Nat} {log : List Int} {wi ma off ov : Bool} {er : Int} (h : RunAt w rb mb go cap log at_ wi ma off ov er) : go ≠ some rb := by
  rintro rfl
  obtain ⟨cur, h1, _⟩ := h.row
  have := h.rec_.symm.trans h1
  simp at this
theorem RunAt.of_blocks {w w' : World} {rb mb cap at_ : Nat} {go : Option Nat} {log : List Int} {wi ma off ov : Bool} {er : Int} (h : RunAt w rb mb go cap log at_ wi ma off ov er) (hb : ∀ k, Foot rb go k → w'.heap[k]? = w.heap[k]?) : RunAt w' rb mb go cap log at_ wi ma off ov er :=
  ⟨(hb rb (.inl rfl)).trans h.rec_, h.row.of_block fun g hg => hb g (.inr hg)⟩
theorem RunAt.mod {w w' : World} {rb mb cap at_ : Nat} {go : Option Nat} {log : List Int} {wi ma off ov : Bool} {er : Int} (h : RunAt w rb mb go cap log at_ wi ma off ov er) {S : Nat → Prop} (hm : Mod S w w') (hS : ∀ k, Foot rb go k → ¬ S k) : RunAt w' rb mb go cap log at_ wi ma off ov er :=
  h.of_blocks fun k hk => hm.block k (h.lt k hk) (hS k hk)
theorem RunAt.below {w w' : World} {rb mb cap at_ : Nat} {go : Option Nat} {log : List Int} {wi ma off ov : Bool} {er : Int} (h : RunAt w rb mb go cap log at_ wi ma off ov er) (hm : Below w.heap.size w w') : RunAt w' rb mb go cap log at_ wi ma off ov er :=
  h.of_blocks fun k hk => hm.block k (h.lt k hk)
/-- A store into the record. -/
theorem RunAt.set {w : World} {rb mb cap at_ : Nat} {go : Option Nat} {log : List Int} {wi ma off ov : Bool} {er : Int} (h : RunAt w rb mb go cap log at_ wi ma off ov er) (i : Nat) (u : Value) {at' : Nat} {wi' ma' off' ov' : Bool} {er' : Int}
    (e : (#[Value.pointer (some ⟨mb, 0, none⟩), .slice (go.map fun g => ⟨g, 0, none⟩) log.length cap, .int .i64 at_, .bool wi, .bool ma, .bool off, .bool ov, .int .i64 er].setIfInBounds i u) = #[Value.pointer (some ⟨mb, 0, none⟩), .slice (go.map fun g => ⟨g, 0, none⟩) log.length cap, .int .i64 at', .bool wi', .bool ma', .bool off', .bool ov', .int .i64 er']) :
    RunAt (w.setCell ⟨rb, i, none⟩ u) rb mb go cap log at' wi' ma' off' ov' er' := by
  refine ⟨?_, ?_⟩
  · rw [heap_setCell_same _ _ _ _ _ _ h.rec_, e]
  · refine h.row.of_block fun g hg => Below.heap_setCell _ _ _ _ ?_
    rintro rfl
    exact h.ne hg
theorem RunAt.drawn {w : World} {rb mb cap at_ : Nat} {go : Option Nat} {log : List Int} {wi ma off ov : Bool} {er : Int} (h : RunAt w rb mb go cap log at_ wi ma off ov er) (n : Nat) : RunAt (w.drewN n) rb mb go cap log at_ wi ma off ov er := ⟨h.rec_, h.row⟩

section
variable {w : World} {rb mb cap at_ : Nat} {go : Option Nat} {log : List Int} {wi ma off ov : Bool} {er : Int}
theorem RunAt.c0 (h : RunAt w rb mb go cap log at_ wi ma off ov er) : w.cell? ⟨rb, 0, none⟩ = some (.pointer (some ⟨mb, 0, none⟩)) := cell_at h.rec_ 0
theorem RunAt.c1 (h : RunAt w rb mb go cap log at_ wi ma off ov er) : w.cell? ⟨rb, 1, none⟩ = some (.slice (go.map fun g => ⟨g, 0, none⟩) log.length cap) := cell_at h.rec_ 1
theorem RunAt.c2 (h : RunAt w rb mb go cap log at_ wi ma off ov er) : w.cell? ⟨rb, 2, none⟩ = some (.int .i64 at_) := cell_at h.rec_ 2
theorem RunAt.c3 (h : RunAt w rb mb go cap log at_ wi ma off ov er) : w.cell? ⟨rb, 3, none⟩ = some (.bool wi) := cell_at h.rec_ 3
theorem RunAt.c4 (h : RunAt w rb mb go cap log at_ wi ma off ov er) : w.cell? ⟨rb, 4, none⟩ = some (.bool ma) := cell_at h.rec_ 4
theorem RunAt.c5 (h : RunAt w rb mb go cap log at_ wi ma off ov er) : w.cell? ⟨rb, 5, none⟩ = some (.bool off) := cell_at h.rec_ 5
theorem RunAt.c6 (h : RunAt w rb mb go cap log at_ wi ma off ov er) : w.cell? ⟨rb, 6, none⟩ = some (.bool ov) := cell_at h.rec_ 6
theorem RunAt.c7 (h : RunAt w rb mb go cap log at_ wi ma off ov er) : w.cell? ⟨rb, 7, none⟩ = some (.int .i64 er) := cell_at h.rec_ 7

theorem over_at (h : RunAt w rb mb go cap log at_ wi ma off ov er) :
    Calls Try.prog 23 #[.pointer (some ⟨rb, 0, none⟩)] w fun e w' => e = .returned (.bool ov) ∧ w = w' := by
  have h0 := h.c6
  go_enter Try.func23, Try.ntmps23
  go_wp2
  go_ret
  exact ⟨rfl, rfl⟩
theorem err_at (h : RunAt w rb mb go cap log at_ wi ma off ov er) :
    Calls Try.prog 33 #[.pointer (some ⟨rb, 0, none⟩)] w fun e w' => e = .returned (.int .i64 er) ∧ w = w' := by
  have h0 := h.c7
  go_enter Try.func33, Try.ntmps33
  go_wp2
  go_ret
  exact ⟨rfl, rfl⟩
theorem new_run (w : World) (mb : Nat) :
    Calls Try.prog 18 #[.pointer (some ⟨mb, 0, none⟩)] w fun e w' => e = .returned (.pointer (some ⟨w.heap.size, 0, none⟩)) ∧ RunAt w' w.heap.size mb none 0 [] 0 false false false false 0 ∧ Below w.heap.size w w' := by
  go_enter Try.func18, Try.ntmps18
  go_wp2
  go_ret
  exact ⟨rfl, ⟨heap_alloc_new w _, rfl, rfl⟩, below_one⟩

/-- An access that no earlier Step made. -/
theorem again_no (h : RunAt w rb mb go cap log at_ true ma off ov er) (ha : at_ = log.length) :
    Calls Try.prog 43 #[.pointer (some ⟨rb, 0, none⟩)] w fun e w' => e = .returned (.bool false) ∧ ∃ n, w' = w.drewN n := by
  subst ha
  have h1 := h.c1
  have h2 := h.c2
  have h3 := h.c3
  go_enter Try.func43, Try.ntmps43
  go_wp2
  go_quiet (fail)
  go_wp2
  go_ret
  exact ⟨rfl, _, rfl⟩
/-- An access that an earlier Step made. -/
theorem again_yes (h : RunAt w rb mb go cap log at_ true ma off ov er) (ha : at_ < log.length) (hl : log.length < 1000000000) :
    Calls Try.prog 43 #[.pointer (some ⟨rb, 0, none⟩)] w fun e w' => e = .returned (.bool true) ∧ RunAt w' rb mb go cap log (at_ + 1) true ma off ov er ∧ Mod (· = rb) w w' := by
  have h1 := h.c1
  have h2 := h.c2
  have h3 := h.c3
  have f2 := free_at h.rec_ 2
  have e1 : ((at_ : Int) == (log.length : Int)) = false := by simp; omega
  go_enter Try.func43, Try.ntmps43
  go_wp2
  go_quiet (fail)
  go_wp2
  go_ret
  exact ⟨rfl, (h.drawn _).set 2 _ (by simp), Mod.setCell (S := fun k => k = rb) ((Mod.refl _ _).drewN _) (.inr rfl) _⟩
theorem next_yes (h : RunAt w rb mb go cap log at_ true false off ov er) :
    Calls Try.prog 44 #[.pointer (some ⟨rb, 0, none⟩)] w fun e w' => e = .returned (.bool true) ∧ RunAt w' rb mb go cap log at_ true true false ov er ∧ Mod (· = rb) w w' := by
  have h3 := h.c3
  have h4 := h.c4
  have h5 := h.c5
  have f4 := free_at h.rec_ 4
  have f5 := free_at h.rec_ 5
  go_enter Try.func44, Try.ntmps44
  go_wp2
  go_ret
  exact ⟨rfl, (h.set 5 _ (at' := at_) (wi' := true) (ma' := false) (off' := false) (ov' := ov) (er' := er) rfl).set 4 _ rfl, Mod.setCell (S := fun k => k = rb) (Mod.setCell (S := fun k => k = rb) (Mod.refl _ _) (.inr rfl) _) (.inr rfl) _⟩
theorem next_no (h : RunAt w rb mb go cap log at_ true true off ov er) :
    Calls Try.prog 44 #[.pointer (some ⟨rb, 0, none⟩)] w fun e w' => e = .returned (.bool false) ∧ RunAt w' rb mb go cap log at_ true true true ov er ∧ Mod (· = rb) w w' := by
  have h3 := h.c3
  have h4 := h.c4
  have h5 := h.c5
  have f4 := free_at h.rec_ 4
  have f5 := free_at h.rec_ 5
  go_enter Try.func44, Try.ntmps44
  go_wp2
  go_ret
  exact ⟨rfl, (h.set 5 _ (at' := at_) (wi' := true) (ma' := true) (off' := true) (ov' := ov) (er' := er) rfl).set 4 _ rfl, Mod.setCell (S := fun k => k = rb) (Mod.setCell (S := fun k => k = rb) (Mod.refl _ _) (.inr rfl) _) (.inr rfl) _⟩
theorem note_bad (h : RunAt w rb mb go cap log at_ wi ma off ov er) (v : Int) :
    Calls Try.prog 46 #[.pointer (some ⟨rb, 0, none⟩), .int .u32 v, .int .i64 2] w fun e w' => e = .returned (.tuple #[]) ∧ RunAt w' rb mb go cap log at_ wi ma true true 2 ∧ Mod (· = rb) w w' := by
  have h5 := h.c5
  have h6 := h.c6
  have h7 := h.c7
  have f5 := free_at h.rec_ 5
  have f6 := free_at h.rec_ 6
  have f7 := free_at h.rec_ 7
  go_enter Try.func46, Try.ntmps46
  go_wp2
  first | go_end0 | refine bodyPost_ret (results_none rfl _ _ _) rfl ?_
  exact ⟨rfl, ((h.set 5 _ (at' := at_) (wi' := wi) (ma' := ma) (off' := true) (ov' := ov) (er' := er) rfl).set 6 _ (at' := at_) (wi' := wi) (ma' := ma) (off' := true) (ov' := true) (er' := er) rfl).set 7 _ rfl, Mod.setCell (S := fun k => k = rb) (Mod.setCell (S := fun k => k = rb) (Mod.setCell (S := fun k => k = rb) (Mod.refl _ _) (.inr rfl) _) (.inr rfl) _) (.inr rfl) _⟩
end
end Go.Proofs.Ytkjimgidlpocbaa
