/-
  A run's log grows by one; what note, leave, Load and Store do to a run. Over the program's own text.
-/
import Derived.Test.YtkjimgidlpocbaaStep
import Derived.ArgAppend
import Derived.OwnWalk
namespace Go.Proofs.Ytkjimgidlpocbaa
open Go.RowKit

theorem Mod.of_grown {w w' : World} {row : Option Nat} (h : w.grownBy w' row) : Mod (fun k => row = some k) w w' := ⟨h.os, h.tape, h.output, h.size, fun k hk hs => h.block k hk (fun e => hs e.symm)⟩

theorem LogIn.owns {w : World} {g cap : Nat} {log : List Int} (h : LogIn w (some g) cap log) : w.ownsRow 0 52 1 (.slice (some ⟨g, 0, none⟩) log.length cap) log.length (log.map (Value.int .u32)) := by
  obtain ⟨cur, h1, h2, h3, h4, h5⟩ := h
  exact ⟨by simp, .inr ⟨g, cap, cur, rfl, Nat.zero_le _, h1, h2, h3, by omega, by simpa using h5⟩⟩
theorem LogIn.of_owns {w : World} {base n : Nat} {v : Value} {xs : List Value} {log : List Int} (h : w.ownsRow base 52 1 v n xs) (hn : n = log.length) (hx : xs = log.map (Value.int .u32)) (h0 : 0 < n) :
    ∃ g cap, v = .slice (some ⟨g, 0, none⟩) log.length cap ∧ base ≤ g ∧ LogIn w (some g) cap log := by
  subst hn hx
  obtain ⟨_, h | ⟨g, cap, cur, h1, h2, h3, h4, h5, h6, h7⟩⟩ := h
  · omega
  · exact ⟨g, cap, h1, h2, cur, h3, h4, h5, by omega, by simpa using h7⟩

section
variable {P : Program}
/-- One number more behind a log. -/
theorem wpList_append_log {w : World} {ops : Array Oper} {rest : List Oper} {o : Oper} {a : Act} {Q : Exit → Act → World → Prop}
    (hg : o.guard = none) (s x : Operand) (hop : o.op = Op.call { callee := Callee.builtin Builtin.append, args := #[s, x], argTypes := #[26, 26] })
    {go : Option Nat} {cap : Nat} {log : List Int} (hlog : LogIn w go cap log) (hl : log.length < 1000000000) (hs : a.eval s = .slice (go.map fun g => ⟨g, 0, none⟩) log.length cap)
    (b : Nat) (v : Int) (hx : a.eval x = .slice (some ⟨b, 0, none⟩) 1 1) (hc : w.cell? ⟨b, 0, none⟩ = some (.int .u32 v))
    (h : ∀ go' cap' w', LogIn w' go' cap' (log ++ [v]) → (go' = go ∨ ∃ g, go' = some g ∧ w.heap.size ≤ g) → Mod (fun k => go = some k) w w' → wpList Try.prog ops Q rest (a.put o.dst (.slice (go'.map fun g => ⟨g, 0, none⟩) (log.length + 1) cap')) w') :
    wpList Try.prog ops Q (o :: rest) a w := by
  obtain ⟨i0, hi, hz0, hz1, hz2⟩ := info_parts info_m32
  have hnews : ∀ (j : Nat) (u : Value), [Value.int .u32 v][j]? = some u → w.cell? ((⟨b, 0, none⟩ : Addr).add j) = some u := by
    intro j u hj
    rcases j with _ | j
    · simp at hj; subst hj
      rw [Addr.add_lit]; exact hc
    · simp at hj
  by_cases hroom : log.length + 1 ≤ cap
  · cases go with
    | none => obtain ⟨_, rfl⟩ := hlog; omega
    | some g =>
      refine wpList_append_fits w hg s x 26 hop 0 52 i0 1 Try.underlying26 hi hz1 g log.length cap (log.map (Value.int .u32)) hs hlog.owns ⟨b, 0, none⟩ 1 1 [.int .u32 v] hx rfl hnews (by simp [Value.oneCell']) hroom ?_
      intro w' ho hgr
      obtain ⟨g', cap', hv, _, hl'⟩ := LogIn.of_owns (log := log ++ [v]) ho (by simp) (by simp) (by omega)
      simp only [Value.slice.injEq, Option.some.injEq, Addr.mk.injEq, and_true] at hv
      obtain ⟨rfl, _, rfl⟩ := hv
      exact h (some g) cap w' hl' (.inl rfl) (Mod.of_grown hgr)
  · refine wpList_append_grows w hg s x 26 hop 52 i0 _ 1 4 Try.underlying26 hi hz0 hz1 hz2 rfl (by decide) (go.map fun g => ⟨g, 0, none⟩) log.length cap (log.map (Value.int .u32)) hs ?_ (by simp) ?_ ⟨b, 0, none⟩ 1 1 [.int .u32 v] hx rfl hnews (by simp [Value.oneCell']) (by omega) (by unfold maxLen; omega) (by omega) ?_
    · intro hn
      cases go with
      | none => obtain ⟨rfl, rfl⟩ := hlog; exact ⟨rfl, rfl⟩
      | some g => simp at hn
    · intro ad had j u hj
      cases go with
      | none => simp at had
      | some g =>
        simp at had
        subst had
        exact hlog.owns.cells (g := g) rfl j u hj
    · intro v' w' ho hgr
      obtain ⟨g', cap', rfl, hge, hl'⟩ := LogIn.of_owns (log := log ++ [v]) ho (by simp) (by simp) (by omega)
      have := h (some g') cap' w' hl' (.inr ⟨g', rfl, hge⟩) ((Mod.of_grown hgr).mono fun k _ hk => by cases hk)
      simpa using this
end

section
variable {w : World} {rb mb cap at_ : Nat} {go : Option Nat} {log : List Int} {wi ma off ov : Bool} {er : Int}

theorem note_ok (h : RunAt w rb mb go cap log at_ wi ma off ov er) (v : Int) (hl : log.length < 1000000000) (ha : at_ < 1000000000) :
    Calls Try.prog 46 #[.pointer (some ⟨rb, 0, none⟩), .int .u32 v, .int .i64 0] w fun e w' => e = .returned (.tuple #[]) ∧ ∃ go' cap', RunAt w' rb mb go' cap' (log ++ [v]) (at_ + 1) wi ma off ov er ∧ (go' = go ∨ ∃ g, go' = some g ∧ w.heap.size ≤ g) ∧ Mod (Foot rb go) w w' := by
  have h1 := h.c1
  have hlt := lt_of_heap h.rec_
  have H := Lib.hid h
  clear h
  have hne : ¬ w.heap.size = rb := by omega
  go_enter Try.func46, Try.ntmps46
  go_wp2_with (at_builtin; refine wpList_append_log rfl (.tmp 22) (.tmp 24) rfl (H.out.row.of_block fun g hg => Below.heap_alloc _ _ _ (H.out.lt g (.inr hg))) hl rfl w.heap.size v rfl (cell_at (heap_alloc_new w _) 0) ?_; intro go' cap' w1 hl1 hgo1 hm1; have hr1 := (hm1.block rb (by simp; omega) (fun e => H.out.ne e)).trans ((Below.heap_alloc _ _ _ hlt).trans H.out.rec_); have k1 := cell_at hr1 1; have k2 := cell_at hr1 2; have f1 := free_at hr1 1; have f2 := free_at hr1 2; have HE := Lib.hid (And.intro hl1 (And.intro hgo1 (And.intro hm1 hr1))); clear hl1 hgo1 hm1 hr1)
  go_end0
  obtain ⟨hl1, hgo1, hm1, hr1⟩ := HE.out
  refine ⟨rfl, go', cap', ⟨?_, ?_⟩, ?_, ?_⟩
  · rw [heap_setCell_same _ _ _ _ _ _ (heap_setCell_same _ _ _ _ _ _ hr1)]; simp
  · refine hl1.of_block fun g hg => ?_
    have hgr : g ≠ rb := by
      rintro rfl
      subst hg
      obtain ⟨cur, hx, _⟩ := hl1
      rw [hr1] at hx
      simp at hx
    rw [Below.heap_setCell _ _ _ _ hgr, Below.heap_setCell _ _ _ _ hgr]
  · rcases hgo1 with e | ⟨g, e, hg⟩
    · exact .inl e
    · exact .inr ⟨g, e, by simp at hg; omega⟩
  · refine Mod.setCell (S := Foot rb go) (Mod.setCell (S := Foot rb go) ?_ (.inr (.inl rfl)) _) (.inr (.inl rfl)) _
    exact ((Mod.refl (Foot rb go) w).alloc _).trans (hm1.mono fun k _ hk => .inr hk)
end
end Go.Proofs.Ytkjimgidlpocbaa
