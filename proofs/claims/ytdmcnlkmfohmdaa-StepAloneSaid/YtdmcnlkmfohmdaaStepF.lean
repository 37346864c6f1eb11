/-
  A Step of any run, the laws' cut of a list, and the laws' own example. Over the program's own text.
-/
import Derived.Test.YtdmcnlkmfohmdaaStepE
namespace Go.Proofs.Ytdmcnlkmfohmdaa
open Go.RowKit

theorem step_any {w : World} {rb mb cb lb : Nat} {go : Option Nat} {st : St} {D : Nat → Prop} {ao : Option Addr} {len cap B : Nat} {E : Nat → Ins} (h : RM w rb mb cb go false st) (hB : B < 1000000000) (hok : ({ st with at_ := 0, made := false } : St).Ok B)
    (hI : InsAt w D ao len E) (hlen : len ≤ 100) (hD : ∀ k, D k → ¬ Feet rb mb cb go k) (hlb : w.cell? ⟨lb, 0, none⟩ = some (.slice ao len cap)) (hlf : ¬ Feet rb mb cb go lb) :
    Calls Try.prog 13 #[.pointer (some ⟨rb, 0, none⟩), progV lb] w fun e w' => e = .returned (.bool (st.step E len).over) ∧ ∃ go', RM w' rb mb cb go' false (st.step E len) ∧ Adv rb mb cb w go w' go' := by
  cases ho : st.over with
  | true =>
    have e : st.step E len = st := by simp [St.step, ho]
    rw [e, ho]
    refine (step_over h ho _).mono ?_
    rintro e w' ⟨rfl, rfl⟩
    exact ⟨rfl, go, h, Adv.refl _ _ _ _ _⟩
  | false => exact step_go h ho hB hok hI hlen hD hlb hlf

theorem cut_any (w : World) (ao : Option Addr) (len cap : Nat) (hc : len ≤ cap) (hm : cap ≤ maxLen) :
    Calls Try.prog 11 #[.slice ao len cap] w fun e w' => e = .returned (.slice ao (min len 60) cap) ∧ w = w' := by
  unfold maxLen at hm
  by_cases h : len ≤ 60
  · have e : min len 60 = len := by omega
    have h1 : (len : Int) ≤ 60 := by omega
    rw [e]
    clear e
    go_enter Try.func11, Try.ntmps11
    go_wp2
    go_ret
    exact ⟨by simp, rfl⟩
  · have e : min len 60 = 60 := by omega
    have h1 : (60 : Int) < len := by omega
    rw [e]
    clear e
    go_enter Try.func11, Try.ntmps11
    go_wp2
    go_ret
    exact ⟨by simp, rfl⟩

/-! ### The laws' own example -/
def exE (i : Nat) : Ins := [⟨1, 1, 5⟩, ⟨0, 1, 0⟩, ⟨3, 2, 0⟩].getD i default
theorem exE_u : ∀ i, U (exE i).v := by
  intro i
  rcases i with _ | _ | _ | i
  · exact ⟨by decide, by decide⟩
  · exact ⟨by decide, by decide⟩
  · exact ⟨by decide, by decide⟩
  · exact ⟨by simp [exE, default], by simp [exE, default]⟩
def ex0 : St := ⟨[], 0, false, false, false, 0, [0, 0, 0], 0, 0⟩
def ex1 : St := ⟨[0], 1, true, false, false, 0, [0, 5, 0], 0, 1⟩
def ex1' : St := ⟨[0], 1, true, false, false, 0, [0, 9, 0], 0, 2⟩
def ex2 : St := ⟨[0, 9], 2, true, false, false, 0, [0, 9, 0], 1, 2⟩
def ex3 : St := ⟨[0, 9, 0], 3, true, false, true, 0, [0, 9, 9], 1, 3⟩
theorem ex_1 : ex0.step exE 3 = ex1 := rfl
theorem ex_2 : ex1'.step exE 3 = ex2 := rfl
theorem ex_3 : ex2.step exE 3 = ex3 := rfl

/-! ### What all laws keep -/
/-- A run, its memory and its list of instructions, in a call that began in world W. -/
structure Ctx (W w : World) (rb mb cb : Nat) (go : Option Nat) (st : St) (D : Nat → Prop) (ao : Option Addr) (len : Nat) (E : Nat → Ins) : Prop where
  rm : RM w rb mb cb go false st
  low : Below W.heap.size W w
  feet : ∀ k, Feet rb mb cb go k → W.heap.size ≤ k
  ins : InsAt w D ao len E
  sep : ∀ k, D k → ¬ Feet rb mb cb go k
  old : ∀ k, D k → k < w.heap.size
/-- A program's variable. -/
structure Lb (w : World) (rb mb cb : Nat) (go : Option Nat) (lb : Nat) (ao : Option Addr) (len : Nat) : Prop where
  cell : ∃ cap, w.cell? ⟨lb, 0, none⟩ = some (.slice ao len cap)
  sep : ¬ Feet rb mb cb go lb
  old : lb < w.heap.size

/-- What lies elsewhere lies elsewhere still. -/
theorem Adv.apart {rb mb cb : Nat} {w w' : World} {go go' : Option Nat} (h : Adv rb mb cb w go w' go') {k : Nat} (hk : k < w.heap.size) (hs : ¬ Feet rb mb cb go k) : ¬ Feet rb mb cb go' k := by
  rintro (e | e | e)
  · exact hs (.inl e)
  · rcases h.grows with e' | ⟨g, e', hg⟩
    · exact hs (.inr (.inl (e' ▸ e)))
    · rw [e'] at e; cases e; omega
  · exact hs (.inr (.inr e))
section
variable {W w w' : World} {rb mb cb : Nat} {go go' : Option Nat} {st st' : St} {D : Nat → Prop} {ao : Option Addr} {len : Nat} {E : Nat → Ins}
theorem Ctx.below (h : Ctx W w rb mb cb go st D ao len E) (hb : Below w.heap.size w w') : Ctx W w' rb mb cb go st D ao len E :=
  ⟨h.rm.below hb, h.low.trans (hb.mono h.low.size), h.feet, h.ins.below hb, h.sep, fun k hk => Nat.lt_of_lt_of_le (h.old k hk) hb.size⟩
theorem Ctx.adv (h : Ctx W w rb mb cb go st D ao len E) (ha : Adv rb mb cb w go w' go') (hr : RM w' rb mb cb go' false st') : Ctx W w' rb mb cb go' st' D ao len E := by
  refine ⟨hr, h.low.trans (Mod.below ha.mod h.low.size fun k hk hs => by have := h.feet k hs; omega), ?_, h.ins.mod ha.mod h.sep, fun k hk => ha.apart (h.old k hk) (h.sep k hk), fun k hk => Nat.lt_of_lt_of_le (h.old k hk) ha.mod.size⟩
  rintro k (e | e | e)
  · exact h.feet k (.inl e)
  · rcases ha.grows with e' | ⟨g, e', hg⟩
    · exact h.feet k (.inr (.inl (e' ▸ e)))
    · rw [e'] at e; cases e; exact Nat.le_trans h.low.size hg
  · exact h.feet k (.inr (.inr e))
/-- Where a run's turn is another run's. -/
theorem Ctx.mod (h : Ctx W w rb mb cb go st D ao len E) {S : Nat → Prop} (hm : Mod S w w') (hW : ∀ k, S k → W.heap.size ≤ k) (hS : ∀ k, Feet rb mb cb go k → ¬ S k) (hD : ∀ k, D k → ¬ S k) : Ctx W w' rb mb cb go st D ao len E :=
  ⟨h.rm.mod hm hS, h.low.trans (Mod.below hm h.low.size fun k hk hs => by have := hW k hs; omega), h.feet, h.ins.mod hm hD, h.sep, fun k hk => Nat.lt_of_lt_of_le (h.old k hk) hm.size⟩
theorem Lb.adv {lb : Nat} (h : Lb w rb mb cb go lb ao len) (ha : Adv rb mb cb w go w' go') : Lb w' rb mb cb go' lb ao len := by
  obtain ⟨cap, hc⟩ := h.cell
  exact ⟨⟨cap, (World.cell?_of_block (ha.mod.block lb h.old h.sep)).trans hc⟩, ha.apart h.old h.sep, Nat.lt_of_lt_of_le h.old ha.mod.size⟩
/-- A program is made. -/
theorem Ctx.program (h : Ctx W w rb mb cb go st D ao len E) (cap : Nat) :
    Calls Try.prog 14 #[.slice ao len cap] w fun e w' => ∃ lb, e = .returned (progV lb) ∧ Ctx W w' rb mb cb go st D ao len E ∧ Lb w' rb mb cb go lb ao len ∧ Below w.heap.size w w' := by
  refine (program_any w ao len cap).mono ?_
  rintro e w' ⟨rfl, hc, hb, hl⟩
  exact ⟨_, rfl, h.below hb, ⟨⟨cap, hc⟩, fun e => Nat.lt_irrefl _ (h.rm.lt _ e), hl⟩, hb⟩
/-- A Step is made. -/
theorem Ctx.step {B lb : Nat} (h : Ctx W w rb mb cb go st D ao len E) (hl : Lb w rb mb cb go lb ao len) (hB : B < 1000000000) (hok : ({ st with at_ := 0, made := false } : St).Ok B) (hlen : len ≤ 100) :
    Calls Try.prog 13 #[.pointer (some ⟨rb, 0, none⟩), progV lb] w fun e w' => e = .returned (.bool (st.step E len).over) ∧ ∃ go', Ctx W w' rb mb cb go' (st.step E len) D ao len E ∧ Adv rb mb cb w go w' go' := by
  obtain ⟨cap, hc⟩ := hl.cell
  refine (step_any h.rm hB hok h.ins hlen h.sep hc hl.sep).mono ?_
  rintro e w' ⟨rfl, go', hr, ha⟩
  exact ⟨rfl, go', h.adv ha hr, ha⟩
/-- Its memory is turned by a call on it. -/
theorem Ctx.turn (h : Ctx W w rb mb cb go st D ao len E) {cs' : List Int} {l' s' : Int} (hm : MemAt w' mb cb cs' l' s') {S : Nat → Prop} (hx : Mod S w w') (hS : ∀ k, S k → k = mb ∨ k = cb) : Ctx W w' rb mb cb go { st with cs := cs', l := l', s := s' } D ao len E ∧ Adv rb mb cb w go w' go := by
  obtain ⟨h1, h2, h3⟩ := h.rm.rb_mb
  have ha : Adv rb mb cb w go w' go := Adv.of_mod hx fun k hk => .inr (.inr (hS k hk))
  obtain ⟨cap, hr⟩ := h.rm.run
  refine ⟨h.adv ha ⟨⟨cap, hr.mod hx fun k hk hs => ?_⟩, hm, h.rm.ne⟩, ha⟩
  rcases hS k hs with rfl | rfl
  · exact hk.elim (fun e => h1 e.symm) h3
  · exact hk.elim (fun e => h2 e.symm) h.rm.ne
end
/-- A new run over a memory. -/
theorem RM.new {w w' : World} {rb mb cb : Nat} {cs : List Int} {l s : Int} (hm : MemAt w mb cb cs l s) (hb : Below w.heap.size w w') (hr : RunAt w' rb mb none 0 [] 0 false false false false 0) : RM w' rb mb cb none false ⟨[], 0, false, false, false, 0, cs, l, s⟩ :=
  ⟨⟨0, hr⟩, hm.below hb, by simp⟩
theorem ok_ex : ({ ex0 with at_ := 0, made := false } : St).Ok 100 ∧ ({ ex1' with at_ := 0, made := false } : St).Ok 100 ∧ ({ ex2 with at_ := 0, made := false } : St).Ok 100 := by
  refine ⟨⟨?_, ?_, ?_, ?_, ?_, ?_, ?_⟩, ⟨?_, ?_, ?_, ?_, ?_, ?_, ?_⟩, ⟨?_, ?_, ?_, ?_, ?_, ?_, ?_⟩⟩ <;> simp [ex0, ex1', ex2, U]
theorem exIns {w : World} {ib : Nat} (h : w.heap[ib]? = some (.cells #[.int .i64 1, .int .i64 1, .int .u32 5, .int .i64 0, .int .i64 1, .int .u32 0, .int .i64 3, .int .i64 2, .int .u32 0] 51 (0, 0))) : InsAt w (· = ib) (some ⟨ib, 0, none⟩) 3 exE := by
  refine ⟨fun i hi => ⟨ib, 0, rfl, rfl, lt_of_heap h, ?_⟩, exE_u⟩
  rcases i with _ | _ | _ | i
  · exact ⟨cell_at h _, cell_at h _, cell_at h _⟩
  · exact ⟨cell_at h _, cell_at h _, cell_at h _⟩
  · exact ⟨cell_at h _, cell_at h _, cell_at h _⟩
  · omega
end Go.Proofs.Ytdmcnlkmfohmdaa
