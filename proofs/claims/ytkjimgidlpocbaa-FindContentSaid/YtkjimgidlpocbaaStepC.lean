/-
  What Load and Store do to a run: contracts over the program's own text, in the words of the state.
-/
import Derived.Test.YtkjimgidlpocbaaStepB
import Derived.Test.YtkjimgidlpocbaaStepPure
namespace Go.Proofs.Ytkjimgidlpocbaa
open Go.RowKit

/-- A run and its memory. -/
structure RM (w : World) (rb mb cb : Nat) (go : Option Nat) (wi : Bool) (st : St) : Prop where
  run : ∃ cap, RunAt w rb mb go cap st.log st.at_ wi st.made st.off st.over st.err
  mem : MemAt w mb cb st.cs st.l st.s
  ne : go ≠ some cb

/-- The blocks of a run and of its memory. -/
def Feet (rb mb cb : Nat) (go : Option Nat) (k : Nat) : Prop := k = rb ∨ go = some k ∨ k = mb ∨ k = cb
/-- A run's log stays where it is, or moves to a new block. -/
def Grows (w : World) (go go' : Option Nat) : Prop := go' = go ∨ ∃ g, go' = some g ∧ w.heap.size ≤ g
/-- From one world to a later one only a run and its memory have turned. -/
structure Adv (rb mb cb : Nat) (w : World) (go : Option Nat) (w' : World) (go' : Option Nat) : Prop where
  grows : Grows w go go'
  mod : Mod (Feet rb mb cb go) w w'

theorem Mod.then {S T : Nat → Prop} {a b c : World} (h : Mod S a b) (k : Mod T b c) (hst : ∀ i, i < a.heap.size → T i → S i) : Mod S a c :=
  ⟨k.os.trans h.os, k.tape.trans h.tape, k.output.trans h.output, Nat.le_trans h.size k.size, fun i hi hs => (k.block i (Nat.lt_of_lt_of_le hi h.size) fun ht => hs (hst i hi ht)).trans (h.block i hi hs)⟩
theorem Adv.trans {rb mb cb : Nat} {w w1 w2 : World} {go go1 go2 : Option Nat} (h : Adv rb mb cb w go w1 go1) (k : Adv rb mb cb w1 go1 w2 go2) : Adv rb mb cb w go w2 go2 := by
  refine ⟨?_, h.mod.then k.mod ?_⟩
  · rcases k.grows with e | ⟨g, e, hg⟩
    · rw [e]; exact h.grows
    · exact .inr ⟨g, e, Nat.le_trans h.mod.size hg⟩
  · rintro i hi (e | e | e)
    · exact .inl e
    · rcases h.grows with e' | ⟨g, e', hg⟩
      · exact .inr (.inl (e' ▸ e))
      · rw [e'] at e; cases e; omega
    · exact .inr (.inr e)
theorem Adv.refl (rb mb cb : Nat) (w : World) (go : Option Nat) : Adv rb mb cb w go w go := ⟨.inl rfl, Mod.refl _ _⟩
theorem Adv.of_mod {rb mb cb : Nat} {w w' : World} {go : Option Nat} {S : Nat → Prop} (h : Mod S w w') (hS : ∀ k, S k → Feet rb mb cb go k) : Adv rb mb cb w go w' go := ⟨.inl rfl, h.mono fun k _ hk => hS k hk⟩
theorem Adv.of_below {rb mb cb : Nat} {w w' : World} {go : Option Nat} (h : Below w.heap.size w w') : Adv rb mb cb w go w' go := ⟨.inl rfl, Below.mod h _ fun k hk hk' => by omega⟩

theorem RM.rb_mb {w : World} {rb mb cb : Nat} {go : Option Nat} {wi : Bool} {st : St} (h : RM w rb mb cb go wi st) : rb ≠ mb ∧ rb ≠ cb ∧ go ≠ some mb := by
  obtain ⟨cap, h1⟩ := h.run
  have h2 := h.mem
  refine ⟨?_, ?_, ?_⟩
  · rintro rfl
    have := h1.rec_.symm.trans h2.rec_
    simp at this
  · rintro rfl
    have := h1.rec_.symm.trans h2.row
    simp at this
  · rintro rfl
    obtain ⟨cur, h3, _⟩ := h1.row
    have := h3.symm.trans h2.rec_
    simp at this
theorem RM.lt {w : World} {rb mb cb : Nat} {go : Option Nat} {wi : Bool} {st : St} (h : RM w rb mb cb go wi st) : ∀ k, Feet rb mb cb go k → k < w.heap.size := by
  obtain ⟨cap, h1⟩ := h.run
  rintro k (e | e | e | e)
  · exact h1.lt k (.inl e)
  · exact h1.lt k (.inr e)
  · rw [e]; exact lt_of_heap h.mem.rec_
  · rw [e]; exact lt_of_heap h.mem.row
theorem RM.of_blocks {w w' : World} {rb mb cb : Nat} {go : Option Nat} {wi : Bool} {st : St} (h : RM w rb mb cb go wi st) (hb : ∀ k, Feet rb mb cb go k → w'.heap[k]? = w.heap[k]?) : RM w' rb mb cb go wi st := by
  obtain ⟨cap, h1⟩ := h.run
  exact ⟨⟨cap, h1.of_blocks fun k hk => hb k (hk.elim .inl fun e => .inr (.inl e))⟩, h.mem.of_blocks (hb mb (.inr (.inr (.inl rfl)))) (hb cb (.inr (.inr (.inr rfl)))), h.ne⟩
theorem RM.mod {w w' : World} {rb mb cb : Nat} {go : Option Nat} {wi : Bool} {st : St} (h : RM w rb mb cb go wi st) {S : Nat → Prop} (hm : Mod S w w') (hS : ∀ k, Feet rb mb cb go k → ¬ S k) : RM w' rb mb cb go wi st :=
  h.of_blocks fun k hk => hm.block k (h.lt k hk) (hS k hk)
theorem RM.below {w w' : World} {rb mb cb : Nat} {go : Option Nat} {wi : Bool} {st : St} (h : RM w rb mb cb go wi st) (hm : Below w.heap.size w w') : RM w' rb mb cb go wi st :=
  h.of_blocks fun k hk => hm.block k (h.lt k hk)

/-- Where no block of a memory turns, it stays. -/
theorem mem_mod {w w' : World} {mb cb : Nat} {cs : List Int} {l s : Int} (h : MemAt w mb cb cs l s) {S : Nat → Prop} (hm : Mod S w w') (h1 : ¬ S mb) (h2 : ¬ S cb) : MemAt w' mb cb cs l s := h.mod hm h1 h2

theorem LogIn.cell {w : World} {go : Option Nat} {cap : Nat} {log : List Int} (h : LogIn w go cap log) {i : Nat} (hi : i < log.length) : ∃ g, go = some g ∧ log.length ≤ cap ∧ w.cell? ⟨g, i, none⟩ = some (.int .u32 (log.getD i 0)) := by
  cases go with
  | none => obtain ⟨rfl, _⟩ := h; simp at hi
  | some g =>
    obtain ⟨cur, h1, h2, h3, h4, h5⟩ := h
    refine ⟨g, rfl, h2, ?_⟩
    rw [cell_at h1]
    have : (cur.toList.take log.length)[i]? = some (Value.int .u32 (log.getD i 0)) := by rw [h5]; simp [hi]
    rw [List.getElem?_take_of_lt hi] at this
    simpa using this

section
variable {w : World} {rb mb cb : Nat} {go : Option Nat} {st : St}

theorem load_old (h : RM w rb mb cb go true st) (a : Int) (ha : st.at_ < st.log.length) (hl : st.log.length < 1000000000) :
    Calls Try.prog 34 #[.pointer (some ⟨rb, 0, none⟩), .int .i64 a] w fun e w' => e = .returned (.int .u32 (st.log.getD st.at_ 0)) ∧ RM w' rb mb cb go true { st with at_ := st.at_ + 1 } ∧ Adv rb mb cb w go w' go := by
  have H := Lib.hid h
  obtain ⟨hrm, hrc, hgm⟩ := h.rb_mb
  obtain ⟨cap, h1⟩ := h.run
  obtain ⟨g, rfl, hcap, _⟩ := h1.row.cell ha
  have H1 := Lib.hid h1
  obtain ⟨z, hz⟩ : ∃ z, z = st.log.getD st.at_ 0 := ⟨_, rfl⟩
  rw [← hz]
  have HZ := Lib.hid hz
  clear h h1 hz
  go_enter Try.func34, Try.ntmps34
  go_wp2_with fail
  refine (again_yes H1.out ha hl).mono ?_; rintro e w1 ⟨rfl, hr1, hm1⟩
  have hcell : w1.cell? ⟨g, st.at_, none⟩ = some (.int .u32 z) := by
    obtain ⟨g', e, _, hc⟩ := hr1.row.cell ha
    obtain rfl : g = g' := Option.some.inj e
    rw [hc, HZ.out]
  have k1 := hr1.c1
  have k2 := hr1.c2
  have e1 : IntKind.i64.wrap (((st.at_ + 1 : Nat) : Int) - 1) = (st.at_ : Int) := by rw [IntWalk.i64_in _ (by omega)]; omega
  have hlt1 : (st.at_ : Int) < (st.log.length : Int) := by omega
  have HE := Lib.hid (And.intro hr1 hm1)
  clear hr1 hm1
  simp only [Option.map_some] at k1
  go_wp2_with fail
  go_quiet (fail)
  go_wp2_with fail
  go_ret
  obtain ⟨hr1, hm1⟩ := HE.out
  refine ⟨rfl, ⟨⟨cap, hr1.drawn _⟩, (H.out.mem.mod hm1 (Ne.symm hrm) (Ne.symm hrc)).of_blocks rfl rfl, H.out.ne⟩, ?_⟩
  exact Adv.of_mod (hm1.drewN _) fun k hk => .inl hk

theorem load_far (h : RM w rb mb cb go true st) (a : Int) (ha : st.at_ = st.log.length) (hm : st.made = true) :
    Calls Try.prog 34 #[.pointer (some ⟨rb, 0, none⟩), .int .i64 a] w fun e w' => e = .returned (.int .u32 0) ∧ RM w' rb mb cb go true { st with off := true } ∧ Adv rb mb cb w go w' go := by
  have H := Lib.hid h
  obtain ⟨hrm, hrc, hgm⟩ := h.rb_mb
  obtain ⟨cap, h1⟩ := h.run
  rw [hm] at h1
  have H1 := Lib.hid h1
  have HM := Lib.hid hm
  have HA := Lib.hid ha
  clear h h1 hm ha
  go_enter Try.func34, Try.ntmps34
  go_wp2_with fail
  refine (again_no H1.out HA.out).mono ?_; rintro e w1 ⟨rfl, n, hw1⟩
  have hr1 : RunAt w1 rb mb go cap st.log st.at_ true true st.off st.over st.err := by rw [hw1]; exact H1.out.drawn n
  have HW := Lib.hid hw1
  clear hw1
  go_wp2_with fail
  refine (next_no hr1).mono ?_; rintro e w2 ⟨rfl, hr2, hm2⟩
  have HE := Lib.hid (And.intro hr2 hm2)
  clear hr1 hr2 hm2
  go_wp2_with fail
  go_ret
  obtain ⟨hr2, hm2⟩ := HE.out
  have hm2' : Mod (· = rb) w w2 := ((show Mod (· = rb) w w1 by rw [HW.out]; exact (Mod.refl _ _).drewN n)).trans hm2
  refine ⟨rfl, ⟨⟨cap, by simpa [HM.out] using hr2⟩, H.out.mem.mod hm2' (Ne.symm hrm) (Ne.symm hrc), H.out.ne⟩, ?_⟩
  exact Adv.of_mod hm2' fun k hk => .inl hk

theorem load_new (h : RM w rb mb cb go true st) (a : Nat) (ha : st.at_ = st.log.length) (hm : st.made = false) (hin : a < st.cs.length) (hl : st.log.length < 1000000000) (hl0 : 0 ≤ st.l) (hl1 : st.l < 1000000000) :
    Calls Try.prog 34 #[.pointer (some ⟨rb, 0, none⟩), .int .i64 a] w fun e w' => e = .returned (.int .u32 (st.cs.getD a 0)) ∧ ∃ go', RM w' rb mb cb go' true { st with made := true, off := false, log := st.log ++ [st.cs.getD a 0], at_ := st.at_ + 1, l := st.l + 1 } ∧ Adv rb mb cb w go w' go' := by
  have H := Lib.hid h
  obtain ⟨hrm, hrc, hgm⟩ := h.rb_mb
  obtain ⟨cap, h1⟩ := h.run
  rw [hm] at h1
  have H1 := Lib.hid h1
  have HM := Lib.hid hm
  have HA := Lib.hid ha
  have hlt := h.lt
  have HC := Lib.hid (show st.cs[a]? = some (st.cs.getD a 0) by simp [hin])
  obtain ⟨z, hz⟩ : ∃ z, z = st.cs.getD a 0 := ⟨_, rfl⟩
  rw [← hz] at HC ⊢
  clear h h1 hm ha hz
  go_enter Try.func34, Try.ntmps34
  go_wp2_with fail
  refine (again_no H1.out HA.out).mono ?_; rintro e w1 ⟨rfl, n, hw1⟩
  have hr1 : RunAt w1 rb mb go cap st.log st.at_ true false st.off st.over st.err := by rw [hw1]; exact H1.out.drawn n
  have hx1 : Mod (· = rb) w w1 := by rw [hw1]; exact (Mod.refl _ _).drewN n
  clear hw1
  go_wp2_with fail
  refine (next_yes hr1).mono ?_; rintro e w2 ⟨rfl, hr2, hm2⟩
  have hx2 := hx1.trans hm2
  have hmem := H.out.mem.mod hx2 (Ne.symm hrm) (Ne.symm hrc)
  have k0 := hr2.c0
  have HE := Lib.hid (And.intro hr2 hx2)
  clear hr1 hr2 hm2 hx1 hx2
  go_wp2_with fail
  refine (load_z hmem a z HC.out hl0 hl1).mono ?_; rintro e w3 ⟨rfl, hmem3, hx3⟩
  have hr3 := HE.out.1.mod hx3 (fun k hk e => hk.elim (fun e' => hrm (e'.symm.trans e)) fun e' => hgm (e ▸ e'))
  have hx3' : Mod (Feet rb mb cb go) w w3 := (HE.out.2.mono fun k _ hk => .inl hk).trans (hx3.mono fun k _ hk => .inr (.inr (.inl hk)))
  have HX := Lib.hid hx3'
  have HM3 := Lib.hid hmem3
  clear HE hx3 hx3' hmem hmem3 k0
  go_wp2_with fail
  refine (note_ok hr3 z hl (by have := HA.out; omega)).mono ?_; rintro e w4 ⟨rfl, go', cap', hr4, hg4, hm4⟩
  have HF := Lib.hid (And.intro hr4 (And.intro hg4 hm4))
  clear hr3 hr4 hg4 hm4
  go_wp2_with fail
  go_ret
  obtain ⟨hr4, hg4, hm4⟩ := HF.out
  have hne : ¬ Foot rb go mb ∧ ¬ Foot rb go cb := ⟨fun e => e.elim (fun e => hrm e.symm) hgm, fun e => e.elim (fun e => hrc e.symm) H.out.ne⟩
  refine ⟨rfl, go', ⟨⟨cap', hr4⟩, HM3.out.mod hm4 hne.1 hne.2, ?_⟩, ?_, ?_⟩
  · rcases hg4 with e | ⟨g, e, hg⟩
    · rw [e]; exact H.out.ne
    · intro e'
      rw [e] at e'; cases e'
      have := hlt cb (.inr (.inr (.inr rfl)))
      have := HX.out.size
      omega
  · rcases hg4 with e | ⟨g, e, hg⟩
    · exact .inl e
    · exact .inr ⟨g, e, Nat.le_trans HX.out.size hg⟩
  · exact HX.out.trans (hm4.mono fun k _ hk => hk.elim .inl fun e => .inr (.inl e))

theorem load_miss (h : RM w rb mb cb go true st) (a : Int) (ha : st.at_ = st.log.length) (hm : st.made = false) (hin : a < 0 ∨ (st.cs.length : Int) ≤ a) :
    Calls Try.prog 34 #[.pointer (some ⟨rb, 0, none⟩), .int .i64 a] w fun e w' => e = .returned (.int .u32 0) ∧ RM w' rb mb cb go true { st with made := true, off := true, over := true, err := 2 } ∧ Adv rb mb cb w go w' go := by
  have H := Lib.hid h
  obtain ⟨hrm, hrc, hgm⟩ := h.rb_mb
  obtain ⟨cap, h1⟩ := h.run
  rw [hm] at h1
  have H1 := Lib.hid h1
  have HA := Lib.hid ha
  have HI := Lib.hid hin
  clear h h1 hm ha hin
  go_enter Try.func34, Try.ntmps34
  go_wp2_with fail
  refine (again_no H1.out HA.out).mono ?_; rintro e w1 ⟨rfl, n, hw1⟩
  have hr1 : RunAt w1 rb mb go cap st.log st.at_ true false st.off st.over st.err := by rw [hw1]; exact H1.out.drawn n
  have hx1 : Mod (· = rb) w w1 := by rw [hw1]; exact (Mod.refl _ _).drewN n
  clear hw1
  go_wp2_with fail
  refine (next_yes hr1).mono ?_; rintro e w2 ⟨rfl, hr2, hm2⟩
  have hx2 := hx1.trans hm2
  have hmem := H.out.mem.mod hx2 (Ne.symm hrm) (Ne.symm hrc)
  have k0 := hr2.c0
  have HE := Lib.hid (And.intro hr2 hx2)
  clear hr1 hr2 hm2 hx1 hx2
  go_wp2_with fail
  refine (load_out hmem a HI.out).mono ?_; rintro e w3 ⟨rfl, rfl⟩
  clear hmem k0
  go_wp2_with fail
  refine (note_bad HE.out.1 0).mono ?_; rintro e w4 ⟨rfl, hr4, hm4⟩
  have HF := Lib.hid (And.intro hr4 hm4)
  clear hr4 hm4
  go_wp2_with fail
  go_ret
  obtain ⟨hr4, hm4⟩ := HF.out
  have hx := HE.out.2.trans hm4
  exact ⟨rfl, ⟨⟨cap, hr4⟩, H.out.mem.mod hx (Ne.symm hrm) (Ne.symm hrc), H.out.ne⟩, Adv.of_mod hx fun k hk => .inl hk⟩

/-! ### Store -/
/-! ### Both, in the words of the state -/
theorem run_load (h : RM w rb mb cb go true st) {B : Nat} (hB : B < 1000000000) (hok : st.Ok B) (a : Int) :
    Calls Try.prog 34 #[.pointer (some ⟨rb, 0, none⟩), .int .i64 a] w fun e w' => e = .returned (.int .u32 (st.load a).1) ∧ ∃ go', RM w' rb mb cb go' true (st.load a).2 ∧ Adv rb mb cb w go w' go' := by
  obtain ⟨k1, k2, k3, k4, k5, _, _⟩ := hok
  by_cases c1 : st.at_ < st.log.length
  · rw [show st.load a = (st.log.getD st.at_ 0, { st with at_ := st.at_ + 1 }) by simp [St.load, c1]]
    exact (load_old h a c1 (by split at k2 <;> omega)).mono fun e w' ⟨h1, h2, h3⟩ => ⟨h1, go, h2, h3⟩
  · have ha : st.at_ = st.log.length := by omega
    by_cases c2 : st.made = true
    · rw [show st.load a = (0, { st with off := true }) by simp [St.load, c1, c2]]
      exact (load_far h a ha c2).mono fun e w' ⟨h1, h2, h3⟩ => ⟨h1, go, h2, h3⟩
    · have hm : st.made = false := by simpa using c2
      simp only [hm, Bool.false_eq_true, if_false] at k2 k5
      by_cases c3 : 0 ≤ a ∧ a < st.cs.length
      · obtain ⟨x, rfl⟩ := Int.eq_ofNat_of_zero_le c3.1
        have e := okAt_yes c3.1 c3.2
        rw [show st.load x = (st.cs.getD x 0, { st with made := true, off := false, log := st.log ++ [st.cs.getD x 0], at_ := st.at_ + 1, l := st.l + 1 }) by simp only [St.load, c1, hm, e, Bool.false_eq_true, if_false, if_true, Int.toNat_natCast]]
        exact load_new h x ha hm (by omega) (by omega) k3 (by omega)
      · have e : okAt st.cs.length a = false := okAt_no (by omega)
        rw [show st.load a = (0, { st with made := true, off := true, over := true, err := 2 }) by simp [St.load, c1, c2, e]]
        exact (load_miss h a ha hm (by omega)).mono fun e w' ⟨h1, h2, h3⟩ => ⟨h1, go, h2, h3⟩
end
end Go.Proofs.Ytkjimgidlpocbaa
