/-
  What a Step makes of any program of accesses that a closure keeps to. Over the program's own text.
-/
import Derived.Test.YtkjimgidlpocbaaAcc
import Derived.Test.YtkjimgidlpocbaaStepE
namespace Go.Proofs.Ytkjimgidlpocbaa
open Go.RowKit
variable {α : Type}

/-- From one world to a later one only a run, its memory and the blocks in S have turned. -/
structure AdvS (S : Nat → Prop) (rb mb cb : Nat) (w : World) (go : Option Nat) (w' : World) (go' : Option Nat) : Prop where
  grows : Grows w go go'
  mod : Mod (fun k => S k ∨ Feet rb mb cb go k) w w'
theorem Adv.advS {rb mb cb : Nat} {w w' : World} {go go' : Option Nat} (h : Adv rb mb cb w go w' go') (S : Nat → Prop) : AdvS S rb mb cb w go w' go' := ⟨h.grows, h.mod.mono fun _ _ hk => .inr hk⟩
theorem AdvS.trans {S : Nat → Prop} {rb mb cb : Nat} {w w1 w2 : World} {go go1 go2 : Option Nat} (h : AdvS S rb mb cb w go w1 go1) (k : AdvS S rb mb cb w1 go1 w2 go2) : AdvS S rb mb cb w go w2 go2 := by
  refine ⟨?_, h.mod.then k.mod ?_⟩
  · rcases k.grows with e | ⟨g, e, hg⟩
    · rw [e]; exact h.grows
    · exact .inr ⟨g, e, Nat.le_trans h.mod.size hg⟩
  · rintro i hi (e | e | e | e)
    · exact .inl e
    · exact .inr (.inl e)
    · rcases h.grows with e' | ⟨g, e', hg⟩
      · exact .inr (.inr (.inl (e' ▸ e)))
      · rw [e'] at e; cases e; omega
    · exact .inr (.inr (.inr e))
theorem AdvS.of_mod {S : Nat → Prop} {rb mb cb : Nat} {w w' : World} {go : Option Nat} {T : Nat → Prop} (h : Mod T w w') (hT : ∀ k, T k → S k ∨ Feet rb mb cb go k) : AdvS S rb mb cb w go w' go := ⟨.inl rfl, h.mono fun k _ hk => hT k hk⟩
theorem AdvS.apart {S : Nat → Prop} {rb mb cb : Nat} {w w' : World} {go go' : Option Nat} (h : AdvS S rb mb cb w go w' go') {k : Nat} (hk : k < w.heap.size) (hs : ¬ Feet rb mb cb go k) : ¬ Feet rb mb cb go' k := by
  rintro (e | e | e)
  · exact hs (.inl e)
  · rcases h.grows with e' | ⟨g, e', hg⟩
    · exact hs (.inr (.inl (e' ▸ e)))
    · rw [e'] at e; cases e; omega
  · exact hs (.inr (.inr e))

theorem Mod.setRow {S : Nat → Prop} {a w : World} (h : Mod S a w) {g : Nat} (hp : a.heap.size ≤ g ∨ S g) (cs : Array Value) : Mod S a (w.setRow g cs) :=
  ⟨h.os, h.tape, h.output, by simpa using h.size, fun k hk hs => (setRow_other _ _ _ _ (by rintro rfl; rcases hp with e | e; omega; exact hs e)).trans (h.block k hk hs)⟩
/-- A closure keeps to a program: it makes of a run what the program does; S: its variables' blocks; I: what it finds in them and leaves there; Post: what it leaves beside, where it comes to its end. -/
structure Clo (F : FuncId) (caps : Array Value) (rb mb cb : Nat) (S : Nat → Prop) (I : World → Prop) (p : Pr α) (Post : α → World → Prop) (B : Nat) : Prop where
  enter : ∀ (args : Array Value) (w : World), (callFunc F args).run Try.prog w = .ok (.enter F args) w
  call : ∀ (w : World) (go : Option Nat) (st : St), RM w rb mb cb go true st → st.Fine B → st.off = false → I w → (∀ k, S k → ¬ Feet rb mb cb go k) →
    Calls Try.prog F (#[.pointer (some ⟨rb, 0, none⟩)] ++ caps) w fun e w' => e = .returned (.tuple #[]) ∧ ∃ go', RM w' rb mb cb go' true (p.on st).2 ∧ AdvS S rb mb cb w go w' go' ∧ I w' ∧ ∀ x, (p.on st).1 = some x → Post x w'
  keepI : ∀ w w', I w → w.heap.size ≤ w'.heap.size → (∀ k, S k → k < w.heap.size → w'.heap[k]? = w.heap[k]?) → I w'
  keepP : ∀ x w w' go st, Post x w → RM w rb mb cb go true st → Mod (fun k => k = rb) w w' → Post x w'
  old : ∀ w, I w → ∀ k, S k → k < w.heap.size

set_option maxHeartbeats 1000000 in
theorem step_goA {w : World} {rb mb cb : Nat} {go : Option Nat} {st : St} {F : FuncId} {caps : Array Value} {S : Nat → Prop} {I : World → Prop} {p : Pr α} {Post : α → World → Prop} {B : Nat} (h : RM w rb mb cb go false st) (ho : st.over = false) (hoff : st.off = false) (hok : ({ st with at_ := 0, made := false } : St).Fine B)
    (hC : Clo F caps rb mb cb S I p Post B) (hI : I w) (hS : ∀ k, S k → ¬ Feet rb mb cb go k) :
    Calls Try.prog 19 #[.pointer (some ⟨rb, 0, none⟩), .func (.func F) #[] caps] w fun e w' => e = .returned (.bool (st.stepA p).over) ∧ ∃ go', RM w' rb mb cb go' false (st.stepA p) ∧ AdvS S rb mb cb w go w' go' ∧ I w' ∧ ∀ x, st.ansA p = some x → Post x w' := by
  have H := Lib.hid h
  obtain ⟨hrm, hrc, hgm⟩ := h.rb_mb
  obtain ⟨rcap, h1⟩ := h.run
  rw [ho] at h1
  have c2 := h1.c2
  have c3 := h1.c3
  have c4 := h1.c4
  have f2 := free_at h1.rec_ 2
  have f3 := free_at h1.rec_ 3
  have f4 := free_at h1.rec_ 4
  have hr3 := ((h1.set 2 (.int .i64 0) (at' := 0) (wi' := false) (ma' := st.made) (off' := st.off) (ov' := false) (er' := st.err) rfl).set 4 (.bool false) (at' := 0) (wi' := false) (ma' := false) (off' := st.off) (ov' := false) (er' := st.err) rfl).set 3 (.bool true) (at' := 0) (wi' := true) (ma' := false) (off' := st.off) (ov' := false) (er' := st.err) rfl
  have hx3 : Mod (fun k => k = rb) w (((w.setCell ⟨rb, 2, none⟩ (.int .i64 0)).setCell ⟨rb, 4, none⟩ (.bool false)).setCell ⟨rb, 3, none⟩ (.bool true)) := Mod.setCell (S := fun k => k = rb) (Mod.setCell (S := fun k => k = rb) (Mod.setCell (S := fun k => k = rb) (Mod.refl _ _) (.inr rfl) _) (.inr rfl) _) (.inr rfl) _
  have HR3 := Lib.hid hr3
  have HX3 := Lib.hid hx3
  have H1 := Lib.hid h1
  have HI := Lib.hid hI
  have HS := Lib.hid hS
  have HO := Lib.hid ho
  have HF := Lib.hid hoff
  have HK := Lib.hid hok
  have HC := Lib.hid hC
  clear h h1 hr3 hx3 hI hS ho hok hC hoff
  have qF : ∀ w : World, (binOp .eql 39 (.func (.func F) #[] caps) .nilFunc).run Try.prog w = .ok (.bool false) w := fun w => rfl
  go_enter_defers Try.func19, Try.ntmps19
  go_upto_region 8 with (go_at_call 23; refine (over_at H1.out).mono ?_; rintro e w' ⟨rfl, rfl⟩)
  obtain ⟨w3, hw3⟩ : ∃ w3, w3 = ((w.setCell ⟨rb, 2, none⟩ (.int .i64 0)).setCell ⟨rb, 4, none⟩ (.bool false)).setCell ⟨rb, 3, none⟩ (.bool true) := ⟨_, rfl⟩
  rw [show ((w.setCell ⟨rb, 2, none⟩ (.int .i64 0)).setCell ⟨rb, 4, none⟩ (.bool false)).setCell ⟨rb, 3, none⟩ (.bool true) = w3 from hw3.symm]
  rw [← hw3] at HR3 HX3
  clear hw3 c2 c3 c4 f2 f3 f4
  have hx3 := HX3.out
  have hrm3 : RM w3 rb mb cb go true { st with at_ := 0, made := false } := ⟨⟨rcap, by show RunAt w3 rb mb go rcap st.log 0 true false st.off st.over st.err; rw [HO.out]; exact HR3.out⟩, H.out.mem.mod hx3 (Ne.symm hrm) (Ne.symm hrc), H.out.ne⟩
  have hI3 := HC.out.keepI w w3 HI.out hx3.size fun k hk hl => hx3.block k hl fun e => HS.out k hk (.inl e)
  have HCall := Lib.hid (HC.out.call w3 go _ hrm3 HK.out HF.out hI3 HS.out)
  clear hx3 hrm3 hI3
  go_wp2_with fail
  rw [HC.out.enter, Oper.upon_enter]
  refine HCall.out.mono ?_
  rintro e w4 ⟨rfl, go4, hr4, ha4, hI4, hP4⟩
  obtain ⟨o, t, ht⟩ : ∃ o t, p.on { st with at_ := 0, made := false } = (o, t) := ⟨_, _, rfl⟩
  rw [ht] at hr4 hP4
  have HT := Lib.hid ht
  have HR4 := Lib.hid hr4
  have HA4 := Lib.hid ha4
  have HI4 := Lib.hid (And.intro hI4 hP4)
  obtain ⟨cap4, h4⟩ := hr4.run
  have c5 := h4.c5
  have c6 := h4.c6
  have f6 := free_at h4.rec_ 6
  have H4 := Lib.hid h4
  clear hr4 ha4 h4 ht HCall hI4 hP4
  go_wp2_with fail
  all_goals
   have hstep : st.stepA p = { t with over := t.over || !t.off, off := t.err != 0 } := by unfold St.stepA St.shut; rw [HO.out, if_neg (by simp)]; have := HT.out; rw [HO.out] at this; rw [this]
   have hans : st.ansA p = o := by unfold St.ansA; rw [HT.out]
   have hadv := (AdvS.of_mod (S := S) (go := go) (mb := mb) (cb := cb) HX3.out fun k hk => .inr (.inl hk)).trans HA4.out
   have hmem := HR4.out.mem
   obtain ⟨hn1, hn2, hn3⟩ := HR4.out.rb_mb
   have hn4 := HR4.out.ne
   have h4 := H4.out
   have hS4 : ∀ k, S k → k ≠ rb := fun k hk e => HS.out k hk (.inl e)
   rw [hans]
   refine leaves_cons (f := 38) (args := #[.pointer (some ⟨rb, 0, none⟩)]) (by simp) (by simp [go_sem]) ?_
  · rename_i hov
    refine (leave_d (h4.set 6 (.bool true) (at' := t.at_) (wi' := true) (ma' := t.made) (off' := t.off) (ov' := true) (er' := t.err) rfl) .returning).mono ?_
    rintro e u' w5 ⟨rfl, rfl, h5, hm5⟩
    have hm : Mod (fun k => k = rb) w4 w5 := (Mod.setCell (S := fun k => k = rb) (Mod.refl _ _) (.inr rfl) _).trans hm5
    refine ⟨_, results_tmp rfl _ _ _, ?_, go4, ⟨⟨cap4, ?_⟩, ?_, hn4⟩, hadv.trans (AdvS.of_mod hm fun k hk => .inr (.inl hk)), HC.out.keepI w4 w5 HI4.out.1 hm.size fun k hk hl => hm.block k hl (hS4 k hk), fun x hx => HC.out.keepP x w4 w5 go4 t (HI4.out.2 x hx) HR4.out hm⟩
    · rw [hstep]; simp [hov]
    · rw [hstep]; simpa [hov] using h5
    · rw [hstep]; exact hmem.mod hm (Ne.symm hn1) (Ne.symm hn2)
  · rename_i hov
    have hov : t.over = false := by simpa using hov
    refine (leave_d (h4.set 6 (.bool (!t.off)) (at' := t.at_) (wi' := true) (ma' := t.made) (off' := t.off) (ov' := !t.off) (er' := t.err) rfl) .returning).mono ?_
    rintro e u' w5 ⟨rfl, rfl, h5, hm5⟩
    have hm : Mod (fun k => k = rb) w4 w5 := (Mod.setCell (S := fun k => k = rb) (Mod.refl _ _) (.inr rfl) _).trans hm5
    refine ⟨_, results_tmp rfl _ _ _, ?_, go4, ⟨⟨cap4, ?_⟩, ?_, hn4⟩, hadv.trans (AdvS.of_mod hm fun k hk => .inr (.inl hk)), HC.out.keepI w4 w5 HI4.out.1 hm.size fun k hk hl => hm.block k hl (hS4 k hk), fun x hx => HC.out.keepP x w4 w5 go4 t (HI4.out.2 x hx) HR4.out hm⟩
    · rw [hstep]; simp [hov]
    · rw [hstep]; simpa [hov] using h5
    · rw [hstep]; exact hmem.mod hm (Ne.symm hn1) (Ne.symm hn2)
end Go.Proofs.Ytkjimgidlpocbaa
