/-
  What a Step does to a run, the program being a list of instructions; and the making of such a program. Over the program's own text.
-/
import Derived.Test.YtdmcnlkmfohmdaaStepD
namespace Go.Proofs.Ytdmcnlkmfohmdaa
open Go.RowKit

/-- A list's program as a value: the closure over the variable in block lb. -/
def progV (lb : Nat) : Value := .func (.func 27) #[] #[.pointer (some ⟨lb, 0, none⟩)]

theorem program_any (w : World) (ao : Option Addr) (len cap : Nat) :
    Calls Try.prog 14 #[.slice ao len cap] w fun e w' => e = .returned (progV w.heap.size) ∧ w'.cell? ⟨w.heap.size, 0, none⟩ = some (.slice ao len cap) ∧ Below w.heap.size w w' ∧ w.heap.size < w'.heap.size := by
  have hmf : ∀ (fn : Fn) (first cap : Array Value) (w : World), (Instr.makeFunc fn first cap).run Try.prog w = .ok (.func fn first cap) w := fun _ _ _ _ => rfl
  go_enter Try.func14, Try.ntmps14
  go_wp2
  go_ret
  exact ⟨rfl, cell_at (heap_alloc_new w _) 0, below_one, by simp⟩

section
variable {w : World} {rb mb cap at_ : Nat} {go : Option Nat} {log : List Int} {wi ma off ov : Bool} {er : Int}
theorem leave_d (h : RunAt w rb mb go cap log at_ wi ma off ov er) (u : FrameMode) :
    CallsD Try.prog 26 #[.pointer (some ⟨rb, 0, none⟩)] u w fun e u' w' => u' = u ∧ (e = .returned (.tuple #[]) ∧ RunAt w' rb mb go cap log at_ false ma (er != 0) ov er ∧ Mod (· = rb) w w') := by
  have h3 := h.c3
  have h5 := h.c5
  have h7 := h.c7
  have f3 := free_at h.rec_ 3
  have f5 := free_at h.rec_ 5
  go_enter_d Try.func26, Try.ntmps26
  go_wp2
  go_end0
  exact ⟨rfl, (h.set 3 _ (at' := at_) (wi' := false) (ma' := ma) (off' := off) (ov' := ov) (er' := er) rfl).set 5 _ rfl, Mod.setCell (S := fun k => k = rb) (Mod.setCell (S := fun k => k = rb) (Mod.refl _ _) (.inr rfl) _) (.inr rfl) _⟩
end

theorem step_over {w : World} {rb mb cb : Nat} {go : Option Nat} {st : St} (h : RM w rb mb cb go false st) (ho : st.over = true) (f : Value) :
    Calls Try.prog 13 #[.pointer (some ⟨rb, 0, none⟩), f] w fun e w' => e = .returned (.bool true) ∧ w = w' := by
  obtain ⟨cap, h1⟩ := h.run
  rw [ho] at h1
  go_enter_defers Try.func13, Try.ntmps13
  go_wp2_with (go_at_call 15; refine (over_at h1).mono ?_; rintro e w' ⟨rfl, rfl⟩)
  exact ⟨_, results_tmp rfl _ _ _, rfl, rfl⟩

theorem step_go {w : World} {rb mb cb lb : Nat} {go : Option Nat} {st : St} {D : Nat → Prop} {ao : Option Addr} {len cap B : Nat} {E : Nat → Ins} (h : RM w rb mb cb go false st) (ho : st.over = false) (hB : B < 1000000000) (hok : ({ st with at_ := 0, made := false } : St).Ok B)
    (hI : InsAt w D ao len E) (hlen : len ≤ 100) (hD : ∀ k, D k → ¬ Feet rb mb cb go k) (hlb : w.cell? ⟨lb, 0, none⟩ = some (.slice ao len cap)) (hlf : ¬ Feet rb mb cb go lb) :
    Calls Try.prog 13 #[.pointer (some ⟨rb, 0, none⟩), progV lb] w fun e w' => e = .returned (.bool (st.step E len).over) ∧ ∃ go', RM w' rb mb cb go' false (st.step E len) ∧ Adv rb mb cb w go w' go' := by
  have H := Lib.hid h
  obtain ⟨hrm, hrc, hgm⟩ := h.rb_mb
  obtain ⟨rcap, h1⟩ := h.run
  rw [ho] at h1
  have c2 := h1.c2
  have c3 := h1.c3
  have c4 := h1.c4
  have f2 := free_at h1.rec_ 2
  have f3 := free_at h1.rec_ 3
  have f4 := free_at h1.rec_ 4
  have hlt : lb < w.heap.size := by
    unfold World.cell? at hlb
    split at hlb
    · exact lt_of_heap (by assumption)
    · cases hlb
  have hr3 := ((h1.set 2 (.int .i64 0) (at' := 0) (wi' := false) (ma' := st.made) (off' := st.off) (ov' := false) (er' := st.err) rfl).set 4 (.bool false) (at' := 0) (wi' := false) (ma' := false) (off' := st.off) (ov' := false) (er' := st.err) rfl).set 3 (.bool true) (at' := 0) (wi' := true) (ma' := false) (off' := st.off) (ov' := false) (er' := st.err) rfl
  have hx3 : Mod (fun k => k = rb) w (((w.setCell ⟨rb, 2, none⟩ (.int .i64 0)).setCell ⟨rb, 4, none⟩ (.bool false)).setCell ⟨rb, 3, none⟩ (.bool true)) := Mod.setCell (S := fun k => k = rb) (Mod.setCell (S := fun k => k = rb) (Mod.setCell (S := fun k => k = rb) (Mod.refl _ _) (.inr rfl) _) (.inr rfl) _) (.inr rfl) _
  have HR3 := Lib.hid hr3
  have HX3 := Lib.hid hx3
  have HL := Lib.hid (And.intro hlb (And.intro hlf hlt))
  have H1 := Lib.hid h1
  have HI := Lib.hid hI
  have HD := Lib.hid hD
  have HO := Lib.hid ho
  have HK := Lib.hid hok
  clear h h1 hr3 hx3 hlb hlf hI hD ho hok hlt
  unfold progV
  have qF : ∀ w : World, (binOp .eql 42 (.func (.func 27) #[] #[.pointer (some ⟨lb, 0, none⟩)]) .nilFunc).run Try.prog w = .ok (.bool false) w := fun w => rfl
  go_enter_defers Try.func13, Try.ntmps13
  go_upto_region 8 with (go_at_call 15; refine (over_at H1.out).mono ?_; rintro e w' ⟨rfl, rfl⟩)
  obtain ⟨w3, hw3⟩ : ∃ w3, w3 = ((w.setCell ⟨rb, 2, none⟩ (.int .i64 0)).setCell ⟨rb, 4, none⟩ (.bool false)).setCell ⟨rb, 3, none⟩ (.bool true) := ⟨_, rfl⟩
  rw [show ((w.setCell ⟨rb, 2, none⟩ (.int .i64 0)).setCell ⟨rb, 4, none⟩ (.bool false)).setCell ⟨rb, 3, none⟩ (.bool true) = w3 from hw3.symm]
  rw [← hw3] at HR3 HX3
  clear hw3 c2 c3 c4 f2 f3 f4
  have hx3 := HX3.out
  have hrm3 : RM w3 rb mb cb go true { st with at_ := 0, made := false } := ⟨⟨rcap, by show RunAt w3 rb mb go rcap st.log 0 true false st.off st.over st.err; rw [HO.out]; exact HR3.out⟩, H.out.mem.mod hx3 (Ne.symm hrm) (Ne.symm hrc), H.out.ne⟩
  have hI3 := HI.out.mod hx3 (fun k hk e => HD.out k hk (.inl e))
  have hl3 : w3.cell? ⟨lb, 0, none⟩ = some (.slice ao len cap) := (World.cell?_of_block (hx3.block lb HL.out.2.2 (fun e => HL.out.2.1 (.inl e)))).trans HL.out.1
  clear hx3
  go_wp2_with (go_at_call 27; refine (prog_any hrm3 hB HK.out hI3 hlen HD.out hl3).mono ?_; rintro e w4 ⟨rfl, go4, hr4, ha4⟩; clear hrm3 hI3 hl3 H1; obtain ⟨t, ht⟩ : ∃ t, t = progN E len 0 0 { st with at_ := 0, made := false } := ⟨_, rfl⟩; rw [← ht] at hr4; have HT := Lib.hid ht; clear ht; have HR4 := Lib.hid hr4; have HA4 := Lib.hid ha4; obtain ⟨cap4, h4⟩ := hr4.run; have c5 := h4.c5; have c6 := h4.c6; have f6 := free_at h4.rec_ 6; have H4 := Lib.hid h4; clear hr4 ha4 h4)
  all_goals
   have hstep : st.step E len = { t with over := t.over || !t.off, off := t.err != 0 } := by rw [HT.out]; simp [St.step, HO.out]
   have hadv := (Adv.of_mod (go := go) (mb := mb) (cb := cb) HX3.out fun k hk => .inl hk).trans HA4.out
   have hmem := HR4.out.mem
   obtain ⟨hn1, hn2, hn3⟩ := HR4.out.rb_mb
   have hn4 := HR4.out.ne
   have h4 := H4.out
   refine leaves_cons (f := 26) (args := #[.pointer (some ⟨rb, 0, none⟩)]) (by simp) (by simp [go_sem]) ?_
  · rename_i hov
    refine (leave_d (h4.set 6 (.bool true) (at' := t.at_) (wi' := true) (ma' := t.made) (off' := t.off) (ov' := true) (er' := t.err) rfl) .returning).mono ?_
    rintro e u' w5 ⟨rfl, rfl, h5, hm5⟩
    have hm : Mod (fun k => k = rb) w4 w5 := (Mod.setCell (S := fun k => k = rb) (Mod.refl _ _) (.inr rfl) _).trans hm5
    refine ⟨_, results_tmp rfl _ _ _, ?_, go4, ⟨⟨cap4, ?_⟩, ?_, hn4⟩, hadv.trans (Adv.of_mod hm fun k hk => .inl hk)⟩
    · rw [hstep]; simp [hov]
    · rw [hstep]; simpa [hov] using h5
    · rw [hstep]; exact hmem.mod hm (Ne.symm hn1) (Ne.symm hn2)
  · rename_i hov
    have hov : t.over = false := by simpa using hov
    refine (leave_d (h4.set 6 (.bool (!t.off)) (at' := t.at_) (wi' := true) (ma' := t.made) (off' := t.off) (ov' := !t.off) (er' := t.err) rfl) .returning).mono ?_
    rintro e u' w5 ⟨rfl, rfl, h5, hm5⟩
    have hm : Mod (fun k => k = rb) w4 w5 := (Mod.setCell (S := fun k => k = rb) (Mod.refl _ _) (.inr rfl) _).trans hm5
    refine ⟨_, results_tmp rfl _ _ _, ?_, go4, ⟨⟨cap4, ?_⟩, ?_, hn4⟩, hadv.trans (Adv.of_mod hm fun k hk => .inl hk)⟩
    · rw [hstep]; simp [hov]
    · rw [hstep]; simpa [hov] using h5
    · rw [hstep]; exact hmem.mod hm (Ne.symm hn1) (Ne.symm hn2)
end Go.Proofs.Ytdmcnlkmfohmdaa
