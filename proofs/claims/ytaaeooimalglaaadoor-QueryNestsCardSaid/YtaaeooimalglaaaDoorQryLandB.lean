/-
  Layer 17 as it landed: pass, enter, fail; where a part can't go on. Over the program's own text.
-/
import Derived.Test.YtaaeooimalglaaaDoorQryLandA
import Derived.WalkLawsBesides
namespace Go.Proofs.YtaaeooimalglaaaDoor
open Go.RowKit

/-- An error that is thrown. -/
def errE (c : Int) : Ending := .panicked [{ v := .iface 29 (.int .i64 c), recovered := false }]
section
variable {W0 w w' : World} {rb : Nat} {R : List Nat} {op : Int}
set_option maxRecDepth 100000 in
set_option maxHeartbeats 2000000 in
theorem pass_any (h : Rdr W0 w rb R op) (h1 : 1 ≤ R.length) :
    Calls Tryd.prog 27 #[.pointer (some ⟨rb, 0, none⟩)] w fun e w' => e = .returned (.tuple #[]) ∧ Rdr W0 w' rb (R.drop 1) op ∧ Mod (fun k => k = rb) w w' := by
  have H := Lib.hid h
  obtain ⟨oa, c, hh, hc, hm, hr, hb⟩ := h.rd
  have q0 := cell_at hh 0
  have f0 := free_at hh 0
  obtain ⟨n, hn⟩ : ∃ n, R.length = n := ⟨_, rfl⟩
  obtain ⟨ob, d, hsl, hd1, hd2, hrd, hob⟩ := slice_at n c 1 hn (by omega) (by omega) hm hr
  rw [hn] at hh q0
  obtain ⟨m, hmm⟩ : ∃ m, (R.drop 1).length = m := ⟨_, rfl⟩
  rw [hmm] at hsl hd1
  have hsl1 : ∀ w : World, (Instr.slice 34 (.slice oa n c) (some (.int .i64 1)) none none).run Tryd.prog w = .ok (.slice ob m d) w := hsl
  have HH := Lib.hid (And.intro hh (And.intro hmm (And.intro hd1 (And.intro hd2 (And.intro hrd (And.intro hob hb))))))
  clear h hh hc hm hr hb hn hsl hd1 hd2 hrd hob hmm h1
  go_enter Tryd.func27, Tryd.ntmps27
  go_wp2_with fail
  go_end0
  obtain ⟨g1, g2, g3, g4, g5, g6, g7⟩ := HH.out
  refine ⟨rfl, ?_, mod_set _⟩
  refine H.out.turn (mod_set _) (List.drop_suffix _ _) (c := d) (oa := ob) ?_ (by rw [g2]; exact g3) g4 g5 fun a ha hne => ?_
  · rw [heap_setCell_same _ _ _ _ _ _ g1, g2]; rfl
  · obtain ⟨a', h1, h2⟩ := g6 a ha
    rw [← h2]; exact g7 a' h1 (drop_ne hne)
set_option maxRecDepth 100000 in
theorem enter_deep (h : Rdr W0 w rb R 8) :
    Calls Tryd.prog 37 #[.pointer (some ⟨rb, 0, none⟩)] w fun e w' => e = errE 9 ∧ w' = w := by
  obtain ⟨oa, c, hh, _⟩ := h.rd
  have q0 := cell_at hh 1
  clear h hh
  go_enter Tryd.func37, Tryd.ntmps37
  go_wp2_with fail
  exact ⟨rfl, rfl, rfl⟩
set_option maxRecDepth 100000 in
set_option maxHeartbeats 2000000 in
theorem enter_ok (h : Rdr W0 w rb R op) (h0 : 0 ≤ op) (h8 : op < 8) (h1 : 1 ≤ R.length) :
    Calls Tryd.prog 37 #[.pointer (some ⟨rb, 0, none⟩)] w fun e w' => e = .returned (.tuple #[]) ∧ Rdr W0 w' rb (R.drop 1) (op + 1) ∧ Mod (fun k => k = rb) w w' := by
  have H := Lib.hid h
  obtain ⟨oa, c, hh, hc, hm, hr, hb⟩ := h.rd
  have q1 := cell_at hh 1
  have f1 := free_at hh 1
  have hw : IntKind.i64.wrap (op + 1) = op + 1 := IntWalk.i64_in _ (by omega)
  have hne : ¬ op = 8 := by omega
  have H2 : Rdr W0 (w.setCell ⟨rb, 1, none⟩ (.int .i64 (op + 1))) rb R (op + 1) := h.turn (mod_set _) (List.suffix_refl _) (c := c) (oa := oa) (by rw [heap_setCell_same _ _ _ _ _ _ hh]; rfl) hc hm hr hb
  have HP := Lib.hid (pass_any H2 h1)
  clear h hh hc hm hr hb H2
  go_enter Tryd.func37, Tryd.ntmps37
  go_wp2_with fail
  refine HP.out.mono ?_
  rintro e w2 ⟨rfl, h2, h3⟩
  have HR := Lib.hid (And.intro h2 h3)
  clear h2 h3
  go_wp2_with fail
  go_end0
  exact ⟨rfl, HR.out.1, (mod_set _).trans HR.out.2⟩
set_option maxRecDepth 100000 in
set_option maxHeartbeats 2000000 in
theorem fail_any {k : Nat} (h : Rdr W0 w rb R (8 - (k : Int))) (hk : k ≤ 8) :
    Calls Tryd.prog 30 #[.pointer (some ⟨rb, 0, none⟩)] w fun e w' => e = errE (failE k R) ∧ Mod (fun k => k = rb) w w' := by
  have HN := Lib.hid (next_any h)
  obtain ⟨hd, hhd⟩ : ∃ hd, hd = headZ (skipB R) := ⟨_, rfl⟩
  have HHd := Lib.hid hhd
  rw [← hhd] at HN
  have he : failE k R = if (hd = 40 ∨ hd = 33) ∧ k = 0 then 9 else 8 := by unfold failE; rw [hhd]
  obtain ⟨fe, hfe⟩ : ∃ fe, fe = failE k R := ⟨_, rfl⟩
  rw [← hfe]
  rw [he] at hfe
  have HFe := Lib.hid hfe
  clear he h hfe
  go_enter Tryd.func30, Tryd.ntmps30
  go_wp2_with fail
  refine HN.out.mono ?_
  rintro e w2 ⟨rfl, h2, h3⟩
  have H2 := Lib.hid h2
  have H3 := Lib.hid h3
  clear h2 h3 HN hhd
  by_cases hs : hd = 40 ∨ hd = 33
  · have h1 : 1 ≤ (skipB R).length := by
      cases hc : skipB R with
      | nil =>
        have := HHd.out
        rw [hc] at this
        simp only [headZ] at this
        omega
      | cons c r => simp
    by_cases hk0 : k = 0
    · have HE := Lib.hid (enter_deep (show Rdr W0 w2 rb (skipB R) 8 from by have := H2.out; rw [hk0] at this; exact this))
      have HX := Lib.hid (HFe.out.trans (if_pos ⟨hs, hk0⟩))
      clear h1 hk0
      rcases hs with rfl | rfl
      all_goals go_wp2_with fail
      all_goals (refine HE.out.mono ?_; rintro e w3 ⟨rfl, rfl⟩; exact ⟨rfl, by rw [HX.out]; rfl, H3.out⟩)
    · have HE := Lib.hid (enter_ok H2.out (by omega) (by omega) h1)
      have HX := Lib.hid (HFe.out.trans (if_neg (fun e => hk0 e.2)))
      clear h1 hk0
      rcases hs with rfl | rfl
      all_goals go_wp2_with fail
      all_goals (refine HE.out.mono ?_; rintro e w3 ⟨rfl, h4, h5⟩; have H5 := Lib.hid (H3.out.trans h5); clear h4 h5; go_wp2_with fail; exact ⟨rfl, by rw [HX.out]; rfl, H5.out⟩)
  · have HX := Lib.hid (HFe.out.trans (if_neg (fun e => hs e.1)))
    have hs1 : ¬ hd = 40 := fun e => hs (.inl e)
    have hs2 : ¬ hd = 33 := fun e => hs (.inr e)
    clear hs
    go_wp2_with fail
    exact ⟨rfl, by rw [HX.out]; rfl, H3.out⟩
end
end Go.Proofs.YtaaeooimalglaaaDoor
