/-
  The reference's Step at any program; and that it goes with the run's.
-/
import Derived.Test.YtdmcnlkmfohmdaaStepRefD
namespace Go.Proofs.Ytdmcnlkmfohmdaa
open Go.RowKit

theorem nxt_pos {E : Nat → Ins} {len n i : Nat} {last : Int} (h : i + n = len) (hn : nxt E n i last = true) : pos E n i last < len ∧ (E (pos E n i last)).acc :=
  (progN_next (E := E) (len := len) n i last ⟨[], 0, false, false, false, 0, [], 0, 0⟩ h rfl rfl rfl).2.1 hn
theorem run_pos {E : Nat → Ins} {len n i : Nat} {last : Int} (h : i + n = len) : Run E len i last [] (pos E n i last) last :=
  (progN_next (E := E) (len := len) n i last ⟨[], 0, false, false, false, 0, [], 0, 0⟩ h rfl rfl rfl).1

theorem rstep_any {w : World} {D : Nat → Prop} {E : Nat → Ins} (p : PS) (cs : List Int) (kk gb : Nat) (hI : InsAt w D p.ao p.len E) (hu : U p.last) (hl : p.len ≤ 60) (hat : p.at_ ≤ p.len) (hmade : p.made < 1000000) (hk : kk ≤ 65536) (hrow : RowAt w gb cs kk) :
    Calls Try.prog 12 #[.agg (progC p), .slice (some ⟨gb, 0, none⟩) kk kk] w fun e w' => ∃ gb', e = .returned (.tuple #[.agg (progC (p.step E cs).1), .slice (some ⟨gb', 0, none⟩) kk kk]) ∧ RowAt w' gb' (p.step E cs).2 kk ∧ (gb' = gb ∨ w.heap.size ≤ gb') ∧ Below w.heap.size w w' := by
  cases ho : p.over with
  | true => exact rstep_over p cs kk gb ho hrow
  | false =>
    cases hn : nxt E (p.len - p.at_) p.at_ p.last with
    | false => exact rstep_end p cs kk gb hI hu hl hat ho hn hrow
    | true =>
      obtain ⟨h1, h2⟩ := nxt_pos (len := p.len) (by omega) hn
      cases hin : okAt cs.length (addrOf (E (pos E (p.len - p.at_) p.at_ p.last)) p.last) with
      | false => exact rstep_out p cs kk gb hI hu hl hat ho hn h1 hin hrow
      | true =>
        rcases h2 with h2 | h2 | h2 | h2
        · exact rstep_load0 p cs kk gb hI hu hl hat ho hn h1 h2 hin hmade hk hrow
        · exact rstep_store1 p cs kk gb hI hu hl hat ho hn h1 h2 hin hmade hk hrow
        · exact rstep_load2 p cs kk gb hI hu hl hat ho hn h1 h2 hin hmade hk hrow
        · exact rstep_store3 p cs kk gb hI hu hl hat ho hn h1 h2 hin hmade hk hrow

/-- A reference's program is as far as a run. -/
structure Link (E : Nat → Ins) (p : PS) (st : St) : Prop where
  over : p.over = st.over
  err : p.err = st.err
  made : p.made = st.log.length
  run : p.over = false → st.off = false ∧ st.err = 0 ∧ Run E p.len 0 0 st.log p.at_ p.last
  u : U p.last
  at_le : p.at_ ≤ p.len

theorem u_then {cs : List Int} {x : Ins} {last : Int} (hc : ∀ x ∈ cs, U x) (hl : U last) : U (thenOf cs x last) := by
  unfold thenOf Ins.after
  split
  · exact u_getD hc _
  · exact hl

theorem Link.step {E : Nat → Ins} {p : PS} {st : St} (h : Link E p st) (hc : ∀ x ∈ st.cs, U x) : Link E (p.step E st.cs).1 (st.step E p.len) ∧ (p.step E st.cs).2 = (st.step E p.len).cs ∧ (p.step E st.cs).1.ao = p.ao ∧ (p.step E st.cs).1.len = p.len ∧ (p.step E st.cs).1.cap = p.cap := by
  cases ho : p.over with
  | true =>
    have e : st.step E p.len = st := step_over_eq E p.len (h.over ▸ ho)
    rw [e]
    simp only [PS.step, ho, if_true]
    exact ⟨h, (by first | trivial | rfl), (by first | trivial | rfl), (by first | trivial | rfl), (by first | trivial | rfl)⟩
  | false =>
    obtain ⟨hof, her, hr⟩ := h.run ho
    have hat := h.at_le
    obtain ⟨c1, c2, c3⟩ := step_char hr (h.over ▸ ho) hof
    rw [c3]
    have hmade := h.made
    have herr := h.err
    cases hn : nxt E (p.len - p.at_) p.at_ p.last with
    | false =>
      have e : p.step E st.cs = (p.on E, st.cs) := by unfold PS.step; rw [ho, hn]; simp
      rw [e]
      simp only [Bool.false_eq_true, if_false]
      refine ⟨⟨by simp [PS.on, ho, hn], herr, hmade, ?_, h.u, ?_⟩, (by first | trivial | rfl), (by first | trivial | rfl), (by first | trivial | rfl), (by first | trivial | rfl)⟩
      · intro hx; simp [PS.on, ho, hn] at hx
      · exact (run_pos (E := E) (last := p.last) (show p.at_ + (p.len - p.at_) = p.len by omega)).le.2 hat
    | true =>
      obtain ⟨h1, h2⟩ := c2 hn
      cases hin : okAt st.cs.length (addrOf (E (pos E (p.len - p.at_) p.at_ p.last)) p.last) with
      | false =>
        have e : p.step E st.cs = ({ p with at_ := pos E (p.len - p.at_) p.at_ p.last, over := true, err := 2 }, st.cs) := by unfold PS.step; rw [ho, hn, hin]; simp
        rw [e]
        simp only [if_true, Bool.false_eq_true, if_false]
        exact ⟨⟨(by first | trivial | rfl), (by first | trivial | rfl), hmade, (fun hx => by cases hx), h.u, by simp only; omega⟩, (by first | trivial | rfl), (by first | trivial | rfl), (by first | trivial | rfl), (by first | trivial | rfl)⟩
      | true =>
        obtain ⟨v, hv, hafter⟩ := access_log st p.last h2
        obtain ⟨p1, p2, p3, p4, p5, p6, p7⟩ := access_plain st (E (pos E (p.len - p.at_) p.at_ p.last)) p.last
        have hrun := c1.snoc (v := v) h1 h2
        rw [hafter, ← hv] at hrun
        have hu2 := u_then (x := E (pos E (p.len - p.at_) p.at_ p.last)) hc h.u
        have e : p.step E st.cs = ((({ p with at_ := pos E (p.len - p.at_) p.at_ p.last + 1, last := thenOf st.cs (E (pos E (p.len - p.at_) p.at_ p.last)) p.last, made := p.made + 1 } : PS).on E), behind st.cs (E (pos E (p.len - p.at_) p.at_ p.last)) p.last) := by unfold PS.step; rw [ho, hn, hin]; simp
        rw [e]
        rw [then_eq] at hrun ⊢
        generalize pos E (p.len - p.at_) p.at_ p.last = P at *
        simp only [if_true]
        have hrun2 := hrun.trans (run_pos (E := E) (last := thenOf st.cs (E P) p.last) (show P + 1 + (p.len - (P + 1)) = p.len by omega))
        rw [List.append_nil] at hrun2
        refine ⟨⟨?_, ?_, ?_, ?_, ?_, ?_⟩, (access_cs st (E P) p.last).symm, rfl, rfl, rfl⟩
        · simp [PS.on, ho]
        · show p.err = (st.access (E P) p.last).err
          rw [p5]; exact herr
        · show p.made + 1 = (st.access (E P) p.last).log.length
          rw [p7, hmade]
        · intro _
          refine ⟨by simp [her], ?_, hrun2⟩
          show (st.access (E P) p.last).err = 0
          rw [p5]; exact her
        · exact hu2
        · exact hrun2.le.2 (Nat.zero_le _)
end Go.Proofs.Ytdmcnlkmfohmdaa
