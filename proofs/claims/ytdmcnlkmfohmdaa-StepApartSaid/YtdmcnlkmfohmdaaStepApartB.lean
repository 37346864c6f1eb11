/-
  Three runs on three memories, side by side; a row of small numbers that comes in.
-/
import Derived.Test.YtdmcnlkmfohmdaaStepArgs
import Derived.Test.YtdmcnlkmfohmdaaStepPureB
namespace Go.Proofs.Ytdmcnlkmfohmdaa
open Go.ChangeShapes Go.WideShapes Go.ChangeAt Go.RowKit Go.Deep

/-- A row of small numbers in memory. -/
structure TurnsAt (W : World) (ao : Option Addr) (len : Nat) (T : Nat → Int) : Prop where
  cell : ∀ i, i < len → ∃ b off, ao = some ⟨b, off, none⟩ ∧ b < W.heap.size ∧ W.cell? ⟨b, off + i, none⟩ = some (.int .u8 (T i)) ∧ 0 ≤ T i ∧ T i ≤ 255

theorem open_turns {H : Type} {enc : TypeId × Value → H} {W : World} {v : Value} {d : DataW H} {p : List MemPlace} {base : Nat}
    (hv : Value.okWide Try.prog W .any base 23 v) (h : DataW.Trod enc Try.prog W 0 (fun _ => true) true 23 v d p) :
    ∃ ao len cap T, v = .slice ao len cap ∧ TurnsAt W ao len T ∧ len ≤ maxLen := by
  obtain ⟨a, len, cap, rfl⟩ := okWide_slice Try.underlying23 hv
  obtain ⟨fuel, hf⟩ := h
  rcases open_slice1 Try.underlying23 (by kernel_rfl) hf with ⟨hcs, _⟩ | ⟨a', len', cap', m, n, V, D, Pl, hcs, _, hl, hm, hmm, _, hi⟩
  · simp only [Value.cells, List.cons.injEq, and_true, Value.slice.injEq] at hcs
    obtain ⟨rfl, rfl, rfl⟩ := hcs
    exact ⟨_, _, _, fun _ => 0, rfl, ⟨fun i hi => by omega⟩, by simp [maxLen]⟩
  · simp only [Value.cells, List.cons.injEq, and_true, Value.slice.injEq] at hcs
    obtain ⟨rfl, rfl, rfl⟩ := hcs
    simp only [if_true] at hmm
    subst hmm
    obtain ⟨T, hT⟩ := choose_lt (α := Int) (n := len) (p := fun i x => ∃ b off, (some a' : Option Addr) = some ⟨b, off, none⟩ ∧ b < W.heap.size ∧ W.cell? ⟨b, off + i, none⟩ = some (.int .u8 x) ∧ 0 ≤ x ∧ x ≤ 255) (fun i him => by
      obtain ⟨hc, ht⟩ := hi i (by omega)
      obtain ⟨x, e, _, wf⟩ := DataW.trod_int Try.underlying5 ht
      simp only [List.cons.injEq, and_true] at e
      rw [e] at hc
      obtain ⟨b, off, sp⟩ := a'
      have hs1 : sp = none := by
        obtain ⟨hc0, _⟩ := hi 0 (by omega)
        rw [Addr.add_zero'] at hc0
        exact plain_of_cell hc0
      subst hs1
      rw [Addr.add_lit] at hc
      exact ⟨x, b, off, rfl, lt_of_cell hc, hc, u8_lo wf, u8_hi wf⟩)
    exact ⟨_, _, _, T, rfl, ⟨hT⟩, by omega⟩

section
variable {W w w' : World} {rb mb cb rb1 mb1 cb1 : Nat} {go go1 go1' : Option Nat} {st st1 : St} {D : Nat → Prop} {ao ao1 : Option Addr} {len len1 : Nat} {E E1 : Nat → Ins}
/-- Another run's turn isn't felt. -/
theorem Ctx.beside (h : Ctx W w rb mb cb go st D ao len E) (h1 : Ctx W w rb1 mb1 cb1 go1 st1 D ao1 len1 E1) (ha : Adv rb1 mb1 cb1 w go1 w' go1') (hd : ∀ k, Feet rb mb cb go k → ¬ Feet rb1 mb1 cb1 go1 k) :
    Ctx W w' rb mb cb go st D ao len E ∧ ∀ k, Feet rb mb cb go k → ¬ Feet rb1 mb1 cb1 go1' k :=
  ⟨h.mod ha.mod h1.feet hd h1.sep, fun k hk => ha.apart (h.rm.lt k hk) (hd k hk)⟩
end

/-- A run's places and state. -/
structure Seat where
  rb : Nat
  mb : Nat
  cb : Nat
  go : Option Nat
  st : St
def Seat.feet (s : Seat) (k : Nat) : Prop := Feet s.rb s.mb s.cb s.go k
/-- Three runs, none of which lies where another one lies; the first and the third play one list. -/
structure Three (W w : World) (r s t : Seat) (D : Nat → Prop) (ao : Option Addr) (len : Nat) (E : Nat → Ins) (ao2 : Option Addr) (len2 : Nat) (E2 : Nat → Ins) : Prop where
  c1 : Ctx W w r.rb r.mb r.cb r.go r.st D ao len E
  c2 : Ctx W w s.rb s.mb s.cb s.go s.st D ao2 len2 E2
  c3 : Ctx W w t.rb t.mb t.cb t.go t.st D ao len E
  d12 : ∀ k, r.feet k → ¬ s.feet k
  d13 : ∀ k, r.feet k → ¬ t.feet k
  d23 : ∀ k, s.feet k → ¬ t.feet k
theorem not_both {P Q : Nat → Prop} (h : ∀ k, P k → ¬ Q k) : ∀ k, Q k → ¬ P k := fun k hq hp => h k hp hq
section
variable {W w w' : World} {r s t : Seat} {D : Nat → Prop} {ao ao2 : Option Addr} {len len2 : Nat} {E E2 : Nat → Ins}
theorem Three.below (h : Three W w r s t D ao len E ao2 len2 E2) (hb : Below w.heap.size w w') : Three W w' r s t D ao len E ao2 len2 E2 :=
  ⟨h.c1.below hb, h.c2.below hb, h.c3.below hb, h.d12, h.d13, h.d23⟩
theorem Three.prog1 (h : Three W w r s t D ao len E ao2 len2 E2) (cap : Nat) :
    Calls Try.prog 14 #[.slice ao len cap] w fun e w' => ∃ lb, e = .returned (progV lb) ∧ Three W w' r s t D ao len E ao2 len2 E2 ∧ Lb w' r.rb r.mb r.cb r.go lb ao len :=
  (h.c1.program cap).mono fun _ _ ⟨lb, h1, _, h3, hb⟩ => ⟨lb, h1, h.below hb, h3⟩
theorem Three.prog2 (h : Three W w r s t D ao len E ao2 len2 E2) (cap : Nat) :
    Calls Try.prog 14 #[.slice ao2 len2 cap] w fun e w' => ∃ lb, e = .returned (progV lb) ∧ Three W w' r s t D ao len E ao2 len2 E2 ∧ Lb w' s.rb s.mb s.cb s.go lb ao2 len2 :=
  (h.c2.program cap).mono fun _ _ ⟨lb, h1, _, h3, hb⟩ => ⟨lb, h1, h.below hb, h3⟩
theorem Three.prog3 (h : Three W w r s t D ao len E ao2 len2 E2) (cap : Nat) :
    Calls Try.prog 14 #[.slice ao len cap] w fun e w' => ∃ lb, e = .returned (progV lb) ∧ Three W w' r s t D ao len E ao2 len2 E2 ∧ Lb w' t.rb t.mb t.cb t.go lb ao len :=
  (h.c3.program cap).mono fun _ _ ⟨lb, h1, _, h3, hb⟩ => ⟨lb, h1, h.below hb, h3⟩
theorem Three.step1 {B lb : Nat} (h : Three W w r s t D ao len E ao2 len2 E2) (hl : Lb w r.rb r.mb r.cb r.go lb ao len) (hB : B < 1000000000) (hok : r.st.start.Ok B) (hlen : len ≤ 100) :
    Calls Try.prog 13 #[.pointer (some ⟨r.rb, 0, none⟩), progV lb] w fun e w' => e = .returned (.bool (r.st.step E len).over) ∧ ∃ go', Three W w' { r with go := go', st := r.st.step E len } s t D ao len E ao2 len2 E2 := by
  refine (h.c1.step hl hB hok hlen).mono ?_
  rintro e w' ⟨rfl, go', hc, ha⟩
  obtain ⟨k2, e2⟩ := h.c2.beside h.c1 ha (not_both h.d12)
  obtain ⟨k3, e3⟩ := h.c3.beside h.c1 ha (not_both h.d13)
  exact ⟨rfl, go', hc, k2, k3, not_both e2, not_both e3, h.d23⟩
theorem Three.step2 {B lb : Nat} (h : Three W w r s t D ao len E ao2 len2 E2) (hl : Lb w s.rb s.mb s.cb s.go lb ao2 len2) (hB : B < 1000000000) (hok : s.st.start.Ok B) (hlen : len2 ≤ 100) :
    Calls Try.prog 13 #[.pointer (some ⟨s.rb, 0, none⟩), progV lb] w fun e w' => e = .returned (.bool (s.st.step E2 len2).over) ∧ ∃ go', Three W w' r { s with go := go', st := s.st.step E2 len2 } t D ao len E ao2 len2 E2 := by
  refine (h.c2.step hl hB hok hlen).mono ?_
  rintro e w' ⟨rfl, go', hc, ha⟩
  obtain ⟨k1, e1⟩ := h.c1.beside h.c2 ha h.d12
  obtain ⟨k3, e3⟩ := h.c3.beside h.c2 ha (not_both h.d23)
  exact ⟨rfl, go', k1, hc, k3, e1, h.d13, not_both e3⟩
theorem Three.step3 {B lb : Nat} (h : Three W w r s t D ao len E ao2 len2 E2) (hl : Lb w t.rb t.mb t.cb t.go lb ao len) (hB : B < 1000000000) (hok : t.st.start.Ok B) (hlen : len ≤ 100) :
    Calls Try.prog 13 #[.pointer (some ⟨t.rb, 0, none⟩), progV lb] w fun e w' => e = .returned (.bool (t.st.step E len).over) ∧ ∃ go', Three W w' r s { t with go := go', st := t.st.step E len } D ao len E ao2 len2 E2 := by
  refine (h.c3.step hl hB hok hlen).mono ?_
  rintro e w' ⟨rfl, go', hc, ha⟩
  obtain ⟨k1, e1⟩ := h.c1.beside h.c3 ha h.d13
  obtain ⟨k2, e2⟩ := h.c2.beside h.c3 ha h.d23
  exact ⟨rfl, go', k1, k2, hc, h.d12, e1, e2⟩
end
end Go.Proofs.Ytdmcnlkmfohmdaa
