/-
  Package-level tables: what a variable that reads as a datum holds, cell for cell; the frame of a law that reads such variables. Nothing of one law stands here.
-/
import Derived.Test.YtaaeooimalglaaaDoorFrame
import Derived.LaidMore
import Derived.LaidLaws
import Derived.LaidHandle
import Derived.MakeChecks
import Derived.ChangeArms
import Derived.DataReads
import Derived.Stop.Joined
namespace Go.Proofs.YtaaeooimalglaaaDoor
open Go.ChangeShapes Go.WideShapes Go.ChangeAt Go.RowKit

/-! ### A plain datum's cells -/
def flatParts (P : Program) (f : TypeId → DataW Unit → Option (List Value)) (tot : Nat) : Nat → List (TypeId × Nat) → List (DataW Unit) → Option (List Value)
  | o, [], [] => if o = tot then some [] else none
  | o, (t, off) :: ps, d :: ds => if off = o then (f t d).bind fun x => (flatParts P f tot (o + P.cellsOf t) ps ds).map fun r => x ++ r else none
  | _, _, _ => none
def flatC (P : Program) : Nat → TypeId → DataW Unit → Option (List Value)
  | 0, _, _ => none
  | n + 1, t, d =>
    match P.underlying t, d with
    | some .bool, .lit (.bool b) => some [.bool b]
    | some (.int _), .lit (.int k' z) => some [.int k' z]
    | some .string, .lit (.string l) => some [.string ⟨l.toArray⟩]
    | some (.struct fs), .agg ds => flatParts P (flatC P n) (P.cellsOf t) 0 (fs.toList.map fun f => (f.type, f.offset)) ds
    | some (.array m e), .agg ds => flatParts P (flatC P n) (P.cellsOf t) 0 ((List.range m).map fun i => (e, i * P.cellsOf e)) ds
    | _, _ => none

set_option maxRecDepth 100000 in
theorem flatParts_eq {P : Program} {f : TypeId → DataW Unit → Option (List Value)} {Good : TypeId → List Value → DataW Unit → Prop} (hf : ∀ t d cs x, Good t cs d → f t d = some x → cs = x) {cs : List Value} :
    ∀ (ps : List (TypeId × Nat)) (ds : List (DataW Unit)) (o : Nat) (r : List Value), (∀ (i : Nat) (t : TypeId) (off : Nat), ps[i]? = some (t, off) → ∃ d, ds[i]? = some d ∧ Good t ((cs.drop off).take (P.cellsOf t)) d) → flatParts P f cs.length o ps ds = some r → cs.drop o = r
  | [], [], o, r, _, h => by
    simp only [flatParts] at h
    split at h
    · injection h with h
      subst h
      rw [List.drop_eq_nil_of_le (by omega)]
    · cases h
  | [], d :: ds, o, r, _, h => by simp [flatParts] at h
  | p :: ps, [], o, r, _, h => by obtain ⟨t, off⟩ := p; simp [flatParts] at h
  | (t, off) :: ps, d :: ds, o, r, hg, h => by
    simp only [flatParts] at h
    split at h
    · rename_i ho
      subst ho
      obtain ⟨x, hx, h2⟩ := Option.bind_eq_some_iff.1 h
      obtain ⟨r2, hr2, rfl⟩ := Option.map_eq_some_iff.1 h2
      obtain ⟨d', hd', hgd⟩ := hg 0 t off rfl
      simp only [List.getElem?_cons_zero, Option.some.injEq] at hd'
      subst hd'
      have h1 := hf t d _ x hgd hx
      have h3 := flatParts_eq hf ps ds (off + P.cellsOf t) r2 (fun i t' o' hi => by simpa using hg (i + 1) t' o' (by simpa using hi)) hr2
      rw [← h1, ← h3, ← List.drop_drop, List.take_append_drop]
    · cases h

set_option maxRecDepth 100000 in
theorem trod_flat {P : Program} {w : World} {base : Nat} {sp : Nat → Bool} {held : Bool} : ∀ (n fuel : Nat) (t : TypeId) (cs : List Value) (d : DataW Unit) (p : List MemPlace) (xs : List Value),
    DataW.trod (fun _ => ()) P w base sp held fuel t cs = some (d, p) → flatC P n t d = some xs → cs = xs
  | 0, _, _, _, _, _, _, _, h => by simp [flatC] at h
  | n + 1, fuel, t, cs, d, p, xs, ht, h => by
    have parts : ∀ (ps : List (TypeId × Nat)) (ys : List (DataW Unit × List MemPlace)) (m : Nat), cs.length = P.cellsOf t →
        (∀ (i : Nat) (t' : TypeId) (off : Nat), ps[i]? = some (t', off) → DataW.trod (fun _ => ()) P w base sp held m t' ((cs.drop off).take (P.cellsOf t')) = ys[i]? ∧ i < ys.length) → flatParts P (flatC P n) (P.cellsOf t) 0 ps (ys.map (·.1)) = some xs → cs = xs := by
      intro ps ys m hl hp hfl
      rw [← hl] at hfl
      have := flatParts_eq (Good := fun t cs d => ∃ m p, DataW.trod (fun _ => ()) P w base sp held m t cs = some (d, p)) (fun t d cs x ⟨m, p, hg⟩ hx => trod_flat n m t cs d p x hg hx) ps _ 0 xs (fun i t' off hi => by
        obtain ⟨h1, h2⟩ := hp i t' off hi
        refine ⟨(ys[i]).1, by simp [h2], m, (ys[i]).2, ?_⟩
        rw [h1]
        simp [h2]) hfl
      simpa using this
    unfold flatC at h
    split at h
    · rename_i hu
      obtain ⟨b', rfl, hx⟩ := DataW.trod_bool hu ht
      simp at hx h
      rw [← h, hx.1]
    · rename_i hu
      obtain ⟨z', rfl, hx, _⟩ := DataW.trod_int hu ht
      simp at hx h
      rw [← h, hx.1.1, hx.1.2]
    · rename_i hu
      obtain ⟨s, rfl, hx, _⟩ := DataW.trod_string hu ht
      simp at hx h
      rw [← h, hx.1]
    · rename_i hu
      obtain ⟨ys, m, rfl, hx, hl, hn, he⟩ := DataW.trod_struct hu ht
      simp only [Prod.mk.injEq, DataW.agg.injEq] at hx
      rw [hx.1] at h
      refine parts _ ys m hl (fun i t' off hi => ?_) h
      rw [List.getElem?_map] at hi
      obtain ⟨f, hf, hft⟩ := Option.map_eq_some_iff.1 hi
      injection hft with h1 h2
      subst h1 h2
      refine ⟨he i f (by simpa using hf), ?_⟩
      have := (List.getElem?_eq_some_iff.1 hf).1
      simp at this
      omega
    · rename_i hu
      obtain ⟨ys, m, rfl, hx, hl, hn, he⟩ := DataW.trod_array hu ht
      simp only [Prod.mk.injEq, DataW.agg.injEq] at hx
      rw [hx.1] at h
      refine parts _ ys m hl (fun i t' off hi => ?_) h
      rw [List.getElem?_map] at hi
      obtain ⟨j, hj, hft⟩ := Option.map_eq_some_iff.1 hi
      obtain ⟨hj1, rfl⟩ := List.getElem?_eq_some_iff.1 hj
      simp at hj1
      simp only [List.getElem_range, Prod.mk.injEq] at hft
      obtain ⟨rfl, rfl⟩ := hft
      exact ⟨he i hj1, by omega⟩
    · cases h

/-- A variable that is listed: it reads as its datum. -/
def VarReads (P : Program) (w : World) (name : String) (d : DataW Unit) : Prop :=
  ∃ g t cs fuel p, P.globalNamed name = some g ∧ (P.globals[g]?).map (·.type) = some t ∧ w.var? P name = some cs ∧ DataW.trod (fun _ => ()) P w 0 (fun _ => true) false fuel t cs.toList = some (d, p)
set_option maxRecDepth 100000 in
theorem laidVars_reads {P : Program} {w : World} : ∀ {laid : List (String × DataW Unit)} {ps : List MemPlace}, DataW.LaidVars P w laid ps → ∀ n d, (n, d) ∈ laid → VarReads P w n d
  | [], _, _, n, d, hm => by simp at hm
  | (n', d') :: r, ps, h, n, d, hm => by
    obtain ⟨g, t, cs, fuel, p, q, h1, h2, h3, h4, h5, _⟩ := h
    rcases List.mem_cons.1 hm with e | hm
    · cases e
      exact ⟨g, t, cs, fuel, p, h1, h2, h3, h4⟩
    · exact laidVars_reads h5 n d hm
set_option maxRecDepth 100000 in
theorem laid_reads {P : Program} {w : World} {laid : List (String × DataW Unit)} (hp : (laid.all fun x => x.2.handleName?.isNone) = true) (h : laidMetH P laid w) (n : String) (d : DataW Unit) (hm : (n, d) ∈ laid) : VarReads P w n d := by
  rw [MakeChecks.laidMetH_plain _ _ _ hp] at h
  obtain ⟨ps, hl, _⟩ := h
  exact laidVars_reads hl n d hm
set_option maxRecDepth 100000 in
/-- A table of plain data that lies in the variable itself: its cells. -/
theorem table_cells {P : Program} {w : World} {name : String} {d : DataW Unit} {g : Nat} {t : TypeId} {xs : List Value} (n : Nat) (hg : P.globalNamed name = some g) (ht : (P.globals[g]?).map (·.type) = some t) (hx : flatC P n t d = some xs) (h : VarReads P w name d) :
    ∀ i : Nat, w.cell? ⟨g, i, none⟩ = xs[i]? := by
  obtain ⟨g', t', cs, fuel, p, h1, h2, h3, h4⟩ := h
  obtain rfl := Option.some.inj (hg.symm.trans h1)
  obtain rfl := Option.some.inj (ht.symm.trans h2)
  have := trod_flat n fuel t cs.toList d p xs h4 hx
  intro i
  rw [World.var?_cell h1 h3 i, ← this]
  simp
set_option maxRecDepth 100000 in
/-- A slice of plain data: its header, and its elements' cells. -/
theorem slice_cells {P : Program} {w : World} {name : String} {ds : List (DataW Unit)} {g : Nat} {t e : TypeId} (n : Nat) (hg : P.globalNamed name = some g) (ht : (P.globals[g]?).map (·.type) = some t) (hu : P.underlying t = some (.slice e)) (h : VarReads P w name (.slice ds [])) :
    ∃ a : Addr, w.cell? ⟨g, 0, none⟩ = some (.slice (some a) ds.length ds.length) ∧ ∀ (i : Nat) (d : DataW Unit) (xs : List Value), ds[i]? = some d → flatC P n e d = some xs → ∀ j, j < P.cellsOf e → w.cell? (a.add (i * P.cellsOf e + j)) = xs[j]? := by
  obtain ⟨g', t', cs, fuel, p, h1, h2, h3, h4⟩ := h
  obtain rfl := Option.some.inj (hg.symm.trans h1)
  obtain rfl := Option.some.inj (ht.symm.trans h2)
  rcases DataW.trod_slice hu h4 with ⟨_, hx⟩ | ⟨a, len, cap, elems, rest, m, rfl, hcs, hx, hb, hl, hm, hlen, hel, hsp, _⟩
  · simp at hx
  simp only [Prod.mk.injEq, DataW.slice.injEq] at hx
  have hr := (hsp rfl).1
  have hr0 : rest = [] := by
    have := hx.1.2
    simpa using this.symm
  have hcap : cap = len := by rw [hr0] at hr; simp at hr; omega
  have hdl : ds.length = len := by rw [hx.1.1]; simpa using hlen
  subst hcap
  refine ⟨a, ?_, ?_⟩
  · rw [World.var?_cell h1 h3 0]
    have : cs[0]? = cs.toList[0]? := by simp
    rw [this, hcs, hdl]
    rfl
  · intro i d xs hd hxs j hj
    have hi : i < cap := by have := (List.getElem?_eq_some_iff.1 hd).1; omega
    have h5 := hel i hi
    rw [List.getElem?_eq_getElem (by omega)] at h5
    obtain ⟨cs2, hc2, h6⟩ := Option.bind_eq_some_iff.1 h5
    have hd2 : (elems[i]'(by omega)).1 = d := by
      rw [hx.1.1, List.getElem?_map, List.getElem?_eq_getElem (by omega)] at hd
      simpa using hd
    have h7 := trod_flat n m e cs2 d (elems[i]'(by omega)).2 xs (by rw [h6, ← hd2]) hxs
    subst h7
    obtain ⟨_, _, hcells⟩ := World.cells?_some hc2
    rw [← hcells j hj, Addr.add_add]

/-! ### The frame of a law that reads such variables -/
section
variable {H : Type} {enc : TypeId × Value → H}
set_option maxRecDepth 100000 in
theorem law_laid {C : Checked} {os : Os} {F : FuncId} {f : Func} {s : ChangeSpec} {tb : TypeId} {conds : List PathCond} (laid : List (String × DataW Unit)) (own : ownKnob C.prog.godebug = none) (started : os.Started) (noInit : C.prog.inits.idxOf? F = none)
    (hfn : C.prog.funcs[F]? = some f) (hl : laidOutB C.prog = true) (hr : (f.params.toList.all fun t => C.prog.readableRec t && decide (t < C.prog.types.size)) = true) (hres : f.resultTypes = #[tb])
    (hub : C.prog.underlying tb = some .bool) (hvars : s.vars = [])
    (witness : ∃ (w : World) (tape : Tape) (i : Input), w.os = os ∧ (w.forCall tape i).Shaped C.prog ∧ i.vars = [] ∧ Input.okWide C.prog (w.forCall tape i) .any w.heap.size F i ∧
      ((s.pre enc C.prog f conds false (w.forCall tape i).memory i.args ∧ laidMetH C.prog laid (w.forCall tape i).memory) ∧ sizedMet enc C.prog f (OpenSpec.ofChange s) false (w.forCall tape i).memory i.args) ∧ ({} : Assume).holds C.prog (lone (Frame.enter C.prog F i.args .normal) [] (w.forCall tape i)))
    (hs : ∀ ds : List (DataW H), ds.length = f.params.size → s.fn H ds = { results := [.lit (.bool true)], args := ds })
    (walk : ∀ (W : World) (args : Array Value) (ds : List (DataW H)), ArgsIn enc C.prog f.params.toList W args ds → laidMetH C.prog laid W → Calls C.prog F args W fun e W' => e = .returned (.bool true) ∧ Below W.heap.size W W') :
    ReturnsInHanded {} C os F .any (fun w args => (s.pre enc C.prog f conds false w args ∧ laidMetH C.prog laid w) ∧ sizedMet enc C.prog f (OpenSpec.ofChange s) false w args) (s.post enc C.prog f false true false false) := by
  refine returnsInHanded_of_change_and (C := C) (X := fun w _ => laidMetH C.prog laid w) (fun _ _ _ hh h => h.of_heap hh) own started noInit hfn witness ?_
  intro W base args ds gs before hval hW _ hsz hX _
  refine (walk W args ds (ArgsIn.of_whole hvars hval hW hsz) hX).mono fun e W' ⟨he, hb⟩ => ⟨_, he, ?_⟩
  refine law_post hl hr hres hub hvars hW ?_ hb
  obtain ⟨p, q, hA, hV, _⟩ := hW
  rw [hvars] at hV
  obtain ⟨rfl, rfl⟩ := trodVars_none hV
  rw [List.append_nil]
  exact hs ds (by rw [← law_lifted.trodAll_len hA]; simp)
end
set_option maxRecDepth 100000 in
/-- The door's own heap meets the condition. -/
theorem door_met {laid : List (String × DataW Unit)} {n fuel : Nat} (os : Os) (args : Array Value)
    (h1 : (DataW.laidRun Tryd.prog ((World.doorLaid Tryd.prog n os).forCall (fun _ _ => 0) ⟨#[], args, []⟩).memory fuel ((laid.filter fun x => x.2.handleName?.isNone).map (·.1))).map (·.1) = some (laid.filter fun x => x.2.handleName?.isNone))
    (h2 : (DataW.laidRun Tryd.prog ((World.doorLaid Tryd.prog n os).forCall (fun _ _ => 0) ⟨#[], args, []⟩).memory fuel ((laid.filter fun x => x.2.handleName?.isNone).map (·.1))).map (fun x => decide x.2.Nodup && laidRowsB Tryd.prog ((World.doorLaid Tryd.prog n os).forCall (fun _ _ => 0) ⟨#[], args, []⟩).memory x.2) = some true)
    (h3 : (laid.filter fun x => x.2.handleName?.isSome && x.2.funcsIn?.isNone).all (handleAtB Tryd.prog ((World.doorLaid Tryd.prog n os).forCall (fun _ _ => 0) ⟨#[], args, []⟩).memory) = true)
    (h4 : funcsRun Tryd.prog ((World.doorLaid Tryd.prog n os).forCall (fun _ _ => 0) ⟨#[], args, []⟩).memory fuel ((funcsListed laid).map (·.1)) = some ((funcsListed laid).map (·.2.funcsOut))) :
    laidMetH Tryd.prog laid ((World.doorLaid Tryd.prog n os).forCall (fun _ _ => 0) ⟨#[], args, []⟩).memory :=
  laidMetH_of_parts3 (fuel := fuel) (laidMet_of_run' fuel h1 h2) h3 h4
end Go.Proofs.YtaaeooimalglaaaDoor
