/-
  Package-level tables: what a variable that reads as a datum holds, cell for cell; the frame of a law that reads such variables. Nothing of one law stands here.
-/
import Derived.Test.YthkpaelpnofbgaaGreatDoorQsC07
import Derived.Test.YthkpaelpnofbgaaGreatDoorQsC02
import Derived.Test.YthkpaelpnofbgaaGreatDoorQsC05
import Derived.Test.YthkpaelpnofbgaaGreatDoorQsC08
import Derived.LaidMore
import Derived.LaidLaws
import Derived.LaidHandle
import Derived.MakeChecks
import Derived.ChangeArms
import Derived.DataReads
import Derived.Stop.Joined
import Derived.WalkMore
import Derived.Deep.OwnRows
import Derived.Deep.LoopGhost
namespace Go.Proofs.YthkpaelpnofbgaaGreatDoor
open Go.ChangeShapes Go.WideShapes Go.ChangeAt Go.RowKit

/-! ### A plain datum's cells -/
def flatParts (P : Program) (f : TypeId → DataW Unit → Option (List Value)) (tot : Nat) : Nat → List (TypeId × Nat) → List (DataW Unit) → Option (List Value)
  | o, [], [] => if o = tot then some [] else none
  | o, (t, off) :: ps, d :: ds => if off = o then (f t d).bind fun x => (flatParts P f tot (o + P.cellsOf t) ps ds).map fun r => x ++ r else none
  | _, _, _ => none
def flatC (P : Program) : Nat → TypeId → DataW Unit → Option (List Value)
  | 0, _, _ => none
  | n + 1, t, d =>
    match P.underlying t, d with
    | some .bool, .lit (.bool b) => some [.bool b]
    | some (.int _), .lit (.int k' z) => some [.int k' z]
    | some .string, .lit (.string l) => some [.string ⟨l.toArray⟩]
    | some (.struct fs), .agg ds => flatParts P (flatC P n) (P.cellsOf t) 0 (fs.toList.map fun f => (f.type, f.offset)) ds
    | some (.array m e), .agg ds => flatParts P (flatC P n) (P.cellsOf t) 0 ((List.range m).map fun i => (e, i * P.cellsOf e)) ds
    | _, _ => none

set_option maxRecDepth 100000 in
theorem flatParts_eq {P : Program} {f : TypeId → DataW Unit → Option (List Value)} {Good : TypeId → List Value → DataW Unit → Prop} (hf : ∀ t d cs x, Good t cs d → f t d = some x → cs = x) {cs : List Value} :
    ∀ (ps : List (TypeId × Nat)) (ds : List (DataW Unit)) (o : Nat) (r : List Value), (∀ (i : Nat) (t : TypeId) (off : Nat), ps[i]? = some (t, off) → ∃ d, ds[i]? = some d ∧ Good t ((cs.drop off).take (P.cellsOf t)) d) → flatParts P f cs.length o ps ds = some r → cs.drop o = r
  | [], [], o, r, _, h => by
    simp only [flatParts] at h
    split at h
    · injection h with h
      subst h
      rw [List.drop_eq_nil_of_le (by omega)]
    · cases h
  | [], d :: ds, o, r, _, h => by simp [flatParts] at h
  | p :: ps, [], o, r, _, h => by obtain ⟨t, off⟩ := p; simp [flatParts] at h
  | (t, off) :: ps, d :: ds, o, r, hg, h => by
    simp only [flatParts] at h
    split at h
    · rename_i ho
      subst ho
      obtain ⟨x, hx, h2⟩ := Option.bind_eq_some_iff.1 h
      obtain ⟨r2, hr2, rfl⟩ := Option.map_eq_some_iff.1 h2
      obtain ⟨d', hd', hgd⟩ := hg 0 t off rfl
      simp only [List.getElem?_cons_zero, Option.some.injEq] at hd'
      subst hd'
      have h1 := hf t d _ x hgd hx
      have h3 := flatParts_eq hf ps ds (off + P.cellsOf t) r2 (fun i t' o' hi => by simpa using hg (i + 1) t' o' (by simpa using hi)) hr2
      rw [← h1, ← h3, ← List.drop_drop, List.take_append_drop]
    · cases h

set_option maxRecDepth 100000 in
theorem trod_flat {P : Program} {w : World} {base : Nat} {sp : Nat → Bool} {held : Bool} : ∀ (n fuel : Nat) (t : TypeId) (cs : List Value) (d : DataW Unit) (p : List MemPlace) (xs : List Value),
    DataW.trod (fun _ => ()) P w base sp held fuel t cs = some (d, p) → flatC P n t d = some xs → cs = xs
  | 0, _, _, _, _, _, _, _, h => by simp [flatC] at h
  | n + 1, fuel, t, cs, d, p, xs, ht, h => by
    have parts : ∀ (ps : List (TypeId × Nat)) (ys : List (DataW Unit × List MemPlace)) (m : Nat), cs.length = P.cellsOf t →
        (∀ (i : Nat) (t' : TypeId) (off : Nat), ps[i]? = some (t', off) → DataW.trod (fun _ => ()) P w base sp held m t' ((cs.drop off).take (P.cellsOf t')) = ys[i]? ∧ i < ys.length) → flatParts P (flatC P n) (P.cellsOf t) 0 ps (ys.map (·.1)) = some xs → cs = xs := by
      intro ps ys m hl hp hfl
      rw [← hl] at hfl
      have := flatParts_eq (Good := fun t cs d => ∃ m p, DataW.trod (fun _ => ()) P w base sp held m t cs = some (d, p)) (fun t d cs x ⟨m, p, hg⟩ hx => trod_flat n m t cs d p x hg hx) ps _ 0 xs (fun i t' off hi => by
        obtain ⟨h1, h2⟩ := hp i t' off hi
        refine ⟨(ys[i]).1, by simp [h2], m, (ys[i]).2, ?_⟩
        rw [h1]
        simp [h2]) hfl
      simpa using this
    unfold flatC at h
    split at h
    · rename_i hu
      obtain ⟨b', rfl, hx⟩ := DataW.trod_bool hu ht
      simp at hx h
      rw [← h, hx.1]
    · rename_i hu
      obtain ⟨z', rfl, hx, _⟩ := DataW.trod_int hu ht
      simp at hx h
      rw [← h, hx.1.1, hx.1.2]
    · rename_i hu
      obtain ⟨s, rfl, hx, _⟩ := DataW.trod_string hu ht
      simp at hx h
      rw [← h, hx.1]
    · rename_i hu
      obtain ⟨ys, m, rfl, hx, hl, hn, he⟩ := DataW.trod_struct hu ht
      simp only [Prod.mk.injEq, DataW.agg.injEq] at hx
      rw [hx.1] at h
      refine parts _ ys m hl (fun i t' off hi => ?_) h
      rw [List.getElem?_map] at hi
      obtain ⟨f, hf, hft⟩ := Option.map_eq_some_iff.1 hi
      injection hft with h1 h2
      subst h1 h2
      refine ⟨he i f (by simpa using hf), ?_⟩
      have := (List.getElem?_eq_some_iff.1 hf).1
      simp at this
      omega
    · rename_i hu
      obtain ⟨ys, m, rfl, hx, hl, hn, he⟩ := DataW.trod_array hu ht
      simp only [Prod.mk.injEq, DataW.agg.injEq] at hx
      rw [hx.1] at h
      refine parts _ ys m hl (fun i t' off hi => ?_) h
      rw [List.getElem?_map] at hi
      obtain ⟨j, hj, hft⟩ := Option.map_eq_some_iff.1 hi
      obtain ⟨hj1, rfl⟩ := List.getElem?_eq_some_iff.1 hj
      simp at hj1
      simp only [List.getElem_range, Prod.mk.injEq] at hft
      obtain ⟨rfl, rfl⟩ := hft
      exact ⟨he i hj1, by omega⟩
    · cases h

/-- A variable that is listed: it reads as its datum. -/
def VarReads (P : Program) (w : World) (name : String) (d : DataW Unit) : Prop :=
  ∃ g t cs fuel p, P.globalNamed name = some g ∧ (P.globals[g]?).map (·.type) = some t ∧ w.var? P name = some cs ∧ DataW.trod (fun _ => ()) P w 0 (fun _ => true) false fuel t cs.toList = some (d, p)
set_option maxRecDepth 100000 in
theorem laidVars_reads {P : Program} {w : World} : ∀ {laid : List (String × DataW Unit)} {ps : List MemPlace}, DataW.LaidVars P w laid ps → ∀ n d, (n, d) ∈ laid → VarReads P w n d
  | [], _, _, n, d, hm => by simp at hm
  | (n', d') :: r, ps, h, n, d, hm => by
    obtain ⟨g, t, cs, fuel, p, q, h1, h2, h3, h4, h5, _⟩ := h
    rcases List.mem_cons.1 hm with e | hm
    · cases e
      exact ⟨g, t, cs, fuel, p, h1, h2, h3, h4⟩
    · exact laidVars_reads h5 n d hm
set_option maxRecDepth 100000 in
theorem laid_reads {P : Program} {w : World} {laid : List (String × DataW Unit)} (hp : (laid.all fun x => x.2.handleName?.isNone) = true) (h : laidMetH P laid w) (n : String) (d : DataW Unit) (hm : (n, d) ∈ laid) : VarReads P w n d := by
  rw [MakeChecks.laidMetH_plain _ _ _ hp] at h
  obtain ⟨ps, hl, _⟩ := h
  exact laidVars_reads hl n d hm
set_option maxRecDepth 100000 in
/-- A table of plain data that lies in the variable itself: its cells. -/
theorem table_cells {P : Program} {w : World} {name : String} {d : DataW Unit} {g : Nat} {t : TypeId} {xs : List Value} (n : Nat) (hg : P.globalNamed name = some g) (ht : (P.globals[g]?).map (·.type) = some t) (hx : flatC P n t d = some xs) (h : VarReads P w name d) :
    ∀ i : Nat, w.cell? ⟨g, i, none⟩ = xs[i]? := by
  obtain ⟨g', t', cs, fuel, p, h1, h2, h3, h4⟩ := h
  obtain rfl := Option.some.inj (hg.symm.trans h1)
  obtain rfl := Option.some.inj (ht.symm.trans h2)
  have := trod_flat n fuel t cs.toList d p xs h4 hx
  intro i
  rw [World.var?_cell h1 h3 i, ← this]
  simp
set_option maxRecDepth 100000 in
/-- A slice of plain data: its header, and its elements' cells. -/
theorem slice_cells {P : Program} {w : World} {name : String} {ds : List (DataW Unit)} {g : Nat} {t e : TypeId} (n : Nat) (hg : P.globalNamed name = some g) (ht : (P.globals[g]?).map (·.type) = some t) (hu : P.underlying t = some (.slice e)) (h : VarReads P w name (.slice ds [])) :
    ∃ a : Addr, w.cell? ⟨g, 0, none⟩ = some (.slice (some a) ds.length ds.length) ∧ ∀ (i : Nat) (d : DataW Unit) (xs : List Value), ds[i]? = some d → flatC P n e d = some xs → ∀ j, j < P.cellsOf e → w.cell? (a.add (i * P.cellsOf e + j)) = xs[j]? := by
  obtain ⟨g', t', cs, fuel, p, h1, h2, h3, h4⟩ := h
  obtain rfl := Option.some.inj (hg.symm.trans h1)
  obtain rfl := Option.some.inj (ht.symm.trans h2)
  rcases DataW.trod_slice hu h4 with ⟨_, hx⟩ | ⟨a, len, cap, elems, rest, m, rfl, hcs, hx, hb, hl, hm, hlen, hel, hsp, _⟩
  · simp at hx
  simp only [Prod.mk.injEq, DataW.slice.injEq] at hx
  have hr := (hsp rfl).1
  have hr0 : rest = [] := by
    have := hx.1.2
    simpa using this.symm
  have hcap : cap = len := by rw [hr0] at hr; simp at hr; omega
  have hdl : ds.length = len := by rw [hx.1.1]; simpa using hlen
  subst hcap
  refine ⟨a, ?_, ?_⟩
  · rw [World.var?_cell h1 h3 0]
    have : cs[0]? = cs.toList[0]? := by simp
    rw [this, hcs, hdl]
    rfl
  · intro i d xs hd hxs j hj
    have hi : i < cap := by have := (List.getElem?_eq_some_iff.1 hd).1; omega
    have h5 := hel i hi
    rw [List.getElem?_eq_getElem (by omega)] at h5
    obtain ⟨cs2, hc2, h6⟩ := Option.bind_eq_some_iff.1 h5
    have hd2 : (elems[i]'(by omega)).1 = d := by
      rw [hx.1.1, List.getElem?_map, List.getElem?_eq_getElem (by omega)] at hd
      simpa using hd
    have h7 := trod_flat n m e cs2 d (elems[i]'(by omega)).2 xs (by rw [h6, ← hd2]) hxs
    subst h7
    obtain ⟨_, _, hcells⟩ := World.cells?_some hc2
    rw [← hcells j hj, Addr.add_add]

/-! ### The frame of a law that reads such variables -/
section
variable {H : Type} {enc : TypeId × Value → H}
set_option maxRecDepth 100000 in
theorem law_laid {C : Checked} {os : Os} {F : FuncId} {f : Func} {s : ChangeSpec} {tb : TypeId} {conds : List PathCond} (laid : List (String × DataW Unit)) (own : ownKnob C.prog.godebug = none) (started : os.Started) (noInit : C.prog.inits.idxOf? F = none)
    (hfn : C.prog.funcs[F]? = some f) (hl : laidOutB C.prog = true) (hr : (f.params.toList.all fun t => C.prog.readableRec t && decide (t < C.prog.types.size)) = true) (hres : f.resultTypes = #[tb])
    (hub : C.prog.underlying tb = some .bool) (hvars : s.vars = [])
    (witness : ∃ (w : World) (tape : Tape) (i : Input), w.os = os ∧ (w.forCall tape i).Shaped C.prog ∧ i.vars = [] ∧ Input.okWide C.prog (w.forCall tape i) .any w.heap.size F i ∧
      ((s.pre enc C.prog f conds false (w.forCall tape i).memory i.args ∧ laidMetH C.prog laid (w.forCall tape i).memory) ∧ sizedMet enc C.prog f (OpenSpec.ofChange s) false (w.forCall tape i).memory i.args) ∧ ({} : Assume).holds C.prog (lone (Frame.enter C.prog F i.args .normal) [] (w.forCall tape i)))
    (hs : ∀ ds : List (DataW H), ds.length = f.params.size → s.fn H ds = { results := [.lit (.bool true)], args := ds })
    (walk : ∀ (W : World) (args : Array Value) (ds : List (DataW H)), ArgsIn enc C.prog f.params.toList W args ds → laidMetH C.prog laid W → Calls C.prog F args W fun e W' => e = .returned (.bool true) ∧ Below W.heap.size W W') :
    ReturnsInHanded {} C os F .any (fun w args => (s.pre enc C.prog f conds false w args ∧ laidMetH C.prog laid w) ∧ sizedMet enc C.prog f (OpenSpec.ofChange s) false w args) (s.post enc C.prog f false true false false) := by
  refine returnsInHanded_of_change_and (C := C) (X := fun w _ => laidMetH C.prog laid w) (fun _ _ _ hh h => h.of_heap hh) own started noInit hfn witness ?_
  intro W base args ds gs before hval hW _ hsz hX _
  refine (walk W args ds (ArgsIn.of_whole hvars hval hW hsz) hX).mono fun e W' ⟨he, hb⟩ => ⟨_, he, ?_⟩
  refine law_post hl hr hres hub hvars hW ?_ hb
  obtain ⟨p, q, hA, hV, _⟩ := hW
  rw [hvars] at hV
  obtain ⟨rfl, rfl⟩ := trodVars_none hV
  rw [List.append_nil]
  exact hs ds (by rw [← law_lifted.trodAll_len hA]; simp)
end
set_option maxRecDepth 100000 in
/-- The door's own heap meets the condition. -/
theorem door_met {laid : List (String × DataW Unit)} {n fuel : Nat} (os : Os) (args : Array Value)
    (h1 : (DataW.laidRun Tryz.prog ((World.doorLaid Tryz.prog n os).forCall (fun _ _ => 0) ⟨#[], args, []⟩).memory fuel ((laid.filter fun x => x.2.handleName?.isNone).map (·.1))).map (·.1) = some (laid.filter fun x => x.2.handleName?.isNone))
    (h2 : (DataW.laidRun Tryz.prog ((World.doorLaid Tryz.prog n os).forCall (fun _ _ => 0) ⟨#[], args, []⟩).memory fuel ((laid.filter fun x => x.2.handleName?.isNone).map (·.1))).map (fun x => decide x.2.Nodup && laidRowsB Tryz.prog ((World.doorLaid Tryz.prog n os).forCall (fun _ _ => 0) ⟨#[], args, []⟩).memory x.2) = some true)
    (h3 : (laid.filter fun x => x.2.handleName?.isSome && x.2.funcsIn?.isNone).all (handleAtB Tryz.prog ((World.doorLaid Tryz.prog n os).forCall (fun _ _ => 0) ⟨#[], args, []⟩).memory) = true)
    (h4 : funcsRun Tryz.prog ((World.doorLaid Tryz.prog n os).forCall (fun _ _ => 0) ⟨#[], args, []⟩).memory fuel ((funcsListed laid).map (·.1)) = some ((funcsListed laid).map (·.2.funcsOut))) :
    laidMetH Tryz.prog laid ((World.doorLaid Tryz.prog n os).forCall (fun _ _ => 0) ⟨#[], args, []⟩).memory :=
  laidMetH_of_parts3 (fuel := fuel) (laidMet_of_run' fuel h1 h2) h3 h4
end Go.Proofs.YthkpaelpnofbgaaGreatDoor
/-
  The landed code's two functions of layer 5, for later layers' seats: two tables of rows, read whole, gone over by loops with a label that is left. Over the program's own text.
-/
namespace Go.Proofs.YthkpaelpnofbgaaGreatDoor
open Go.RowKit

def kindsT : List (Int × Int × Int) := [(48, 57, 2), (65, 90, 1), (97, 122, 1), (192, 214, 1), (216, 246, 1), (248, 591, 1), (902, 902, 1), (904, 906, 1), (908, 908, 1), (910, 929, 1), (931, 974, 1), (1024, 1153, 1), (1162, 1327, 1), (1488, 1514, 1), (1632, 1641, 2), (19968, 40959, 1), (44032, 55203, 1)]
def shiftsT : List (Int × Int × Int × Int) := [(65, 90, 1, 32), (192, 214, 1, 32), (216, 222, 1, 32), (256, 311, 2, 1), (313, 328, 2, 1), (330, 375, 2, 1), (376, 376, 1, -121), (377, 382, 2, 1), (383, 383, 1, -268), (902, 902, 1, 38), (904, 906, 1, 37), (908, 908, 1, 64), (910, 911, 1, 63), (913, 929, 1, 32), (931, 939, 1, 32), (962, 962, 1, 1), (1024, 1039, 1, 80), (1040, 1071, 1, 32), (1120, 1153, 2, 1), (1162, 1215, 2, 1), (1232, 1327, 2, 1), (1632, 1641, 1, -1584)]
def kindsA : Array Value := (kindsT.flatMap fun e => [Value.int .i32 e.1, .int .i32 e.2.1, .int .i64 e.2.2]).toArray
def shiftsA : Array Value := (shiftsT.flatMap fun e => [Value.int .i32 e.1, .int .i32 e.2.1, .int .i32 e.2.2.1, .int .i32 e.2.2.2]).toArray

/-- What the loop over the rows makes of a number. -/
def classRows (r : Int) : List (Int × Int × Int) → Int
  | [] => 0
  | e :: es => if r < e.1 then 0 else if r ≤ e.2.1 then e.2.2 else classRows r es
def foldRows (r : Int) : List (Int × Int × Int × Int) → Int
  | [] => r
  | e :: es => if r < e.1 then r else if r ≤ e.2.1 ∧ (r - e.1) % e.2.2.1 = 0 then r + e.2.2.2 else foldRows r es
set_option maxRecDepth 100000 in
theorem foldRows_far {r : Int} : ∀ es : List (Int × Int × Int × Int), (∀ e ∈ es, e.2.1 < r) → foldRows r es = r
  | [], _ => rfl
  | e :: es, h => by
    unfold foldRows
    have := h e (by simp)
    split
    · rfl
    · rw [if_neg (by omega), foldRows_far es fun x hx => h x (by simp [hx])]
set_option maxRecDepth 100000 in
theorem fold_rows_near : ∀ n : Nat, n < 1642 → foldRows ((n : Nat) : Int) shiftsT = foldZ ((n : Nat) : Int) := by decide +kernel
set_option maxRecDepth 100000 in
theorem fold_rows (r : Int) : foldRows r shiftsT = foldZ r := by
  by_cases h : r < 0
  · rw [fold_far (.inl h)]
    show (if r < 65 then r else _) = r
    rw [if_pos (by omega)]
  by_cases h2 : 1641 < r
  · rw [fold_far (.inr h2)]
    refine foldRows_far _ fun e he => ?_
    have : ∀ e ∈ shiftsT, e.2.1 ≤ 1641 := by decide +kernel
    have := this e he
    omega
  obtain ⟨n, rfl⟩ := Int.eq_ofNat_of_zero_le (by omega : 0 ≤ r)
  exact fold_rows_near n (by omega)
set_option maxRecDepth 100000 in
theorem class_rows_near : ∀ n : Nat, n < 1642 → classRows ((n : Nat) : Int) kindsT = classZ ((n : Nat) : Int) := by decide +kernel
set_option maxRecDepth 100000 in
theorem classRows_past {r : Int} : ∀ (es fs : List (Int × Int × Int)), (∀ e ∈ es, e.1 ≤ e.2.1 ∧ e.2.1 < r) → classRows r (es ++ fs) = classRows r fs
  | [], _, _ => rfl
  | e :: es, fs, h => by
    have := h e (by simp)
    rw [List.cons_append]
    show (if r < e.1 then 0 else if r ≤ e.2.1 then e.2.2 else classRows r (es ++ fs)) = _
    rw [if_neg (by omega), if_neg (by omega), classRows_past es fs fun x hx => h x (by simp [hx])]
set_option maxRecDepth 100000 in
theorem class_rows (r : Int) : classRows r kindsT = classZ r := by
  by_cases h : r < 0
  · have hd : ¬ digitZ r := by unfold digitZ; omega
    have hl : ¬ letterZ r := by unfold letterZ; omega
    unfold classZ
    rw [if_neg hd, if_neg hl]
    show (if r < 48 then 0 else _) = (0 : Int)
    rw [if_pos (by omega)]
  by_cases h2 : 1641 < r
  · have hs : kindsT = kindsT.take 15 ++ [(19968, 40959, 1), (44032, 55203, 1)] := by decide +kernel
    rw [hs, classRows_past]
    · have hd : ¬ digitZ r := by unfold digitZ; omega
      have hl : letterZ r ↔ (19968 ≤ r ∧ r ≤ 40959) ∨ (44032 ≤ r ∧ r ≤ 55203) := by unfold letterZ; omega
      unfold classZ
      rw [if_neg hd]
      show (if r < 19968 then 0 else if r ≤ 40959 then 1 else if r < 44032 then 0 else if r ≤ 55203 then 1 else (0 : Int)) = _
      by_cases hz : letterZ r
      · rw [if_pos hz]
        have := hl.1 hz
        clear hl hz hd
        repeat' split
        all_goals omega
      · rw [if_neg hz]
        have : ¬ ((19968 ≤ r ∧ r ≤ 40959) ∨ (44032 ≤ r ∧ r ≤ 55203)) := fun h => hz (hl.2 h)
        clear hl hz hd
        repeat' split
        all_goals omega
    · have : ∀ e ∈ kindsT.take 15, e.1 ≤ e.2.1 ∧ e.2.1 ≤ 1641 := by decide +kernel
      intro e he
      have := this e he
      omega
  obtain ⟨n, rfl⟩ := Int.eq_ofNat_of_zero_le (by omega : 0 ≤ r)
  exact class_rows_near n (by omega)

/-! ### The rows, by their places -/
set_option maxRecDepth 100000 in
theorem kinds_row (i : Nat) (hi : i < 17) : ∃ lo hi2 c : Int, kindsT.drop i = (lo, hi2, c) :: kindsT.drop (i + 1) ∧ 48 ≤ lo ∧ lo ≤ hi2 ∧ hi2 ≤ 55203 ∧ 0 ≤ c ∧ c ≤ 2 ∧
    ∀ w : World, (Instr.index 103 (.agg kindsA) (.int .i64 (i : Int))).run Tryz.prog w = .ok (.agg #[.int .i32 lo, .int .i32 hi2, .int .i64 c]) w := by
  obtain rfl | rfl | rfl | rfl | rfl | rfl | rfl | rfl | rfl | rfl | rfl | rfl | rfl | rfl | rfl | rfl | rfl : i = 0 ∨ i = 1 ∨ i = 2 ∨ i = 3 ∨ i = 4 ∨ i = 5 ∨ i = 6 ∨ i = 7 ∨ i = 8 ∨ i = 9 ∨ i = 10 ∨ i = 11 ∨ i = 12 ∨ i = 13 ∨ i = 14 ∨ i = 15 ∨ i = 16 := by omega
  all_goals exact ⟨_, _, _, rfl, by decide, by decide, by decide, by decide, by decide, fun _ => by kernel_rfl⟩
set_option maxRecDepth 100000 in
theorem shifts_row (i : Nat) (hi : i < 22) : ∃ lo hi2 st y : Int, shiftsT.drop i = (lo, hi2, st, y) :: shiftsT.drop (i + 1) ∧ 65 ≤ lo ∧ lo ≤ hi2 ∧ hi2 ≤ 1641 ∧ (st = 1 ∨ st = 2) ∧ -1584 ≤ y ∧ y ≤ 80 ∧
    ∀ w : World, (Instr.index 133 (.agg shiftsA) (.int .i64 (i : Int))).run Tryz.prog w = .ok (.agg #[.int .i32 lo, .int .i32 hi2, .int .i32 st, .int .i32 y]) w := by
  obtain rfl | rfl | rfl | rfl | rfl | rfl | rfl | rfl | rfl | rfl | rfl | rfl | rfl | rfl | rfl | rfl | rfl | rfl | rfl | rfl | rfl | rfl : i = 0 ∨ i = 1 ∨ i = 2 ∨ i = 3 ∨ i = 4 ∨ i = 5 ∨ i = 6 ∨ i = 7 ∨ i = 8 ∨ i = 9 ∨ i = 10 ∨ i = 11 ∨ i = 12 ∨ i = 13 ∨ i = 14 ∨ i = 15 ∨ i = 16 ∨ i = 17 ∨ i = 18 ∨ i = 19 ∨ i = 20 ∨ i = 21 := by omega
  all_goals exact ⟨_, _, _, _, rfl, by decide, by decide, by decide, by decide, by decide, by decide, fun _ => by kernel_rfl⟩

/-! ### The world -/
/-- The two tables lie in their variables. -/
def TabsIn (w : World) : Prop := (∃ t fr, w.heap[1]? = some (.cells kindsA t fr)) ∧ ∃ t fr, w.heap[4]? = some (.cells shiftsA t fr)
set_option maxRecDepth 100000 in
theorem TabsIn.below {w w' : World} (h : TabsIn w) (hb : Below w.heap.size w w') : TabsIn w' := by
  obtain ⟨⟨t, fr, h1⟩, ⟨t2, fr2, h2⟩⟩ := h
  exact ⟨⟨t, fr, by rw [hb.block _ (lt_of_heap h1)]; exact h1⟩, ⟨t2, fr2, by rw [hb.block _ (lt_of_heap h2)]; exact h2⟩⟩
set_option maxRecDepth 100000 in
theorem table_row {P : Program} {w : World} {name : String} {d : DataW Unit} {g : Nat} {t : TypeId} {xs : List Value} (n : Nat) (hg : P.globalNamed name = some g) (ht : (P.globals[g]?).map (·.type) = some t) (hx : flatC P n t d = some xs) (h : VarReads P w name d) :
    ∃ t' fr, w.heap[g]? = some (.cells xs.toArray t' fr) := by
  obtain ⟨g', t', cs, fuel, p, h1, h2, h3, h4⟩ := h
  obtain rfl := Option.some.inj (hg.symm.trans h1)
  obtain rfl := Option.some.inj (ht.symm.trans h2)
  have := trod_flat n fuel t cs.toList d p xs h4 hx
  unfold World.var? at h3
  rw [hg] at h3
  simp only [Option.bind_some] at h3
  split at h3
  · rename_i cs' t'' fr' hh
    cases h3
    exact ⟨t'', fr', by rw [hh, ← this]⟩
  · cases h3

set_option maxRecDepth 100000 in
set_option maxHeartbeats 2000000 in
theorem class_tab (W : World) (r : Int) (hT : TabsIn W) :
    Calls Tryz.prog 56 #[.int .i32 r] W fun e w' => e = .returned (.int .i64 (classZ r)) ∧ Below W.heap.size W w' := by
  obtain ⟨⟨tt, fr, hg⟩, -⟩ := hT
  have HG := Lib.hid hg
  clear hg
  rw [← class_rows]
  go_enter Tryz.func56, Tryz.ntmps56
  go_wp2_with fail
  go_step3
  go_wp2_with fail
  go_step3
  go_wp2_with first
    | (refine wpList_load_row rfl 103 (.global 1) rfl 1 rfl tt kindsA fr (.array 17 102) HG.out Tryz.underlying103 rfl (by kernel_rfl) ?_)
    | fail
  go_loopw [3, 7] (fun cv iv wr => ∃ i : Nat, i ≤ 17 ∧ iv = .int .i64 i ∧ cv = .int .i64 0 ∧ classRows r (kindsT.drop i) = classRows r kindsT ∧ Below W.heap.size W wr) (fun _ iv _ => 17 - (intOf iv).toNat)
  case atStart => exact ⟨0, by omega, rfl, rfl, rfl, Below.refl _ _⟩
  case round =>
    obtain ⟨i, hi, rfl, rfl, hr, hb⟩ := hrel
    by_cases hlt : i < 17
    · obtain ⟨lo, hi2, c, hd, b1, b2, b3, b4, b5, hix⟩ := kinds_row i hlt
      rw [hd] at hr
      have HR := Lib.hid hr
      have HB := Lib.hid hb
      have hsz := hb.size
      have HA := Lib.hid (fun o => HB.out.alloc hsz o)
      clear hr hb hd
      have nxt : ∀ w' : World, Below W.heap.size W w' → ¬ r < lo → ¬ r ≤ hi2 → (∃ i1 : Nat, i1 ≤ 17 ∧ Value.int IntKind.i64 ((i : Int) + 1) = Value.int IntKind.i64 i1 ∧ Value.int IntKind.i64 0 = Value.int IntKind.i64 0 ∧ classRows r (kindsT.drop i1) = classRows r kindsT ∧ Below W.heap.size W w') ∧ 17 - (intOf (.int .i64 ((i : Int) + 1))).toNat < 17 - (intOf (.int .i64 (i : Int))).toNat := by
        intro w' hb' n1 n2
        refine ⟨⟨i + 1, by omega, by simp, rfl, ?_, hb'⟩, by simp [intOf]; omega⟩
        rw [← HR.out]
        show _ = (if r < lo then 0 else if r ≤ hi2 then c else classRows r (kindsT.drop (i + 1)))
        rw [if_neg n1, if_neg n2]
      have HX := Lib.hid nxt
      clear nxt
      by_cases t1 : r < lo
      · have hc : classRows r kindsT = 0 := by rw [← HR.out]; show (if r < lo then 0 else _) = (0 : Int); rw [if_pos t1]
        go_wp2_with fail
        try rw [Exit.noGoto_ret]
        go_ret
        exact ⟨by rw [hc]; rfl, HA.out _⟩
      · by_cases t2 : r ≤ hi2
        · have hc : classRows r kindsT = c := by rw [← HR.out]; show (if r < lo then 0 else if r ≤ hi2 then c else _) = c; rw [if_neg t1, if_pos t2]
          go_wp2_with fail
          try rw [Exit.noGoto_ret]
          go_ret
          exact ⟨by rw [hc]; rfl, HA.out _⟩
        · go_wp2_with fail
          exact HX.out _ (HA.out _) t1 t2
    · have hi' : i = 17 := by omega
      subst hi'
      have hc : classRows r kindsT = 0 := by rw [← hr]; rfl
      clear hr
      go_wp2_with fail
      try rw [Exit.noGoto_ret]
      go_ret
      exact ⟨by rw [hc]; rfl, hb⟩

set_option maxRecDepth 100000 in
set_option maxHeartbeats 2000000 in
theorem fold_tab (W : World) (r : Int) (h0 : -2147483648 ≤ r) (h1 : r ≤ 2147483647) (hT : TabsIn W) :
    Calls Tryz.prog 86 #[.int .i32 r] W fun e w' => e = .returned (.int .i32 (foldZ r)) ∧ Below W.heap.size W w' := by
  obtain ⟨-, ⟨tt, fr, hg⟩⟩ := hT
  have HG := Lib.hid hg
  clear hg
  rw [← fold_rows]
  go_enter Tryz.func86, Tryz.ntmps86
  go_wp2_with fail
  go_step3
  go_wp2_with fail
  go_step3
  go_wp2_with first
    | (refine wpList_load_row rfl 133 (.global 4) rfl 4 rfl tt shiftsA fr (.array 22 132) HG.out Tryz.underlying133 rfl (by kernel_rfl) ?_)
    | fail
  go_loopw [3, 8] (fun cv iv wr => ∃ i : Nat, i ≤ 22 ∧ iv = .int .i64 i ∧ cv = .int .i32 r ∧ foldRows r (shiftsT.drop i) = foldRows r shiftsT ∧ Below W.heap.size W wr) (fun _ iv _ => 22 - (intOf iv).toNat)
  case atStart => exact ⟨0, by omega, rfl, rfl, rfl, Below.refl _ _⟩
  case round =>
    obtain ⟨i, hi, rfl, rfl, hr, hb⟩ := hrel
    by_cases hlt : i < 22
    · obtain ⟨lo, hi2, st, y, hd, b1, b2, b3, b4, b5, b6, hix⟩ := shifts_row i hlt
      rw [hd] at hr
      have HR := Lib.hid hr
      have HB := Lib.hid hb
      have hsz := hb.size
      have HA := Lib.hid (fun o => HB.out.alloc hsz o)
      clear hr hb hd
      have nxt : ∀ w' : World, Below W.heap.size W w' → ¬ r < lo → ¬ (r ≤ hi2 ∧ (r - lo) % st = 0) → (∃ i1 : Nat, i1 ≤ 22 ∧ Value.int IntKind.i64 ((i : Int) + 1) = Value.int IntKind.i64 i1 ∧ Value.int IntKind.i32 r = Value.int IntKind.i32 r ∧ foldRows r (shiftsT.drop i1) = foldRows r shiftsT ∧ Below W.heap.size W w') ∧ 22 - (intOf (.int .i64 ((i : Int) + 1))).toNat < 22 - (intOf (.int .i64 (i : Int))).toNat := by
        intro w' hb' n1 n2
        refine ⟨⟨i + 1, by omega, by simp, rfl, ?_, hb'⟩, by simp [intOf]; omega⟩
        rw [← HR.out]
        show _ = (if r < lo then r else if r ≤ hi2 ∧ (r - lo) % st = 0 then r + y else foldRows r (shiftsT.drop (i + 1)))
        rw [if_neg n1, if_neg n2]
      have HX := Lib.hid nxt
      clear nxt
      by_cases t1 : r < lo
      · have hc : foldRows r shiftsT = r := by rw [← HR.out]; show (if r < lo then r else _) = r; rw [if_pos t1]
        go_wp2_with fail
        try rw [Exit.noGoto_ret]
        go_ret
        exact ⟨by rw [hc]; rfl, HA.out _⟩
      · by_cases t2 : r ≤ hi2
        · by_cases t3 : (r - lo) % st = 0
          · have hc : foldRows r shiftsT = r + y := by rw [← HR.out]; show (if r < lo then r else if r ≤ hi2 ∧ (r - lo) % st = 0 then r + y else _) = r + y; rw [if_neg t1, if_pos ⟨t2, t3⟩]
            go_wp2_with fail
            try rw [Exit.noGoto_ret]
            go_ret
            exact ⟨by rw [hc]; rfl, HA.out _⟩
          · have t4 : ¬ (r ≤ hi2 ∧ (r - lo) % st = 0) := fun h => t3 h.2
            have HX := Lib.hid fun w' hb' => HX.out w' hb' t1 t4
            go_wp2_with fail
            exact HX.out _ (HA.out _)
        · have t4 : ¬ (r ≤ hi2 ∧ (r - lo) % st = 0) := fun h => t2 h.1
          have HX := Lib.hid fun w' hb' => HX.out w' hb' t1 t4
          go_wp2_with fail
          exact HX.out _ (HA.out _)
    · have hi' : i = 22 := by omega
      subst hi'
      have hc : foldRows r shiftsT = r := by rw [← hr]; rfl
      clear hr
      go_wp2_with fail
      try rw [Exit.noGoto_ret]
      go_ret
      exact ⟨by rw [hc]; rfl, hb⟩

set_option maxRecDepth 100000 in
/-- Where the two variables read as the program's text lays them, the tables are there. -/
theorem of_laid {W : World} (h : laidMetH Tryz.prog [("plover/fold.kinds", Rows.laid_plover_fold_kinds), ("plover/fold.shifts", Rows.laid_plover_fold_shifts)] W) : TabsIn W :=
  ⟨table_row (t := 103) (xs := kindsA.toList) 4 (by kernel_rfl) (by kernel_rfl) (by kernel_rfl) (laid_reads (by kernel_rfl) h _ _ (.head _)), table_row (t := 133) (xs := shiftsA.toList) 4 (by kernel_rfl) (by kernel_rfl) (by kernel_rfl) (laid_reads (by kernel_rfl) h _ _ (.tail _ (.head _)))⟩
end Go.Proofs.YthkpaelpnofbgaaGreatDoor
/-
  What the landed code's functions of layer 6 keep: a text's runs of letters and digits (two loops, the inner one left by a label), each one's term (folded, written, cut), and its words. Over the program's own text.
-/
namespace Go.Proofs.YthkpaelpnofbgaaGreatDoor
open Go.RowKit

def TW (w : World) : Prop := TabsIn w

/-! ### Runs -/
set_option maxRecDepth 100000 in
theorem info_rs : (Tryz.prog.info? 50).map (fun i => (i.zero, i.size, i.bytes)) = some (some (.slice none 0 0), 1, 24) := by kernel_rfl
set_option maxRecDepth 100000 in
theorem size_rune (w : World) : (Go.sizeOf 21).run Tryz.prog w = .ok 1 w := by kernel_rfl
set_option maxRecDepth 100000 in
theorem elem_runes : Tryz.prog.elem 50 = 21 := by kernel_rfl
set_option maxRecDepth 100000 in
theorem under_runes : Tryz.prog.underlying 50 = some (.slice (Tryz.prog.elem 50)) := by rw [elem_runes]; exact Tryz.underlying50
set_option maxRecDepth 100000 in
theorem add_adds (a : Addr) (i j : Nat) : (a.add i).add j = a.add (i + j) := by
  unfold Addr.add
  by_cases hi : i = 0 <;> by_cases hj : j = 0 <;> simp [hi, hj, Nat.add_assoc]
set_option maxRecDepth 100000 in
/-- The first so many. -/
theorem slice_to (oa : Option Addr) (n c i : Nat) (hi : i ≤ c) (w : World) :
    (Instr.slice 50 (.slice oa n c) none (some (.int .i64 (i : Int))) none).run Tryz.prog w = .ok (.slice oa i c) w := by
  rw [run_slice_h w 50 oa n c under_runes .i64 (i : Int) (by omega) (by omega), elem_runes, size_rune]
  have e : (oa.map fun x => x.add 0) = oa := by cases oa <;> simp [Addr.add]
  simp [Result.andThen, sliced, e]
set_option maxRecDepth 100000 in
theorem read_to {w : World} {oa : Option Addr} {R : List Nat} (h : ReadI w oa (ints R)) (i : Nat) : ReadI w oa (ints (R.take i)) := by
  intro j r hj
  rw [← ints_take, List.getElem?_take] at hj
  split at hj
  · exact h j r hj
  · cases hj
set_option maxRecDepth 100000 in
/-- All behind so many. -/
theorem slice_from {W : World} {oa : Option Addr} {R : List Nat} (n c i : Nat) (hn : R.length = n) (hi : i + 1 ≤ n) (hc : n ≤ c) (hm : c ≤ maxLen) (h : ReadI W oa (ints R)) :
    ∃ ob d, (∀ w : World, (Instr.slice 50 (.slice oa n c) (some (.int .i64 ((i : Int) + 1))) none none).run Tryz.prog w = .ok (.slice ob (R.drop (i + 1)).length d) w) ∧ (R.drop (i + 1)).length ≤ d ∧ d ≤ maxLen ∧ ReadI W ob (ints (R.drop (i + 1))) := by
  refine ⟨if c = i + 1 then oa else oa.map (·.add (i + 1)), c - (i + 1), fun w => ?_, by rw [List.length_drop]; omega, by omega, ?_⟩
  · rw [run_slice_l w 50 oa n c under_runes .i64 ((i : Int) + 1) (by omega) (by omega), elem_runes, size_rune]
    have e : ((i : Int) + 1).toNat = i + 1 := by omega
    simp [Result.andThen, sliced, e, hn]
  · intro j r hj
    have hj2 : (ints R)[i + 1 + j]? = some r := by
      unfold ints at hj ⊢
      rw [List.map_drop, List.getElem?_drop] at hj
      exact hj
    have hlt := (List.getElem?_eq_some_iff.1 hj2).1
    rw [ints_length] at hlt
    obtain ⟨ad, rfl, hc2⟩ := h _ r hj2
    rw [if_neg (by omega)]
    exact ⟨ad.add (i + 1), rfl, by rw [add_adds]; exact hc2⟩

/-- A run as a value: its runes are read there. -/
def PartP (w : World) (x : Value) (q : List Nat) : Prop := ∃ oa c, x = .slice oa q.length c ∧ q.length ≤ c ∧ c ≤ maxLen ∧ ReadI w oa (ints q)
def PartsP (w : World) (vs : List Value) (qs : List (List Nat)) : Prop := vs.length = qs.length ∧ ∀ (j : Nat) x q, vs[j]? = some x → qs[j]? = some q → PartP w x q
set_option maxRecDepth 100000 in
theorem parts_snoc {w : World} {vs : List Value} {qs : List (List Nat)} {x : Value} {q : List Nat} (h : PartsP w vs qs) (hx : PartP w x q) : PartsP w (vs ++ [x]) (qs ++ [q]) := by
  refine ⟨by simp [h.1], fun j y p hy hp => ?_⟩
  by_cases hj : j < vs.length
  · rw [List.getElem?_append_left hj] at hy
    rw [List.getElem?_append_left (by rw [← h.1]; exact hj)] at hp
    exact h.2 j y p hy hp
  · have h1 := (List.getElem?_eq_some_iff.1 hy).1
    simp at h1
    obtain rfl : j = vs.length := by omega
    rw [List.getElem?_append_right (Nat.le_refl _)] at hy
    rw [h.1, List.getElem?_append_right (Nat.le_refl _)] at hp
    simp at hy hp
    subst hy hp
    exact hx
set_option maxRecDepth 100000 in
theorem part_one {w : World} {x : Value} {q : List Nat} (h : PartP w x q) : x.oneCell' = true := by
  obtain ⟨oa, c, rfl, _⟩ := h
  simp [Value.oneCell']
def PartsIn (w : World) (base : Nat) (v : Value) (vs : List Value) : Prop := w.ownsRow base 50 1 v vs.length vs
structure CutAt (W : World) (R rest : List Nat) (oa : Option Addr) (c : Nat) (v : Value) (vs : List Value) (w : World) : Prop where
  cap : rest.length ≤ c ∧ c ≤ maxLen
  rd : ReadI W oa (ints rest)
  eq : ∃ qs, qs ++ cutL rest = cutL R ∧ PartsP W vs qs
  own : PartsIn w W.heap.size v vs
  many : vs.length + rest.length ≤ R.length
  low : Below W.heap.size W w
set_option maxRecDepth 100000 in
theorem CutAt.below {W : World} {R rest : List Nat} {oa : Option Addr} {c : Nat} {v : Value} {vs : List Value} {w w' : World} (h : CutAt W R rest oa c v vs w) (hb : Below w.heap.size w w') : CutAt W R rest oa c v vs w' :=
  ⟨h.cap, h.rd, h.eq, owned_below h.own hb, h.many, h.low.trans (hb.mono h.low.size)⟩
set_option maxRecDepth 100000 in
theorem cut_split {l : List Nat} {i : Nat} {r : Nat} (hi : l[i]? = some r) (hl : lettersP (l.take i)) (hr : classZ (r : Int) = 0) : cutL l = (if i = 0 then [] else [l.take i]) ++ cutL (l.drop (i + 1)) := by
  have hlen := (List.getElem?_eq_some_iff.1 hi).1
  have e : l = l.take i ++ r :: l.drop (i + 1) := by
    have := List.take_append_drop i l
    rw [List.drop_eq_getElem_cons hlen] at this
    rw [(List.getElem?_eq_some_iff.1 hi).2] at this
    exact this.symm
  have key : ∀ (a c b : List Nat), lettersP a → cutA c (a ++ r :: b) = (if c ++ a = [] then [] else [c ++ a]) ++ cutL b := by
    intro a
    induction a with
    | nil =>
      intro c b _
      rw [List.nil_append, cutA_cons, if_pos hr, List.append_nil]
      split <;> rfl
    | cons x a ih =>
      intro c b h
      rw [List.cons_append, cutA_cons, if_neg (h x (by simp)), ih (c ++ [x]) b fun y hy => h y (by simp [hy])]
      simp
  have := key (l.take i) [] (l.drop (i + 1)) hl
  rw [← e] at this
  unfold cutL
  rw [this]
  unfold cutL
  congr 1
  have : (l.take i = []) ↔ i = 0 := by
    constructor
    · intro h
      have := congrArg List.length h
      rw [List.length_take] at this
      simp at this
      rcases this with h | h
      · exact h
      · rw [h] at hlen; simp at hlen
    · rintro rfl; rfl
  simp [this]
set_option maxRecDepth 100000 in
theorem cut_last {l : List Nat} (hl : lettersP l) (h0 : l ≠ []) : cutL l = [l] := by
  have key : ∀ (a c : List Nat), lettersP a → cutA c a = if c ++ a = [] then [] else [c ++ a] := by
    intro a
    induction a with
    | nil => intro c _; rw [cutA_nil, List.append_nil]
    | cons x a ih =>
      intro c h
      rw [cutA_cons, if_neg (h x (by simp)), ih (c ++ [x]) fun y hy => h y (by simp [hy])]
      simp
  unfold cutL
  rw [key l [] hl, List.nil_append, if_neg h0]
set_option maxRecDepth 100000 in
theorem letters_take {l : List Nat} {i r : Nat} (h : lettersP (l.take i)) (hi : l[i]? = some r) (hr : classZ (r : Int) ≠ 0) : lettersP (l.take (i + 1)) := by
  rw [List.take_add_one, hi]
  exact letters_snoc h hr
set_option maxRecDepth 100000 in
theorem CutAt.skip {W : World} {R rest : List Nat} {oa ob : Option Addr} {c d : Nat} {v : Value} {vs : List Value} {w : World} {r : Nat} (h : CutAt W R rest oa c v vs w) (hi : rest[0]? = some r) (hr : classZ (r : Int) = 0)
    (hd : (rest.drop 1).length ≤ d ∧ d ≤ maxLen) (hb : ReadI W ob (ints (rest.drop 1))) : CutAt W R (rest.drop 1) ob d v vs w := by
  obtain ⟨qs, hq, hp⟩ := h.eq
  rw [cut_split hi (by simp [lettersP]) hr, if_pos rfl, List.nil_append] at hq
  exact ⟨hd, hb, ⟨qs, hq, hp⟩, h.own, by have := h.many; rw [List.length_drop]; omega, h.low⟩
set_option maxRecDepth 100000 in
theorem CutAt.word {W : World} {R rest : List Nat} {oa ob : Option Addr} {c d i : Nat} {v v' : Value} {vs : List Value} {w w2 : World} {o : Obj} {r : Nat} (h : CutAt W R rest oa c v vs w) (hl : lettersP (rest.take i)) (h0 : i ≠ 0) (hi : rest[i]? = some r) (hr : classZ (r : Int) = 0)
    (hd : (rest.drop (i + 1)).length ≤ d ∧ d ≤ maxLen) (hb : ReadI W ob (ints (rest.drop (i + 1))))
    (ho : w2.ownsRow W.heap.size 50 1 v' (vs.length + 1) (vs ++ [.slice oa i c])) (hg : (w.alloc o).grownBy w2 v.ownBlock) :
    CutAt W R (rest.drop (i + 1)) ob d v' (vs ++ [.slice oa i c]) w2 := by
  obtain ⟨qs, hq, hp⟩ := h.eq
  have hlen := (List.getElem?_eq_some_iff.1 hi).1
  rw [cut_split hi hl hr, if_neg h0, ← List.append_assoc] at hq
  have hsz := h.low.size
  have hcap := h.cap
  refine ⟨hd, hb, ⟨_, hq, parts_snoc hp ⟨oa, c, ?_, ?_, hcap.2, read_to h.rd i⟩⟩, ?_, ?_, (h.low.alloc hsz _).grown hg (by simp; omega) (fun k hk => (World.ownsRow.lt h.own k hk).1)⟩
  · rw [List.length_take, Nat.min_eq_left (by omega)]
  · rw [List.length_take]; omega
  · unfold PartsIn
    simpa using ho
  · have := h.many
    simp only [List.length_append, List.length_cons, List.length_nil, List.length_drop]
    omega
set_option maxRecDepth 100000 in
theorem CutAt.last {W : World} {R rest : List Nat} {oa : Option Addr} {c n : Nat} {v v' : Value} {vs : List Value} {w w2 : World} {o : Obj} (h : CutAt W R rest oa c v vs w) (hn : rest.length = n) (hl : lettersP (rest.take n)) (h0 : n ≠ 0)
    (ho : w2.ownsRow W.heap.size 50 1 v' (vs.length + 1) (vs ++ [.slice oa n c])) (hg : (w.alloc o).grownBy w2 v.ownBlock) :
    PartsIn w2 W.heap.size v' (vs ++ [.slice oa n c]) ∧ PartsP W (vs ++ [.slice oa n c]) (cutL R) ∧ Below W.heap.size W w2 := by
  obtain ⟨qs, hq, hp⟩ := h.eq
  subst hn
  rw [List.take_length] at hl
  rw [cut_last hl (by intro e; rw [e] at h0; simp at h0)] at hq
  have hsz := h.low.size
  refine ⟨by unfold PartsIn; simpa using ho, ?_, (h.low.alloc hsz _).grown hg (by simp; omega) (fun k hk => (World.ownsRow.lt h.own k hk).1)⟩
  rw [← hq]
  exact parts_snoc hp ⟨oa, c, rfl, h.cap.1, h.cap.2, h.rd⟩
set_option maxRecDepth 100000 in
theorem CutAt.none {W : World} {R rest : List Nat} {oa : Option Addr} {c : Nat} {v : Value} {vs : List Value} {w : World} (h : CutAt W R rest oa c v vs w) (hn : rest.length = 0) :
    PartsIn w W.heap.size v vs ∧ PartsP W vs (cutL R) ∧ Below W.heap.size W w := by
  obtain ⟨qs, hq, hp⟩ := h.eq
  obtain rfl := List.eq_nil_of_length_eq_zero hn
  have : cutL [] = [] := rfl
  rw [this, List.append_nil] at hq
  exact ⟨h.own, by rw [← hq]; exact hp, h.low⟩

set_option maxRecDepth 100000 in
set_option maxHeartbeats 4000000 in
theorem lands_cut (W : World) (oa : Option Addr) (c : Nat) (R : List Nat) (hT : TabsIn W) (hR : ReadI W oa (ints R)) (hn : R.length ≤ 1000000) (hc : R.length ≤ c) (hm : c ≤ maxLen) :
    Calls Tryz.prog 64 #[.slice oa R.length c] W fun e w' => ∃ v vs, e = .returned v ∧ PartsIn w' W.heap.size v vs ∧ PartsP W vs (cutL R) ∧ Below W.heap.size W w' := by
  obtain ⟨i0, hi, hz0, hz1, hz2⟩ := info_parts info_rs
  have HI := Lib.hid (And.intro hi (And.intro hz0 (And.intro hz1 hz2)))
  have HT := Lib.hid hT
  have HC : Hid (CutAt W R R oa c (.slice none 0 0) [] W) := Lib.hid ⟨⟨hc, hm⟩, hR, ⟨[], by simp, by simp [PartsP]⟩, World.ownsRow_nil _ _ _ _, by simp, Below.refl _ _⟩
  clear hi hz0 hz1 hz2 hT hR hc hm
  go_enter Tryz.func64, Tryz.ntmps64
  go_wp2_with fail
  go_step3
  go_wp2_with fail
  go_step3
  go_wp2_with fail
  go_loopg [0, 3] R.length (fun g s0 s3 wr => ∃ (rest : List Nat) (oa1 : Option Addr) (c1 : Nat) (vs : List Value), rest.length = g ∧ s0 = .slice oa1 g c1 ∧ Hid (CutAt W R rest oa1 c1 s3 vs wr))
  case atStart => exact ⟨R, oa, c, [], rfl, rfl, HC⟩
  case round =>
    obtain ⟨rest, oa1, c1, vs, hg, rfl, HA⟩ := hrel
    have HN := Lib.hid hg
    clear hg
    cases gk with
    | zero =>
      go_wp2_with fail
      try rw [Exit.noGoto_ret]
      go_ret
      obtain ⟨h1, h2, h3⟩ := HA.out.none HN.out
      exact ⟨_, vs, rfl, h1, h2, h3⟩
    | succ g =>
      have hgl : g + 1 ≤ 1000000 := by have := HA.out.many; have := HN.out; omega
      obtain ⟨n, hnn⟩ : ∃ n, n = g + 1 := ⟨_, rfl⟩
      rw [← hnn] at HN ⊢
      have hn0 : 0 < n := by omega
      have hn6 : n ≤ 1000000 := by omega
      have HNG := Lib.hid hnn
      clear hnn
      go_wp2_with fail
      go_loopg [0, 3, 11] n (fun g2 s0 s3 s11 wy => ∃ i : Nat, i + g2 = n ∧ s0 = .slice oa1 n c1 ∧ s11 = .int .i64 i ∧ Hid (lettersP (rest.take i)) ∧ Hid (CutAt W R rest oa1 c1 s3 vs wy))
      case atStart => exact ⟨0, by omega, rfl, rfl, Lib.hid (by simp [lettersP]), HA⟩
      case round =>
        obtain ⟨i, hig, rfl, rfl, HLt, HA⟩ := hrel
        have hvl : vs.length ≤ 1000000 := by have := HA.out.many; omega
        cases gk with
        | zero =>
          have hin : n = i := by omega
          subst hin
          have HA5 := HA
          go_wp2_with (at_builtin; refine wpList_append_own _ rfl (.tmp 32) (.tmp 34) 90 rfl W.heap.size 50 i0 _ 1 24 Tryz.underlying90 HI.out.1 HI.out.2.1 HI.out.2.2.1 HI.out.2.2.2 rfl (by decide) _ vs.length vs rfl (World.ownsRow.alloc HA5.out.own _) ⟨wr.heap.size, 0, none⟩ 1 1 [.slice oa1 n c1] rfl rfl one_cell (by simp [Value.oneCell']) (by unfold maxLen; omega) (by omega) (by have := HA5.out.low.size; simp; omega) ?_; intro v' w6 ho hg _; have HE := Lib.hid (HA5.out.last HN.out HLt.out (by omega) ho hg); clear ho hg)
          try rw [Exit.noGoto_ret]
          go_ret
          exact ⟨_, _, rfl, HE.out.1, HE.out.2.1, HE.out.2.2⟩
        | succ g2 =>
          have hlt : i < n := by omega
          obtain ⟨r, hr⟩ : ∃ r, rest[i]? = some r := ⟨_, List.getElem?_eq_getElem (by rw [HN.out]; exact hlt)⟩
          obtain ⟨ad, rfl, hcell⟩ := (HA.out.rd.below HA.out.low) i (r : Int) (by unfold ints; simp [hr])
          have HCl := Lib.hid (class_tab wr (r : Int) (HT.out.below HA.out.low))
          have HR := Lib.hid hr
          have hcp := HA.out.cap
          rw [HN.out] at hcp
          obtain ⟨hcp1, hcp2⟩ := hcp
          have HM := Lib.hid hcp2
          clear hr hcp2
          by_cases hc : classZ (r : Int) = 0
          · rw [hc] at HCl
            obtain ⟨ob, d, hfrom, hd1, hd2, hrd⟩ := slice_from n c1 i HN.out (by omega) hcp1 HM.out HA.out.rd
            have hto := slice_to (some ad) n c1 i (by omega)
            have HD := Lib.hid (And.intro (And.intro hd1 hd2) hrd)
            obtain ⟨m, hmm⟩ : ∃ m, (rest.drop (i + 1)).length = m := ⟨_, rfl⟩
            rw [hmm] at hfrom
            have HMm := Lib.hid hmm
            have hml : m < n := by rw [List.length_drop, HN.out] at hmm; omega
            have HCz := Lib.hid hc
            clear hc hd1 hd2 hrd hmm
            by_cases h0 : i = 0
            · have HI0 := Lib.hid h0
              have h0i : ¬ (0 : Int) < (i : Int) := by omega
              clear h0
              go_wp2_with fail
              refine HCl.out.mono ?_; rintro e w5 ⟨rfl, hb5⟩
              have HA5 := Lib.hid (HA.out.below hb5)
              clear hb5 hcell HA
              go_wp2_with fail
              go_roundg m
              case measure => have := HNG.out; omega
              case rel =>
                refine ⟨rest.drop (i + 1), ob, d, vs, HMm.out, rfl, Lib.hid ?_⟩
                have := HA5.out.skip (ob := ob) (d := d) (r := r) (by have := HR.out; rwa [HI0.out] at this) HCz.out (by have := HD.out.1; rwa [HI0.out] at this) (by have := HD.out.2; rwa [HI0.out] at this)
                rw [HI0.out]
                exact this
            · have h0i : (0 : Int) < (i : Int) := by omega
              go_wp2_with fail
              refine HCl.out.mono ?_; rintro e w5 ⟨rfl, hb5⟩
              have HA5 := Lib.hid (HA.out.below hb5)
              clear hb5 hcell HA
              go_wp2_with (at_builtin; refine wpList_append_own _ rfl (.tmp 21) (.tmp 25) 90 rfl W.heap.size 50 i0 _ 1 24 Tryz.underlying90 HI.out.1 HI.out.2.1 HI.out.2.2.1 HI.out.2.2.2 rfl (by decide) _ vs.length vs rfl (World.ownsRow.alloc HA5.out.own _) ⟨w5.heap.size, 0, none⟩ 1 1 [.slice (some ad) i c1] rfl rfl one_cell (by simp [Value.oneCell']) (by unfold maxLen; omega) (by omega) (by have := HA5.out.low.size; simp; omega) ?_; intro v' w6 ho hg _; have HE := Lib.hid (HA5.out.word HLt.out h0 HR.out HCz.out HD.out.1 HD.out.2 ho hg); clear ho hg)
              go_roundg m
              case measure => have := HNG.out; omega
              case rel => exact ⟨rest.drop (i + 1), ob, d, _, HMm.out, rfl, HE⟩
          · have HCz := Lib.hid hc
            have hcne : (classZ (r : Int) == 0) = false := beq_eq_false_iff_ne.2 hc
            generalize classZ (r : Int) = cz at HCl hcne
            clear hc
            go_wp2_with fail
            refine HCl.out.mono ?_; rintro e w5 ⟨rfl, hb5⟩
            have HA5 := Lib.hid (HA.out.below hb5)
            clear hb5 hcell HA
            go_wp2_with fail
            go_roundg g2
            case measure => omega
            case rel => exact ⟨i + 1, by omega, rfl, by go_num, Lib.hid (letters_take HLt.out HR.out HCz.out), HA5⟩
end Go.Proofs.YthkpaelpnofbgaaGreatDoor
/-
  What the landed code's functions of layer 6 keep, further: a run's term, which terms are stop words. Over the program's own text.
-/
namespace Go.Proofs.YthkpaelpnofbgaaGreatDoor
open Go.RowKit

/-- The first i of a row folded, the rest still 0. -/
def fillF (q : List Nat) (i j : Nat) : Value := if j < i then .int .i32 (foldZ ((q.getD j 0 : Nat) : Int)) else .int .i32 0
set_option maxRecDepth 100000 in
theorem info_rune : (Tryz.prog.info? 21).map (fun i => (i.zero, i.size, i.bytes)) = some (some (.int .i32 0), 1, 4) := by kernel_rfl
set_option maxRecDepth 100000 in
theorem make_runes (k : Nat) (hk : k ≤ 16) (w : World) : (Instr.makeSlice 50 (.int .i64 k) (.int .i64 k)).run Tryz.prog w = .ok (.slice (some ⟨w.heap.size, 0, none⟩) k k) (w.alloc (.cells (madeCells #[.int .i32 0] k) 21)) :=
  run_make_row' 50 21 (.int .i32 0) 4 Tryz.underlying50 info_rune rfl .i64 .i64 k (by omega) (by omega) w
set_option maxRecDepth 100000 in
theorem fill_read {w : World} {g : Nat} {t : TypeId} {q : List Nat} {k : Nat} (hk : k ≤ q.length) (ho : ∀ r ∈ q, okR r) (h : w.rowIs g t k (fillF q k)) : ReadI w (some ⟨g, 0, none⟩) (ints ((q.take k).map foldN)) := by
  intro j r hj
  refine ⟨_, rfl, ?_⟩
  have hlt := (List.getElem?_eq_some_iff.1 hj).1
  rw [ints_length, List.length_map, List.length_take] at hlt
  rw [Addr.add_lit, Nat.zero_add, h.cell (by omega)]
  unfold fillF
  rw [if_pos (by omega)]
  have hq : q[j]? = some (q.getD j 0) := by
    rw [List.getD_eq_getElem?_getD, List.getElem?_eq_getElem (by omega)]; rfl
  have hr : r = ((foldN (q.getD j 0) : Nat) : Int) := by
    unfold ints at hj
    rw [List.getElem?_map, List.getElem?_map, List.getElem?_take, if_pos (by omega), hq] at hj
    exact (Option.some.inj hj).symm
  rw [hr, (fold_ok (ho _ (List.mem_of_getElem? hq))).1]

set_option maxRecDepth 100000 in
set_option maxHeartbeats 2000000 in
theorem lands_term (W : World) (oa : Option Addr) (c m : Nat) (q : List Nat) (hm : q.length = m) (hT : TabsIn W) (hR : ReadI W oa (ints q)) (hc : m ≤ c) (hm6 : m ≤ 1000000) (hl : lettersP q) (ho : ∀ r ∈ q, okR r) :
    Calls Tryz.prog 65 #[.slice oa m c] W fun e w' => e = .returned (.string (byteText (termB q))) ∧ Below W.heap.size W w' := by
  obtain ⟨k, hk⟩ : ∃ k, k = min m 16 := ⟨_, rfl⟩
  have HE := Lib.hid (term_fit (q := q) (k := k) (by rw [hm]; exact hk) hl ho)
  have hk16 : k ≤ 16 := by omega
  have hkc : k ≤ c := by omega
  have hkm : k ≤ m := by omega
  have hkn : (if (16 : Int) < (m : Int) then (16 : Int) else (m : Int)) = (k : Int) := by split <;> omega
  have hkb : ∀ (ts : Array TypeId) (t : TypeId) (w : World), (Builtin.min_ ts t #[.int .i64 (m : Int), .int .i64 16]).run Tryz.prog w = .ok (.int .i64 (k : Int)) w := fun ts t w => by rw [run_min_int2, hkn]
  have hto := slice_to oa m c k hkc
  have hmk := make_runes k hk16
  have HT := Lib.hid hT
  have HRd := Lib.hid hR
  have HQ := Lib.hid hm
  have HOk := Lib.hid ho
  have HLen : Hid ((ints ((q.take k).map foldN)).length = k) := Lib.hid (by rw [ints_length, List.length_map, List.length_take]; omega)
  have HTx : Hid (∀ (w : World) (a : Addr), ReadI w (some a) (ints ((q.take k).map foldN)) → Calls Tryz.prog 59 #[.slice (some a) k k] w fun e w' => e = .returned (.string (textZ (ints ((q.take k).map foldN)))) ∧ Below w.heap.size w w') := Lib.hid (fun w a h => by
    have h1 := lands_text w (some a) k (ints ((q.take k).map foldN)) (by rw [HLen.out]; omega) h (by
      refine ints_i32 fun x hx => ?_
      obtain ⟨r, hr, rfl⟩ := List.mem_map.1 hx
      exact (fold_ok (ho r (List.mem_of_mem_take hr))).2)
    rw [HLen.out] at h1
    exact h1)
  have HFt : Hid (∀ w : World, Calls Tryz.prog 87 #[.string (textZ (ints ((q.take k).map foldN))), .int .i64 16] w fun e w' => e = .returned (.string (byteText (termB q))) ∧ Below w.heap.size w w') := Lib.hid (fun w => by
    have h1 := lands_fit w (textZ (ints ((q.take k).map foldN))) 16 (by
      have := textB_le (ints ((q.take k).map foldN))
      rw [HLen.out] at this
      rw [textZ_size]
      omega) (by decide) (by decide)
    rw [HE.out] at h1
    exact h1)
  have HFr := Lib.hid (fun w (h : World.rowIs w W.heap.size 21 k (fillF q k)) => fill_read (w := w) (q := q) (k := k) (by omega) ho h)
  generalize textZ (ints ((q.take k).map foldN)) = tx at HTx HFt
  clear hm hT hR hl ho hk HE
  go_enter Tryz.func65, Tryz.ntmps65
  go_wp2_with fail
  obtain ⟨g, hg⟩ : ∃ g, g = W.heap.size := ⟨_, rfl⟩
  have HRow := Lib.hid (show (W.alloc (.cells (madeCells #[.int .i32 0] k) 21)).rowIs W.heap.size 21 k (fillF q 0) from (World.rowIs_made W (.int .i32 0) k 21).congr fun j _ => rfl)
  have HB := Lib.hid (show Below W.heap.size W (W.alloc (.cells (madeCells #[.int .i32 0] k) 21)) from below_one)
  generalize W.alloc (.cells (madeCells #[.int .i32 0] k) 21) = w1 at HRow HB
  go_loopw [17] (fun iv wr => ∃ i : Nat, i ≤ k ∧ iv = .int .i64 i ∧ wr.rowIs W.heap.size 21 k (fillF q i) ∧ Below W.heap.size W wr) (fun iv _ => k - (intOf iv).toNat)
  case atStart => exact ⟨0, by omega, rfl, HRow.out, HB.out⟩
  case round =>
    obtain ⟨i, hi, rfl, hrow, hlow⟩ := hrel
    have HR := Lib.hid hrow
    have HL := Lib.hid hlow
    clear hrow hlow
    by_cases hlt : i < k
    · have hq : q[i]? = some (q.getD i 0) := by
        rw [List.getD_eq_getElem?_getD, List.getElem?_eq_getElem (by rw [HQ.out]; omega)]; rfl
      obtain ⟨r, hr⟩ : ∃ r, r = q.getD i 0 := ⟨_, rfl⟩
      rw [← hr] at hq
      have hok := HOk.out r (List.mem_of_getElem? hq)
      obtain ⟨ad, rfl, hcell⟩ := (HRd.out.below HL.out) i (r : Int) (by unfold ints; simp [hq])
      have hrr : r ≤ 1114111 := by unfold okR at hok; omega
      have HFo := Lib.hid (fold_tab wr (r : Int) (by omega) (by omega) (HT.out.below HL.out))
      have HX := Lib.hid hr
      clear hq hok hr
      go_wp2_with fail
      refine HFo.out.mono ?_; rintro e w5 ⟨rfl, hb5⟩
      have HR5 := Lib.hid (HR.out.of_block (hb5.block _ HR.out.lt))
      have HL5 := Lib.hid (HL.out.trans (hb5.mono HL.out.size))
      clear hb5 hcell HR HL
      have hc5 := HR5.out.cell hlt
      have hf5 := HR5.out.frozen i
      go_wp2_with fail
      go_roundw
      case rel =>
        refine ⟨i + 1, by omega, by go_num, (HR5.out.set i _).congr fun j hj => ?_, HL5.out.setCell (Nat.le_refl _) _⟩
        unfold fillF
        by_cases hji : j = i
        · rw [if_pos hji, if_pos (by omega), hji, ← HX.out]
        · rw [if_neg hji]
          by_cases hj2 : j < i
          · rw [if_pos hj2, if_pos (by omega)]
          · rw [if_neg hj2, if_neg (by omega)]
      case measure => simp [intOf]; omega
    · have hi' : k = i := by omega
      have HRe := Lib.hid (HFr.out wr (by rw [hi']; rw [hi'] at HR; exact HR.out))
      clear HR HFr hi'
      go_wp2_with fail
      refine (HTx.out _ _ HRe.out).mono ?_; rintro e w5 ⟨rfl, hb5⟩
      have HL5 := Lib.hid (HL.out.trans (hb5.mono HL.out.size))
      clear hb5
      go_wp2_with fail
      refine (HFt.out _).mono ?_; rintro e w6 ⟨rfl, hb6⟩
      have HL6 := Lib.hid (HL5.out.trans (hb6.mono HL5.out.size))
      clear hb6
      go_wp2_with fail
      go_ret
      exact ⟨rfl, HL6.out⟩

/-! ### Stop words -/
set_option maxRecDepth 100000 in
theorem toList_of {s : ByteArray} {l : List UInt8} (h : s = ⟨l.toArray⟩) : s.toList = l := by
  subst h
  rw [ByteArray.toList_eq]
set_option maxRecDepth 100000 in
set_option maxHeartbeats 4000000 in
theorem lands_stop (w : World) (s : ByteArray) : Calls Tryz.prog 66 #[.string s] w fun e w' => e = .returned (.bool (stopB (bytesL s))) ∧ w' = w := by
  by_cases hs : s ∈ stopS
  · have HS := (stop_mem s).1 hs
    rw [HS]
    unfold stopS stopsL at hs
    simp only [List.map_cons, List.map_nil, List.mem_cons, List.not_mem_nil, or_false] at hs
    clear HS
    rcases hs with e | e | e | e | e | e | e | e | e | e | e | e | e | e | e | e | e
    all_goals
      have h := toList_of (e.trans rfl)
      first | have t0 : (s.toList == [97]) = false := by rw [h]; decide | have t0 : (s.toList == [97]) = true := by rw [h]; decide
      first | have t1 : (s.toList == [97, 110]) = false := by rw [h]; decide | have t1 : (s.toList == [97, 110]) = true := by rw [h]; decide
      first | have t2 : (s.toList == [97, 110, 100]) = false := by rw [h]; decide | have t2 : (s.toList == [97, 110, 100]) = true := by rw [h]; decide
      first | have t3 : (s.toList == [97, 114, 101]) = false := by rw [h]; decide | have t3 : (s.toList == [97, 114, 101]) = true := by rw [h]; decide
      first | have t4 : (s.toList == [97, 115]) = false := by rw [h]; decide | have t4 : (s.toList == [97, 115]) = true := by rw [h]; decide
      first | have t5 : (s.toList == [97, 116]) = false := by rw [h]; decide | have t5 : (s.toList == [97, 116]) = true := by rw [h]; decide
      first | have t6 : (s.toList == [98, 101]) = false := by rw [h]; decide | have t6 : (s.toList == [98, 101]) = true := by rw [h]; decide
      first | have t7 : (s.toList == [98, 121]) = false := by rw [h]; decide | have t7 : (s.toList == [98, 121]) = true := by rw [h]; decide
      first | have t8 : (s.toList == [102, 111, 114]) = false := by rw [h]; decide | have t8 : (s.toList == [102, 111, 114]) = true := by rw [h]; decide
      first | have t9 : (s.toList == [105, 110]) = false := by rw [h]; decide | have t9 : (s.toList == [105, 110]) = true := by rw [h]; decide
      first | have t10 : (s.toList == [105, 115]) = false := by rw [h]; decide | have t10 : (s.toList == [105, 115]) = true := by rw [h]; decide
      first | have t11 : (s.toList == [105, 116]) = false := by rw [h]; decide | have t11 : (s.toList == [105, 116]) = true := by rw [h]; decide
      first | have t12 : (s.toList == [111, 102]) = false := by rw [h]; decide | have t12 : (s.toList == [111, 102]) = true := by rw [h]; decide
      first | have t13 : (s.toList == [111, 110]) = false := by rw [h]; decide | have t13 : (s.toList == [111, 110]) = true := by rw [h]; decide
      first | have t14 : (s.toList == [111, 114]) = false := by rw [h]; decide | have t14 : (s.toList == [111, 114]) = true := by rw [h]; decide
      first | have t15 : (s.toList == [116, 104, 101]) = false := by rw [h]; decide | have t15 : (s.toList == [116, 104, 101]) = true := by rw [h]; decide
      first | have t16 : (s.toList == [116, 111]) = false := by rw [h]; decide | have t16 : (s.toList == [116, 111]) = true := by rw [h]; decide
      clear h e
      go_enter Tryz.func66, Tryz.ntmps66
      go_wp2_with fail
      go_ret
      exact ⟨rfl, rfl⟩
  · have HS : stopB (bytesL s) = false := by
      cases h : stopB (bytesL s) with
      | false => rfl
      | true => exact absurd ((stop_mem s).2 h) hs
    rw [HS]
    have key : ∀ (n : List Nat) (l : List UInt8), byteText n = ⟨l.toArray⟩ → byteText n ∈ stopS → (s.toList == l) = false := fun n l e hx => by
      have := list_ne (x := s) (s := byteText n) fun e => hs (e ▸ hx)
      rwa [toList_of e] at this
    have t0 := key [97] [97] rfl (by simp [stopS, stopsL])
    have t1 := key [97, 110] [97, 110] rfl (by simp [stopS, stopsL])
    have t2 := key [97, 110, 100] [97, 110, 100] rfl (by simp [stopS, stopsL])
    have t3 := key [97, 114, 101] [97, 114, 101] rfl (by simp [stopS, stopsL])
    have t4 := key [97, 115] [97, 115] rfl (by simp [stopS, stopsL])
    have t5 := key [97, 116] [97, 116] rfl (by simp [stopS, stopsL])
    have t6 := key [98, 101] [98, 101] rfl (by simp [stopS, stopsL])
    have t7 := key [98, 121] [98, 121] rfl (by simp [stopS, stopsL])
    have t8 := key [102, 111, 114] [102, 111, 114] rfl (by simp [stopS, stopsL])
    have t9 := key [105, 110] [105, 110] rfl (by simp [stopS, stopsL])
    have t10 := key [105, 115] [105, 115] rfl (by simp [stopS, stopsL])
    have t11 := key [105, 116] [105, 116] rfl (by simp [stopS, stopsL])
    have t12 := key [111, 102] [111, 102] rfl (by simp [stopS, stopsL])
    have t13 := key [111, 110] [111, 110] rfl (by simp [stopS, stopsL])
    have t14 := key [111, 114] [111, 114] rfl (by simp [stopS, stopsL])
    have t15 := key [116, 104, 101] [116, 104, 101] rfl (by simp [stopS, stopsL])
    have t16 := key [116, 111] [116, 111] rfl (by simp [stopS, stopsL])
    clear HS hs key
    go_enter Tryz.func66, Tryz.ntmps66
    go_wp2_with fail
    go_ret
    exact ⟨rfl, rfl⟩
end Go.Proofs.YthkpaelpnofbgaaGreatDoor
