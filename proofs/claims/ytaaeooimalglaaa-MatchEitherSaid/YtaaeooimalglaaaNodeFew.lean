/-
  Trees of not too many kids; a node out of memory. Over the program's own text.
-/
import Derived.Test.YtaaeooimalglaaaNodeRd
import Derived.Test.YtaaeooimalglaaaRegionC
namespace Go.Proofs.Ytaaeooimalglaaa
open Go.RowKit

section
variable {P : Program}
theorem run_load_cells (w : World) (g o : Nat) (ty : TypeId) (cs : Array Value) (d : TypeDesc) (hp : ∀ (j : Nat) (v : Value), cs.toList[j]? = some v → w.cell? ⟨g, o + j, none⟩ = some v)
    (hu : P.underlying ty = some d) (hd : (match d with | .struct _ | .array _ _ => true | _ => false) = true) (hi : (P.info? ty).map (·.size) = some cs.size) :
    (loadVar ty ⟨g, o, none⟩).run P w = .ok (.agg cs) w := by
  have hl : (loadCells ⟨g, o, none⟩ cs.toList.length).run P w = .ok cs.toList.toArray w :=
    run_loadCells_list (P := P) w ⟨g, o, none⟩ cs.toList (fun j v hv => by
      rw [Addr.add_lit]
      exact hp j v hv)
  cases hq : P.info? ty with
  | none => simp [hq] at hi
  | some i =>
    have hs : i.size = cs.size := by simpa [hq] using hi
    have hagg : (isAgg ty).run P w = .ok true w := by
      unfold isAgg
      rw [Sem.run_bind, run_underlying hu w]
      cases d <;> simp_all
    simp only [Array.length_toList, Array.toArray_toList] at hl
    simp [loadVar, Sem.run_bind, hagg, sizeOf, typeInfo, hq, hs, hl]
theorem wp_load_cells {o : Oper} {a : Act} {w : World} {K : Act → World → Prop} {Q : Exit → Act → World → Prop} (ty : TypeId) (x : Operand) (ho : o.op = .load ty x)
    (g f : Nat) (hx : a.eval x = .pointer (some ⟨g, f, none⟩)) (cs : Array Value) (d : TypeDesc) (hp : ∀ (j : Nat) (v : Value), cs.toList[j]? = some v → w.cell? ⟨g, f + j, none⟩ = some v)
    (hu : P.underlying ty = some d) (hd : (match d with | .struct _ | .array _ _ => true | _ => false) = true) (hi : (P.info? ty).map (·.size) = some cs.size)
    (h : K (a.put o.dst (.agg cs)) w) : o.wp P a w K Q := by
  unfold Oper.wp execOp
  simp only [ho, hx, Instr.loadAt, Instr.sureAddr, Sem.run_bind, Sem.run_pure, Result.andThen_ok, run_load_cells w g f ty cs d hp hu hd hi]
  exact h
end
/-- How many terms and kids a tree has is within reach. -/
inductive FewN : Nd → Prop
  | mk {k f : Int} {ts : List Tk} {ks : List Nd} (ht : ts.length ≤ 1000000) (hk : ks.length ≤ 1000000) (h : ∀ x ∈ ks, FewN x) : FewN (.mk k f ts ks)
theorem RdN.slices {w : World} {S : Nat → Prop} {x : Nd} {kd fd : Int} {tv kv : Value} (h : RdN w S x (kd, fd, tv, kv)) : ∃ ta tn tc ka kn kc, tv = .slice ta tn tc ∧ kv = .slice ka kn kc := by
  cases h
  exact ⟨_, _, _, _, _, _, rfl, rfl⟩
/-- A sign that turns, and what it turns. -/
theorem turned {w : World} {S S' : Nat → Prop} {x : Nd} {r : Rn} {g : Nat} (h : RdN w S x r) (hg : w.heap[g]? = some (.cells (rnC r).toArray 31 (0, 0))) (hS : ∀ b, S b → S' b) (hg2 : S' g) : RdN w S' (.mk 4 0 [] [x]) (4, 0, .slice none 0 0, .slice (some ⟨g, 0, none⟩) 1 1) := by
  refine RdN.mk (w := w) (S := S') (k := 4) (f := 0) (ts := []) (ks := [x]) (ta := none) (tc := 0) (kc := 1) (rs := [r]) (by decide) (by decide) (fun j y hj => by simp at hj) (Nat.le_refl _) (by decide) (fun a ha _ => by cases ha) (fun j s hj => ?_) (Nat.le_refl _) (by decide) (fun a ha _ => by injection ha with ha; subst ha; exact hg2) rfl (fun j y s h1 h2 => ?_)
  · cases j with
    | succ j => simp at hj
    | zero =>
      simp at hj
      subst hj
      refine ⟨g, 0, rfl, fun i v hv => ?_⟩
      rw [cell_at hg]
      simpa using hv
  · cases j with
    | succ j => simp at h1
    | zero => simp at h1 h2; subst h1 h2; exact h.mono fun b _ hb => hS b hb
theorem Nd.ind2 {P : Nd → Prop} (h : ∀ k f ts ks, (∀ x ∈ ks, P x) → P (.mk k f ts ks)) : ∀ t, P t
  | .mk k f ts ks => h k f ts ks fun x _ => Nd.ind2 h x
termination_by t => SizeOf.sizeOf t
decreasing_by
  have := List.sizeOf_lt_of_mem (by assumption : x ∈ ks)
  simp; omega
end Go.Proofs.Ytaaeooimalglaaa
