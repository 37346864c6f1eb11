/-
  A region that draws its order: what has come up holds all that it hangs on. Over any program's text.
-/
import Derived.Test.YtaaeooimalglaaaDoorRegion
namespace Go.Proofs.YtaaeooimalglaaaDoor
open Go.RowKit
section
variable {P : Program} {ops : Array Oper}
set_option maxRecDepth 100000 in
theorem closed_none : ClosedL ops (fun _ => false) := fun _ _ _ h => by cases h
set_option maxRecDepth 100000 in
theorem closed_put {l : Nat → Bool} (h : ClosedL ops l) {i : Nat} {o : Oper} (ho : ops[i]? = some o) (he : ∀ e ∈ o.after, Region.binds .any e = true → l e.on = true) : ClosedL ops (fun j => j == i || l j) := by
  intro j o' hj hl e hm hb
  by_cases hji : j = i
  · subst hji
    rw [ho] at hj
    cases hj
    simp [he e hm hb]
  · have : l j = true := by simpa [hji] using hl
    simp [h j o' hj this e hm hb]
end
set_option maxRecDepth 100000 in
theorem wp_region_cl {P : Program} {ops : Array Oper} {σ : Type} {id : Nat} {a0 : Act} {w : World} {Q : Exit → Act → World → Prop} (V : σ → Nat → Value) (R : σ → (Nat → Bool) → World → Prop) {aT : σ → Act}
    (hm : P.follows .mixedOrders = true) (hB : regionB ops a0.tmps.size = true) (hT : ∀ s, putTo ops (V s) a0 ops.size = aT s) (s0 : σ) (h0 : R s0 (fun _ => false) w.drew)
    (step : ∀ (i : Nat) (o : Oper), ops[i]? = some o → ∀ (s : σ) (l : Nat → Bool) (wx : World), R s l wx → l i = false → (∀ e ∈ o.after, Region.binds .any e = true → l e.on = true) → ClosedL ops l →
      ∀ K : Act → World → Prop, (∀ (s' : σ) (w' : World), (∀ j, l j = true → V s' j = V s j) → R s' (fun j => j == i || l j) w' → K ((aT s).put o.dst (V s' i)) w') →
        if Region.wanted o (yielded ops (aT s).tmps) then o.wp P (aT s) wx K NoWay else K ((aT s).put o.dst undef) wx)
    (fin : ∀ (s : σ) (l : Nat → Bool) (wx : World), (∀ j, j < ops.size → l j = true) → R s l wx → Q .normal (aT s) wx) : (Code.region id ops true).wp P Q a0 w :=
  wp_region_by V (fun s l wx => R s l wx ∧ ClosedL ops l) hm hB hT s0 ⟨h0, closed_none⟩
    (fun i o ho s l wx hR hl he K hK => step i o ho s l wx hR.1 hl he hR.2 K (fun s' w' hV hR' => hK s' w' hV ⟨hR', closed_put hR.2 ho he⟩))
    (fun s l wx hall hR => fin s l wx hall hR.1)
end Go.Proofs.YtaaeooimalglaaaDoor
