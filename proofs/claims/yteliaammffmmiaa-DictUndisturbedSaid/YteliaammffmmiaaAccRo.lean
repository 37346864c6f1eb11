/-
  Programs that store nothing: wherever they go, the memory's cells stay, and each Step counts one access at most. Over the program's own text.
-/
import Derived.Test.YteliaammffmmiaaAccWhole
namespace Go.Proofs.Yteliaammffmmiaa
open Go.RowKit
variable {α : Type}

/-- It stores nothing. -/
def Pr.RO : Pr α → Prop
  | .ret _ => True
  | .load _ k => ∀ v, (k v).RO
  | .store _ _ _ => False
/-- What loads leave of a state. -/
structure Near (st st' : St) : Prop where
  cs : st'.cs = st.cs
  log : st'.log.length + (if st'.made = true then 0 else 1) ≤ st.log.length + (if st.made = true then 0 else 1)
  sum : st'.l + st'.s + (if st'.made = true then 0 else 1) ≤ st.l + st.s + (if st.made = true then 0 else 1)
  l0 : st.l ≤ st'.l
  s0 : st.s ≤ st'.s
  err : st.err = 0 ∨ st.over = true → st'.err = 0 ∨ st'.over = true
theorem Near.refl (st : St) : Near st st := ⟨rfl, Nat.le_refl _, Int.le_refl _, Int.le_refl _, Int.le_refl _, id⟩
theorem Near.trans {a b c : St} (h : Near a b) (k : Near b c) : Near a c := ⟨k.cs.trans h.cs, Nat.le_trans k.log h.log, Int.le_trans k.sum h.sum, Int.le_trans h.l0 k.l0, Int.le_trans h.s0 k.s0, fun e => k.err (h.err e)⟩
theorem load_near (st : St) (a : Int) : Near st (st.load a).2 := by
  unfold St.load
  split
  · exact ⟨rfl, Nat.le_refl _, Int.le_refl _, Int.le_refl _, Int.le_refl _, id⟩
  · split
    · exact ⟨rfl, Nat.le_refl _, Int.le_refl _, Int.le_refl _, Int.le_refl _, id⟩
    · rename_i hm
      split
      · refine ⟨rfl, ?_, ?_, ?_, Int.le_refl _, id⟩
        · simp [hm]
        · simp [hm]; omega
        · simp; omega
      · refine ⟨rfl, ?_, ?_, Int.le_refl _, Int.le_refl _, fun _ => .inr rfl⟩
        · simp [hm]
        · simp [hm]; omega
theorem ro_near : ∀ (p : Pr α) (st : St), p.RO → Near st (p.on st).2
  | .ret _, st, _ => Near.refl st
  | .load a k, st, h => by
    unfold Pr.on
    split
    · exact load_near st a
    · exact (load_near st a).trans (ro_near (k _) _ (h _))
  | .store _ _ _, _, h => h.elim

/-- It is on its way, or over, behind i Steps. -/
structure Roams (W : World) (rb mb cb : Nat) (S : Nat → Prop) (I : World → Prop) (cs : List Int) (t : Int) (i : Nat) (wx : World) : Prop where
  st : ∃ st go, RM wx rb mb cb go false st ∧ st.cs = cs ∧ (st.over = false → st.off = false ∧ st.err = 0) ∧ st.log.length ≤ i ∧ 0 ≤ st.l ∧ 0 ≤ st.s ∧ st.l + st.s ≤ t + i ∧ (∀ y ∈ st.log, U y) ∧ (∀ y ∈ st.cs, U y) ∧ (∀ g, go = some g → W.heap.size ≤ g)
  inv : I wx
  mod : Mod (Own S mb cb) W wx
theorem Roams.new {W w1 : World} {rb mb cb : Nat} {S : Nat → Prop} {I : World → Prop} {cs : List Int} {l s : Int} (hm : MemAt W mb cb cs l s) (h0 : 0 ≤ l) (h1 : 0 ≤ s) (hcu : ∀ y ∈ cs, U y) (hb : Below W.heap.size W w1) (hr : RunAt w1 rb mb none 0 [] 0 false false false false 0) (hI : I w1) :
    Roams W rb mb cb S I cs (l + s) 0 w1 :=
  ⟨⟨⟨[], 0, false, false, false, 0, cs, l, s⟩, none, ⟨⟨0, hr⟩, hm.below hb, by simp⟩, rfl, fun _ => ⟨rfl, rfl⟩, by simp, h0, h1, by show l + s ≤ l + s + ((0 : Nat) : Int); omega, by simp, hcu, by simp⟩, hI, Below.mod hb _ fun k hk hk' => by omega⟩
theorem Roams.step {W w : World} {rb mb cb : Nat} {F : FuncId} {caps : Array Value} {S : Nat → Prop} {I : World → Prop} {p : Pr α} {Post : α → World → Prop} {cs : List Int} {t : Int} {i B : Nat} (h : Roams W rb mb cb S I cs t i w) (hro : p.RO) (hrb : W.heap.size ≤ rb)
    (hC : Clo F caps rb mb cb S I p Post B) (hS : ∀ k, S k → k < W.heap.size ∧ k ≠ mb ∧ k ≠ cb) (hn : i + 1 ≤ B) (ht : t + i + 1 ≤ B) :
    Calls Try.prog 17 #[.pointer (some ⟨rb, 0, none⟩), .func (.func F) #[] caps] w fun e w' => ∃ b, e = .returned (.bool b) ∧ Roams W rb mb cb S I cs t (i + 1) w' := by
  obtain ⟨⟨st, go, hrm, hcs, hov, hlog, h0, h1, hsum, hlu, hcu, hgo⟩, hI, hmod⟩ := h
  cases hv : st.over with
  | true =>
    refine (step_over hrm hv _).mono ?_
    rintro e w' ⟨rfl, rfl⟩
    exact ⟨true, rfl, ⟨st, go, hrm, hcs, hov, by omega, h0, h1, by omega, hlu, hcu, hgo⟩, hI, hmod⟩
  | false =>
    obtain ⟨hoff, herr⟩ := hov hv
    have hfine : ({ st with at_ := 0, made := false } : St).Fine B := ⟨⟨Nat.zero_le _, by simp; omega, h0, h1, by simp; omega, hlu, hcu⟩, fun ho => by simp_all⟩
    have hfar : ∀ k, S k → ¬ Feet rb mb cb go k := by
      intro k hk
      obtain ⟨a1, a2, a3⟩ := hS k hk
      rintro (e | e | e | e)
      · omega
      · have := hgo k e; omega
      · exact a2 e
      · exact a3 e
    have hnear := ro_near p { st with at_ := 0, made := false } hro
    have e1 : st.stepA p = (p.on { st with at_ := 0, made := false }).2.shut := by
      unfold St.stepA
      rw [if_neg (by simp [hv])]
    have hu := stepA_u (p := p) hfine hv
    refine (step_goA hrm hv hoff hfine hC hI hfar).mono ?_
    rintro e w' ⟨rfl, go', hrm', hadv, hI', _⟩
    have k1 : (st.stepA p).cs = cs := by rw [e1]; exact hnear.cs.trans hcs
    have k2 : (st.stepA p).log.length ≤ i + 1 := by
      have := hnear.log
      rw [e1]
      show (p.on { st with at_ := 0, made := false }).2.log.length ≤ i + 1
      simp only [Bool.false_eq_true, if_false] at this
      omega
    have k3 : (st.stepA p).l + (st.stepA p).s ≤ t + (i + 1 : Nat) := by
      have := hnear.sum
      rw [e1]
      show (p.on { st with at_ := 0, made := false }).2.l + (p.on { st with at_ := 0, made := false }).2.s ≤ t + (i + 1 : Nat)
      simp only [Bool.false_eq_true, if_false] at this
      split at this <;> omega
    have k4 : 0 ≤ (st.stepA p).l := by
      rw [e1]
      exact Int.le_trans h0 hnear.l0
    have k5 : 0 ≤ (st.stepA p).s := by
      rw [e1]
      exact Int.le_trans h1 hnear.s0
    have k6 : (st.stepA p).over = false → (st.stepA p).off = false ∧ (st.stepA p).err = 0 := by
      rw [e1]
      intro ho
      unfold St.shut at ho ⊢
      simp only [Bool.or_eq_false_iff] at ho
      have := hnear.err (.inl herr)
      rw [ho.1] at this
      rcases this with h | h
      · exact ⟨by simp [h], h⟩
      · cases h
    generalize st.stepA p = st' at *
    refine ⟨_, rfl, ⟨st', go', hrm', k1, k6, k2, k4, k5, k3, hu.1, hu.2, ?_⟩, hI', ?_⟩
    · intro g hg
      rcases hadv.grows with e | ⟨g', e, hg'⟩
      · exact hgo g (by rw [← e]; exact hg)
      · rw [e] at hg; cases hg
        exact Nat.le_trans hmod.size hg'
    · refine hmod.then hadv.mod ?_
      rintro k hk (e | e | e | e | e)
      · exact .inl e
      · omega
      · have := hgo k e; omega
      · exact .inr (.inl e)
      · exact .inr (.inr e)
end Go.Proofs.Yteliaammffmmiaa
