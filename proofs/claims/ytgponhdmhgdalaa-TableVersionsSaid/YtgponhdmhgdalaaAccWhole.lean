/-
  A program that nobody disturbs, Step by Step: what holds between its Steps, and behind the last one. Over the program's own text.
-/
import Derived.Test.YtgponhdmhgdalaaAccStep
namespace Go.Proofs.Ytgponhdmhgdalaa
open Go.RowKit
variable {α : Type}

/-- The blocks that a program run by itself turns. -/
def Own (S : Nat → Prop) (mb cb : Nat) (k : Nat) : Prop := S k ∨ k = mb ∨ k = cb
/-- It is over. -/
structure Final (W : World) (mb cb : Nat) (S : Nat → Prop) (I : World → Prop) (Post : α → World → Prop) (x : α) (cs' : List Int) (t : Int) (wx : World) : Prop where
  mem : ∃ l s, MemAt wx mb cb cs' l s ∧ 0 ≤ l ∧ 0 ≤ s ∧ l + s ≤ t
  cells : ∀ y ∈ cs', U y
  inv : I wx
  post : Post x wx
  mod : Mod (Own S mb cb) W wx
/-- It is on its way, behind i Steps. -/
structure Going (W : World) (rb mb cb : Nat) (S : Nat → Prop) (I : World → Prop) (p : Pr α) (x : α) (cs' : List Int) (t : Int) (n i : Nat) (wx : World) : Prop where
  at_ : ∃ q st go m, RM wx rb mb cb go false st ∧ At p q st ∧ Does q st.cs m x cs' ∧ m + i = n ∧ st.log.length ≤ i ∧ 0 ≤ st.l ∧ 0 ≤ st.s ∧ st.l + st.s + m ≤ t ∧ (∀ y ∈ st.log, U y) ∧ (∀ y ∈ st.cs, U y) ∧ (∀ g, go = some g → W.heap.size ≤ g)
  inv : I wx
  mod : Mod (Own S mb cb) W wx

theorem stepA_u {p : Pr α} {st : St} {B : Nat} (h : ({ st with at_ := 0, made := false } : St).Fine B) (ho : st.over = false) : (∀ y ∈ (st.stepA p).log, U y) ∧ ∀ y ∈ (st.stepA p).cs, U y := by
  have := on_fine p _ h
  unfold St.stepA
  rw [if_neg (by simp [ho])]
  exact ⟨this.ok.log_u, this.ok.cs_u⟩

theorem Going.new {W w0 w1 : World} {rb mb cb : Nat} {S : Nat → Prop} {I : World → Prop} {p : Pr α} {x : α} {cs cs' : List Int} {l s : Int} {n : Nat} (hm : MemAt W mb cb cs l s) (h0 : 0 ≤ l) (h1 : 0 ≤ s) (hcu : ∀ y ∈ cs, U y) (hd : Does p cs n x cs') (hb : Below W.heap.size W w1) (hr : RunAt w1 rb mb none 0 [] 0 false false false false 0) (hI : I w1) (hw : w0 = W) :
    Going W rb mb cb S I p x cs' (l + s + n) n 0 w1 := by
  subst hw
  exact ⟨⟨p, ⟨[], 0, false, false, false, 0, cs, l, s⟩, none, n, ⟨⟨0, hr⟩, hm.below hb, by simp⟩, At.new p cs l s, hd, by omega, by simp, h0, h1, by show l + s + (n : Int) ≤ l + s + (n : Int); omega, by simp, hcu, by simp⟩, hI, Below.mod hb _ fun k hk hk' => by omega⟩

theorem Going.stepE {W w : World} {rb mb cb : Nat} {F : FuncId} {caps : Array Value} {S : Nat → Prop} {I : World → Prop} {p : Pr α} {Post : α → World → Prop} {x : α} {cs' : List Int} {t : Int} {n i B : Nat} (h : Going W rb mb cb S I p x cs' t n i w) (hrb : W.heap.size ≤ rb)
    (hC : Clo F caps rb mb cb S I p Post B) (hS : ∀ k, S k → k < W.heap.size ∧ k ≠ mb ∧ k ≠ cb) (hn : n + 1 ≤ B) (ht : t + 1 ≤ B) :
    Calls Try.prog 26 #[.pointer (some ⟨rb, 0, none⟩), .func (.func F) #[] caps] w fun e w' => (e = .returned (.bool true) ∧ Final W mb cb S I Post x cs' t w' ∧ ∃ cap go' log at_ ma off ov, RunAt w' rb mb go' cap log at_ false ma off ov 0) ∨ (e = .returned (.bool false) ∧ Going W rb mb cb S I p x cs' t n (i + 1) w' ∧ i < n) := by
  obtain ⟨⟨q, st, go, m, hrm, hat, hd, hmi, hlog, h0, h1, hsum, hlu, hcu, hgo⟩, hI, hmod⟩ := h
  have hfine := hat.fine (B := B) (by omega) h0 h1 (by omega) hlu hcu
  have hfar : ∀ k, S k → ¬ Feet rb mb cb go k := by
    intro k hk
    obtain ⟨a1, a2, a3⟩ := hS k hk
    rintro (e | e | e | e)
    · omega
    · have := hgo k e; omega
    · exact a2 e
    · exact a3 e
  obtain ⟨hin, hd', hnx⟩ := hd.step
  have hst := step_next hat hin
  refine (step_goA hrm hat.over hat.off hfine hC hI hfar).mono ?_
  rintro e w' ⟨rfl, go', hrm', hadv, hI', hP'⟩
  have hu := stepA_u (p := p) hfine hat.over
  generalize hst1 : st.stepA p = st' at *
  rw [hst.over]
  have hgo' : ∀ g, go' = some g → W.heap.size ≤ g := by
    intro g hg
    rcases hadv.grows with e | ⟨g', e, hg'⟩
    · exact hgo g (by rw [← e]; exact hg)
    · rw [e] at hg; cases hg
      exact Nat.le_trans hmod.size hg'
  have hmod' : Mod (Own S mb cb) W w' := hmod.then hadv.mod (by
    rintro k hk (e | e | e | e | e)
    · exact .inl e
    · omega
    · have := hgo k e; omega
    · exact .inr (.inl e)
    · exact .inr (.inr e))
  have hs := hst.sum
  have hl0 := hst.l0
  have hs0 := hst.s0
  have hcount := hst.count
  cases hr : (q.next st.cs).1.isRet with
  | true =>
    left
    have hn1 : ∃ y, (q.next st.cs).1 = .ret y := by
      generalize (q.next st.cs).1 = r at hr
      cases r with
      | ret y => exact ⟨y, rfl⟩
      | load a k => cases hr
      | store a v k => cases hr
    obtain ⟨y, hy⟩ := hn1
    rw [hy] at hd'
    obtain ⟨rfl, hcs, hz⟩ := hd'.end_
    refine ⟨rfl, ⟨⟨st'.l, st'.s, ?_, by omega, by omega, ?_⟩, ?_, hI', hP' y ?_, hmod'⟩, ?_⟩
    · rw [hcs, ← hst.cells]; exact hrm'.mem
    · rcases q with _ | _ | _
      · have e : st' = st.stepA p := hst1.symm
        have ho := on_ahead hat
        have : st'.l = st.l ∧ st'.s = st.s := by
          rw [e]
          unfold St.stepA St.shut
          rw [if_neg (by simp [hat.over]), ho]
          exact ⟨rfl, rfl⟩
        omega
      · cases hd with
        | load _ _ hd3 => omega
      · cases hd with
        | store _ _ hd3 => omega
    · rw [hcs, ← hst.cells]; exact hu.2
    · rw [hst.ans, hy]; rfl
    · obtain ⟨cap, hr2⟩ := hrm'.run
      rw [hst.err] at hr2
      exact ⟨cap, go', _, _, _, _, _, hr2⟩
  | false =>
    right
    have hm0 : 0 < m := by
      rcases hnx with h | h
      · exact h
      · rw [h] at hr; cases hr
    refine ⟨rfl, ⟨⟨(q.next st.cs).1, st', go', m - 1, hrm', hst.at_ hr, ?_, by omega, by omega, by omega, by omega, by omega, hu.1, hu.2, hgo'⟩, hI', hmod'⟩, by omega⟩
    rw [hst.cells]
    exact hd'
theorem Going.step {W w : World} {rb mb cb : Nat} {F : FuncId} {caps : Array Value} {S : Nat → Prop} {I : World → Prop} {p : Pr α} {Post : α → World → Prop} {x : α} {cs' : List Int} {t : Int} {n i B : Nat} (h : Going W rb mb cb S I p x cs' t n i w) (hrb : W.heap.size ≤ rb)
    (hC : Clo F caps rb mb cb S I p Post B) (hS : ∀ k, S k → k < W.heap.size ∧ k ≠ mb ∧ k ≠ cb) (hn : n + 1 ≤ B) (ht : t + 1 ≤ B) :
    Calls Try.prog 26 #[.pointer (some ⟨rb, 0, none⟩), .func (.func F) #[] caps] w fun e w' => (e = .returned (.bool true) ∧ Final W mb cb S I Post x cs' t w') ∨ (e = .returned (.bool false) ∧ Going W rb mb cb S I p x cs' t n (i + 1) w' ∧ i < n) :=
  (h.stepE hrb hC hS hn ht).mono fun _ _ h => h.imp (fun h => ⟨h.1, h.2.1⟩) id
end Go.Proofs.Ytgponhdmhgdalaa
