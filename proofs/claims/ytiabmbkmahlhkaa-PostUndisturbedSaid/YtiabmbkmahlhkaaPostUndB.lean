/-
  A walk on its way while words are added: what holds between its Steps. Over the program's own text.
-/
import Derived.Test.YtiabmbkmahlhkaaPostUnd
namespace Go.Proofs.Ytiabmbkmahlhkaa
open Go.RowKit

theorem WalkQ.mod {W0 bl : Nat} {ws : List Nat} {w w' : World} (h : WalkQ W0 bl ws w) {Z : Nat → Prop} (hm : Mod Z w w') (h1 : ¬ Z bl) (h2 : ∀ k, W0 ≤ k → k < w.heap.size → ¬ Z k) : WalkQ W0 bl ws w' := by
  obtain ⟨oa, c, a1, a2, a3, a4, a5, a6⟩ := h
  refine ⟨oa, c, (hm.block bl (lt_of_heap a1) h1).trans a1, a2, a3, a4, fun j x hj => ?_, a6⟩
  obtain ⟨g, o, e, hc⟩ := a5 j x hj
  refine ⟨g, o, e, ?_⟩
  rw [← hc]
  exact World.cell?_of_block (hm.block g (lt_of_cell hc) (h2 g (a6 _ e) (lt_of_cell hc)))
/-- The blocks that turn. -/
def UX (bp bu bt bx bl rb mb cb : Nat) (k : Nat) : Prop := k = bu ∨ k = bt ∨ k = mb ∨ k = cb ∨ k = bp ∨ k = bx ∨ k = bl ∨ k = rb
/-- They are older than the run. -/
structure UOld (w0 : World) (bm bp bu bt bx bl rb mb cb : Nat) : Prop where
  o : bm < rb ∧ bp < rb ∧ bu < rb ∧ bt < rb ∧ bx < rb ∧ bl < rb ∧ mb < rb ∧ cb < rb ∧ rb < w0.heap.size
  bl4 : ¬ (bl = bu ∨ bl = bt ∨ bl = mb ∨ bl = cb)
  bx4 : ¬ (bx = bu ∨ bx = bt ∨ bx = mb ∨ bx = cb)
  bp4 : ¬ (bp = bu ∨ bp = bt ∨ bp = mb ∨ bp = cb)
  bm3 : ¬ (bm = bp ∨ bm = bx ∨ bm = bl)
  bu3 : ¬ (bu = bp ∨ bu = bx ∨ bu = bl)
  bt3 : ¬ (bt = bp ∨ bt = bx ∨ bt = bl)

structure Und (walkP : (Nat → Int) → (Nat → Int) → Int → Int → Pr (List Nat)) (w0 : World) (bm bp bu bt bx bl rb mb cb : Nat) (B S : Nat → Int) (C T L tail : Int) (ws : List Nat) (cs0 : List Int) (D0 : Int → Prop) (N n : Nat) (ov : Bool) (w : World) : Prop where
  st : ∃ tails Us D st go, UB bm bp bu bt mb B S C T L tails Us w ∧ Inv B S C st.cs Us D tails ∧ RM w rb mb cb go false st ∧ (∀ y ∈ st.cs, U y) ∧ (∀ y ∈ st.log, U y) ∧ st.log.length ≤ N ∧ 0 ≤ st.l ∧ 0 ≤ st.s ∧ st.l + st.s ≤ N ∧ (∀ a, D0 a → D a) ∧ (∀ a, D0 a → st.cs.getD a.toNat 0 = cs0.getD a.toNat 0) ∧ (∀ g, go = some g → w0.heap.size ≤ g) ∧ st.over = ov ∧ (ov = false → ∃ q, At (walkP B S C tail) q st ∧ Sure C.toNat (fun b y => D0 b → y = cs0.getD b.toNat 0) n q ws)
  wi : WalkI bp bx bl B S C T L tail w
  wq : ov = true → WalkQ rb bl ws w
  mod : Mod (UX bp bu bt bx bl rb mb cb) w0 w
section
variable {walkP : (Nat → Int) → (Nat → Int) → Int → Int → Pr (List Nat)} {w0 w : World} {bm bp bu bt bx bl rb mb cb : Nat} {B S : Nat → Int} {C T L tail : Int} {ws : List Nat} {cs0 : List Int} {D0 : Int → Prop} {N n : Nat} {ov : Bool}
theorem Und.more (h : Und walkP w0 bm bp bu bt bx bl rb mb cb B S C T L tail ws cs0 D0 N n ov w) (N' : Nat) (hN : N ≤ N') : Und walkP w0 bm bp bu bt bx bl rb mb cb B S C T L tail ws cs0 D0 N' n ov w := by
  obtain ⟨⟨tails, Us, D, st, go, a1, a2, a3, a4, a5, a6, a7, a8, a9, a10, a11, a12, a13, a14⟩, b, c, d⟩ := h
  exact ⟨⟨tails, Us, D, st, go, a1, a2, a3, a4, a5, by omega, a7, a8, by omega, a10, a11, a12, a13, a14⟩, b, c, d⟩

/-- A word is added. -/
theorem Und.add (h : Und walkP w0 bm bp bu bt bx bl rb mb cb B S C T L tail ws cs0 D0 N n ov w) (K : KeptPost walkP) (hL : Laid B S C) (hO : UOld w0 bm bp bu bt bx bl rb mb cb) (hN : N ≤ 80000000) (xt x : Nat) (hxt : xt < 256) (hx : x < 4294967296) :
    Calls Try.prog 11 #[.agg #[.int .u8 (xt : Int), .int .u32 (x : Int)], .pointer (some ⟨bm, 0, none⟩), .pointer (some ⟨bp, 0, none⟩), .pointer (some ⟨bu, 0, none⟩), .pointer (some ⟨bt, 0, none⟩)] w fun e w' => e = .returned (.tuple #[]) ∧ Und walkP w0 bm bp bu bt bx bl rb mb cb B S C T L tail ws cs0 D0 (N + 2) n ov w' := by
  obtain ⟨⟨tails, Us, D, st, go, hub, hinv, hrm, hcu, hlu, hlog, hl0, hs0, hls, hD, hcs, hgo, hov, hat⟩, hwi, hwq, hmod⟩ := h
  obtain ⟨⟨o1, o2, o3, o4, o5, o6, o7, o8, o9⟩, bl4, bx4, bp4, bm3, bu3, bt3⟩ := hO
  refine (add_at K hL hub (⟨⟨st.l, st.s, hrm.mem, hl0, hs0, hls⟩, hinv, hcu⟩ : PS B S C mb cb tails Us st.cs D N w) (by omega) xt x hxt hx).mono ?_
  rintro e w' ⟨rfl, hm, tails', Us', hub', cs', D', ⟨⟨l', s', hmem, l0, s0, hls'⟩, hinv', hcu'⟩, hDD, hold, _⟩
  have hrun : ∃ cap, RunAt w' rb mb go cap st.log st.at_ false st.made st.off st.over st.err := by
    obtain ⟨cap, hr⟩ := hrm.run
    refine ⟨cap, hr.mod hm ?_⟩
    rintro k (hk | hk)
    · subst hk; clear bl4 bx4 bp4 bm3 bu3 bt3; rintro (e | e | e | e) <;> omega
    · have := hgo k hk
      clear bl4 bx4 bp4 bm3 bu3 bt3
      rintro (e | e | e | e) <;> omega
  refine ⟨rfl, ⟨tails', Us', D', { st with cs := cs', l := l', s := s' }, go, hub', hinv', ⟨hrun, hmem, hrm.ne⟩, hcu', hlu, by show st.log.length ≤ N + 2; omega, l0, s0, hls', fun a ha => hDD a (hD a ha), fun a ha => (hold a (hD a ha)).trans (hcs a ha), hgo, hov, fun ho => ?_⟩, ?_, fun ho => ?_, ?_⟩
  · obtain ⟨q, h1, h2⟩ := hat ho
    exact ⟨q, h1.turn cs' l' s', h2⟩
  · obtain ⟨v, hv⟩ := hwi.l
    exact ⟨(hm.block bp (lt_of_heap hwi.p) bp4).trans hwi.p, (hm.block bx (lt_of_heap hwi.x) bx4).trans hwi.x, ⟨v, (hm.block bl (lt_of_heap hv) bl4).trans hv⟩⟩
  · exact (hwq ho).mod hm bl4 fun k hk _ => by clear bl4 bx4 bp4 bm3 bu3 bt3; rintro (e | e | e | e) <;> omega
  · refine hmod.then hm fun k _ hk => ?_
    rcases hk with e | e | e | e
    · exact .inl e
    · exact .inr (.inl e)
    · exact .inr (.inr (.inl e))
    · exact .inr (.inr (.inr (.inl e)))
set_option maxHeartbeats 1000000 in
/-- A Step is made. -/
theorem Und.step (h : Und walkP w0 bm bp bu bt bx bl rb mb cb B S C T L tail ws cs0 D0 N n ov w) (K : KeptPost walkP) (hL : Laid B S C) (hO : UOld w0 bm bp bu bt bx bl rb mb cb) (ht0 : -9223372036854775808 ≤ tail) (ht1 : tail ≤ 9223372036854775807) (hN : N ≤ 80000000) :
    Calls Try.prog 15 #[.pointer (some ⟨rb, 0, none⟩), .func (.func 13) #[] #[.pointer (some ⟨bp, 0, none⟩), .pointer (some ⟨bx, 0, none⟩), .pointer (some ⟨bl, 0, none⟩)]] w fun e w' => ∃ ov', e = .returned (.bool ov') ∧ Und walkP w0 bm bp bu bt bx bl rb mb cb B S C T L tail ws cs0 D0 (N + 1) (n - 1) ov' w' ∧ (ov' = true ∨ 0 < n) := by
  obtain ⟨⟨tails, Us, D, st, go, hub, hinv, hrm, hcu, hlu, hlog, hl0, hs0, hls, hD, hcs, hgo, hov, hat⟩, hwi, hwq, hmod⟩ := h
  cases hv : ov with
  | true =>
    subst hv
    refine (step_over hrm hov _).mono ?_
    rintro e w' ⟨rfl, rfl⟩
    exact ⟨true, rfl, ⟨⟨tails, Us, D, st, go, hub, hinv, hrm, hcu, hlu, by omega, hl0, hs0, by omega, hD, hcs, hgo, hov, fun ho => by cases ho⟩, hwi, hwq, hmod⟩, .inl rfl⟩
  | false =>
    subst hv
    obtain ⟨⟨o1, o2, o3, o4, o5, o6, o7, o8, o9⟩, bl4, bx4, bp4, bm3, bu3, bt3⟩ := hO
    obtain ⟨q, hA, hS⟩ := hat rfl
    have hlen : st.cs.length = C.toNat := by have := hinv.len; omega
    obtain ⟨hin, hS', hcells, hnx⟩ := hS.step hlen (fun a _ hd => by have := hcs a hd; simpa using this)
    have hfine := hA.fine (B := 200000000) (by omega) hl0 hs0 (by omega) hlu hcu
    have hst := step_next hA hin
    refine (step_goA hrm hA.over hA.off hfine (walk_clo2 K (T := T) (L := L) hL ht0 ht1 bp bx bl rb rb mb cb 200000000 (by omega) ⟨o2, o5, o6⟩ (Nat.le_refl _)) hwi ?_).mono ?_
    · rintro k hk (e | e | e | e)
      · clear bl4 bx4 bp4 bm3 bu3 bt3; omega
      · have := hgo k e; clear bl4 bx4 bp4 bm3 bu3 bt3; omega
      · subst e
        rcases hk with e | e | e
        · exact bp4 (.inr (.inr (.inl e.symm)))
        · exact bx4 (.inr (.inr (.inl e.symm)))
        · exact bl4 (.inr (.inr (.inl e.symm)))
      · subst e
        rcases hk with e | e | e
        · exact bp4 (.inr (.inr (.inr e.symm)))
        · exact bx4 (.inr (.inr (.inr e.symm)))
        · exact bl4 (.inr (.inr (.inr e.symm)))
    rintro e w' ⟨rfl, go', hrm', hadv, hwi', hP⟩
    have hu := stepA_u (p := walkP B S C tail) hfine hA.over
    generalize hst1 : st.stepA (walkP B S C tail) = st' at *
    have hcs' : st'.cs = st.cs := by rw [hst.cells, hcells]
    have hgo' : ∀ g, go' = some g → w0.heap.size ≤ g := by
      intro g hg
      rcases hadv.grows with e | ⟨g', e, hg'⟩
      · exact hgo g (by rw [← e]; exact hg)
      · rw [e] at hg; cases hg
        exact Nat.le_trans hmod.size hg'
    have h1 := hst.count
    have h2 := hst.sum
    have h3 := hst.l0
    have h4 := hst.s0
    have k1 : st'.log.length ≤ N + 1 := by clear bl4 bx4 bp4 bm3 bu3 bt3; omega
    have k2 : 0 ≤ st'.l := by clear bl4 bx4 bp4 bm3 bu3 bt3; omega
    have k3 : 0 ≤ st'.s := by clear bl4 bx4 bp4 bm3 bu3 bt3; omega
    have k4 : st'.l + st'.s ≤ (N + 1 : Nat) := by clear bl4 bx4 bp4 bm3 bu3 bt3; omega
    have hub' : UB bm bp bu bt mb B S C T L tails Us w' := by
      refine ⟨?_, hwi'.p, ?_, ?_⟩
      · refine (hadv.mod.block bm (lt_of_heap hub.m) ?_).trans hub.m
        have hne := hub.ne hrm.mem
        rintro (e | e | e | e | e)
        · exact bm3 e
        · exact absurd e (Nat.ne_of_lt o1)
        · have := hgo bm e; clear bl4 bx4 bp4 bm3 bu3 bt3; omega
        · exact hne.1.1 e
        · exact hne.2.1.1 e
      · refine (hadv.mod.block bu (lt_of_heap hub.u) ?_).trans hub.u
        have hne := hub.ne hrm.mem
        rintro (e | e | e | e | e)
        · exact bu3 e
        · exact absurd e (Nat.ne_of_lt o3)
        · have := hgo bu e; clear bl4 bx4 bp4 bm3 bu3 bt3; omega
        · exact hne.1.2.2.1 e
        · exact hne.2.1.2.2.1 e
      · refine (hadv.mod.block bt (lt_of_heap hub.t) ?_).trans hub.t
        have hne := hub.ne hrm.mem
        rintro (e | e | e | e | e)
        · exact bt3 e
        · exact absurd e (Nat.ne_of_lt o4)
        · have := hgo bt e; clear bl4 bx4 bp4 bm3 bu3 bt3; omega
        · exact hne.1.2.2.2 e
        · exact hne.2.1.2.2.2 e
    refine ⟨(q.next st.cs).1.isRet, by rw [hst.over], ⟨⟨tails, Us, D, st', go', hub', by rw [hcs']; exact hinv, hrm', hu.2, hu.1, k1, k2, k3, k4, hD, fun a ha => by rw [hcs']; exact hcs a ha, hgo', hst.over, fun ho => ⟨_, hst.at_ ho, hS'⟩⟩, hwi', fun ho => ?_, ?_⟩, ?_⟩
    · have hr : ∃ y, (q.next st.cs).1 = .ret y := by
        generalize (q.next st.cs).1 = r at ho
        cases r with
        | ret y => exact ⟨y, rfl⟩
        | load a k => cases ho
        | store a v k => cases ho
      obtain ⟨y, hy⟩ := hr
      rw [hy] at hS'
      obtain rfl := hS'.end_
      exact hP y (by rw [hst.ans, hy]; rfl)
    · refine hmod.then hadv.mod fun k hk hk2 => ?_
      rcases hk2 with (e | e | e) | e | e | e | e
      · exact .inr (.inr (.inr (.inr (.inl e))))
      · exact .inr (.inr (.inr (.inr (.inr (.inl e)))))
      · exact .inr (.inr (.inr (.inr (.inr (.inr (.inl e))))))
      · exact .inr (.inr (.inr (.inr (.inr (.inr (.inr e))))))
      · have := hgo k e; clear bl4 bx4 bp4 bm3 bu3 bt3; omega
      · exact .inr (.inr (.inl e))
      · exact .inr (.inr (.inr (.inl e)))
    · rcases hnx with h | h
      · exact .inr h
      · left
        rw [h]; rfl
end
end Go.Proofs.Ytiabmbkmahlhkaa
