/-
  A Find on its way while texts are put: what holds between its Steps. Over the program's own text.
-/
import Derived.Test.YteliaammffmmiaaDictAdd
import Derived.Test.YteliaammffmmiaaStepE
namespace Go.Proofs.Yteliaammffmmiaa
open Go.RowKit

/-- In the order in which they were made. -/
def UOrd (bm bs bp bu bq bg rb mb cb : Nat) : Prop := AOrd bm bs bp bu mb cb ∧ bq < bp ∧ bu < bg ∧ bg < rb
def UZ (bs bu bq bg rb mb cb : Nat) (k : Nat) : Prop := k = bu ∨ k = mb ∨ k = cb ∨ k = bs ∨ k = bq ∨ k = bg ∨ k = rb
structure UndD (findP : Int → Int → List Nat → Pr (Int × Int)) (w0 : World) (bm bs bp bu bq bg rb mb cb : Nat) (B S : Nat → Int) (Z T L s : Int) (key : ByteArray) (C : Nat) (d0 : Dict) (N n : Nat) (ov lat : Bool) (w : World) : Prop where
  st : ∃ Us d st go, AB bm bs bp bu mb B S Z T L s Us w ∧ DictAt 16 s (B 4) (B 4 + Us 4) d st.cs ∧ (∀ k, k < 6 → 0 ≤ Us k ∧ Us k ≤ S k ∧ S k ≤ 1000000) ∧ RM w rb mb cb go false st ∧ (∀ y ∈ st.cs, U y) ∧ (∀ y ∈ st.log, U y) ∧ st.log.length ≤ N ∧ 0 ≤ st.l ∧ 0 ≤ st.s ∧ st.l + st.s ≤ N ∧ st.cs.length = C ∧ d0.Le d ∧ (∀ g, go = some g → w0.heap.size ≤ g) ∧ st.over = ov ∧ (lat = false → ∀ a, Has d (bytesL key) a → Has d0 (bytesL key) a) ∧
    (ov = false → ∃ q, At (findP s 16 (bytesL key)) q st ∧ Rely (DIn 16 s (B 4) (B 4 + S 4) C) Dict.Le (Found 16 (bytesL key) d0) n d q) ∧ (ov = true → ∃ x, UnQ bg x w ∧ Found 16 (bytesL key) d0 d x)
  ui : UnI bs bq bg s key w
  c0 : C ≤ 1000000
  mod : Mod (UZ bs bu bq bg rb mb cb) w0 w
section
variable {findP : Int → Int → List Nat → Pr (Int × Int)} {w0 w : World} {bm bs bp bu bq bg rb mb cb : Nat} {B S : Nat → Int} {Z T L s : Int} {key : ByteArray} {C : Nat} {d0 : Dict} {N n : Nat} {ov lat : Bool}
theorem UndD.more (h : UndD findP w0 bm bs bp bu bq bg rb mb cb B S Z T L s key C d0 N n ov lat w) (N' : Nat) (hN : N ≤ N') : UndD findP w0 bm bs bp bu bq bg rb mb cb B S Z T L s key C d0 N' n ov lat w := by
  obtain ⟨⟨Us, d, st, go, a1, a2, a3, a4, a5, a6, a7, a8, a9, a10, a11⟩, b, c, m⟩ := h
  exact ⟨⟨Us, d, st, go, a1, a2, a3, a4, a5, a6, by omega, a8, a9, by omega, a11⟩, b, c, m⟩
set_option maxHeartbeats 1000000 in
/-- A text is put. -/
theorem UndD.add (h : UndD findP w0 bm bs bp bu bq bg rb mb cb B S Z T L s key C d0 N n ov lat w) (K : KeptDict findP) (hP : DP 16 s B S) (hO : UOrd bm bs bp bu bq bg rb mb cb) (hrb : rb < w0.heap.size) (hN : N ≤ 80000000) (x : ByteArray) (hx : x.size ≤ reachBytes) (lat' : Bool) (hlat : lat' = false → lat = false ∧ x ≠ key) :
    Calls Try.prog 12 #[.string x, .pointer (some ⟨bm, 0, none⟩), .pointer (some ⟨bs, 0, none⟩), .pointer (some ⟨bp, 0, none⟩), .pointer (some ⟨bu, 0, none⟩)] w fun e w' => e = .returned (.tuple #[]) ∧ UndD findP w0 bm bs bp bu bq bg rb mb cb B S Z T L s key C d0 (N + 300000) n ov lat' w' := by
  obtain ⟨⟨Us, d, st, go, hab, hd, hus, hrm, hcu, hlu, hlog, hl0, hs0, hls, hcl, hle, hgo, hov, hhas, hat, hend⟩, hui, hc0, hmod⟩ := h
  obtain ⟨hA, o6, o7, o8⟩ := hO
  refine (add_at K hP hA hab (⟨⟨st.l, st.s, hrm.mem, hl0, hs0, hls⟩, hd, hcu, ⟨hcl, hc0⟩, hus⟩ : DS 16 s B S Us C mb cb d st.cs N w) hN x hx).mono ?_
  obtain ⟨o1, o2, o3, o4, o5⟩ := hA
  rintro e w' ⟨rfl, hm, Us', d', cs', hab', ⟨⟨l', s', hmem, l0, s0, hls'⟩, hd', hcu', ⟨hcl', _⟩, hus'⟩, hdd, hnew⟩
  have hrun : ∃ cap, RunAt w' rb mb go cap st.log st.at_ false st.made st.off st.over st.err := by
    obtain ⟨cap, hr⟩ := hrm.run
    refine ⟨cap, hr.mod hm ?_⟩
    rintro k (hk | hk)
    · subst hk; omega
    · have := hgo k hk; omega
  have hui' : UnI bs bq bg s key w' := by
    obtain ⟨u1, u2, ⟨i, u3⟩⟩ := hui
    exact ⟨(hm.block _ (lt_of_heap u1) (by omega)).trans u1, (hm.block _ (lt_of_heap u2) (by omega)).trans u2, ⟨i, (hm.block _ (lt_of_heap u3) (by omega)).trans u3⟩⟩
  refine ⟨rfl, ⟨Us', d', { st with cs := cs', l := l', s := s' }, go, hab', hd', hus', ⟨hrun, hmem, hrm.ne⟩, hcu', hlu, by show st.log.length ≤ N + 300000; omega, l0, s0, hls', hcl', hle.trans hdd, hgo, hov, ?_, fun ho => ?_, fun ho => ?_⟩, hui', hc0, hmod.then hm fun k _ hk => ?_⟩
  · intro hl a ha
    obtain ⟨h1, h2⟩ := hlat hl
    rcases hnew _ a ha with h3 | h3
    · exact hhas h1 a h3
    · exact absurd (bytesL_inj h3).symm h2
  · obtain ⟨q, h1, h2⟩ := hat ho
    exact ⟨q, h1.turn cs' l' s', h2.turn (fun _ _ _ h k => h.trans k) (fun _ _ _ h k => k.le h) hdd⟩
  · obtain ⟨y, h1, h2⟩ := hend ho
    exact ⟨y, ⟨(hm.block _ (lt_of_heap h1.a) (by omega)).trans h1.a⟩, h2.le hdd⟩
  · unfold UZ
    omega
set_option maxHeartbeats 2000000 in
/-- A Step is made. -/
theorem UndD.step (h : UndD findP w0 bm bs bp bu bq bg rb mb cb B S Z T L s key C d0 N n ov lat w) (K : KeptDict findP) (hP : DP 16 s B S) (hO : UOrd bm bs bp bu bq bg rb mb cb) (hrb : rb < w0.heap.size) (hN : N ≤ 80000000) (hk : key.size ≤ reachBytes) :
    Calls Try.prog 17 #[.pointer (some ⟨rb, 0, none⟩), .func (.func 14) #[] #[.pointer (some ⟨bs, 0, none⟩), .pointer (some ⟨bq, 0, none⟩), .pointer (some ⟨bg, 0, none⟩)]] w fun e w' => ∃ ov', e = .returned (.bool ov') ∧ UndD findP w0 bm bs bp bu bq bg rb mb cb B S Z T L s key C d0 (N + 1) (n - 1) ov' lat w' ∧ (ov' = true ∨ 0 < n) := by
  obtain ⟨⟨Us, d, st, go, hab, hd, hus, hrm, hcu, hlu, hlog, hl0, hs0, hls, hcl, hle, hgo, hov, hhas, hat, hend⟩, hui, hc0, hmod⟩ := h
  cases hv : ov with
  | true =>
    subst hv
    refine (step_over hrm hov _).mono ?_
    rintro e w' ⟨rfl, rfl⟩
    exact ⟨true, rfl, ⟨⟨Us, d, st, go, hab, hd, hus, hrm, hcu, hlu, by omega, hl0, hs0, by omega, hcl, hle, hgo, hov, hhas, (fun ho => by cases ho), hend⟩, hui, hc0, hmod⟩, .inl rfl⟩
  | false =>
    subst hv
    obtain ⟨⟨o1, o2, o3, o4, o5⟩, o6, o7, o8⟩ := hO
    obtain ⟨q, hA, hS⟩ := hat rfl
    have h4 := hus 4 (by omega)
    obtain ⟨hin, hS', hcells, hnx⟩ := hS.step (Dict.Le.refl d) ⟨B 4 + Us 4, by omega, hcl, hd⟩
    have hfine := hA.fine (B := 200000000) (by omega) hl0 hs0 (by omega) hlu hcu
    have hst := step_next hA hin
    refine (step_goA hrm hA.over hA.off hfine (Un_clo K hP.s0.1 hP.s0.2 hk bs bq bg rb mb cb 200000000 (by omega) (by omega) (by omega) o8) hui ?_).mono ?_
    · intro k hk
      unfold UnS at hk
      rintro (e | e | e | e)
      · omega
      · have := hgo k e; omega
      · omega
      · omega
    rintro e w' ⟨rfl, go', hrm', hadv, hui', hQ⟩
    have hu := stepA_u (p := findP s 16 (bytesL key)) hfine hA.over
    generalize hst1 : st.stepA (findP s 16 (bytesL key)) = st' at *
    have hcs' : st'.cs = st.cs := by rw [hst.cells, hcells]
    have hgo' : ∀ g, go' = some g → w0.heap.size ≤ g := by
      intro g hg
      rcases hadv.grows with e | ⟨g', e, hg'⟩
      · exact hgo g (by rw [← e]; exact hg)
      · rw [e] at hg; cases hg
        exact Nat.le_trans hmod.size hg'
    have h1 := hst.count
    have h2 := hst.sum
    have h3 := hst.l0
    have h5 := hst.s0
    have k1 : st'.log.length ≤ N + 1 := by omega
    have k2 : 0 ≤ st'.l := by omega
    have k3 : 0 ≤ st'.s := by omega
    have k4 : st'.l + st'.s ≤ (N + 1 : Nat) := by omega
    have hfar : ∀ k, (k = bm ∨ k = bp ∨ k = bu) → ¬ (UnS bs bq bg k ∨ Feet rb mb cb go k) := by
      rintro k hk (e | e | e | e | e)
      · unfold UnS at e; omega
      · omega
      · have := hgo k e; omega
      · omega
      · omega
    have hab' : AB bm bs bp bu mb B S Z T L s Us w' :=
      ⟨(hadv.mod.block bm (lt_of_heap hab.m) (hfar _ (.inl rfl))).trans hab.m, hui'.s, (hadv.mod.block bp (lt_of_heap hab.p) (hfar _ (.inr (.inl rfl)))).trans hab.p, (hadv.mod.block bu (lt_of_heap hab.u) (hfar _ (.inr (.inr rfl)))).trans hab.u⟩
    refine ⟨(q.next st.cs).1.isRet, by rw [hst.over], ⟨⟨Us, d, st', go', hab', by rw [hcs']; exact hd, hus, hrm', hu.2, hu.1, k1, k2, k3, k4, by rw [hcs']; exact hcl, hle, hgo', hst.over, hhas, fun ho => ⟨_, hst.at_ ho, hS'⟩, fun ho => ?_⟩, hui', hc0, ?_⟩, ?_⟩
    · have hr : ∃ y, (q.next st.cs).1 = .ret y := by
        generalize (q.next st.cs).1 = r at ho
        cases r with
        | ret y => exact ⟨y, rfl⟩
        | load a k => cases ho
        | store a v k => cases ho
      obtain ⟨y, hy⟩ := hr
      rw [hy] at hS'
      exact ⟨y, hQ y (by rw [hst.ans, hy]; rfl), hS'.end_⟩
    · refine hmod.then hadv.mod ?_
      rintro k hk (e | e | e | e | e)
      · unfold UnS at e; unfold UZ; omega
      · unfold UZ; omega
      · have := hgo k e; omega
      · unfold UZ; omega
      · unfold UZ; omega
    · rcases hnx with h | ⟨y, hy⟩
      · exact .inr h
      · left; rw [hy]; rfl
end
end Go.Proofs.Yteliaammffmmiaa
