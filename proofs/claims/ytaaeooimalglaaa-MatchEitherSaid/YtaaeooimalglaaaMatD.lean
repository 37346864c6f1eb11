/-
  Layer 18 as it landed: Phrase. Over the program's own text.
-/
import Derived.Test.YtaaeooimalglaaaMatC
import Derived.Test.YtaaeooimalglaaaOwnSet
namespace Go.Proofs.Ytaaeooimalglaaa
open Go.RowKit

theorem own_keep_set {w : World} {base : Nat} {e t : TypeId} {size n : Nat} {v u : Value} {xs : List Value} {g i : Nat} {cs : Array Value} {fr : Nat × Nat} (h : w.ownsRow base e size v n xs) (hg : w.heap[g]? = some (.cells cs t fr)) (hne : e ≠ t) : (w.setCell ⟨g, i, none⟩ u).ownsRow base e size v n xs := by
  obtain ⟨h0, ⟨h1, h2⟩ | ⟨g', cap', cur, k1, k2, k3, k4, k5, k6, k7⟩⟩ := h
  · exact ⟨h0, .inl ⟨h1, h2⟩⟩
  · refine ⟨h0, .inr ⟨g', cap', cur, k1, k2, ?_, k4, k5, k6, k7⟩⟩
    have : g' ≠ g := by
      rintro rfl
      rw [k3] at hg
      injection hg with hg
      injection hg with _ hg _
      exact hne hg
    rw [Below.heap_setCell _ _ _ _ (by exact this)]
    exact k3
theorem own_block {w : World} {base : Nat} {e : TypeId} {size n cap : Nat} {xs : List Value} {g : Nat} (h : w.ownsRow base e size (.slice (some ⟨g, 0, none⟩) n cap) n xs) : base ≤ g ∧ ∃ cs, w.heap[g]? = some (.cells cs e (0, 0)) := by
  obtain ⟨h0, ⟨h1, h2⟩ | ⟨g', cap', cur, k1, k2, k3, k4, k5, k6, k7⟩⟩ := h
  · cases h1
  · cases k1
    exact ⟨k2, _, k3⟩
theorem own_mono {w : World} {b b2 : Nat} {e : TypeId} {size n : Nat} {v : Value} {xs : List Value} (h : w.ownsRow b e size v n xs) (hb : b2 ≤ b) : w.ownsRow b2 e size v n xs := by
  obtain ⟨h0, ⟨h1, h2⟩ | ⟨g', cap', cur, k1, k2, k3⟩⟩ := h
  · exact ⟨h0, .inl ⟨h1, h2⟩⟩
  · exact ⟨h0, .inr ⟨g', cap', cur, k1, by omega, k3⟩⟩
def headP (d : Int) : List En → List Int
  | [] => []
  | e :: _ => if e.1 = d then e.2 else []
theorem Behind.head {l r : List En} {d : Int} (hr : RiseD l) (h : Behind l d r) : placesN l d = headP d (dropE r d) := by
  rw [Behind.places hr h]
  cases dropE r d <;> rfl
/-- What is left of the lists, ahead of a document; the first i begin with it. -/
def RestAll (W : World) (L : List (List En)) (d : Int) (i : Nat) (vs : List Value) : Prop := ∀ (j : Nat) (l : List En), L[j]? = some l → ∃ u r, vs[j]? = some u ∧ RdE W u r ∧ Behind l d r ∧ (j < i → ∃ e q, r = e :: q ∧ e.1 = d)
theorem RestAll.mono {W : World} {L : List (List En)} {d d' : Int} {i : Nat} {vs : List Value} (h : RestAll W L d i vs) (hd : d ≤ d') : RestAll W L d' 0 vs := fun j l hj => by
  obtain ⟨u, r, h1, h2, h3, _⟩ := h j l hj
  exact ⟨u, r, h1, h2, h3.mono hd, fun h => absurd h (by omega)⟩
theorem RestAll.set {W : World} {L : List (List En)} {d : Int} {i : Nat} {vs : List Value} {l r : List En} {u : Value} {e : En} {q : List En} (h : RestAll W L d i vs) (hl : L[i]? = some l) (hi : i < vs.length) (h1 : RdE W u r) (h2 : Behind l d r) (h3 : r = e :: q) (h4 : e.1 = d) : RestAll W L d (i + 1) (vs.set i u) := fun j l' hj => by
  by_cases e1 : j = i
  · subst e1
    rw [hl] at hj
    injection hj with hj
    subst hj
    exact ⟨u, r, by rw [List.getElem?_set_self hi], h1, h2, fun _ => ⟨e, q, h3, h4⟩⟩
  · obtain ⟨u', r', k1, k2, k3, k4⟩ := h j l' hj
    exact ⟨u', r', by rw [List.getElem?_set_ne (by omega)]; exact k1, k2, k3, fun hj2 => k4 (by omega)⟩
theorem RestAll.set0 {W : World} {L : List (List En)} {d : Int} {i : Nat} {vs : List Value} {l r : List En} {u : Value} (h : RestAll W L d i vs) (hl : L[i]? = some l) (hi : i < vs.length) (h1 : RdE W u r) (h2 : Behind l d r) : RestAll W L d 0 (vs.set i u) := fun j l' hj => by
  by_cases e1 : j = i
  · subst e1
    rw [hl] at hj
    injection hj with hj
    subst hj
    exact ⟨u, r, by rw [List.getElem?_set_self hi], h1, h2, fun h => absurd h (by omega)⟩
  · obtain ⟨u', r', k1, k2, k3, k4⟩ := h j l' hj
    exact ⟨u', r', by rw [List.getElem?_set_ne (by omega)]; exact k1, k2, k3, fun h => absurd h (by omega)⟩
theorem RestAll.places {W w : World} {L : List (List En)} {d : Int} {vs : List Value} {g m cap : Nat} (h : RestAll W L d L.length vs) (hr : ∀ l ∈ L, RiseD l) (ho : w.ownsRow W.heap.size 42 1 (.slice (some ⟨g, 0, none⟩) m cap) m vs) (hb : Below W.heap.size W w) : ReadPs w (some ⟨g, 0, none⟩) (L.map (placesN · d)) := fun j P hj => by
  rw [List.getElem?_map] at hj
  obtain ⟨l, hl, rfl⟩ := Option.map_eq_some_iff.1 hj
  obtain ⟨u, r, h1, h2, h3, h4⟩ := h j l hl
  obtain ⟨e, q, rfl, he⟩ := h4 (List.getElem?_eq_some_iff.1 hl).1
  have hc := World.ownsRow.cells ho (g := g) rfl j u h1
  rw [Addr.add_lit] at hc
  refine ⟨g, 0, rfl, u, hc, e, q, h2.below hb, ?_⟩
  rw [Behind.places (hr l (List.mem_of_getElem? hl)) h3, show dropE (e :: q) d = e :: q by unfold dropE; rw [List.dropWhile_cons, if_neg (by simp; omega)]]
  show _ = if e.1 = d then e.2 else []
  rw [if_pos he]
theorem places_ok {T : List Tk} {L : List (List En)} (hl : T.length = L.length) (h0 : 0 < T.length) (h6 : T.length ≤ 1000000) (hT : anyBeyond T = false) (hL : ∀ l ∈ L, MayE l) (d : Int) : PlacesOk T (L.map (placesN · d)) := by
  refine ⟨by rw [List.length_map]; exact hl, h0, h6, fun t ht => ?_, fun P hP => ?_⟩
  · have := List.any_eq_false.1 hT t ht
    have : ¬ beyondT t := by simpa using this
    unfold beyondT at this
    omega
  · obtain ⟨l, hl, rfl⟩ := List.mem_map.1 hP
    rcases places_or l d with h | ⟨e, he, _, h⟩
    · rw [h]; exact ⟨List.Pairwise.nil, by simp, by simp⟩
    · rw [h]
      have := may_mem (hL l hl) he
      exact ⟨up_rise this.2.2.2.2, by omega, okP_mem this.2.2.2.2⟩
theorem good_of {T : List Tk} {L : List (List En)} (h0 : 0 < T.length) (hl : T.length = L.length) (hT : anyBeyond T = false) : ¬ badT T L := by
  rintro (h | h | ⟨t, ht, hb⟩)
  · rw [h] at h0; simp at h0
  · exact h hl
  · have := List.any_eq_false.1 hT t ht
    exact this (decide_eq_true hb)
theorem bad_any {T : List Tk} {L : List (List En)} (h : anyBeyond T = true) : badT T L := by
  obtain ⟨t, ht, hb⟩ := List.any_eq_true.1 h
  exact .inr (.inr ⟨t, ht, of_decide_eq_true hb⟩)
theorem below_drew {w : World} : Below w.heap.size w w.drew := (Below.refl _ _).drew
/-- A document's own entry, boxed; the lists' rests; what was found. -/
structure PhW (W w : World) (T : List Tk) (L : List (List En)) (l0 : List En) (m g cap k : Nat) (s5 : Value) (vs : List Value) : Prop where
  low : Below W.heap.size W w
  row : w.ownsRow W.heap.size 42 1 (.slice (some ⟨g, 0, none⟩) m cap) m vs
  out : OwnFo w W.heap.size s5 (phraseF T L (l0.take k))
theorem PhW.after {W w w' : World} {T : List Tk} {L : List (List En)} {l0 : List En} {m g cap k : Nat} {s5 : Value} {vs : List Value} (h : PhW W w T L l0 m g cap k s5 vs) (hb : Below w.heap.size w w') : PhW W w' T L l0 m g cap k s5 vs :=
  ⟨low_more h.low hb, owned_below h.row hb, owned_below h.out hb⟩
theorem PhW.store {W w : World} {T : List Tk} {L : List (List En)} {l0 : List En} {m g cap k j : Nat} {s5 : Value} {vs : List Value} (h : PhW W w T L l0 m g cap k s5 vs) (hj : j < m) (u : Value) : PhW W (w.setCell ⟨g, j, none⟩ u) T L l0 m g cap k s5 (vs.set j u) := by
  obtain ⟨hg, cs, hh⟩ := own_block h.row
  exact ⟨h.low.setCell (p := ⟨g, j, none⟩) hg u, (own_set h.row (by omega) u).2.2, own_keep_set h.out hh (by decide)⟩
theorem phrase_many {T : List Tk} {L : List (List En)} {l0 : List En} {k : Nat} (hl : l0.length ≤ 64) : (phraseF T L (l0.take k)).length ≤ 64 := by
  have : ∀ l : List En, (phraseF T L l).length ≤ l.length := by
    intro l
    induction l with
    | nil => simp [phraseF]
    | cons e l ih =>
      have e1 : phraseF T L (e :: l) = oneF T L e ++ phraseF T L l := rfl
      rw [e1, List.length_append, List.length_cons]
      have : (oneF T L e).length ≤ 1 := by unfold oneF; split <;> simp
      omega
  have := this (l0.take k)
  rw [List.length_take] at this
  omega
theorem choose_nat {n : Nat} {p : Nat → Value → Prop} (h : ∀ i, i < n → ∃ x, p i x) : ∃ f : Nat → Value, ∀ i, i < n → p i (f i) := by
  classical
  refine ⟨fun i => if hi : i < n then Classical.choose (h i hi) else .nilIface, fun i hi => ?_⟩
  simp only [dif_pos hi]
  exact Classical.choose_spec (h i hi)
set_option maxRecDepth 100000 in
set_option maxHeartbeats 8000000 in
theorem phrase_any (W : World) (ta la : Option Addr) (tc lc m k : Nat) (T : List Tk) (L : List (List En)) (hT : ReadT W ta T) (hm : m = T.length) (hL : ReadEs W la L) (hk : k = L.length) (h6 : m ≤ 1000000) (h7 : k ≤ 1000000) (hMay : ∀ l ∈ L, MayE l) :
    Calls Try.prog 11 #[.slice ta m tc, .slice la k lc] W fun e w' => ∃ v, e = .returned v ∧ OwnFo w' W.heap.size v (phraseN T L) ∧ Below W.heap.size W w' := by
  by_cases h0 : m = 0
  · have HN := Lib.hid (phrase_bad (T := T) (L := L) (.inl (List.eq_nil_of_length_eq_zero (by omega))))
    subst h0
    clear hT hL hm hk hMay
    go_enter Try.func11, Try.ntmps11
    go_wp2_with fail
    go_step3
    go_wp2_with fail
    try rw [Exit.noGoto_ret]
    go_ret
    exact ⟨_, rfl, by rw [HN.out]; exact OwnFo.nil _ _, Below.refl _ _⟩
  have h0i : ¬ (m : Int) = 0 := by omega
  by_cases hmk : k ≠ m
  · have HN := Lib.hid (phrase_bad (T := T) (L := L) (.inr (.inl (by rw [← hm, ← hk]; exact Ne.symm hmk))))
    have hki : ¬ (k : Int) = (m : Int) := by omega
    clear hT hL hm hk hMay
    go_enter Try.func11, Try.ntmps11
    go_wp2_with fail
    go_step3
    go_wp2_with fail
    try rw [Exit.noGoto_ret]
    go_ret
    exact ⟨_, rfl, by rw [HN.out]; exact OwnFo.nil _ _, Below.refl _ _⟩
  obtain rfl : k = m := Classical.byContradiction hmk
  have HCo := Lib.hid (contains_any W ta tc k T hT hm h6)
  cases hB : anyBeyond T with
  | true =>
    have HN := Lib.hid (phrase_bad (T := T) (L := L) (bad_any hB))
    rw [hB] at HCo
    clear hT hL hm hk hMay hB
    go_enter Try.func11, Try.ntmps11
    go_wp2_with fail
    go_step3
    go_wp2_with fail
    refine HCo.out.mono ?_
    rintro e w1 ⟨rfl, hb1⟩
    go_wp2_with fail
    try rw [Exit.noGoto_ret]
    go_ret
    exact ⟨_, rfl, by rw [HN.out]; exact OwnFo.nil _ _, hb1⟩
  | false =>
    rw [hB] at HCo
    have HGood := Lib.hid (phrase_good (good_of (L := L) (by omega) (by omega) hB))
    obtain ⟨l0, hl0⟩ : ∃ l0, L[0]? = some l0 := ⟨_, List.getElem?_eq_getElem (by omega)⟩
    have hhd : L.headD [] = l0 := by cases L with | nil => simp at hl0 | cons a L => simp at hl0; subst hl0; rfl
    rw [hhd] at HGood
    obtain ⟨g0, o0, rfl, p0, hp0, ea, ec, rfl, hea1, hea2, _, hre⟩ := hL 0 l0 hl0
    have hmay0 := hMay l0 (List.mem_of_getElem? hl0)
    obtain ⟨n, hn⟩ : ∃ n, n = l0.length := ⟨_, rfl⟩
    have hn64 : n ≤ 64 := by have := hmay0.1; omega
    -- the rows as values
    obtain ⟨vs, hvl, hvr⟩ : ∃ vs : List Value, vs.length = k ∧ ∀ (j : Nat) l, L[j]? = some l → ∃ u, vs[j]? = some u ∧ RdE W u l ∧ W.cell? ⟨g0, o0 + j, none⟩ = some u := by
      have hex : ∀ j, j < L.length → ∃ u : Value, ∀ l, L[j]? = some l → RdE W u l ∧ W.cell? ⟨g0, o0 + j, none⟩ = some u := fun j hj => by
        obtain ⟨g', o', he, u, h1, h2⟩ := hL j _ (List.getElem?_eq_getElem hj)
        injection he with he
        injection he with he he'
        subst he he'
        refine ⟨u, fun l hl => ?_⟩
        rw [List.getElem?_eq_getElem hj] at hl
        injection hl with hl
        subst hl
        exact ⟨h2, h1⟩
      obtain ⟨V, hV⟩ := choose_nat hex
      refine ⟨(List.range k).map V, by simp, fun j l hj => ⟨V j, ?_, (hV j (List.getElem?_eq_some_iff.1 hj).1) l hj⟩⟩
      rw [List.getElem?_map, List.getElem?_range (by rw [hk]; exact (List.getElem?_eq_some_iff.1 hj).1)]
      rfl
    have hcl : ∀ j u, vs[j]? = some u → W.cell? ⟨g0, o0 + j, none⟩ = some u := fun j u hj => by
      obtain ⟨u', h1, _, h2⟩ := hvr j _ (List.getElem?_eq_getElem (show j < L.length by rw [← hk, ← hvl]; exact (List.getElem?_eq_some_iff.1 hj).1))
      rw [hj] at h1
      injection h1 with h1
      subst h1
      exact h2
    have hone : ∀ u ∈ vs, u.oneCell' = true := fun u hu => by
      obtain ⟨j, hj, rfl⟩ := List.getElem_of_mem hu
      obtain ⟨u', h1, ⟨pa, c, h2, _⟩, _⟩ := hvr j _ (List.getElem?_eq_getElem (show j < L.length by rw [← hk, ← hvl]; exact hj))
      rw [List.getElem?_eq_getElem hj] at h1
      injection h1 with h1
      rw [h1, h2]
      rfl
    have hra : RestAll W L (-1) 0 vs := fun j l hj => by
      obtain ⟨u, h1, h2, _⟩ := hvr j l hj
      exact ⟨u, l, h1, h2, Behind.refl _ _, fun h => absurd h (by omega)⟩
    have HCl := Lib.hid (fun (wx : World) (hb : Below W.heap.size W wx) => clone_any wx g0 o0 lc k vs hvl (by omega) h6 (fun j u hj => below_cell (hcl j u hj) hb) hone)
    have HRA := Lib.hid hra
    have HE0 := Lib.hid hre
    have HT := Lib.hid hT
    have HK := Lib.hid (show k = T.length ∧ k = L.length ∧ vs.length = k ∧ n = l0.length from ⟨hm, hk, hvl, hn⟩)
    have HMay := Lib.hid hMay
    have HOk := Lib.hid (fun d => places_ok (T := T) (L := L) (by omega) (by omega) (by omega) hB hMay d)
    have HR0 := Lib.hid (And.intro (may_rise hmay0) (And.intro (fun e he => may_mem hmay0 (e := e) he) hmay0.1))
    rw [Nat.add_zero] at hp0
    rw [← hn] at hp0 hea1
    have hk0 : (0 : Int) < (k : Int) := by omega
    clear hT hm hL hk hMay hB hl0 hhd hre hmay0 hn hvl hvr hcl hone hra hea1 hea2 hmk
    go_enter Try.func11, Try.ntmps11
    go_wp2_with fail
    go_step3
    go_wp2_with fail
    refine HCo.out.mono ?_
    rintro e w1 ⟨rfl, hb1⟩
    have HB1 := Lib.hid hb1
    have c0 := below_cell hp0 hb1
    clear hb1 HCo hp0
    go_wp2_with fail
    refine (HCl.out w1 HB1.out).mono ?_
    rintro e w2 ⟨rv, rfl, hown, hb2⟩
    obtain ⟨g, cap, rfl⟩ : ∃ g cap, rv = .slice (some ⟨g, 0, none⟩) k cap := by
      rcases hown.2 with ⟨rfl, h⟩ | ⟨g, cap, cur, rfl, _⟩
      · exact absurd h (by omega)
      · exact ⟨g, cap, rfl⟩
    have HB2 := Lib.hid (low_more HB1.out hb2)
    have c1 := below_cell c0 hb2
    have HP := Lib.hid (show PhW W w2 T L l0 k g cap 0 (.slice none 0 0) vs from ⟨HB2.out, own_mono hown HB1.out.size, OwnFo.nil _ _⟩)
    clear c0 hb2 hown HCl
    go_wp2_with fail
    go_step3
    go_wp2_with fail
    clear c1
    go_loopg [5, 31] n (fun gg s5 s31 wr => ∃ (i : Nat) (d : Int) (vs : List Value) (v5 : Value), i + gg = n ∧ s31 = .int .i64 (i : Int) ∧ v5 = s5 ∧ Hid (PhW W wr T L l0 k g cap i v5 vs) ∧ Hid (RestAll W L d 0 vs ∧ vs.length = k ∧ ∀ j e, i ≤ j → l0[j]? = some e → d ≤ e.1))
    case atStart => exact ⟨0, -1, vs, _, by omega, rfl, rfl, HP, Lib.hid ⟨HRA.out, HK.out.2.2.1, fun j e _ he => by have := HR0.out.2.1 e (List.mem_of_getElem? he); omega⟩⟩
    case round =>
      clear HP HRA HB2 HB1
      obtain ⟨i, d, vs2, v5, hig, rfl, rfl, HP, HA⟩ := hrel
      cases gk with
      | zero =>
        have hin : n = i := by omega
        subst hin
        have HFin := Lib.hid (show phraseN T L = phraseF T L (l0.take n) by rw [HGood.out, List.take_of_length_le (by rw [← HK.out.2.2.2]; exact Nat.le_refl _)])
        go_wp2_with fail
        try rw [Exit.noGoto_ret]
        go_ret
        exact ⟨_, rfl, by rw [HFin.out]; exact HP.out.out, HP.out.low⟩
      | succ gg =>
        have hlt : i < n := by omega
        obtain ⟨e, he⟩ : ∃ e, l0[i]? = some e := ⟨_, List.getElem?_eq_getElem (by rw [← HK.out.2.2.2]; exact hlt)⟩
        obtain ⟨ge, oe, hge, k0, pe, k1, hpe⟩ := HE0.out i e he
        subst hge
        have c0 := below_cell k0 HP.out.low
        have c1 := below_cell k1 HP.out.low
        have hlti : (i : Int) < (n : Int) := by omega
        obtain ⟨d', hd'⟩ : ∃ d', d' = e.1 := ⟨_, rfl⟩
        rw [← hd'] at c0
        have HD := Lib.hid (show l0[i]? = some e ∧ d' = e.1 ∧ ∀ j x, i + 1 ≤ j → l0[j]? = some x → d' ≤ x.1 from ⟨he, hd', fun j x hj hx => by
          have := HR0.out.1
          unfold RiseD at this
          rw [List.pairwise_iff_getElem] at this
          obtain ⟨q1, q2⟩ := List.getElem?_eq_some_iff.1 he
          obtain ⟨q3, q4⟩ := List.getElem?_eq_some_iff.1 hx
          have := this i j q1 q3 (by omega)
          rw [q2, q4] at this
          omega⟩)
        have HA2 := Lib.hid (show RestAll W L d' 0 vs2 ∧ vs2.length = k from ⟨HA.out.1.mono (by rw [hd']; exact HA.out.2.2 i e (Nat.le_refl _) he), HA.out.2.1⟩)
        obtain ⟨pa, pc, rfl, _⟩ := hpe
        obtain ⟨pn, hpn⟩ : ∃ pn, pn = e.2.length := ⟨_, rfl⟩
        rw [← hpn] at c1
        clear k0 k1 HA hd' hpn he
        obtain ⟨X, hX⟩ : ∃ X : Obj, X = .cells #[.int .i64 d', .slice pa pn pc] 46 := ⟨_, rfl⟩
        go_upto_region 8 with fail
        rw [← hX]
        have hb2 : Below wr.heap.size wr (wr.alloc X) := below_one
        have hx : (wr.alloc X).heap[wr.heap.size]? = some (.cells #[.int .i64 d', .slice pa pn pc] 46 (0, 0)) := by rw [heap_alloc_new wr X, hX]
        have HP2 := Lib.hid (And.intro (HP.out.after hb2) hx)
        clear c0 c1 hb2 hx hX HP
        generalize wr.heap.size = bx at HP2 ⊢
        generalize wr.alloc X = w3 at HP2 ⊢
        clear wr X
        go_wp2_with fail
        go_loopg [37] k (fun g2 s37 wy => ∃ (j : Nat) (vs : List Value), j + g2 = k ∧ s37 = .int .i64 (j : Int) ∧ Hid (PhW W wy T L l0 k g cap i v5 vs ∧ wy.heap[bx]? = some (.cells #[.int .i64 d', .slice pa pn pc] 46 (0, 0))) ∧ Hid (RestAll W L d' j vs ∧ vs.length = k))
        case atStart => exact ⟨0, vs2, by omega, rfl, HP2, HA2⟩
        case round =>
          clear HP2 HA2
          obtain ⟨j, vs3, hjg, rfl, HP, HA⟩ := hrel
          cases gk with
          | zero =>
            have hjk : k = j := by omega
            subst hjk
            have HTi := Lib.hid (show Calls Try.prog 22 #[.slice ta k tc, .slice (some ⟨g, 0, none⟩) k cap] wr fun e w' => e = .returned (.int .i64 ((timesN T L d' : Nat) : Int)) ∧ Below wr.heap.size wr w' from
              times_any wr ta (some ⟨g, 0, none⟩) tc cap k T _ (HT.out.below HP.out.1.low) HK.out.1 (RestAll.places (by rw [← HK.out.2.1]; exact HA.out.1) (fun l hl => may_rise (HMay.out l hl)) HP.out.1.row HP.out.1.low) (HOk.out d'))
            have HR5 := Lib.hid (HA.out.1.mono (Int.le_refl _))
            have HAl := Lib.hid HA.out.2
            have hpl := phrase_many (T := T) (L := L) (k := i) HR0.out.2.2
            clear HA
            go_wp2_with fail
            refine HTi.out.mono ?_
            rintro e5 w4 ⟨rfl, hb4⟩
            have HP4 := Lib.hid (And.intro (HP.out.1.after hb4) (blk_keep HP.out.2 hb4))
            clear hb4 HP HTi
            have b1 := cell_at HP4.out.2 0
            simp only [List.getElem?_toArray, List.getElem?_cons_zero] at b1
            by_cases hz : timesN T L d' = 0
            · have HOne := Lib.hid (show phraseF T L (l0.take (i + 1)) = phraseF T L (l0.take i) by
                rw [phraseF_take HD.out.1]
                unfold oneF
                rw [← HD.out.2.1, hz]
                simp)
              rw [hz]
              clear hz b1
              go_wp2_with fail
              go_roundg gg
              case measure => omega
              case rel => exact ⟨i + 1, d', _, v5, by omega, by go_num, rfl, Lib.hid ⟨HP4.out.1.low, HP4.out.1.row, by rw [HOne.out]; exact HP4.out.1.out⟩, Lib.hid ⟨HR5.out, HAl.out, HD.out.2.2⟩⟩
            · obtain ⟨tn, htn⟩ : ∃ tn, tn = timesN T L d' := ⟨_, rfl⟩
              rw [← htn] at hz ⊢
              have HOne := Lib.hid (show phraseF T L (l0.take (i + 1)) = phraseF T L (l0.take i) ++ [(d', (tn : Int))] by
                rw [phraseF_take HD.out.1]
                unfold oneF
                rw [← HD.out.2.1, ← htn, if_pos (by omega)])
              have htp : (0 : Int) < (tn : Int) := by omega
              obtain ⟨i0, hi0, hz0, hz1, hz2⟩ := info_parts info_fo
              have HI := Lib.hid (And.intro hi0 (And.intro hz0 (And.intro hz1 hz2)))
              clear hi0 hz0 hz1 hz2 hz htn
              go_wp2_with (at_builtin; refine wpList_append_own _ rfl (.tmp 74) (.tmp 79) 27 rfl W.heap.size 44 i0 _ 2 16 Try.underlying27 HI.out.1 HI.out.2.1 HI.out.2.2.1 HI.out.2.2.2 rfl (by decide) _ (phraseF T L (l0.take i)).length (fosC (phraseF T L (l0.take i))) rfl (World.ownsRow.alloc HP4.out.1.out _) ⟨_, 0, none⟩ 1 1 [.int .i64 d', .int .i64 (tn : Int)] rfl rfl two_vals (by simp [Value.oneCell']) (by unfold maxLen; omega) (by omega) (by have := HP4.out.1.low.size; simp; omega) ?_; intro v' w8 ho hg _; have HP8 := Lib.hid (And.intro (OwnFo.more (x := (d', (tn : Int))) HP4.out.1.low.size HP4.out.1.low HP4.out.1.out ho hg) (row_grown (World.ownsRow.alloc HP4.out.1.out _) hg (World.ownsRow.alloc HP4.out.1.row _) (by decide))); clear ho hg)
              go_roundg gg
              case measure => omega
              case rel => exact ⟨i + 1, d', _, v', by omega, by go_num, rfl, Lib.hid ⟨HP8.out.1.2, HP8.out.2, by rw [HOne.out]; exact HP8.out.1.1⟩, Lib.hid ⟨HR5.out, HAl.out, HD.out.2.2⟩⟩
          | succ g2 =>
            have hltj : j < k := by omega
            obtain ⟨l, hl⟩ : ∃ l, L[j]? = some l := ⟨_, List.getElem?_eq_getElem (by rw [← HK.out.2.1]; exact hltj)⟩
            obtain ⟨u, r, hu, hr, hbh, _⟩ := HA.out.1 j l hl
            have c0 := World.ownsRow.cells HP.out.1.row (g := g) rfl j u hu
            rw [Addr.add_lit, Nat.zero_add] at c0
            have f0 := (own_set HP.out.1.row (i := j) (by omega) u).2.1
            have hbx := HP.out.2
            have hltji : (j : Int) < (k : Int) := by omega
            have HFr := Lib.hid (from_any wr.drew u r d' (hr.below HP.out.1.low.drew))
            have HL := Lib.hid (show L[j]? = some l ∧ RdE W (fromV r d' u) (dropE r d') ∧ Behind l d' (dropE r d') from ⟨hl, from_rd hr, hbh.drop⟩)
            obtain ⟨u2, hu2⟩ : ∃ u2, u2 = fromV r d' u := ⟨_, rfl⟩
            obtain ⟨r2, hr2⟩ : ∃ r2, r2 = dropE r d' := ⟨_, rfl⟩
            rw [← hu2] at HFr
            rw [← hu2, ← hr2] at HL
            have HPl := Lib.hid (show placesN l d' = headP d' r2 by rw [hr2]; exact Behind.head (may_rise (HMay.out l (List.mem_of_getElem? hl))) hbh)
            obtain ⟨pa2, c2, hu3, n2, hn2⟩ : ∃ pa2 c2, u2 = .slice pa2 r2.length c2 ∧ ∃ n2, n2 = r2.length := by
              obtain ⟨pa2, c2, h, _⟩ := HL.out.2.1
              exact ⟨pa2, c2, h, _, rfl⟩
            rw [← hn2] at hu3
            subst hu3
            have HN2 := Lib.hid hn2
            clear hl hu hr hbh hu2 hr2 hn2
            have b0 := cell_at hbx 0
            simp only [List.getElem?_toArray, List.getElem?_cons_zero] at b0
            clear hbx
            go_upto_region 11 with fail
            refine wp_region_still_tail 10 (by kernel_rfl) (by kernel_rfl) ?_
            simp only [List.take_succ_cons, List.take_zero, List.drop_succ_cons, List.drop_zero]
            repeat still_step
            still_call (HFr.out)
            repeat still_step
            refine wpStill_nil ?_
            change wpList _ _ _ _ _ (World.drew _)
            go_upto_region 12 with fail
            obtain ⟨uu, huu⟩ : ∃ uu : Value, uu = .slice pa2 n2 c2 := ⟨_, rfl⟩
            rw [← huu]
            have HP5 := Lib.hid (show PhW W (wr.setCell ⟨g, j, none⟩ uu).drew T L l0 k g cap i v5 (vs3.set j uu) ∧ (wr.setCell ⟨g, j, none⟩ uu).drew.heap[bx]? = some (.cells #[.int .i64 d', .slice pa pn pc] 46 (0, 0)) from ⟨(HP.out.1.store hltj uu).after below_drew, by
              obtain ⟨hg, cs, hh⟩ := own_block HP.out.1.row
              show (wr.setCell ⟨g, j, none⟩ uu).heap[bx]? = _
              rw [Below.heap_setCell _ _ _ _ (by
                rintro rfl
                rw [HP.out.2] at hh
                injection hh with hh
                injection hh with _ hh _
                revert hh
                decide)]
              exact HP.out.2⟩)
            have HA5 := Lib.hid (show vs3.length = k ∧ (vs3.set j uu).length = k from ⟨HA.out.2, by rw [List.length_set]; exact HA.out.2⟩)
            have d0 := World.ownsRow.cells HP5.out.1.row (g := g) rfl j uu (List.getElem?_set_self (by rw [HA.out.2]; exact hltj))
            rw [Addr.add_lit, Nat.zero_add] at d0
            have b1 := cell_at HP5.out.2 0
            simp only [List.getElem?_toArray, List.getElem?_cons_zero] at b1
            rw [← huu] at HL
            clear c0 f0 b0 HP HFr
            generalize (wr.setCell ⟨g, j, none⟩ uu).drew = w5 at HP5 d0 b1 ⊢
            rw [huu] at d0
            clear wr
            cases r2 with
            | nil =>
              have h0n : n2 = 0 := HN2.out
              subst h0n
              have hz : timesN T L d' = 0 := times_none (i := j) (by rw [List.length_map, ← HK.out.1, HK.out.2.1]) (by rw [List.getElem?_map, HL.out.1]; show some (placesN l d') = _; rw [HPl.out]; rfl)
              have HOne := Lib.hid (show phraseF T L (l0.take (i + 1)) = phraseF T L (l0.take i) by
                rw [phraseF_take HD.out.1]
                unfold oneF
                rw [← HD.out.2.1, hz]
                simp)
              have HR5 := Lib.hid (HA.out.1.set0 HL.out.1 (by rw [HA.out.2]; exact hltj) HL.out.2.1 HL.out.2.2)
              clear hz
              go_quiet (fail)
              rename Nat => m1
              have HP6 := Lib.hid (HP5.out.1.after (below_drawn (Below.refl _ _) m1))
              clear d0 b1 HP5 HA HL HPl HN2 huu
              go_wp2_with fail
              go_roundg gg
              case measure => omega
              case rel => exact ⟨i + 1, d', _, v5, by omega, by go_num, rfl, Lib.hid ⟨HP6.out.low, HP6.out.row, by rw [HOne.out]; exact HP6.out.out⟩, Lib.hid ⟨HR5.out, HA5.out.2, HD.out.2.2⟩⟩
            | cons e2 q =>
              obtain ⟨ge2, oe2, hpa, k2⟩ : ∃ ge2 oe2, pa2 = some ⟨ge2, oe2, none⟩ ∧ W.cell? ⟨ge2, oe2, none⟩ = some (.int .i64 e2.1) := by
                obtain ⟨pa3, c3, h1, _, _, _, h2⟩ := HL.out.2.1
                rw [huu] at h1
                injection h1 with h1
                subst h1
                obtain ⟨ge2, oe2, h3, h4, _⟩ := h2 0 e2 rfl
                exact ⟨ge2, oe2, h3, by simpa using h4⟩
              subst hpa
              have k3 := below_cell k2 HP5.out.1.low
              have hn0 : ¬ (n2 : Int) = 0 := by rw [HN2.out]; simp; omega
              have hn1 : (0 : Int) < (n2 : Int) := by omega
              have hn2 : ¬ n2 = 0 := by omega
              have hn3 : 0 < n2 := by omega
              clear k2
              by_cases hed : e2.1 = d'
              · have HR5 := Lib.hid (HA.out.1.set HL.out.1 (by rw [HA.out.2]; exact hltj) HL.out.2.1 HL.out.2.2 rfl hed)
                rw [hed] at k3
                clear hed
                go_quiet (fail)
                rename Nat => m1
                have HP6 := Lib.hid (And.intro (HP5.out.1.after (below_drawn (Below.refl _ _) m1)) HP5.out.2)
                clear d0 b1 HP5 HA HL HPl HN2 huu k3
                go_wp2_with fail
                go_roundg g2
                case measure => omega
                case rel => exact ⟨j + 1, _, by omega, by go_num, HP6, Lib.hid ⟨HR5.out, HA5.out.2⟩⟩
              · have hz : timesN T L d' = 0 := times_none (i := j) (by rw [List.length_map, ← HK.out.1, HK.out.2.1]) (by rw [List.getElem?_map, HL.out.1]; show some (placesN l d') = _; rw [HPl.out]; show some (if e2.1 = d' then e2.2 else []) = _; rw [if_neg hed])
                have HOne := Lib.hid (show phraseF T L (l0.take (i + 1)) = phraseF T L (l0.take i) by
                  rw [phraseF_take HD.out.1]
                  unfold oneF
                  rw [← HD.out.2.1, hz]
                  simp)
                have HR5 := Lib.hid (HA.out.1.set0 HL.out.1 (by rw [HA.out.2]; exact hltj) HL.out.2.1 HL.out.2.2)
                obtain ⟨x2, hx2⟩ : ∃ x2, x2 = e2.1 := ⟨_, rfl⟩
                rw [← hx2] at k3 hed
                have hbn : (x2 == d') = false := beq_eq_false_iff_ne.2 hed
                have hbn2 : (x2 != d') = true := by rw [bne, hbn]; rfl
                clear hz hx2
                go_quiet (fail)
                rename Nat => m1
                have HP6 := Lib.hid (HP5.out.1.after (below_drawn (Below.refl _ _) m1))
                clear d0 b1 HP5 HA HL HPl HN2 huu k3
                go_wp2_with fail
                go_roundg gg
                case measure => omega
                case rel => exact ⟨i + 1, d', _, v5, by omega, by go_num, rfl, Lib.hid ⟨HP6.out.low, HP6.out.row, by rw [HOne.out]; exact HP6.out.out⟩, Lib.hid ⟨HR5.out, HA5.out.2, HD.out.2.2⟩⟩
end Go.Proofs.Ytaaeooimalglaaa
