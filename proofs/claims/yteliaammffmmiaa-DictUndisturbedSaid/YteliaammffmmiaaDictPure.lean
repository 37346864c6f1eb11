/-
  Keys in slots: what a Find comes to, whatever is put between its Steps; what a Put adds; what a Read reads. Without the program's text.
-/
import Derived.Test.YteliaammffmmiaaAccRely
import Derived.Test.YteliaammffmmiaaPackPure
import Derived.Test.YteliaammffmmiaaPoolH
namespace Go.Proofs.Yteliaammffmmiaa
open Go.RowKit

/-! ### Slots -/
def slotOf (n h t : Nat) : Nat := (h + t) % n
theorem slotOf_lt {n : Nat} (hn : 0 < n) (h t : Nat) : slotOf n h t < n := Nat.mod_lt _ hn
theorem slotOf_eq {n h t : Nat} (ht : t < n) : slotOf n h t = if h % n + t < n then h % n + t else h % n + t - n := by
  have hn : 0 < n := by omega
  have h1 := Nat.mod_lt h hn
  unfold slotOf
  rw [Nat.add_mod, Nat.mod_eq_of_lt ht]
  split
  · rw [Nat.mod_eq_of_lt (by assumption)]
  · rw [Nat.mod_eq_sub_mod (by omega), Nat.mod_eq_of_lt (by omega)]
theorem slotOf_inj {n h t u : Nat} (ht : t < n) (hu : u < n) (e : slotOf n h t = slotOf n h u) : t = u := by
  have := Nat.mod_lt h (show 0 < n by omega)
  rw [slotOf_eq ht, slotOf_eq hu] at e
  split at e <;> split at e <;> omega

/-- What lies in each slot: a record's address, its key. -/
abbrev Dict := Nat → Option (Int × List Nat)
def Dict.Le (d d' : Dict) : Prop := ∀ i x, d i = some x → d' i = some x
theorem Dict.Le.refl (d : Dict) : d.Le d := fun _ _ h => h
theorem Dict.Le.trans {a b c : Dict} (h : a.Le b) (k : b.Le c) : a.Le c := fun i x hi => k i x (h i x hi)
def Dict.put (d : Dict) (i : Nat) (x : Int × List Nat) (j : Nat) : Option (Int × List Nat) := if j = i then some x else d j
/-- A record of a key. -/
structure RecAt (cs : List Int) (a : Int) (k : List Nat) : Prop where
  len : cs.getD (a + 1).toNat 0 = (k.length : Int)
  cells : ∀ j x : Nat, (cellsN k)[j]? = some x → cs.getD (a + 2 + (j : Int)).toNat 0 = (x : Int)
/-- Up to the t-th slot of its row there are others' records. -/
def Passed (n : Nat) (d : Dict) (k : List Nat) (t : Nat) : Prop := ∀ u, u < t → ∃ b k', d (slotOf n (hashN k) u) = some (b, k') ∧ k' ≠ k
/-- The memory holds a dictionary: n slots from s on, records between lo and hi. -/
structure DictAt (n : Nat) (s lo hi : Int) (d : Dict) (cs : List Int) : Prop where
  n0 : 0 < n
  lo0 : 3 ≤ lo
  lohi : lo ≤ hi
  his : hi ≤ s
  len : s + (n : Int) ≤ cs.length
  slot : ∀ i, i < n → cs.getD (s + (i : Int)).toNat 0 = match d i with | none => 0 | some x => x.1
  rec_ : ∀ i a k, d i = some (a, k) → lo ≤ a ∧ a + 2 + ((cellsN k).length : Int) ≤ hi ∧ RecAt cs a k ∧ (∀ x ∈ k, x < 256) ∧ k.length ≤ 100
  probe : ∀ i a k, d i = some (a, k) → ∃ t, t < n ∧ i = slotOf n (hashN k) t ∧ Passed n d k t
/-- What a Find answers in a state. -/
def Good (n : Nat) (k : List Nat) (d : Dict) (x : Int × Int) : Prop :=
  (∃ t, t < n ∧ x.2 = (slotOf n (hashN k) t : Nat) ∧ Passed n d k t ∧ ((d (slotOf n (hashN k) t) = none ∧ x.1 = 0) ∨ d (slotOf n (hashN k) t) = some (x.1, k))) ∨ (x.1 = 0 ∧ x.2 = -1 ∧ Passed n d k n)
/-- A key's record. -/
def Has (d : Dict) (k : List Nat) (a : Int) : Prop := ∃ i, d i = some (a, k)
section
variable {n : Nat} {s lo hi : Int} {d d' : Dict} {cs : List Int} {k : List Nat}
theorem DictAt.pos (h : DictAt n s lo hi d cs) {a : Int} (ha : Has d k a) : 3 ≤ a := by
  obtain ⟨i, hi⟩ := ha
  have := (h.rec_ i a k hi).1
  have := h.lo0
  omega
theorem Passed.le {t : Nat} (h : Passed n d k t) (hl : d.Le d') : Passed n d' k t := fun u hu => by
  obtain ⟨b, k', h1, h2⟩ := h u hu
  exact ⟨b, k', hl _ _ h1, h2⟩
/-- Where a key is, only it is. -/
theorem DictAt.only (h : DictAt n s lo hi d cs) {i j : Nat} {a b : Int} (hi : d i = some (a, k)) (hj : d j = some (b, k)) : i = j := by
  obtain ⟨t, ht, rfl, hp⟩ := h.probe i a k hi
  obtain ⟨u, hu, rfl, hq⟩ := h.probe j b k hj
  rcases Nat.lt_trichotomy t u with e | e | e
  · obtain ⟨c, k', h1, h2⟩ := hq t e
    rw [hi] at h1
    cases h1
    exact absurd rfl h2
  · rw [e]
  · obtain ⟨c, k', h1, h2⟩ := hp u e
    rw [hj] at h1
    cases h1
    exact absurd rfl h2
theorem DictAt.has_eq (h : DictAt n s lo hi d cs) {a b : Int} (ha : Has d k a) (hb : Has d k b) : a = b := by
  obtain ⟨i, hi⟩ := ha
  obtain ⟨j, hj⟩ := hb
  have := h.only hi hj
  subst this
  rw [hi] at hj
  cases hj
  rfl
theorem Has.le {a : Int} (h : Has d k a) (hl : d.Le d') : Has d' k a := by
  obtain ⟨i, hi⟩ := h
  exact ⟨i, hl _ _ hi⟩
/-- A Find's answer is the key's record; or it has none. -/
theorem Good.spec (h : DictAt n s lo hi d cs) {x : Int × Int} (hg : Good n k d x) : (Has d k x.1 ∧ x.1 ≠ 0) ∨ (x.1 = 0 ∧ ∀ a, ¬ Has d k a) := by
  have none_of : ∀ t, t ≤ n → Passed n d k t → (t < n → d (slotOf n (hashN k) t) = none) → ∀ a, ¬ Has d k a := by
    rintro t htn hp hnone a ⟨i, hi⟩
    obtain ⟨u, hu, rfl, hq⟩ := h.probe i a k hi
    rcases Nat.lt_trichotomy u t with e | e | e
    · obtain ⟨c, k', h1, h2⟩ := hp u e
      rw [hi] at h1
      cases h1
      exact absurd rfl h2
    · subst e
      rw [hnone hu] at hi
      cases hi
    · obtain ⟨c, k', h1, h2⟩ := hq t e
      rw [hnone (by omega)] at h1
      cases h1
  rcases hg with ⟨t, ht, _, hp, ⟨h1, h2⟩ | h1⟩ | ⟨h1, _, hp⟩
  · exact .inr ⟨h2, none_of t (by omega) hp fun _ => h1⟩
  · have hh : Has d k x.1 := ⟨_, h1⟩
    exact .inl ⟨hh, by have := h.pos hh; omega⟩
  · exact .inr ⟨h1, none_of n (Nat.le_refl _) hp fun h => by omega⟩
end

/-! ### Find -/
def cmpR {α : Type} (yes no : Pr α) : List Nat → Int → Pr α
  | [], _ => yes
  | c :: cs, x => .load x fun v => if v = (c : Int) then cmpR yes no cs (x + 1) else no
def fR (s : Int) (n : Nat) (k : List Nat) : Nat → Nat → Pr (Int × Int)
  | 0, _ => .ret (0, -1)
  | m + 1, t => .load (s + (slotOf n (hashN k) t : Nat)) fun a => if a = 0 then .ret (0, (slotOf n (hashN k) t : Nat)) else .load (a + 1) fun l => if l = ((k.length % 4294967296 : Nat) : Int) then cmpR (.ret (a, (slotOf n (hashN k) t : Nat))) (fR s n k m (t + 1)) (cellsN k) (a + 2) else fR s n k m (t + 1)
def findR (s n : Int) (k : List Nat) : Pr (Int × Int) := if n < 1 then .ret (0, -1) else fR s n.toNat k n.toNat 0
/-- What a Find that began at d0 answers in the state d. -/
def Found (n : Nat) (k : List Nat) (d0 d : Dict) (x : Int × Int) : Prop := ∃ d1, d0.Le d1 ∧ d1.Le d ∧ Good n k d1 x
/-- The states of one dictionary: its records lie up to some place. -/
def DIn (n : Nat) (s lo top : Int) (C : Nat) (d : Dict) (cs : List Int) : Prop := ∃ hi, hi ≤ top ∧ cs.length = C ∧ DictAt n s lo hi d cs
theorem Found.le {n : Nat} {k : List Nat} {d0 d d' : Dict} {x : Int × Int} (h : Found n k d0 d x) (hl : d.Le d') : Found n k d0 d' x := by
  obtain ⟨d1, h1, h2, h3⟩ := h
  exact ⟨d1, h1, h2.trans hl, h3⟩
section
variable {n : Nat} {s lo top : Int} {C : Nat} {k : List Nat} {d0 : Dict}
/-- A record's cells, one by one: those of the key's first ones are the same. -/
theorem cmp_rely (hk : ∀ x ∈ k, x < 256) {N : Nat} {yes no : Pr (Int × Int)} {i : Nat} {a : Int} {k' : List Nat} (hl : k'.length = k.length) : ∀ (l : List Nat) (j : Nat) (d : Dict), j + l.length = (cellsN k).length → (cellsN k).drop j = l → d0.Le d → d i = some (a, k') → (∀ m, m < j → (cellsN k')[m]? = (cellsN k)[m]?) →
    (∀ d', d.Le d' → k' = k → Rely (DIn n s lo top C) Dict.Le (Found n k d0) N d' yes) → (∀ d', d.Le d' → k' ≠ k → Rely (DIn n s lo top C) Dict.Le (Found n k d0) N d' no) → (∀ x ∈ k', x < 256) → Rely (DIn n s lo top C) Dict.Le (Found n k d0) (N + l.length) d (cmpR yes no l (a + 2 + (j : Int)))
  | [], j, d, hj, _, _, _, heq, hy, _, hk' => by
    refine hy d (Dict.Le.refl d) (pack_unlike hk' hk hl ?_)
    have hl2 : (cellsN k').length = (cellsN k).length := by rw [cellsN_length, cellsN_length, hl]
    refine List.ext_getElem? fun m => ?_
    by_cases hm : m < j
    · exact heq m hm
    · simp at hj
      rw [List.getElem?_eq_none (by omega), List.getElem?_eq_none (by omega)]
  | c :: l, j, d, hj, hd, h0, hi, heq, hy, hn, hk' => by
    have hl2 : (cellsN k').length = (cellsN k).length := by rw [cellsN_length, cellsN_length, hl]
    simp only [List.length_cons] at hj
    have hc : (cellsN k)[j]? = some c := by
      have := congrArg (fun q => q[0]?) hd
      simpa using this
    have hd2 : (cellsN k).drop (j + 1) = l := by
      rw [← List.drop_drop, hd]
      rfl
    obtain ⟨c', hc'⟩ : ∃ c', (cellsN k')[j]? = some c' := ⟨_, List.getElem?_eq_getElem (by omega)⟩
    show Rely _ _ _ ((N + l.length) + 1) d _
    refine .load2 fun d' cs hle hI => ?_
    obtain ⟨hi', htop, hlen, hD⟩ := hI
    obtain ⟨r1, r2, r3, r4, r5⟩ := hD.rec_ i a k' (hle _ _ hi)
    have hlo := hD.lo0
    have hhis := hD.his
    have hln := hD.len
    have hn0 := hD.n0
    refine ⟨⟨by omega, by omega⟩, ?_⟩
    rw [r3.cells j c' hc']
    by_cases he : c' = c
    · rw [if_pos (by omega)]
      have := cmp_rely hk (yes := yes) (no := no) hl l (j + 1) d' (by omega) hd2 (h0.trans hle) (hle _ _ hi) (fun m hm => by
        by_cases e : m = j
        · subst e; rw [hc', hc, he]
        · exact heq m (by omega)) (fun d2 h2 => hy d2 (hle.trans h2)) (fun d2 h2 => hn d2 (hle.trans h2)) hk'
      rw [show a + 2 + ((j + 1 : Nat) : Int) = a + 2 + (j : Int) + 1 by omega] at this
      exact this
    · rw [if_neg (by omega)]
      exact (hn d' hle (fun e => he (by rw [e, hc] at hc'; cases hc'; rfl))).more _ (by omega)
theorem f_rely (hk : ∀ x ∈ k, x < 256) (hkl : k.length < 4294967296) (hn : 0 < n) : ∀ (m t : Nat) (d : Dict), t + m = n → d0.Le d → Passed n d k t → Rely (DIn n s lo top C) Dict.Le (Found n k d0) (m * 27) d (fR s n k m t)
  | 0, t, d, ht, h0, hp => by
    obtain rfl : t = n := by omega
    exact .ret ⟨d, h0, Dict.Le.refl d, .inr ⟨rfl, rfl, hp⟩⟩
  | m + 1, t, d, ht, h0, hp => by
    rw [show (m + 1) * 27 = (m * 27 + 26) + 1 by omega]
    unfold fR
    refine .load2 fun d1 cs h1 hI => ?_
    obtain ⟨hi, htop, hlen, hD⟩ := hI
    have hsl := slotOf_lt hn (hashN k) t
    have hlo := hD.lo0
    have hhis := hD.his
    have hln := hD.len
    have hp1 := hp.le h1
    by_cases hs : 0 ≤ s
    · refine ⟨⟨by omega, by omega⟩, ?_⟩
      rw [hD.slot _ hsl]
      cases hdi : d1 (slotOf n (hashN k) t) with
      | none =>
        simp only
        rw [if_pos trivial]
        exact .ret ⟨d1, h0.trans h1, Dict.Le.refl d1, .inl ⟨t, by omega, rfl, hp1, .inl ⟨hdi, rfl⟩⟩⟩
      | some x =>
        obtain ⟨a, k'⟩ := x
        obtain ⟨r1, r2, r3, r4, r5⟩ := hD.rec_ _ a k' hdi
        simp only
        rw [if_neg (by omega)]
        rw [show m * 27 + 26 = (m * 27 + 25) + 1 by omega]
        refine .load2 fun d2 cs2 h2 hI2 => ?_
        obtain ⟨hi2, htop2, hlen2, hD2⟩ := hI2
        obtain ⟨q1, q2, q3, q4, q5⟩ := hD2.rec_ _ a k' (h2 _ _ hdi)
        have hhis2 := hD2.his
        have hln2 := hD2.len
        refine ⟨⟨by omega, by omega⟩, ?_⟩
        rw [q3.len]
        by_cases he : k'.length = k.length
        · rw [if_pos (by omega)]
          have := cmp_rely (lo := lo) (top := top) (C := C) (s := s) (d0 := d0) (n := n) (N := m * 27) (yes := .ret (a, (slotOf n (hashN k) t : Nat))) (no := fR s n k m (t + 1)) hk he (cellsN k) 0 d2 (by omega) rfl ((h0.trans h1).trans h2) (h2 _ _ hdi) (fun _ h => by omega) (fun d3 h3 e => .ret ⟨d3, ((h0.trans h1).trans h2).trans h3, Dict.Le.refl d3, .inl ⟨t, by omega, rfl, (hp1.le h2).le h3, .inr (by have hx := h3 _ _ (h2 _ _ hdi); rw [e] at hx; exact hx)⟩⟩)
            (fun d3 h3 e => f_rely hk hkl hn m (t + 1) d3 (by omega) (((h0.trans h1).trans h2).trans h3) (fun u hu => by
              by_cases hut : u = t
              · subst hut; exact ⟨a, k', h3 _ _ (h2 _ _ hdi), e⟩
              · exact ((hp1.le h2).le h3) u (by omega))) q4
          rw [show a + 2 + ((0 : Nat) : Int) = a + 2 by omega] at this
          exact this.more _ (by have := cellsN_length k; omega)
        · rw [if_neg (by omega)]
          refine (f_rely hk hkl hn m (t + 1) d2 (by omega) ((h0.trans h1).trans h2) (fun u hu => ?_)).more _ (by omega)
          by_cases hut : u = t
          · subst hut; exact ⟨a, k', h2 _ _ hdi, fun e => he (by rw [e])⟩
          · exact (hp1.le h2) u (by omega)
    · exfalso
      have := hD.lohi
      omega
/-- A Find, whatever is put between its Steps. -/
theorem findR_rely (s lo top : Int) (C : Nat) (hk : ∀ x ∈ k, x < 256) (hkl : k.length < 4294967296) (hn : 0 < n) (d : Dict) : Rely (DIn n s lo top C) Dict.Le (Found n k d) (n * 27) d (findR s (n : Int) k) := by
  unfold findR
  rw [if_neg (by omega), Int.toNat_natCast]
  exact f_rely hk hkl hn n 0 d (by omega) (Dict.Le.refl d) fun u hu => by omega
end

/-! ### Put -/
def storesR {α : Type} (rest : Pr α) : List Nat → Int → Pr α
  | [], _ => rest
  | c :: l, x => .store x (c : Int) (storesR rest l (x + 1))
abbrev PutD := Int × (Nat → Int) × Int
def putDP (B S U : Nat → Int) (s slot : Int) (k : List Nat) : Pr PutD :=
  if 2 + ((cellsN k).length : Int) ≤ S 4 - U 4 then .store (B 4 + U 4 + 1) (k.length : Int) (storesR (.store (s + slot) (B 4 + U 4) (.ret (B 4 + U 4, more U 4 (2 + ((cellsN k).length : Int)), 0))) (cellsN k) (B 4 + U 4 + 2))
  else .ret (0, fun _ => 0, 3)
/-- A row of cells is turned. -/
def setL : List Int → Nat → List Nat → List Int
  | cs, _, [] => cs
  | cs, p, c :: l => setL (cs.set p (c : Int)) (p + 1) l
theorem setL_length : ∀ (l : List Nat) (cs : List Int) (p : Nat), (setL cs p l).length = cs.length
  | [], _, _ => rfl
  | c :: l, cs, p => by unfold setL; rw [setL_length l]; simp
theorem getD_setI (cs : List Int) (p q : Nat) (v : Int) : (cs.set p v).getD q 0 = if p = q ∧ p < cs.length then v else cs.getD q 0 := by
  rw [List.getD_eq_getElem?_getD, List.getElem?_set]
  by_cases h : p = q
  · subst h
    by_cases h2 : p < cs.length
    · simp [h2]
    · simp [h2, List.getD_eq_getElem?_getD]
  · simp [h, List.getD_eq_getElem?_getD]
theorem setL_out : ∀ (l : List Nat) (cs : List Int) (p q : Nat), q < p ∨ p + l.length ≤ q → (setL cs p l).getD q 0 = cs.getD q 0
  | [], _, _, _, _ => rfl
  | c :: l, cs, p, q, h => by
    simp only [List.length_cons] at h
    unfold setL
    rw [setL_out l _ _ _ (by omega), getD_setI, if_neg (by omega)]
theorem setL_in : ∀ (l : List Nat) (cs : List Int) (p j x : Nat), p + l.length ≤ cs.length → l[j]? = some x → (setL cs p l).getD (p + j) 0 = (x : Int)
  | [], _, _, _, _, _, h => by simp at h
  | c :: l, cs, p, j, x, hl, h => by
    simp only [List.length_cons] at hl
    unfold setL
    cases j with
    | zero =>
      simp at h
      subst h
      rw [setL_out l _ _ _ (by omega), getD_setI, if_pos (by omega)]
    | succ j =>
      simp at h
      rw [show p + (j + 1) = (p + 1) + j by omega]
      exact setL_in l _ _ j x (by simp; omega) h
theorem stores_does {α : Type} {rest : Pr α} {x : α} {cs' : List Int} {n : Nat} : ∀ (l : List Nat) (cs : List Int) (p : Nat), (∀ c ∈ l, c < 4294967296) → p + l.length ≤ cs.length → Does rest (setL cs p l) n x cs' → Does (storesR rest l (p : Int)) cs (n + l.length) x cs'
  | [], _, _, _, _, h => h
  | c :: l, cs, p, hc, hl, h => by
    simp only [List.length_cons] at hl
    unfold setL at h
    have := stores_does l (cs.set p (c : Int)) (p + 1) (fun y hy => hc y (by simp [hy])) (by simp; omega) h
    unfold storesR
    refine .store (by omega) (by omega) ?_
    rw [u32_in (v := (c : Int)) ⟨by omega, by have := hc c (by simp); omega⟩, Int.toNat_natCast]
    exact this
theorem cells_lt {k : List Nat} (hk : ∀ x ∈ k, x < 256) : ∀ c ∈ cellsN k, c < 4294967296 := by
  intro c hc
  obtain ⟨j, _, rfl⟩ := List.mem_map.1 hc
  exact cellAt_lt hk j
theorem RecAt.of {cs cs' : List Int} {a : Int} {k : List Nat} (h : RecAt cs a k) (ha : 0 ≤ a) {top : Int} (ht : a + 2 + ((cellsN k).length : Int) ≤ top) (hs : ∀ q : Nat, (q : Int) < top → cs'.getD q 0 = cs.getD q 0) : RecAt cs' a k :=
  ⟨by rw [hs _ (by omega)]; exact h.len, fun j x hj => by
    have := (List.getElem?_eq_some_iff.1 hj).1
    rw [hs _ (by omega)]; exact h.cells j x hj⟩
/-- A key is put where a Find said. -/
theorem DictAt.put {n : Nat} {s : Int} {B S U : Nat → Int} {d : Dict} {cs : List Int} {k : List Nat} (h : DictAt n s (B 4) (B 4 + U 4) d cs) (hk : ∀ x ∈ k, x < 256) (hkl : k.length ≤ 100) (hs : B 4 + S 4 ≤ s) (hlen : cs.length ≤ 1000000) {t : Nat} (ht : t < n) (hp : Passed n d k t) (hd : d (slotOf n (hashN k) t) = none) (hf : 2 + ((cellsN k).length : Int) ≤ S 4 - U 4) :
    ∃ cs', Does (putDP B S U s ((slotOf n (hashN k) t : Nat) : Int) k) cs ((cellsN k).length + 2) (B 4 + U 4, more U 4 (2 + ((cellsN k).length : Int)), 0) cs' ∧ cs'.length = cs.length ∧ DictAt n s (B 4) (B 4 + more U 4 (2 + ((cellsN k).length : Int)) 4) (d.put (slotOf n (hashN k) t) (B 4 + U 4, k)) cs' ∧ d.Le (d.put (slotOf n (hashN k) t) (B 4 + U 4, k)) := by
  have hn := h.n0
  have hsl := slotOf_lt hn (hashN k) t
  have hln := h.len
  have hlo := h.lo0
  have hlh := h.lohi
  obtain ⟨i, hi⟩ : ∃ i, i = slotOf n (hashN k) t := ⟨_, rfl⟩
  obtain ⟨a, ha⟩ : ∃ a, a = B 4 + U 4 := ⟨_, rfl⟩
  obtain ⟨p, hpa⟩ : ∃ p : Nat, a = (p : Int) := ⟨a.toNat, by omega⟩
  obtain ⟨m, hm⟩ : ∃ m, m = (cellsN k).length := ⟨_, rfl⟩
  obtain ⟨z, hz⟩ : ∃ z : Nat, s = (z : Int) := ⟨s.toNat, by omega⟩
  have hmore : B 4 + more U 4 (2 + (m : Int)) 4 = a + 2 + (m : Int) := by unfold more; rw [if_pos rfl]; omega
  rw [← hi] at hd hsl ⊢
  rw [← ha] at h ⊢
  rw [← hm, hmore]
  rw [← hm] at hf
  have hle : d.Le (d.put i (a, k)) := by
    intro j x hj
    unfold Dict.put
    rw [if_neg (by rintro rfl; rw [hd] at hj; cases hj)]
    exact hj
  obtain ⟨cs1, h1⟩ : ∃ cs1, cs1 = cs.set (p + 1) (k.length : Int) := ⟨_, rfl⟩
  obtain ⟨cs2, h2⟩ : ∃ cs2, cs2 = setL cs1 (p + 2) (cellsN k) := ⟨_, rfl⟩
  obtain ⟨cs3, h3⟩ : ∃ cs3, cs3 = cs2.set (z + i) (p : Int) := ⟨_, rfl⟩
  have l1 : cs1.length = cs.length := by rw [h1]; simp
  have l2 : cs2.length = cs.length := by rw [h2, setL_length, l1]
  have l3 : cs3.length = cs.length := by rw [h3]; simp [l2]
  have g3 : ∀ q : Nat, cs3.getD q 0 = if z + i = q then (p : Int) else cs2.getD q 0 := by
    intro q
    rw [h3, getD_setI]
    by_cases e : z + i = q
    · rw [if_pos ⟨e, by omega⟩, if_pos e]
    · rw [if_neg (fun x => e x.1), if_neg e]
  have g2 : ∀ q : Nat, q < p + 2 ∨ p + 2 + m ≤ q → cs2.getD q 0 = cs1.getD q 0 := by
    intro q hq
    rw [h2]
    exact setL_out _ _ _ _ (by omega)
  have g1 : ∀ q : Nat, q ≠ p + 1 → cs1.getD q 0 = cs.getD q 0 := by
    intro q hq
    rw [h1, getD_setI, if_neg (by omega)]
  have old : ∀ q : Nat, (q : Int) < a → cs3.getD q 0 = cs.getD q 0 := fun q hq => by rw [g3, if_neg (by omega), g2 _ (by omega), g1 _ (by omega)]
  refine ⟨cs3, ?_, l3, ⟨hn, hlo, by omega, by omega, by rw [l3]; exact hln, ?_, ?_, ?_⟩, hle⟩
  · unfold putDP
    rw [← hm, if_pos (by omega), ← ha]
    refine .store (by omega) (by omega) ?_
    rw [u32_in (v := (k.length : Int)) ⟨by omega, by omega⟩, show (a + 1).toNat = p + 1 by omega, ← h1, show a + 2 = ((p + 2 : Nat) : Int) by omega]
    have := stores_does (rest := .store (s + (i : Int)) a (.ret (a, more U 4 (2 + (m : Int)), (0 : Int)))) (n := 1) (x := (a, more U 4 (2 + (m : Int)), (0 : Int))) (cs' := cs3) (cellsN k) cs1 (p + 2) (cells_lt hk) (by omega) (by
      rw [← h2]
      refine .store (by omega) (by omega) ?_
      rw [u32_in (v := a) ⟨by omega, by omega⟩, show (s + (i : Int)).toNat = z + i by omega, hpa, ← h3]
      exact .ret _ _)
    rw [show 1 + (cellsN k).length = m + 1 by omega] at this
    exact this
  · intro j hj
    by_cases e : j = i
    · subst e
      unfold Dict.put
      rw [if_pos rfl, show (s + (j : Int)).toNat = z + j by omega, g3, if_pos rfl]
      simp only
      omega
    · unfold Dict.put
      rw [if_neg e, show (s + (j : Int)).toNat = z + j by omega, g3, if_neg (by omega), g2 _ (by omega), g1 _ (by omega)]
      have := h.slot j hj
      rw [show (s + (j : Int)).toNat = z + j by omega] at this
      exact this
  · intro j b q hj
    unfold Dict.put at hj
    by_cases e : j = i
    · rw [if_pos e] at hj
      cases hj
      refine ⟨by omega, by omega, ⟨?_, fun c x hc => ?_⟩, hk, hkl⟩
      · rw [show (a + 1).toNat = p + 1 by omega, g3, if_neg (by omega), g2 _ (by omega), h1, getD_setI, if_pos (by omega)]
      · have := (List.getElem?_eq_some_iff.1 hc).1
        rw [show (a + 2 + (c : Int)).toNat = (p + 2) + c by omega, g3, if_neg (by omega), h2]
        exact setL_in _ _ _ _ _ (by omega) hc
    · rw [if_neg e] at hj
      obtain ⟨r1, r2, r3, r4, r5⟩ := h.rec_ j b q hj
      exact ⟨r1, by omega, r3.of (by omega) r2 old, r4, r5⟩
  · intro j b q hj
    unfold Dict.put at hj
    by_cases e : j = i
    · rw [if_pos e] at hj
      cases hj
      exact ⟨t, ht, by rw [e, hi], hp.le hle⟩
    · rw [if_neg e] at hj
      obtain ⟨u, hu, e2, hq⟩ := h.probe j b q hj
      exact ⟨u, hu, e2, hq.le hle⟩
theorem putD_full {B S U : Nat → Int} {s slot : Int} {k : List Nat} (hf : ¬ 2 + ((cellsN k).length : Int) ≤ S 4 - U 4) (cs : List Int) : Does (putDP B S U s slot k) cs 0 (0, fun _ => 0, 3) cs := by
  unfold putDP
  rw [if_neg hf]
  exact .ret _ _

/-! ### Read -/
def loadsR {α : Type} (f : List Nat → Pr α) : Nat → Int → List Nat → Pr α
  | 0, _, acc => f acc
  | m + 1, x, acc => .load x fun v => loadsR f m (x + 1) (acc ++ [v.toNat])
def readR (a : Int) : Pr (List Nat) := .load (a + 1) fun n => if 17 < n then .ret [] else loadsR (fun l => .ret ((bytesC l).take n.toNat)) ((n.toNat + 3) / 4) (a + 2) []
theorem loads_does {α : Type} {f : List Nat → Pr α} {x : α} {cs : List Int} {n : Nat} {L : List Nat} : ∀ (m j : Nat) (a : Int), 0 ≤ a → j + m = L.length → a + (L.length : Int) ≤ cs.length → (∀ (i y : Nat), L[i]? = some y → cs.getD (a + (i : Int)).toNat 0 = (y : Int)) → Does (f L) cs n x cs → Does (loadsR f m (a + (j : Int)) (L.take j)) cs (n + m) x cs
  | 0, j, a, _, hj, _, _, h => by
    unfold loadsR
    rw [List.take_of_length_le (by omega)]
    exact h
  | m + 1, j, a, h0, hj, hl, hc, h => by
    unfold loadsR
    obtain ⟨y, hy⟩ : ∃ y, L[j]? = some y := ⟨_, List.getElem?_eq_getElem (by omega)⟩
    refine .load (by omega) (by omega) ?_
    rw [hc j y hy, Int.toNat_natCast]
    have := loads_does m (j + 1) a h0 (by omega) hl hc h
    rw [List.take_add_one, hy, show a + ((j + 1 : Nat) : Int) = a + (j : Int) + 1 by omega] at this
    exact this
theorem read_does {cs : List Int} {a : Int} {k : List Nat} (h : RecAt cs a k) (hk : ∀ x ∈ k, x < 256) (ha : 0 ≤ a) (hl : a + 2 + ((cellsN k).length : Int) ≤ cs.length) : ∃ m, m ≤ (cellsN k).length + 1 ∧ Does (readR a) cs m (if k.length ≤ 17 then k else []) cs := by
  have hcl := cellsN_length k
  by_cases h17 : k.length ≤ 17
  · refine ⟨(cellsN k).length + 1, Nat.le_refl _, ?_⟩
    rw [if_pos h17]
    unfold readR
    refine .load (by omega) (by omega) ?_
    rw [h.len, if_neg (by omega), Int.toNat_natCast, ← hcl]
    have := loads_does (f := fun l => .ret ((bytesC l).take k.length)) (x := k) (n := 0) (L := cellsN k) (cs := cs) (cellsN k).length 0 (a + 2) (by omega) (by omega) (by omega) (fun i y hy => h.cells i y hy) (by
      have e := pack_back hk
      show Does (.ret ((bytesC (cellsN k)).take k.length)) cs 0 k cs
      rw [e]
      exact .ret _ _)
    rw [Nat.zero_add, show a + 2 + ((0 : Nat) : Int) = a + 2 by omega] at this
    exact this
  · refine ⟨1, by omega, ?_⟩
    rw [if_neg h17]
    unfold readR
    refine .load (by omega) (by omega) ?_
    rw [h.len, if_pos (by omega)]
    exact .ret _ _
end Go.Proofs.Yteliaammffmmiaa
