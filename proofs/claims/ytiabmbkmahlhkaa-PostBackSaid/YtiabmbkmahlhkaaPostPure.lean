/-
  Words in linked slabs, without the program's text: cells, tails, chains; what a Put adds, what Puts take.
-/
import Derived.Test.YtiabmbkmahlhkaaAcc
import Derived.Test.YtiabmbkmahlhkaaPoolM
import Derived.Test.YtiabmbkmahlhkaaPoolH
namespace Go.Proofs.Ytiabmbkmahlhkaa
open Go.RowKit

/-! ### Classes -/
instance (B S : Nat → Int) (a : Int) (k : Nat) : Decidable (InB B S a k) := by unfold InB; infer_instance
def kOf (B S : Nat → Int) (a : Int) : Nat := if InB B S a 0 then 0 else if InB B S a 1 then 1 else if InB B S a 2 then 2 else if InB B S a 3 then 3 else 4
def kInt (B S : Nat → Int) (a : Int) : Int := if kOf B S a < 4 then (kOf B S a : Int) else -1
def atOf (B S : Nat → Int) (a : Int) : Int := if kOf B S a < 4 then (a - B (kOf B S a)) % slab (kOf B S a) else 0
theorem kOf_first {B S : Nat → Int} {a : Int} {k : Nat} (hk : k < 4) (h : InB B S a k) (hn : ∀ j, j < k → ¬ InB B S a j) : kOf B S a = k := by
  unfold kOf
  rcases (show k = 0 ∨ k = 1 ∨ k = 2 ∨ k = 3 by omega) with rfl | rfl | rfl | rfl
  · rw [if_pos h]
  · rw [if_neg (hn 0 (by omega)), if_pos h]
  · rw [if_neg (hn 0 (by omega)), if_neg (hn 1 (by omega)), if_pos h]
  · rw [if_neg (hn 0 (by omega)), if_neg (hn 1 (by omega)), if_neg (hn 2 (by omega)), if_pos h]
theorem kOf_none {B S : Nat → Int} {a : Int} (h : ∀ j, j < 4 → ¬ InB B S a j) : kOf B S a = 4 := by
  unfold kOf
  rw [if_neg (h 0 (by omega)), if_neg (h 1 (by omega)), if_neg (h 2 (by omega)), if_neg (h 3 (by omega))]
theorem kOf_in {B S : Nat → Int} {a : Int} (h : kOf B S a < 4) : InB B S a (kOf B S a) := by
  unfold kOf at h ⊢
  split
  · assumption
  split
  · assumption
  split
  · assumption
  split
  · assumption
  · simp_all
/-- What Class answers, as two numbers. -/
theorem cls_value {B S : Nat → Int} {a : Int} {w w' : World} {e : Ending} (h : ClsPost B S a w e w') : e = .returned (.tuple #[.int .i64 (kInt B S a), .int .i64 (atOf B S a)]) ∧ Below w.heap.size w w' := by
  obtain ⟨hb, ⟨k, hk, hin, hn, rfl⟩ | ⟨hn, rfl⟩⟩ := h
  · have e := kOf_first hk hin hn
    refine ⟨?_, hb⟩
    unfold kInt atOf
    rw [e, if_pos hk, if_pos hk]
  · have e := kOf_none hn
    refine ⟨?_, hb⟩
    unfold kInt atOf
    rw [e, if_neg (by omega), if_neg (by omega)]

/-- A plan that is laid. -/
structure Laid (B S : Nat → Int) (C : Int) : Prop where
  b0 : B 0 = 3
  next : ∀ k, k < 6 → B (k + 1) = B k + S k
  c : B 6 = C
  c1 : C ≤ 65536
  s0 : ∀ k, k < 6 → 0 ≤ S k
  m : ∃ m : Nat → Int, ∀ k, k < 4 → 0 ≤ m k ∧ S k = m k * slab k
section
variable {B S : Nat → Int} {C : Int}
theorem Laid.bases (h : Laid B S C) : 3 = B 0 ∧ B 1 = B 0 + S 0 ∧ B 2 = B 1 + S 1 ∧ B 3 = B 2 + S 2 ∧ B 4 = B 3 + S 3 ∧ B 5 = B 4 + S 4 ∧ C = B 5 + S 5 ∧ 0 ≤ S 0 ∧ 0 ≤ S 1 ∧ 0 ≤ S 2 ∧ 0 ≤ S 3 ∧ 0 ≤ S 4 ∧ 0 ≤ S 5 ∧ C ≤ 65536 :=
  ⟨h.b0.symm, h.next 0 (by omega), h.next 1 (by omega), h.next 2 (by omega), h.next 3 (by omega), h.next 4 (by omega), by rw [← h.c]; exact h.next 5 (by omega), h.s0 0 (by omega), h.s0 1 (by omega), h.s0 2 (by omega), h.s0 3 (by omega), h.s0 4 (by omega), h.s0 5 (by omega), h.c1⟩
theorem Laid.pool (h : Laid B S C) {k : Nat} (hk : k < 6) : 3 ≤ B k ∧ 0 ≤ S k ∧ B k + S k ≤ C ∧ C ≤ 65536 := by
  have := h.bases
  rcases below6 hk with rfl | rfl | rfl | rfl | rfl | rfl <;> omega
theorem Laid.fit (h : Laid B S C) : Fit B S :=
  ⟨fun k hk => by have := h.pool hk; omega, fun k hk => by have := h.pool hk; omega, h.s0, fun k hk => by have := h.pool hk; omega, h.m⟩
theorem Laid.apart (h : Laid B S C) {j k : Nat} (hj : j < 4) (hk : k < 4) (hjk : j < k) : B j + S j ≤ B k := by
  have := h.bases
  rcases (show k = 0 ∨ k = 1 ∨ k = 2 ∨ k = 3 by omega) with rfl | rfl | rfl | rfl <;> rcases (show j = 0 ∨ j = 1 ∨ j = 2 ∨ j = 3 by omega) with rfl | rfl | rfl | rfl <;> omega
theorem Laid.kOf_of (h : Laid B S C) {a : Int} {k : Nat} (hk : k < 4) (hin : InB B S a k) : kOf B S a = k :=
  kOf_first hk hin fun j hj hin' => by
    have := h.apart (show j < 4 by omega) hk hj
    unfold InB at hin hin'
    omega
theorem Laid.zero (h : Laid B S C) {a : Int} (ha : a < 3) : atOf B S a = 0 ∧ kOf B S a = 4 := by
  have e : kOf B S a = 4 := kOf_none fun j hj hin => by
    have := (h.pool (show j < 6 by omega)).1
    unfold InB at hin
    omega
  unfold atOf
  rw [e]
  exact ⟨rfl, rfl⟩
theorem Laid.at_ (h : Laid B S C) {a : Int} (ha : 0 < atOf B S a) : kOf B S a < 4 ∧ 3 ≤ a ∧ a < C ∧ atOf B S a < slab (kOf B S a) := by
  have hk : kOf B S a < 4 := by
    unfold atOf at ha
    split at ha
    · assumption
    · omega
  have hin := kOf_in hk
  have hp := h.pool (show kOf B S a < 6 by omega)
  have hs := slab_lo (kOf B S a)
  refine ⟨hk, by unfold InB at hin; omega, by unfold InB at hin; omega, ?_⟩
  unfold atOf
  rw [if_pos hk]
  exact Int.emod_lt_of_pos _ (by omega)

/-- A slab. -/
def SlabAt (B S : Nat → Int) (k : Nat) (z : Int) : Prop := k < 4 ∧ (∃ q : Nat, z = B k + q * slab k) ∧ z + slab k ≤ B k + S k
theorem Laid.in_slab (h : Laid B S C) {k : Nat} {z r : Int} (hz : SlabAt B S k z) (h0 : 0 ≤ r) (h1 : r < slab k) : kOf B S (z + r) = k ∧ atOf B S (z + r) = r := by
  obtain ⟨hk, ⟨q, hq⟩, hle⟩ := hz
  have hs := slab_lo k
  have hq0 : 0 ≤ (q : Int) * slab k := Int.mul_nonneg (by omega) (by omega)
  have e : kOf B S (z + r) = k := h.kOf_of hk ⟨by omega, by omega⟩
  refine ⟨e, ?_⟩
  unfold atOf
  rw [e, if_pos hk, show z + r - B k = (q : Int) * slab k + r by omega]
  exact slab_mod q k r h0 h1
/-- Each cell of a pool lies in a slab. -/
theorem Laid.slab_of (h : Laid B S C) {a : Int} (hk : kOf B S a < 4) : SlabAt B S (kOf B S a) (a - atOf B S a) ∧ 0 ≤ atOf B S a ∧ atOf B S a < slab (kOf B S a) := by
  have hin := kOf_in hk
  obtain ⟨m, hm⟩ := h.m
  obtain ⟨hm0, hmS⟩ := hm _ hk
  generalize hkk : kOf B S a = k at *
  have hs := slab_lo k
  have hat : atOf B S a = (a - B k) % slab k := by unfold atOf; rw [hkk, if_pos hk]
  unfold InB at hin
  have h1 := Int.emod_nonneg (a - B k) (show slab k ≠ 0 by omega)
  have h2 := Int.emod_lt_of_pos (a - B k) (show 0 < slab k by omega)
  have h3 := Int.emod_add_mul_ediv (a - B k) (slab k)
  have h4 : 0 ≤ (a - B k) / slab k := Int.ediv_nonneg (by omega) (by omega)
  obtain ⟨q, hq⟩ := Int.eq_ofNat_of_zero_le h4
  rw [hq] at h3
  rw [hat]
  have h5 : (q : Int) * slab k = slab k * (q : Int) := Int.mul_comm _ _
  refine ⟨⟨hk, ⟨q, by omega⟩, ?_⟩, h1, h2⟩
  have := slab_next q k (m k) (S k) hmS (by omega)
  omega

/-! ### Chains -/
/-- From an address on these words are read, the newest first; all that is read lies in D. -/
inductive Chain (B S : Nat → Int) (cs : List Int) (D : Int → Prop) : Int → List Nat → Prop
  | nil : Chain B S cs D 0 []
  | deep {a : Int} {x : Nat} {ws : List Nat} : 1 < atOf B S a → D a → cs.getD a.toNat 0 = (x : Int) → Chain B S cs D (a - 1) ws → Chain B S cs D a (x :: ws)
  | edge {a b : Int} {x : Nat} {ws : List Nat} : atOf B S a = 1 → D a → D (a - 1) → cs.getD a.toNat 0 = (x : Int) → cs.getD (a - 1).toNat 0 = b → b < a → Chain B S cs D b ws → Chain B S cs D a (x :: ws)
theorem Chain.mono {cs cs' : List Int} {D D' : Int → Prop} {a : Int} {ws : List Nat} (h : Chain B S cs D a ws) (hD : ∀ b, D b → D' b) (hc : ∀ b, D b → cs'.getD b.toNat 0 = cs.getD b.toNat 0) : Chain B S cs' D' a ws := by
  induction h with
  | nil => exact .nil
  | deep h1 h2 h3 _ ih => exact .deep h1 (hD _ h2) ((hc _ h2).trans h3) ih
  | edge h1 h2 h3 h4 h5 h6 _ ih => exact .edge h1 (hD _ h2) (hD _ h3) ((hc _ h2).trans h4) ((hc _ h3).trans h5) h6 ih
theorem Chain.zero (hL : Laid B S C) {cs : List Int} {D : Int → Prop} {a : Int} {ws : List Nat} (h : Chain B S cs D a ws) (ha : a < 3) : a = 0 ∧ ws = [] := by
  have := (hL.zero ha).1
  cases h with
  | nil => exact ⟨rfl, rfl⟩
  | deep h1 => omega
  | edge h1 => omega
theorem Chain.len (hL : Laid B S C) {cs : List Int} {D : Int → Prop} {a : Int} {ws : List Nat} (h : Chain B S cs D a ws) : 0 ≤ a ∧ (ws.length : Int) ≤ a ∧ (ws ≠ [] → a < C) := by
  induction h with
  | nil => exact ⟨by omega, by simp, by simp⟩
  | deep h1 _ _ _ ih =>
    have := hL.at_ (Int.lt_trans Int.zero_lt_one h1)
    refine ⟨by omega, ?_, fun _ => by omega⟩
    simp only [List.length_cons]
    omega
  | edge h1 _ _ _ _ h6 _ ih =>
    have := hL.at_ (Int.lt_of_lt_of_le Int.zero_lt_one (Int.le_of_eq h1.symm))
    refine ⟨by omega, ?_, fun _ => by omega⟩
    simp only [List.length_cons]
    omega

/-! ### A word is added -/
/-- Of which class a slab is taken behind a tail. -/
def behindK (B S : Nat → Int) (t : Int) : Option Nat := if t = 0 then some 0 else if atOf B S t < slab (kOf B S t) - 1 then none else some (if kOf B S t < 3 then kOf B S t + 1 else 3)
def rightT (B S : Nat → Int) (t : Int) : Prop := t = 0 ∨ 0 < atOf B S t
instance (B S : Nat → Int) (t : Int) : Decidable (rightT B S t) := by unfold rightT; infer_instance
abbrev PutR := Int × (Nat → Int) × Int
/-- A Put as a program. -/
def putP (B S U : Nat → Int) (t v : Int) : Pr PutR :=
  if rightT B S t then
    match behindK B S t with
    | none => .store (t + 1) v (.ret (t + 1, U, 0))
    | some k =>
      if slab k ≤ S k - U k then
        if t = 0 then .store (B k + U k + 1) v (.ret (B k + U k + 1, more U k (slab k), 0))
        else .store (B k + U k) t (.store (B k + U k + 1) v (.ret (B k + U k + 1, more U k (slab k), 0)))
      else .ret (0, fun _ => 0, 3)
  else .ret (0, fun _ => 0, 1)

/-- A tail's slab: its cells behind the tail are not done. -/
def TailOk (B S U : Nat → Int) (D : Int → Prop) (t : Int) : Prop :=
  t = 0 ∨ ∃ k z r, SlabAt B S k z ∧ z + slab k ≤ B k + U k ∧ 0 < r ∧ r < slab k ∧ t = z + r ∧ D t ∧ ∀ j, r < j → j < slab k → ¬ D (z + j)
/-- What holds between Puts: the done cells lie in what is taken; all others are 0; the tails are of slabs of their own. -/
structure Inv (B S : Nat → Int) (C : Int) (cs : List Int) (U : Nat → Int) (D : Int → Prop) (tails : Nat → Int) : Prop where
  len : (cs.length : Int) = C
  used : ∀ k, k < 6 → 0 ≤ U k ∧ U k ≤ S k
  slabs : ∀ k, k < 4 → ∃ q : Nat, U k = q * slab k
  done : ∀ a, D a → ∃ k, k < 4 ∧ B k ≤ a ∧ a < B k + U k
  rest : ∀ a, ¬ D a → cs.getD a.toNat 0 = 0 ∨ a < 0
  tail : ∀ i, i < 8 → TailOk B S U D (tails i)
  apart : ∀ i j, i < 8 → j < 8 → i ≠ j → tails i = tails j → tails i = 0
def setT (tails : Nat → Int) (i : Nat) (t : Int) (j : Nat) : Int := if j = i then t else tails j

theorem Inv.new (hL : Laid B S C) (n : Nat) (hn : (n : Int) = C) : Inv B S C (List.replicate n 0) (fun _ => 0) (fun _ => False) (fun _ => 0) where
  len := by simpa using hn
  used := fun k hk => ⟨by omega, hL.s0 k hk⟩
  slabs := fun _ _ => ⟨0, by simp⟩
  done := fun _ h => h.elim
  rest := fun a _ => by
    left
    rw [List.getD_eq_getElem?_getD, List.getElem?_replicate]
    split <;> rfl
  tail := fun _ _ => .inl rfl
  apart := fun _ _ _ _ _ _ => rfl

theorem list_set (cs : List Int) (a : Nat) (v : Int) (b : Nat) : (cs.set a v).getD b 0 = if a = b ∧ a < cs.length then v else cs.getD b 0 := by
  rw [List.getD_eq_getElem?_getD, List.getElem?_set, List.getD_eq_getElem?_getD]
  by_cases h : a = b
  · subst h
    by_cases h2 : a < cs.length
    · rw [if_pos rfl, if_pos h2, if_pos ⟨rfl, h2⟩]; rfl
    · rw [if_pos rfl, if_neg h2, if_neg (fun c => h2 c.2), List.getElem?_eq_none (by omega)]
  · rw [if_neg h, if_neg (fun c => h c.1)]
theorem getD_other (cs : List Int) {a b : Int} (v : Int) (ha : 0 ≤ a) (h : a ≠ b) (hb : 0 ≤ b) : (cs.set a.toNat v).getD b.toNat 0 = cs.getD b.toNat 0 := by
  rw [list_set, if_neg (by omega)]
theorem getD_same (cs : List Int) {a : Int} (v : Int) (ha : 0 ≤ a) (hl : a < cs.length) : (cs.set a.toNat v).getD a.toNat 0 = v := by
  rw [list_set, if_pos ⟨rfl, by omega⟩]

/-- One cell of the slab that holds the tail. -/
theorem Inv.add (hL : Laid B S C) {cs : List Int} {U : Nat → Int} {D : Int → Prop} {tails : Nat → Int} (h : Inv B S C cs U D tails) {i : Nat} (hi : i < 8) {t : Int} (ht : tails i = t) (hb : behindK B S t = none) (x : Nat) :
    0 ≤ t + 1 ∧ t + 1 < cs.length ∧ Inv B S C (cs.set (t + 1).toNat (x : Int)) U (fun a => D a ∨ a = t + 1) (setT tails i (t + 1)) ∧ ¬ D (t + 1) ∧ kOf B S (t + 1) = kOf B S t ∧ atOf B S (t + 1) = atOf B S t + 1 ∧
    ∀ ws, Chain B S cs D t ws → Chain B S (cs.set (t + 1).toNat (x : Int)) (fun a => D a ∨ a = t + 1) (t + 1) (x :: ws) := by
  have ht0 : t ≠ 0 := by
    intro e
    simp [behindK, e] at hb
  have hti := h.tail i hi
  rw [ht] at hti
  obtain ⟨k, z, r, hz, hzu, hr0, hr1, htz, hD, hbe⟩ := hti.resolve_left ht0
  obtain ⟨e1, e2⟩ := hL.in_slab hz (by omega) hr1
  rw [← htz] at e1 e2
  have hr2 : r + 1 < slab k := by
    unfold behindK at hb
    rw [if_neg ht0] at hb
    split at hb
    · rename_i h1
      rw [e1, e2] at h1
      omega
    · cases hb
  obtain ⟨f1, f2⟩ := hL.in_slab hz (show 0 ≤ r + 1 by omega) hr2
  have e3 : t + 1 = z + (r + 1) := by omega
  rw [← e3] at f1 f2
  have hnD : ¬ D (t + 1) := by rw [e3]; exact hbe _ (by omega) hr2
  have hlt := hL.at_ (show 0 < atOf B S (t + 1) by omega)
  have hlen := h.len
  have hDn : ∀ a, D a → 0 ≤ a := by
    intro a ha
    obtain ⟨k', hk', ha1, _⟩ := h.done a ha
    have := (hL.pool (show k' < 6 by omega)).1
    omega
  have hpk := hL.pool (show k < 6 by have := hz.1; omega)
  refine ⟨by omega, by omega, ⟨by rw [List.length_set]; exact hlen, h.used, h.slabs, ?_, ?_, ?_, ?_⟩, hnD, by rw [f1, e1], by rw [f2, e2], ?_⟩
  · rintro a (ha | ha)
    · exact h.done a ha
    · obtain ⟨hk, ⟨q, hq⟩, hle⟩ := hz
      have hs := slab_lo k
      have hq0 : 0 ≤ (q : Int) * slab k := Int.mul_nonneg (by omega) (by omega)
      exact ⟨k, hk, by omega, by omega⟩
  · intro a ha
    by_cases han : a < 0
    · exact .inr han
    · rw [getD_other _ _ (by omega) (fun e => ha (.inr e.symm)) (by omega)]
      exact h.rest a fun hD => ha (.inl hD)
  · intro j hj
    unfold setT
    by_cases hji : j = i
    · rw [if_pos hji]
      refine .inr ⟨k, z, r + 1, hz, hzu, by omega, hr2, e3, .inr rfl, fun j' h1 h2 => ?_⟩
      rintro (hD' | hD')
      · exact hbe j' (by omega) h2 hD'
      · omega
    · rw [if_neg hji]
      rcases h.tail j hj with h0 | ⟨k', z', r', hz', hzu', hr0', hr1', htz', hD', hbe'⟩
      · exact .inl h0
      · refine .inr ⟨k', z', r', hz', hzu', hr0', hr1', htz', .inl hD', fun j' h1 h2 => ?_⟩
        rintro (hx | hx)
        · exact hbe' j' h1 h2 hx
        · obtain ⟨g1, g2⟩ := hL.in_slab hz' (show 0 ≤ j' by omega) h2
          rw [hx, f1] at g1
          rw [hx, f2] at g2
          subst g1
          by_cases hrr : r' = r
          · exact ht0 (by rw [← ht]; exact h.apart i j hi hj (Ne.symm hji) (by rw [ht, htz']; omega))
          · have : t = z' + r := by omega
            rw [this] at hD
            exact hbe' r (by omega) (by omega) hD
  · intro a b ha hb' hab
    unfold setT
    by_cases hai : a = i
    · rw [if_pos hai, if_neg (by omega)]
      intro he
      rcases h.tail b hb' with h0 | ⟨k', z', r', _, _, _, _, htz', hD', _⟩
      · omega
      · rw [← he] at hD'
        exact absurd hD' hnD
    · rw [if_neg hai]
      by_cases hbi : b = i
      · rw [if_pos hbi]
        intro he
        rcases h.tail a ha with h0 | ⟨k', z', r', _, _, _, _, htz', hD', _⟩
        · exact h0
        · rw [he] at hD'
          exact absurd hD' hnD
      · rw [if_neg hbi]
        exact h.apart a b ha hb' hab
  · intro ws hc
    refine .deep (by rw [f2]; omega) (.inr rfl) (getD_same _ _ (by omega) (by omega)) ?_
    rw [show t + 1 - 1 = t by omega]
    exact hc.mono (fun b hb => .inl hb) fun b hb => getD_other _ _ (by omega) (fun e => hnD (by rw [e]; exact hb)) (hDn b hb)

/-- A new slab. -/
theorem Inv.grow (hL : Laid B S C) {cs cs1 : List Int} {U : Nat → Int} {D : Int → Prop} {tails : Nat → Int} (h : Inv B S C cs U D tails) {i : Nat} (hi : i < 8) {t z : Int} (ht : tails i = t) {k : Nat} (hb : behindK B S t = some k) (hroom : slab k ≤ S k - U k) (hz : z = B k + U k) (h1 : (t = 0 ∧ cs1 = cs) ∨ (t ≠ 0 ∧ cs1 = cs.set z.toNat t)) (x : Nat) :
    0 ≤ z ∧ z + 1 < cs.length ∧ Inv B S C (cs1.set (z + 1).toNat (x : Int)) (more U k (slab k)) (fun a => D a ∨ a = z ∨ a = z + 1) (setT tails i (z + 1)) ∧ (∀ a, D a → (cs1.set (z + 1).toNat (x : Int)).getD a.toNat 0 = cs.getD a.toNat 0) ∧ kOf B S (z + 1) = k ∧ atOf B S (z + 1) = 1 ∧
    ∀ ws, Chain B S cs D t ws → Chain B S (cs1.set (z + 1).toNat (x : Int)) (fun a => D a ∨ a = z ∨ a = z + 1) (z + 1) (x :: ws) := by
  have hk : k < 4 := by
    unfold behindK at hb
    split at hb
    · cases hb; omega
    · split at hb
      · cases hb
      · split at hb
        · cases hb; omega
        · cases hb; omega
  have hs := slab_lo k
  obtain ⟨q, hq⟩ := h.slabs k hk
  have hpk := hL.pool (show k < 6 by omega)
  have hus := h.used k (by omega)
  have hsl : SlabAt B S k z := ⟨hk, ⟨q, by omega⟩, by omega⟩
  obtain ⟨f1, f2⟩ := hL.in_slab hsl (show 0 ≤ (1 : Int) by omega) (by omega)
  obtain ⟨g1, g2⟩ := hL.in_slab hsl (show 0 ≤ (0 : Int) by omega) (by omega)
  have hlen := h.len
  have hnew : ∀ r, 0 ≤ r → r < slab k → ¬ D (z + r) := by
    intro r hr0 hr1 hD
    obtain ⟨k', hk', ha1, ha2⟩ := h.done _ hD
    have hus' := h.used k' (by omega)
    have e := (hL.in_slab hsl hr0 hr1).1
    rw [hL.kOf_of hk' ⟨ha1, by omega⟩] at e
    subst e
    omega
  have hn0 : ¬ D z := by have := hnew 0 (by omega) (by omega); rwa [Int.add_zero] at this
  have hn1 : ¬ D (z + 1) := hnew 1 (by omega) (by omega)
  have hDn : ∀ a, D a → 0 ≤ a := by
    intro a ha
    obtain ⟨k', hk', ha1, _⟩ := h.done a ha
    have := (hL.pool (show k' < 6 by omega)).1
    omega
  have hl1 : cs1.length = cs.length := by
    rcases h1 with ⟨_, rfl⟩ | ⟨_, rfl⟩
    · rfl
    · rw [List.length_set]
  have hoth : ∀ a, 0 ≤ a → a ≠ z → a ≠ z + 1 → (cs1.set (z + 1).toNat (x : Int)).getD a.toNat 0 = cs.getD a.toNat 0 := by
    intro a ha hz1 hz2
    rw [getD_other _ _ (by omega) (Ne.symm hz2) ha]
    rcases h1 with ⟨_, rfl⟩ | ⟨_, rfl⟩
    · rfl
    · rw [getD_other _ _ (by omega) (Ne.symm hz1) ha]
  have hold : ∀ a, D a → (cs1.set (z + 1).toNat (x : Int)).getD a.toNat 0 = cs.getD a.toNat 0 := fun a ha => hoth a (hDn a ha) (fun e => hn0 (by rw [← e]; exact ha)) (fun e => hn1 (by rw [← e]; exact ha))
  have hlow : ∀ j, U j ≤ more U k (slab k) j := by
    intro j
    unfold more
    split
    · subst j; omega
    · omega
  have hmk : more U k (slab k) k = U k + slab k := by unfold more; rw [if_pos rfl]
  have hfar : ∀ {j : Nat} {k' : Nat} {z' r' : Int}, SlabAt B S k' z' → z' + slab k' ≤ B k' + U k' → 0 ≤ j → 0 ≤ r' → r' < slab k' → z' + r' ≠ z ∧ z' + r' ≠ z + 1 := by
    intro j k' z' r' hz' hzu' _ hr0' hr1'
    obtain ⟨e1, e2⟩ := hL.in_slab hz' hr0' hr1'
    refine ⟨fun e => ?_, fun e => ?_⟩
    · rw [Int.add_zero] at g1
      rw [e, g1] at e1
      subst e1
      omega
    · rw [e, f1] at e1
      subst e1
      omega
  refine ⟨by omega, by omega, ⟨by rw [List.length_set, hl1]; exact hlen, ?_, ?_, ?_, ?_, ?_, ?_⟩, hold, f1, f2, ?_⟩
  · intro j hj
    have hj2 := h.used j hj
    unfold more
    split
    · subst j; omega
    · exact hj2
  · intro j hj
    unfold more
    split
    · subst j
      exact ⟨q + 1, by rw [hq]; have : ((q + 1 : Nat) : Int) = (q : Int) + 1 := by omega
                       rw [this, Int.add_mul, Int.one_mul]⟩
    · exact h.slabs j hj
  · rintro a (ha | ha | ha)
    · obtain ⟨k', hk', a1, a2⟩ := h.done a ha
      have := hlow k'
      exact ⟨k', hk', a1, by omega⟩
    · exact ⟨k, hk, by omega, by omega⟩
    · exact ⟨k, hk, by omega, by omega⟩
  · intro a ha
    by_cases han : a < 0
    · exact .inr han
    · rw [hoth a (by omega) (fun e => ha (.inr (.inl e))) (fun e => ha (.inr (.inr e)))]
      exact h.rest a fun hD => ha (.inl hD)
  · intro j hj
    unfold setT
    by_cases hji : j = i
    · rw [if_pos hji]
      refine .inr ⟨k, z, 1, hsl, by omega, by omega, by omega, rfl, .inr (.inr rfl), fun j' h1 h2 => ?_⟩
      rintro (hD' | hD' | hD')
      · exact hnew j' (by omega) h2 hD'
      · omega
      · omega
    · rw [if_neg hji]
      rcases h.tail j hj with h0 | ⟨k', z', r', hz', hzu', hr0', hr1', htz', hD', hbe'⟩
      · exact .inl h0
      · refine .inr ⟨k', z', r', hz', by have := hlow k'; omega, hr0', hr1', htz', .inl hD', fun j' h1 h2 => ?_⟩
        have hf := hfar (j := 0) hz' hzu' (by omega) (show 0 ≤ j' by omega) h2
        rintro (hx | hx | hx)
        · exact hbe' j' h1 h2 hx
        · exact hf.1 hx
        · exact hf.2 hx
  · intro a b ha hb' hab
    unfold setT
    by_cases hai : a = i
    · rw [if_pos hai, if_neg (by omega)]
      intro he
      rcases h.tail b hb' with h0 | ⟨k', z', r', _, _, _, _, htz', hD', _⟩
      · omega
      · rw [← he] at hD'
        exact absurd hD' hn1
    · rw [if_neg hai]
      by_cases hbi : b = i
      · rw [if_pos hbi]
        intro he
        rcases h.tail a ha with h0 | ⟨k', z', r', _, _, _, _, htz', hD', _⟩
        · exact h0
        · rw [he] at hD'
          exact absurd hD' hn1
      · rw [if_neg hbi]
        exact h.apart a b ha hb' hab
  · intro ws hc
    have hsame : (cs1.set (z + 1).toNat (x : Int)).getD (z + 1).toNat 0 = (x : Int) := getD_same _ _ (by omega) (by omega)
    have hlink : (cs1.set (z + 1).toNat (x : Int)).getD (z + 1 - 1).toNat 0 = t ∧ t < z + 1 := by
      rw [show z + 1 - 1 = z by omega, getD_other _ _ (by omega) (by omega) (by omega)]
      rcases h1 with ⟨e, rfl⟩ | ⟨e, rfl⟩
      · refine ⟨?_, by omega⟩
        rcases h.rest z hn0 with h0 | h0
        · rw [h0, e]
        · omega
      · refine ⟨getD_same _ _ (by omega) (by omega), ?_⟩
        rcases h.tail i hi with h0 | ⟨k', z', r', hz', hzu', hr0', hr1', htz', hD', _⟩
        · omega
        · rw [ht] at htz' hD'
          obtain ⟨e1, e2⟩ := hL.in_slab hz' (show 0 ≤ r' by omega) hr1'
          rw [← htz'] at e1 e2
          have hpk' := hL.pool (show k' < 6 by have := hz'.1; omega)
          have hus' := h.used k' (by have := hz'.1; omega)
          unfold behindK at hb
          rw [if_neg e, e1] at hb
          split at hb
          · cases hb
          · split at hb
            · cases hb
              rename_i h3
              have := hL.apart (show k' < 4 by omega) (show k' + 1 < 4 by omega) (by omega)
              omega
            · cases hb
              have hk3 : k' = 3 := by have := hz'.1; omega
              subst hk3
              omega
    refine .edge f2 (.inr (.inr rfl)) (.inr (.inl (by omega))) hsame hlink.1 hlink.2 ?_
    exact hc.mono (fun b hb => .inl hb) hold

/-! ### What a Put comes to -/
/-- How many cells are left in a tail's slab, and of which class the next one is. -/
def leftT (B S : Nat → Int) (t : Int) : Int := if t = 0 then 0 else slab (kOf B S t) - 1 - atOf B S t
def nextT (B S : Nat → Int) (t : Int) : Nat := if t = 0 then 0 else if kOf B S t < 3 then kOf B S t + 1 else 3
def up (k : Nat) : Nat := if k < 3 then k + 1 else 3
/-- What a Put makes of all that is known. -/
structure PutOk (B S : Nat → Int) (C : Int) (cs : List Int) (U : Nat → Int) (D : Int → Prop) (tails : Nat → Int) (i : Nat) (t : Int) (x : Nat) (cs' : List Int) (U' : Nat → Int) (D' : Int → Prop) (t' : Int) : Prop where
  inv : Inv B S C cs' U' D' (setT tails i t')
  more_ : ∀ a, D a → D' a
  old : ∀ a, D a → cs'.getD a.toNat 0 = cs.getD a.toNat 0
  chain : ∀ ws, Chain B S cs D t ws → Chain B S cs' D' t' (x :: ws)
  used : (leftT B S t ≠ 0 ∧ U' = U ∧ leftT B S t' = leftT B S t - 1 ∧ nextT B S t' = nextT B S t) ∨ (leftT B S t = 0 ∧ nextT B S t < 4 ∧ U' = more U (nextT B S t) (slab (nextT B S t)) ∧ leftT B S t' = slab (nextT B S t) - 2 ∧ nextT B S t' = up (nextT B S t))
  range : 3 < t' ∧ t' < C
theorem Inv.put (hL : Laid B S C) {cs : List Int} {U : Nat → Int} {D : Int → Prop} {tails : Nat → Int} (h : Inv B S C cs U D tails) {i : Nat} (hi : i < 8) {t : Int} (ht : tails i = t) (x : Nat) (hx : x < 4294967296) :
    ∃ n R cs', n ≤ 2 ∧ Does (putP B S U t (x : Int)) cs n R cs' ∧
      ((R = (0, fun _ => 0, 3) ∧ cs' = cs ∧ leftT B S t = 0 ∧ S (nextT B S t) - U (nextT B S t) < slab (nextT B S t)) ∨ ∃ t' U' D', R = (t', U', 0) ∧ PutOk B S C cs U D tails i t x cs' U' D' t') := by
  have hxu : u32 (x : Int) = (x : Int) := u32_in ⟨by omega, by omega⟩
  have hri : rightT B S t := by
    rcases h.tail i hi with h0 | ⟨k', z', r', hz', _, hr0', hr1', htz', _, _⟩
    · exact .inl (by rw [← ht]; exact h0)
    · right
      rw [← ht, htz', (hL.in_slab hz' (by omega) hr1').2]
      exact hr0'
  have htr : 0 ≤ t ∧ t ≤ 65536 := by
    rcases hri with h0 | h0
    · omega
    · have := hL.at_ h0
      have := hL.c1
      omega
  unfold putP
  rw [if_pos hri]
  cases hb : behindK B S t with
  | none =>
    obtain ⟨a1, a2, a3, a4, a5, a6, a7⟩ := h.add hL hi ht hb x
    have ht0 : t ≠ 0 := by
      intro e
      simp [behindK, e] at hb
    have hb2 : atOf B S t < slab (kOf B S t) - 1 := by
      unfold behindK at hb
      rw [if_neg ht0] at hb
      split at hb
      · assumption
      · cases hb
    refine ⟨1, _, _, by omega, .store a1 a2 (.ret _ _), .inr ⟨t + 1, U, fun a => D a ∨ a = t + 1, rfl, ?_⟩⟩
    rw [hxu]
    have hlt := hL.at_ (show 0 < atOf B S (t + 1) by rcases hri with h0 | h0 <;> omega)
    refine ⟨a3, fun a ha => .inl ha, fun a ha => getD_other _ _ (by omega) (fun e => a4 (by rw [e]; exact ha)) ?_, a7, .inl ⟨?_, rfl, ?_, ?_⟩, ⟨by rcases hri with h0 | h0; omega; have := hL.at_ h0; omega, by omega⟩⟩
    · obtain ⟨k', hk', ha1, _⟩ := h.done a ha
      have := (hL.pool (show k' < 6 by omega)).1
      omega
    · unfold leftT
      rw [if_neg ht0]
      omega
    · unfold leftT
      rw [if_neg ht0, if_neg (by omega), a5, a6]
      omega
    · unfold nextT
      rw [if_neg ht0, if_neg (by omega), a5]
  | some k =>
    have hnk : leftT B S t = 0 ∧ nextT B S t = k := by
      unfold behindK at hb
      unfold leftT nextT
      split at hb
      · rename_i h0
        rw [if_pos h0, if_pos h0]
        exact ⟨rfl, by cases hb; rfl⟩
      · rename_i h0
        rw [if_neg h0, if_neg h0]
        split at hb
        · cases hb
        · rename_i h1
          rcases hri with h2 | h2
          · exact absurd h2 h0
          · have := hL.at_ h2
            refine ⟨by omega, ?_⟩
            cases hb
            rfl
    have hk : k < 4 := by
      rw [← hnk.2]
      unfold nextT
      split
      · omega
      · split <;> omega
    simp only
    by_cases hroom : slab k ≤ S k - U k
    · rw [if_pos hroom]
      obtain ⟨z, hz⟩ : ∃ z, z = B k + U k := ⟨_, rfl⟩
      have key : ∀ cs1, ((t = 0 ∧ cs1 = cs) ∨ (t ≠ 0 ∧ cs1 = cs.set z.toNat t)) → 0 ≤ z ∧ z + 1 < cs.length ∧ PutOk B S C cs U D tails i t x (cs1.set (z + 1).toNat (x : Int)) (more U k (slab k)) (fun a => D a ∨ a = z ∨ a = z + 1) (z + 1) := by
        intro cs1 h1
        obtain ⟨a1, a2, a3, a4, a5, a6, a7⟩ := h.grow hL hi ht hb hroom hz h1 x
        have hlt := hL.at_ (show 0 < atOf B S (z + 1) by omega)
        have hpk := hL.pool (show k < 6 by omega)
        have hus := h.used k (by omega)
        refine ⟨a1, a2, a3, fun a ha => .inl ha, a4, a7, .inr ⟨hnk.1, by rw [hnk.2]; exact hk, by rw [hnk.2], ?_, ?_⟩, ⟨by omega, by omega⟩⟩
        · rw [hnk.2]
          unfold leftT
          rw [if_neg (by omega), a5, a6]
          omega
        · rw [hnk.2]
          unfold nextT up
          rw [if_neg (by omega), a5]
      rw [← hz]
      by_cases ht0 : t = 0
      · rw [if_pos ht0]
        obtain ⟨b1, b2, b3⟩ := key cs (.inl ⟨ht0, rfl⟩)
        refine ⟨1, _, _, by omega, .store (by omega) b2 (.ret _ _), .inr ⟨z + 1, more U k (slab k), fun a => D a ∨ a = z ∨ a = z + 1, rfl, ?_⟩⟩
        rw [hxu]
        exact b3
      · rw [if_neg ht0]
        obtain ⟨b1, b2, b3⟩ := key _ (.inr ⟨ht0, rfl⟩)
        refine ⟨2, _, _, by omega, .store b1 (by omega) (.store (by omega) (by rw [List.length_set]; omega) (.ret _ _)), .inr ⟨z + 1, more U k (slab k), fun a => D a ∨ a = z ∨ a = z + 1, rfl, ?_⟩⟩
        rw [hxu, u32_in (v := t) ⟨by omega, by omega⟩]
        exact b3
    · rw [if_neg hroom]
      refine ⟨0, _, _, by omega, .ret _ _, .inl ⟨rfl, rfl, hnk.1, ?_⟩⟩
      rw [hnk.2]
      omega
end
end Go.Proofs.Ytiabmbkmahlhkaa
