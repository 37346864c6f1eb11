/-
  A sealed segment's parts as programs of accesses, without the program's text: bytes on their way, numbers, places, entries, lists, terms; what they come to on cells that hold what was laid.
-/
import Derived.Test.YtkjimgidlpocbaaAccRest
import Derived.Test.YtkjimgidlpocbaaImgPure
namespace Go.Proofs.Ytkjimgidlpocbaa

/-! ### Bytes on their way: the next cell's address, what is left of the last one, how many bytes that is -/
structure Sm where
  a : Int
  c : Int
  f : Nat
def nextT (s : Sm) : Pr (Int × Sm) :=
  if s.f = 0 then .load s.a fun v => .ret (v % 256, ⟨s.a + 1, v / 256, 3⟩) else .ret (s.c % 256, ⟨s.a, s.c / 256, s.f - 1⟩)
def numF : Nat → Nat → Int → Sm → Pr (Int × Sm)
  | 0, _, n, s => .ret (n, s)
  | m + 1, i, n, s => (nextT s).bind fun r => if r.1 < 128 then .ret (n + r.1 % 128 * 128 ^ i, r.2) else numF m (i + 1) (n + r.1 % 128 * 128 ^ i) r.2
def numT (s : Sm) : Pr (Int × Sm) := numF 5 0 0 s
def posF : Nat → Int → List Int → Sm → Pr (List Int × Sm)
  | 0, _, l, s => .ret (l, s)
  | m + 1, p, l, s => (numT s).bind fun r => posF m (p + r.1) (l ++ [p + r.1]) r.2
def placesT (s : Sm) : Pr (List Int × Sm) := (numT s).bind fun r => posF (min r.1.toNat 256) 0 [] r.2
def docOf (i : Nat) (doc : Int) : Int := if i % 4 = 0 then 0 else doc
def entF : Nat → Nat → Int → Int → List En → Sm → Pr (List En)
  | 0, _, _, _, l, _ => .ret l
  | m + 1, i, doc, most, l, s => (numT s).bind fun r => if most ≤ docOf i doc + r.1 then .ret l else (placesT r.2).bind fun q => entF m (i + 1) (docOf i doc + r.1) most (l ++ [(docOf i doc + r.1, q.1)]) q.2
def nearF (b n most : Int) : Nat → Nat → Int → Int → Pr Int
  | 0, _, count, _ => .ret count
  | m + 1, k, count, least => .load (b + k) fun v => nearF b n most m (k + 1) (if least < most then min (4 * k + 4) n else count) (max least (v / 65536 + 1))
def listT (a most : Int) : Pr (List En) := .load a fun n => if 64 < n then .ret [] else
  (nearF (a + 1) n most ((n.toNat + 3) / 4) 0 0 0).bind fun c => entF c.toNat 0 0 most [] ⟨a + 1 + ((n.toNat + 3) / 4 : Nat), 0, 0⟩
def cmpI (a b : Int) : Int := if a < b then -1 else if b < a then 1 else 0
def cmpF (key : List Nat) (n : Int) : Nat → Nat → Sm → Pr Int
  | 0, _, _ => .ret (cmpI key.length n)
  | m + 1, i, s => (nextT s).bind fun r => if cmpI (key.getD i 0) r.1 = 0 then cmpF key n m (i + 1) r.2 else .ret (cmpI (key.getD i 0) r.1)
def cmpT (key : List Nat) (record : Int) : Pr Int := .load (record + 1) fun n => cmpF key n (min key.length n.toNat) 0 ⟨record + 2, 0, 0⟩
def searchF (lists : Int) (key : List Nat) : Nat → Nat → Nat → Pr Int
  | 0, _, _ => .ret 0
  | m + 1, f, t => if f < t then .load (lists + 2 * ((f + t) / 2 : Nat)) fun rec_ => (cmpT key rec_).bind fun o =>
      if o < 0 then searchF lists key m f ((f + t) / 2) else if 0 < o then searchF lists key m ((f + t) / 2 + 1) t else .load (lists + 2 * ((f + t) / 2 : Nat) + 1) fun v => .ret v
    else .ret 0
def docsT (a : Int) : Pr Int := .load a fun v => .ret (v - 1)
def termT (a : Int) (key : List Nat) : Pr Int := if 4096 < key.length then .ret 0 else
  (docsT a).bind fun d => .load (a + 1) fun t => searchF (a + 2 + 4 * d) key 257 0 (min t.toNat 256)

/-! ### On any cells they come to an end, and store nothing -/
/-- Along every way, behind so many accesses. -/
inductive Ends {α : Type} (P : Nat → α → Prop) : Nat → Pr α → Prop
  | ret {n : Nat} {x : α} : P n x → Ends P n (.ret x)
  | load {n : Nat} {a : Int} {k : Int → Pr α} : (∀ v, U v → Ends P (n + 1) (k v)) → Ends P n (.load a k)
theorem Ends.mono {α : Type} {P Q : Nat → α → Prop} {n : Nat} {p : Pr α} (h : Ends P n p) (hPQ : ∀ m x, P m x → Q m x) : Ends Q n p := by
  induction h with
  | ret hp => exact .ret (hPQ _ _ hp)
  | load _ ih => exact .load fun v hv => ih v hv
theorem Ends.bind {α β : Type} {P : Nat → α → Prop} {Q : Nat → β → Prop} {n : Nat} {p : Pr α} {f : α → Pr β} (h : Ends P n p) (hf : ∀ m x, P m x → Ends Q m (f x)) : Ends Q n (p.bind f) := by
  induction h with
  | ret hp => exact hf _ _ hp
  | load _ ih => exact .load fun v hv => ih v hv
def SmU (s : Sm) : Prop := U s.c ∧ s.f ≤ 3
theorem ends_next (s : Sm) (hs : SmU s) (n : Nat) : Ends (fun m r => 0 ≤ r.1 ∧ r.1 < 256 ∧ SmU r.2 ∧ 4 * m + s.f = 4 * n + 1 + r.2.f) n (nextT s) := by
  obtain ⟨⟨h1, h2⟩, h3⟩ := hs
  unfold nextT
  split
  · refine .load fun v hv => .ret ?_
    obtain ⟨v1, v2⟩ := hv
    refine ⟨by show 0 ≤ v % 256; omega, by show v % 256 < 256; omega, ⟨⟨by show 0 ≤ v / 256; omega, by show v / 256 ≤ _; omega⟩, by show 3 ≤ 3; omega⟩, by show 4 * (n + 1) + s.f = 4 * n + 1 + 3; omega⟩
  · refine .ret ⟨by show 0 ≤ s.c % 256; omega, by show s.c % 256 < 256; omega, ⟨⟨by show 0 ≤ s.c / 256; omega, by show s.c / 256 ≤ _; omega⟩, by show s.f - 1 ≤ 3; omega⟩, by show 4 * n + s.f = 4 * n + 1 + (s.f - 1); omega⟩
theorem ends_numF : ∀ (m i : Nat) (a : Int) (s : Sm) (n : Nat), SmU s → 0 ≤ a → a < 128 ^ i → Ends (fun k r => 0 ≤ r.1 ∧ r.1 < 128 ^ (i + m) ∧ SmU r.2 ∧ 4 * k + s.f ≤ 4 * n + m + r.2.f) n (numF m i a s)
  | 0, i, a, s, n, hs, h0, h1 => .ret ⟨h0, h1, hs, by show 4 * n + s.f ≤ 4 * n + 0 + s.f; omega⟩
  | m + 1, i, a, s, n, hs, h0, h1 => by
    unfold numF
    refine (ends_next s hs n).bind fun k r hr => ?_
    obtain ⟨r0, r1, r2, r3⟩ := hr
    have hp : (0 : Int) < 128 ^ i := Int.pow_pos (by omega)
    have hb0 : 0 ≤ r.1 % 128 * 128 ^ i := Int.mul_nonneg (by omega) (by omega)
    have hb1 : r.1 % 128 * 128 ^ i ≤ 127 * 128 ^ i := Int.mul_le_mul_of_nonneg_right (by omega) (by omega)
    have hn1 : a + r.1 % 128 * 128 ^ i < 128 ^ (i + 1) := by rw [Int.pow_succ]; omega
    split
    · have hmono : (128 : Int) ^ (i + 1) ≤ 128 ^ (i + (m + 1)) := by
        rw [show i + (m + 1) = (i + 1) + m by omega, Int.pow_add 128 (i + 1) m]
        have h9 : (1 : Int) ≤ 128 ^ m := Int.pow_pos (by omega)
        have h8 : (0 : Int) < 128 ^ (i + 1) := Int.pow_pos (by omega)
        have := Int.mul_le_mul_of_nonneg_left h9 (show (0 : Int) ≤ 128 ^ (i + 1) by omega)
        omega
      exact .ret ⟨by show 0 ≤ a + _; omega, by show a + _ < _; omega, r2, by show 4 * k + s.f ≤ 4 * n + (m + 1) + r.2.f; omega⟩
    · refine (ends_numF m (i + 1) _ r.2 k r2 (by omega) hn1).mono fun k2 r' h => ?_
      obtain ⟨q0, q1, q2, q3⟩ := h
      refine ⟨q0, by rw [show i + (m + 1) = i + 1 + m by omega]; exact q1, q2, by omega⟩
theorem ends_num (s : Sm) (hs : SmU s) (n : Nat) : Ends (fun k r => 0 ≤ r.1 ∧ r.1 < 34359738368 ∧ SmU r.2 ∧ 4 * k + s.f ≤ 4 * n + 5 + r.2.f) n (numT s) :=
  (ends_numF 5 0 0 s n hs (by omega) (by decide)).mono fun _ _ h => ⟨h.1, by have := h.2.1; simpa using this, h.2.2⟩
theorem ends_posF : ∀ (m : Nat) (p : Int) (l : List Int) (s : Sm) (n : Nat), SmU s → Ends (fun k r => r.1.length = l.length + m ∧ SmU r.2 ∧ 4 * k + s.f ≤ 4 * n + 5 * m + r.2.f) n (posF m p l s)
  | 0, _, l, s, n, hs => .ret ⟨rfl, hs, by show 4 * n + s.f ≤ 4 * n + 5 * 0 + s.f; omega⟩
  | m + 1, p, l, s, n, hs => by
    unfold posF
    refine (ends_num s hs n).bind fun k r hr => ?_
    obtain ⟨_, _, r2, r3⟩ := hr
    refine (ends_posF m _ _ r.2 k r2).mono fun k2 r' h => ?_
    obtain ⟨q0, q1, q2⟩ := h
    refine ⟨by rw [q0]; simp; omega, q1, by omega⟩
theorem ends_places (s : Sm) (hs : SmU s) (n : Nat) : Ends (fun k r => SmU r.2 ∧ 4 * k + s.f ≤ 4 * n + 1285 + r.2.f) n (placesT s) := by
  unfold placesT
  refine (ends_num s hs n).bind fun k r hr => ?_
  obtain ⟨_, _, r2, r3⟩ := hr
  refine (ends_posF _ _ _ r.2 k r2).mono fun k2 r' h => ?_
  obtain ⟨q0, q1, q2⟩ := h
  exact ⟨q1, by omega⟩
theorem ends_entF : ∀ (m i : Nat) (doc most : Int) (l : List En) (s : Sm) (n : Nat), SmU s → Ends (fun k _ => 4 * k + s.f ≤ 4 * n + 1290 * m + 3) n (entF m i doc most l s)
  | 0, _, _, _, l, s, n, hs => .ret (by have := hs.2; omega)
  | m + 1, i, doc, most, l, s, n, hs => by
    unfold entF
    refine (ends_num s hs n).bind fun k r hr => ?_
    obtain ⟨_, _, r2, r3⟩ := hr
    have h3 := r2.2
    split
    · exact .ret (by omega)
    · refine (ends_places r.2 r2 k).bind fun k2 q hq => ?_
      obtain ⟨q0, q1⟩ := hq
      refine (ends_entF m _ _ most _ q.2 k2 q0).mono fun k3 _ h => ?_
      omega
theorem ends_nearF (b n most : Int) (hn : n ≤ 64) : ∀ (m k : Nat) (count least : Int) (a : Nat), count ≤ 64 → Ends (fun j x => j = a + m ∧ x ≤ 64) a (nearF b n most m k count least)
  | 0, _, _, _, a, h => .ret ⟨rfl, h⟩
  | m + 1, k, count, least, a, h => by
    unfold nearF
    refine .load fun v _ => (ends_nearF b n most hn m (k + 1) _ _ (a + 1) ?_).mono fun j x h => ⟨by omega, h.2⟩
    split <;> omega
theorem ends_list (a most : Int) (n : Nat) : Ends (fun k _ => k ≤ n + 20658) n (listT a most) := by
  unfold listT
  refine .load fun v hv => ?_
  split
  · exact .ret (by omega)
  · rename_i h64
    have hv0 := hv.1
    refine (ends_nearF (a + 1) v most (by omega) _ _ _ _ (n + 1) (by omega)).bind fun k x hx => ?_
    obtain ⟨h1, h2⟩ := hx
    have hm : ((v.toNat + 3) / 4 : Nat) ≤ 16 := by omega
    refine (ends_entF x.toNat 0 0 most [] _ k ⟨⟨by show (0 : Int) ≤ 0; omega, by show (0 : Int) ≤ _; omega⟩, by show 0 ≤ 3; omega⟩).mono fun k2 _ h => ?_
    have h9 : x.toNat ≤ 64 := by omega
    show k2 ≤ n + 20658
    have h8 : (⟨a + 1 + ((v.toNat + 3) / 4 : Nat), 0, 0⟩ : Sm).f = 0 := rfl
    rw [h8] at h
    omega
theorem ends_cmpF (key : List Nat) (n : Int) : ∀ (m i : Nat) (s : Sm) (a : Nat), SmU s → Ends (fun k _ => 4 * k + s.f ≤ 4 * a + m + 3) a (cmpF key n m i s)
  | 0, _, s, a, hs => .ret (by have := hs.2; omega)
  | m + 1, i, s, a, hs => by
    unfold cmpF
    refine (ends_next s hs a).bind fun k r hr => ?_
    obtain ⟨_, _, r2, r3⟩ := hr
    have h3 := r2.2
    split
    · exact (ends_cmpF key n m (i + 1) r.2 k r2).mono fun _ _ h => by omega
    · exact .ret (by omega)
theorem ends_cmp (key : List Nat) (record : Int) (a : Nat) : Ends (fun k _ => 4 * k ≤ 4 * a + key.length + 7) a (cmpT key record) := by
  unfold cmpT
  refine .load fun v _ => (ends_cmpF key v _ 0 ⟨record + 2, 0, 0⟩ (a + 1) ⟨⟨by show (0 : Int) ≤ 0; omega, by show (0 : Int) ≤ _; omega⟩, by show 0 ≤ 3; omega⟩).mono fun k _ h => ?_
  have h8 : (⟨record + 2, 0, 0⟩ : Sm).f = 0 := rfl
  rw [h8] at h
  omega
theorem ends_search (lists : Int) (key : List Nat) (hk : key.length ≤ 100) : ∀ (m f t : Nat) (a : Nat), Ends (fun k _ => k ≤ a + 28 * m) a (searchF lists key m f t)
  | 0, _, _, a => .ret (by omega)
  | m + 1, f, t, a => by
    unfold searchF
    split
    · refine .load fun v _ => (ends_cmp key v (a + 1)).bind fun k o ho => ?_
      split
      · exact (ends_search lists key hk m _ _ k).mono fun _ _ h => by omega
      · split
        · exact (ends_search lists key hk m _ _ k).mono fun _ _ h => by omega
        · exact .load fun _ _ => .ret (by omega)
    · exact .ret (by omega)
theorem ends_term (a : Int) (key : List Nat) (hk : key.length ≤ 100) (n : Nat) : Ends (fun k _ => k ≤ n + 7200) n (termT a key) := by
  unfold termT docsT
  split
  · exact .ret (by omega)
  · exact .load fun v _ => .load fun t _ => (ends_search _ key hk 257 0 _ (n + 1 + 1)).mono fun _ _ h => by omega
/-- What ends along every way comes to an end on cells where it only meets cells that are there. -/
theorem Ends.does {α : Type} {P : Nat → α → Prop} {n : Nat} {p : Pr α} (h : Ends P n p) {cs cs' : List Int} {m : Nat} {x : α} (hd : Does p cs m x cs') (hu : ∀ y ∈ cs, U y) : P (n + m) x ∧ cs' = cs := by
  induction hd generalizing n with
  | ret x cs => cases h with
    | ret hp => exact ⟨hp, rfl⟩
  | @load a k cs cs' m x h1 h2 _ ih => cases h with
    | load hk =>
      have hv : U (cs.getD a.toNat 0) := by
        rw [List.getD_eq_getElem?_getD, List.getElem?_eq_getElem (by omega)]
        exact hu _ (List.getElem_mem _)
      have := ih (hk _ hv) hu
      exact ⟨by rw [show n + (m + 1) = n + 1 + m by omega]; exact this.1, this.2⟩
  | store _ _ _ _ => cases h

/-! ### Bytes that stand in cells -/
def smB (s : Sm) : List Nat := (fourB s.c.toNat).take s.f
/-- Cells hold these numbers from an address on. -/
def CellsAt (cs : List Int) (a : Int) (C : List Nat) : Prop := 0 ≤ a ∧ a + C.length ≤ cs.length ∧ ∀ (j v : Nat), C[j]? = some v → cs.getD (a + j).toNat 0 = (v : Int) ∧ v < 4294967296
theorem CellsAt.head {cs : List Int} {a : Int} {v : Nat} {C : List Nat} (h : CellsAt cs a (v :: C)) : 0 ≤ a ∧ a < cs.length ∧ cs.getD a.toNat 0 = (v : Int) ∧ v < 4294967296 := by
  obtain ⟨h0, h1, h2⟩ := h
  have := h2 0 v rfl
  simp only [List.length_cons] at h1
  refine ⟨h0, by omega, ?_, this.2⟩
  rw [← this.1]
  simp
theorem CellsAt.tail {cs : List Int} {a : Int} {v : Nat} {C : List Nat} (h : CellsAt cs a (v :: C)) : CellsAt cs (a + 1) C := by
  obtain ⟨h0, h1, h2⟩ := h
  simp only [List.length_cons] at h1
  refine ⟨by omega, by omega, fun j x hj => ?_⟩
  have := h2 (j + 1) x hj
  rw [show a + 1 + (j : Int) = a + ((j + 1 : Nat) : Int) by omega]
  exact this
theorem CellsAt.drop {cs : List Int} : ∀ {C : List Nat} {a : Int} (k : Nat), CellsAt cs a C → k ≤ C.length → CellsAt cs (a + k) (C.drop k)
  | C, a, 0, h, _ => by simpa using h
  | [], a, k + 1, h, hk => by simp at hk
  | v :: C, a, k + 1, h, hk => by
    have := CellsAt.drop k h.tail (by simpa using hk)
    rw [show a + ((k + 1 : Nat) : Int) = a + 1 + (k : Int) by omega]
    exact this
theorem CellsAt.pre {cs : List Int} {a : Int} {C D : List Nat} (h : CellsAt cs a (C ++ D)) : CellsAt cs a C := by
  obtain ⟨h0, h1, h2⟩ := h
  simp only [List.length_append] at h1
  exact ⟨h0, by omega, fun j v hj => h2 j v (by rw [List.getElem?_append_left (List.getElem?_eq_some_iff.1 hj).1]; exact hj)⟩
theorem CellsAt.post {cs : List Int} {a : Int} {C D : List Nat} (h : CellsAt cs a (C ++ D)) : CellsAt cs (a + C.length) D := by
  have := CellsAt.drop C.length h (by simp)
  rwa [List.drop_left] at this
structure SmAt (cs : List Int) (s : Sm) (L : List Nat) : Prop where
  u : SmU s
  b : ∃ C, CellsAt cs s.a C ∧ L <+: smB s ++ bytesC C
theorem SmAt.new {cs : List Int} {a : Int} {C L : List Nat} (h : CellsAt cs a C) (hL : L <+: bytesC C) : SmAt cs ⟨a, 0, 0⟩ L := ⟨⟨⟨by show (0 : Int) ≤ 0; omega, by show (0 : Int) ≤ _; omega⟩, by show 0 ≤ 3; omega⟩, C, h, by simpa [smB] using hL⟩
theorem fourB_more (v : Nat) (k : Nat) (hk : k ≤ 3) : (fourB v).take (k + 1) = v % 256 :: (fourB (v / 256)).take k := by
  rcases (show k = 0 ∨ k = 1 ∨ k = 2 ∨ k = 3 by omega) with rfl | rfl | rfl | rfl
  all_goals simp [fourB, Nat.div_div_eq_div_mul]
theorem does_next {cs : List Int} {s : Sm} {b : Nat} {L : List Nat} (h : SmAt cs s (b :: L)) : ∃ s' m, Does (nextT s) cs m ((b : Int), s') cs ∧ SmAt cs s' L := by
  obtain ⟨⟨⟨u0, u1⟩, u2⟩, C, hC, hp⟩ := h
  unfold nextT
  by_cases hf : s.f = 0
  · rw [if_pos hf]
    have e : smB s = [] := by unfold smB; rw [hf]; rfl
    rw [e, List.nil_append] at hp
    cases C with
    | nil => obtain ⟨t, ht⟩ := hp; cases ht
    | cons v C =>
      obtain ⟨h0, h1, h2, h3⟩ := hC.head
      have e2 : bytesC (v :: C) = v % 256 :: ((fourB (v / 256)).take 3 ++ bytesC C) := by
        show fourB v ++ bytesC C = _
        have := fourB_more v 3 (by omega)
        rw [List.take_of_length_le (by simp [fourB])] at this
        rw [this]; rfl
      rw [e2, List.cons_prefix_cons] at hp
      obtain ⟨hb, hp⟩ := hp
      refine ⟨⟨s.a + 1, (v : Int) / 256, 3⟩, 1, .load h0 h1 ?_, ⟨⟨by show (0 : Int) ≤ (v : Int) / 256; omega, by show (v : Int) / 256 ≤ _; omega⟩, by show 3 ≤ 3; omega⟩, C, hC.tail, ?_⟩
      · rw [h2, hb]
        exact .ret _ _
      · unfold smB
        show L <+: (fourB ((v : Int) / 256).toNat).take 3 ++ bytesC C
        rw [show ((v : Int) / 256).toNat = v / 256 by omega]
        exact hp
  · rw [if_neg hf]
    obtain ⟨k, hk⟩ : ∃ k, s.f = k + 1 := ⟨s.f - 1, by omega⟩
    have e : smB s = s.c.toNat % 256 :: (fourB (s.c.toNat / 256)).take k := by unfold smB; rw [hk]; exact fourB_more _ _ (by omega)
    rw [e, List.cons_append, List.cons_prefix_cons] at hp
    obtain ⟨hb, hp⟩ := hp
    refine ⟨⟨s.a, s.c / 256, s.f - 1⟩, 0, ?_, ⟨⟨by show 0 ≤ s.c / 256; omega, by show s.c / 256 ≤ _; omega⟩, by show s.f - 1 ≤ 3; omega⟩, C, hC, ?_⟩
    · rw [hb, show ((s.c.toNat % 256 : Nat) : Int) = s.c % 256 by omega]
      exact .ret _ _
    · unfold smB
      show L <+: (fourB (s.c / 256).toNat).take (s.f - 1) ++ bytesC C
      rw [show (s.c / 256).toNat = s.c.toNat / 256 by omega, hk]
      exact hp
theorem does_numF {cs : List Int} : ∀ (f i : Nat) (n : Nat) (a : Int) (s : Sm) (L : List Nat), n < lim f → f ≤ 4 → SmAt cs s (putF f n ++ L) → ∃ s' m, Does (numF (f + 1) i a s) cs m (a + n * 128 ^ i, s') cs ∧ SmAt cs s' L
  | 0, i, n, a, s, L, hn, _, h => by
    simp only [lim] at hn
    obtain ⟨s', m, hd, h'⟩ := does_next h
    refine ⟨s', m + 0, hd.bind ?_, h'⟩
    dsimp only
    rw [if_pos (by omega), show ((n : Nat) : Int) % 128 = n by omega]
    exact .ret _ _
  | f + 1, i, n, a, s, L, hn, hf, h => by
    simp only [lim] at hn
    unfold putF at h
    by_cases h1 : n ≤ 127
    · rw [if_pos h1] at h
      obtain ⟨s', m, hd, h'⟩ := does_next h
      refine ⟨s', m + 0, hd.bind ?_, h'⟩
      dsimp only
      rw [if_pos (by omega), show ((n : Nat) : Int) % 128 = n by omega]
      exact .ret _ _
    · rw [if_neg h1, List.cons_append] at h
      obtain ⟨s', m, hd, h'⟩ := does_next h
      obtain ⟨s2, m2, hd2, h2⟩ := does_numF f (i + 1) (n / 128) (a + ((n % 128 + 128 : Nat) : Int) % 128 * 128 ^ i) s' L (by omega) (by omega) h'
      refine ⟨s2, m + m2, hd.bind ?_, h2⟩
      dsimp only
      rw [if_neg (by omega)]
      have e : a + ((n % 128 + 128 : Nat) : Int) % 128 * 128 ^ i + ((n / 128 : Nat) : Int) * 128 ^ (i + 1) = a + (n : Int) * 128 ^ i := by
        rw [show ((n % 128 + 128 : Nat) : Int) % 128 = (n : Int) % 128 by omega, show ((n / 128 : Nat) : Int) = (n : Int) / 128 by omega, Int.pow_succ, ← Int.mul_assoc, Int.mul_right_comm, Int.add_assoc, ← Int.add_mul]
        congr 2
        omega
      rw [← e]
      exact hd2
theorem does_num {cs : List Int} {n : Nat} {s : Sm} {L : List Nat} (hn : n < 4294967296) (h : SmAt cs s (putN n ++ L)) : ∃ s' m, Does (numT s) cs m ((n : Int), s') cs ∧ SmAt cs s' L := by
  obtain ⟨s', m, hd, h'⟩ := does_numF 4 0 n 0 s L hn (Nat.le_refl _) h
  refine ⟨s', m, ?_, h'⟩
  rw [show (0 : Int) + (n : Int) * 128 ^ 0 = n by simp] at hd
  exact hd
theorem does_posF {cs : List Int} : ∀ (l : List Int) (p : Int) (acc : List Int) (s : Sm) (L : List Nat), 0 ≤ p → p ≤ 65535 → riseB p l = true → SmAt cs s (posB p l ++ L) → ∃ s' m, Does (posF l.length p acc s) cs m (acc ++ l, s') cs ∧ SmAt cs s' L
  | [], p, acc, s, L, _, _, _, h => ⟨s, 0, by rw [List.append_nil]; exact .ret _ _, h⟩
  | q :: l, p, acc, s, L, h0, h1, hr, h => by
    unfold riseB at hr
    split at hr
    · cases hr
    rename_i hq
    rw [posB, List.append_assoc] at h
    obtain ⟨s', m, hd, h'⟩ := does_num (n := (q - p).toNat) (by omega) h
    obtain ⟨s2, m2, hd2, h2⟩ := does_posF l q (acc ++ [q]) s' L (by omega) (by omega) hr h'
    refine ⟨s2, m + m2, ?_, h2⟩
    rw [List.length_cons]
    unfold posF
    refine hd.bind ?_
    dsimp only
    rw [show p + (((q - p).toNat : Nat) : Int) = q by omega]
    rw [List.append_assoc] at hd2
    exact hd2
theorem does_posF0 {cs : List Int} (l : List Int) (s : Sm) (L : List Nat) (hu : UpP l) (h : SmAt cs s (posB 0 l ++ L)) : ∃ s' m, Does (posF l.length 0 [] s) cs m (l, s') cs ∧ SmAt cs s' L := by
  cases l with
  | nil => exact ⟨s, 0, .ret _ _, h⟩
  | cons q l =>
    have hr := (rise_up _).2 hu
    unfold riseB at hr
    split at hr
    · cases hr
    rename_i hq
    rw [posB, List.append_assoc] at h
    obtain ⟨s', m, hd, h'⟩ := does_num (n := (q - 0).toNat) (by omega) h
    obtain ⟨s2, m2, hd2, h2⟩ := does_posF l q [q] s' L (by omega) (by omega) hr h'
    refine ⟨s2, m + m2, ?_, h2⟩
    rw [List.length_cons]
    unfold posF
    refine hd.bind ?_
    dsimp only
    rw [show (0 : Int) + (((q - 0).toNat : Nat) : Int) = q by omega]
    exact hd2
theorem does_places {cs : List Int} (l : List Int) (s : Sm) (L : List Nat) (hl : l.length ≤ 256) (hu : UpP l) (h : SmAt cs s (putN l.length ++ (posB 0 l ++ L))) : ∃ s' m, Does (placesT s) cs m (l, s') cs ∧ SmAt cs s' L := by
  obtain ⟨s', m, hd, h'⟩ := does_num (n := l.length) (by omega) h
  obtain ⟨s2, m2, hd2, h2⟩ := does_posF0 l s' L hu h'
  refine ⟨s2, m + m2, hd.bind ?_, h2⟩
  dsimp only
  rw [show min ((l.length : Int)).toNat 256 = l.length by omega]
  exact hd2

/-! ### A list's entries -/
def below (l : List En) (most : Int) : List En := l.filter fun e => decide (e.1 < most)
theorem below_all {l : List En} {most : Int} (h : ∀ i, i < l.length → (enAt l i).1 < most) : below l most = l := by
  unfold below
  rw [List.filter_eq_self]
  intro e he
  obtain ⟨i, hi, rfl⟩ := List.mem_iff_getElem.1 he
  have := h i hi
  rw [enAt_some (List.getElem?_eq_getElem hi)] at this
  simpa using this
theorem docs_lt {l : List En} (h : MayE l) {i j : Nat} (hij : i < j) (hj : j < l.length) : (enAt l i).1 < (enAt l j).1 := by
  have h1 := (h.2 j hj).1.2.2 (by omega)
  rw [doc_map, doc_map] at h1
  have := docs_up h (j - 1 - i) i (by omega)
  rw [show i + (j - 1 - i) = j - 1 by omega] at this
  omega
theorem below_take {l : List En} (h : MayE l) {most : Int} {n : Nat} (hn : n ≤ l.length) (h1 : ∀ i, i < n → (enAt l i).1 < most) (h2 : n < l.length → most ≤ (enAt l n).1) : below l most = l.take n := by
  have e : l = l.take n ++ l.drop n := (List.take_append_drop n l).symm
  unfold below
  conv => lhs; rw [e]
  rw [List.filter_append]
  have a1 : (l.take n).filter (fun e => decide (e.1 < most)) = l.take n := by
    rw [List.filter_eq_self]
    intro x hx
    obtain ⟨i, hi, rfl⟩ := List.mem_iff_getElem.1 hx
    rw [List.length_take] at hi
    have := h1 i (by omega)
    rw [enAt_some (List.getElem?_eq_getElem (show i < l.length by omega))] at this
    rw [List.getElem_take]
    simpa using this
  have a2 : (l.drop n).filter (fun e => decide (e.1 < most)) = [] := by
    rw [List.filter_eq_nil_iff]
    intro x hx
    obtain ⟨i, hi, rfl⟩ := List.mem_iff_getElem.1 hx
    rw [List.length_drop] at hi
    have h3 := h2 (by omega)
    have h4 : (enAt l n).1 ≤ (enAt l (n + i)).1 := docs_up h i n (by omega)
    rw [enAt_some (List.getElem?_eq_getElem (show n + i < l.length by omega))] at h4
    rw [List.getElem_drop]
    simp only [decide_eq_true_eq]
    omega
  rw [a1, a2, List.append_nil]
theorem docOf_ahead (l : List En) (i : Nat) : docOf i (if i = 0 then 0 else (enAt l (i - 1)).1) = aheadD l i := by
  unfold docOf aheadD
  split
  · rfl
  · rw [if_neg (by omega)]
theorem does_entF {cs : List Int} {l : List En} (h : MayE l) (most : Int) : ∀ (m i : Nat) (s : Sm) (M : List Nat), i + m ≤ l.length → (∀ j, j < i → (enAt l j).1 < most) → (i + m < l.length → most ≤ (enAt l (i + m)).1) → SmAt cs s (bytesFrom l m i ++ M) →
    ∃ k, Does (entF m i (if i = 0 then 0 else (enAt l (i - 1)).1) most (l.take i) s) cs k (below l most) cs
  | 0, i, s, M, hi, hlow, hhigh, _ => by
    refine ⟨0, ?_⟩
    rw [below_take h (n := i) (by omega) hlow (by simpa using hhigh)]
    exact .ret _ _
  | m + 1, i, s, M, hi, hlow, hhigh, hs => by
    have hd := may_doc h (i := i) (by omega)
    have ha := may_ahead h (i := i) (by omega)
    obtain ⟨_, h1, h2, h3⟩ := h.2 i (by omega)
    rw [bytesFrom] at hs
    unfold entB at hs
    simp only [List.append_assoc] at hs
    obtain ⟨s1, k1, hd1, hs1⟩ := does_num (n := ((enAt l i).1 - aheadD l i).toNat) (by omega) hs
    have e1 : docOf i (if i = 0 then 0 else (enAt l (i - 1)).1) + ((((enAt l i).1 - aheadD l i).toNat : Nat) : Int) = (enAt l i).1 := by rw [docOf_ahead]; omega
    unfold entF
    by_cases hm : most ≤ (enAt l i).1
    · refine ⟨k1 + 0, hd1.bind ?_⟩
      dsimp only
      rw [e1, if_pos hm, below_take h (n := i) (by omega) hlow (fun _ => hm)]
      exact .ret _ _
    · obtain ⟨s2, k2, hd2, hs2⟩ := does_places (enAt l i).2 s1 (bytesFrom l m (i + 1) ++ M) h2 h3 hs1
      obtain ⟨k3, hd3⟩ := does_entF h most m (i + 1) s2 M (by omega) (fun j hj => by
        by_cases e : j = i
        · subst e; omega
        · exact hlow j (by omega)) (fun hlt => by rw [show i + 1 + m = i + (m + 1) by omega]; exact hhigh (by omega)) hs2
      refine ⟨k1 + (k2 + k3), hd1.bind ?_⟩
      dsimp only
      rw [e1, if_neg hm]
      refine hd2.bind ?_
      dsimp only
      rw [if_neg (by omega), Nat.add_sub_cancel, take_snoc_en (by omega)] at hd3
      exact hd3
theorem last_prev {l : List En} {k : Nat} (hk : 0 < k) (h : 4 * k < l.length) : lastI l (k - 1) = 4 * k - 1 := by unfold lastI; omega
/-- How many entries may be below: what is told of the blocks. -/
theorem does_nearF {cs : List Int} {l : List En} (h : MayE l) (most b : Int) (hc : CellsAt cs b (headsN l ((l.length + 3) / 4))) : ∀ (m k : Nat) (count : Nat) (least : Int), k + m = (l.length + 3) / 4 → count ≤ l.length → (∀ j, j < 4 * k → j < l.length → (enAt l j).1 < most → j < count) → least = (if k = 0 then 0 else (enAt l (lastI l (k - 1))).1 + 1) →
    ∃ n c : Nat, Does (nearF b l.length most m k count least) cs n (c : Int) cs ∧ c ≤ l.length ∧ ∀ j, j < l.length → (enAt l j).1 < most → j < c
  | 0, k, count, least, hk, hcl, hlow, _ => ⟨0, count, .ret _ _, hcl, fun j hj hd => hlow j (by omega) hj hd⟩
  | m + 1, k, count, least, hk, hcl, hlow, hl => by
    have h4 : 4 * k < l.length := by omega
    obtain ⟨q1, q2, q3⟩ := headAt_eq h h4
    obtain ⟨c0, c1, c2⟩ := hc
    rw [headsN_length] at c1
    have hv := (c2 k (headAt l k) (headsN_get (by omega))).1
    have hli : lastI l k < l.length := by unfold lastI; omega
    have hld := may_doc h hli
    have hdiv : ((headAt l k : Nat) : Int) / 65536 = (enAt l (lastI l k)).1 := by omega
    have hlm : least ≤ (enAt l (lastI l k)).1 + 1 := by
      rw [hl]
      split
      · omega
      · rw [last_prev (by omega) h4]
        have := docs_lt h (i := 4 * k - 1) (j := lastI l k) (by unfold lastI; omega) hli
        omega
    obtain ⟨cnt, hcnt⟩ : ∃ cnt : Nat, (if least < most then min (4 * (k : Int) + 4) (l.length : Int) else (count : Int)) = cnt ∧ cnt ≤ l.length ∧ ∀ j, j < 4 * (k + 1) → j < l.length → (enAt l j).1 < most → j < cnt := by
      by_cases hlt : least < most
      · refine ⟨min (4 * k + 4) l.length, by rw [if_pos hlt]; omega, by omega, fun j h1 h2 _ => by omega⟩
      · refine ⟨count, by rw [if_neg hlt], hcl, fun j h1 h2 h3 => ?_⟩
        by_cases h5 : j < 4 * k
        · exact hlow j h5 h2 h3
        · exfalso
          have hj := may_doc h h2
          rw [hl] at hlt
          split at hlt
          · omega
          · rw [last_prev (by omega) h4] at hlt
            have := docs_lt h (i := 4 * k - 1) (j := j) (by omega) h2
            omega
    obtain ⟨n, c, hd, hc2⟩ := does_nearF h most b ⟨c0, by rw [headsN_length]; exact c1, c2⟩ m (k + 1) cnt (max least ((enAt l (lastI l k)).1 + 1)) (by omega) hcnt.2.1 hcnt.2.2 (by
      rw [if_neg (by omega), Nat.add_sub_cancel, Int.max_eq_right hlm])
    refine ⟨n + 1, c, ?_, hc2⟩
    unfold nearF
    refine .load (by omega) (by omega) ?_
    rw [hv, hdiv, hcnt.1]
    exact hd
theorem does_list {cs : List Int} {l : List En} (h : MayE l) (a most : Int) (hc : CellsAt cs a (encN l)) : ∃ k, Does (listT a most) cs k (below l most) cs := by
  have h64 := h.1
  obtain ⟨c0, c1, c2, c3⟩ := hc.head
  have ht : CellsAt cs (a + 1) (headsN l ((l.length + 3) / 4) ++ cellsN (bytesTo l l.length)) := hc.tail
  obtain ⟨n, c, hd, hcl, hcov⟩ := does_nearF h most (a + 1) ht.pre ((l.length + 3) / 4) 0 0 0 (by omega) (by omega) (fun j hj => by omega) rfl
  have hb := ht.post
  rw [headsN_length] at hb
  obtain ⟨M, hM⟩ := bytesC_cells (bytesTo_byte h l.length (Nat.le_refl _))
  have e1 := bytesTo_from l c 0
  have e2 := bytesTo_from l (l.length - c) c
  rw [Nat.zero_add] at e1
  rw [show c + (l.length - c) = l.length by omega, e1] at e2
  simp only [bytesTo, List.nil_append] at e2
  have hsm : SmAt cs ⟨a + 1 + (((l.length : Nat) : Int).toNat + 3) / 4, 0, 0⟩ (bytesFrom l c 0 ++ bytesFrom l (l.length - c) c) := by
    refine SmAt.new (C := cellsN (bytesTo l l.length)) ?_ ⟨M, ?_⟩
    · rw [show (((l.length : Nat) : Int).toNat : Int) = (l.length : Int) by omega, show ((l.length : Int) + 3) / 4 = (((l.length + 3) / 4 : Nat) : Int) by omega]
      exact hb
    · rw [hM, e2]
  obtain ⟨k, hk⟩ := does_entF h most c 0 _ _ (by omega) (fun j hj => by omega) (fun hlt => by
    have h9 := hcov c (by omega)
    rw [Nat.zero_add]
    apply Int.not_lt.1
    intro h8
    exact absurd (h9 h8) (by omega)) hsm
  refine ⟨n + k + 1, ?_⟩
  unfold listT
  refine .load c0 c1 ?_
  rw [c2, if_neg (by omega)]
  refine Does.bind (x := ((c : Nat) : Int)) (cs1 := cs) ?_ ?_
  · rw [show ((l.length : Int)).toNat = l.length by omega]
    exact hd
  · rw [show ((c : Int)).toNat = c by omega]
    exact hk

/-! ### Keys, held against records -/
def cmpL : List Nat → List Nat → Int
  | [], [] => 0
  | [], _ :: _ => -1
  | _ :: _, [] => 1
  | a :: x, b :: y => if cmpI a b = 0 then cmpL x y else cmpI a b
theorem cmpI_zero {a b : Nat} : cmpI a b = 0 ↔ a = b := by
  unfold cmpI
  split
  · constructor <;> intro h <;> omega
  · split
    · constructor <;> intro h <;> omega
    · constructor <;> intro h <;> omega
theorem cmpI_neg {a b : Nat} : cmpI a b < 0 ↔ a < b := by
  unfold cmpI
  split
  · constructor <;> intro h <;> omega
  · split
    · constructor <;> intro h <;> omega
    · constructor <;> intro h <;> omega
theorem cmpL_spec : ∀ (x y : List Nat), (cmpL x y < 0 ↔ lessN x y = true) ∧ (cmpL x y = 0 ↔ x = y)
  | [], [] => by simp [cmpL, lessN]
  | [], _ :: _ => by simp [cmpL, lessN]
  | _ :: _, [] => by simp [cmpL, lessN]
  | a :: x, b :: y => by
    have ih := cmpL_spec x y
    have z := cmpI_zero (a := a) (b := b)
    have n := cmpI_neg (a := a) (b := b)
    rw [cmpL, lessN_cons]
    split
    · rename_i h0
      obtain rfl := z.1 h0
      simp only [Nat.lt_irrefl, decide_false, Bool.false_or, beq_self_eq_true, Bool.true_and, List.cons.injEq, true_and]
      exact ih
    · rename_i h0
      have hab : a ≠ b := fun e => h0 (z.2 e)
      refine ⟨?_, ?_⟩
      · rw [n]; simp [hab]
      · simp [h0, hab]
theorem cmpI_shift (a b i : Nat) : cmpI ((a + i : Nat) : Int) ((b + i : Nat) : Int) = cmpI a b := by
  have e1 : (((a + i : Nat) : Int) < ((b + i : Nat) : Int)) ↔ ((a : Int) < (b : Int)) := by omega
  have e2 : (((b + i : Nat) : Int) < ((a + i : Nat) : Int)) ↔ ((b : Int) < (a : Int)) := by omega
  unfold cmpI
  simp only [e1, e2]
theorem does_cmpF {cs : List Int} (key kr : List Nat) : ∀ (m i : Nat) (s : Sm), i + m = min key.length kr.length → SmAt cs s (kr.drop i) → ∃ n, Does (cmpF key kr.length m i s) cs n (cmpL (key.drop i) (kr.drop i)) cs
  | 0, i, s, hm, _ => by
    refine ⟨0, ?_⟩
    have e : cmpL (key.drop i) (kr.drop i) = cmpI key.length kr.length := by
      have h1 := List.length_drop (i := i) (l := key)
      have h2 := List.length_drop (i := i) (l := kr)
      have h3 := cmpI_shift (key.length - i) (kr.length - i) i
      rw [show key.length - i + i = key.length by omega, show kr.length - i + i = kr.length by omega] at h3
      rw [h3]
      generalize key.drop i = x at *
      generalize kr.drop i = y at *
      rw [← h1, ← h2]
      cases x with
      | nil => cases y with
        | nil => rfl
        | cons b y => simp only [cmpL, cmpI, List.length_nil, List.length_cons]; rw [if_pos (by omega)]
      | cons a x => cases y with
        | nil => simp only [cmpL, cmpI, List.length_nil, List.length_cons]; rw [if_neg (by omega), if_pos (by omega)]
        | cons b y => simp only [List.length_cons] at h1 h2; omega
    rw [e]
    exact .ret _ _
  | m + 1, i, s, hm, hs => by
    have hk : i < key.length := by omega
    have hr : i < kr.length := by omega
    rw [List.drop_eq_getElem_cons hr] at hs
    obtain ⟨s', n, hd, hs'⟩ := does_next hs
    obtain ⟨n2, hd2⟩ := does_cmpF key kr m (i + 1) s' (by omega) hs'
    have e : key.getD i 0 = key[i] := by rw [List.getD_eq_getElem?_getD, List.getElem?_eq_getElem hk]; rfl
    rw [List.drop_eq_getElem_cons hk, List.drop_eq_getElem_cons hr, cmpL]
    by_cases h0 : cmpI (key[i] : Nat) (kr[i] : Nat) = 0
    · refine ⟨n + n2, ?_⟩
      unfold cmpF
      refine hd.bind ?_
      dsimp only
      rw [e, if_pos h0, if_pos h0]
      exact hd2
    · refine ⟨n + 0, ?_⟩
      unfold cmpF
      refine hd.bind ?_
      dsimp only
      rw [e, if_neg h0, if_neg h0]
      exact .ret _ _
theorem does_cmp {cs : List Int} (key kr : List Nat) (record : Int) (hb : ∀ b ∈ kr, b < 256) (h : CellsAt cs (record + 1) (kr.length :: cellsN kr)) : ∃ n, Does (cmpT key record) cs n (cmpL key kr) cs := by
  obtain ⟨c0, c1, c2, c3⟩ := h.head
  obtain ⟨M, hM⟩ := bytesC_cells hb
  have hs : SmAt cs ⟨record + 2, 0, 0⟩ (kr.drop 0) := by
    refine SmAt.new (C := cellsN kr) ?_ ⟨M, by rw [hM]; rfl⟩
    have := h.tail
    rwa [show record + 1 + 1 = record + 2 by omega] at this
  obtain ⟨n, hd⟩ := does_cmpF key kr (min key.length kr.length) 0 _ (by omega) hs
  refine ⟨n + 1, ?_⟩
  unfold cmpT
  refine .load c0 c1 ?_
  rw [c2, show ((kr.length : Int)).toNat = kr.length by omega]
  exact hd

/-! ### Among lists whose keys rise -/
theorem lessN_irrefl : ∀ x : List Nat, lessN x x = false
  | [] => rfl
  | a :: x => by rw [lessN_cons, lessN_irrefl x]; simp
theorem lessN_trans : ∀ x y z : List Nat, lessN x y = true → lessN y z = true → lessN x z = true
  | _, _, [], _, h => by cases ‹List Nat› <;> simp [lessN] at h
  | [], _, _ :: _, _, _ => rfl
  | _ :: _, [], _ :: _, h, _ => by simp [lessN] at h
  | a :: x, b :: y, c :: z, h1, h2 => by
    rw [lessN_cons] at h1 h2 ⊢
    simp only [Bool.or_eq_true, decide_eq_true_eq, Bool.and_eq_true, beq_iff_eq] at h1 h2 ⊢
    rcases h1 with h1 | ⟨e1, h1⟩
    · rcases h2 with h2 | ⟨e2, h2⟩
      · exact .inl (by omega)
      · exact .inl (by omega)
    · rcases h2 with h2 | ⟨e2, h2⟩
      · exact .inl (by omega)
      · exact .inr ⟨by omega, lessN_trans x y z h1 h2⟩
theorem rise_less {L : List Li} (h : RiseK L) : ∀ t s, s + t + 1 < L.length → lessN (keyN (liAt L s).key) (keyN (liAt L (s + t + 1)).key) = true
  | 0, s, hs => h (s + 1) hs (by omega)
  | t + 1, s, hs => lessN_trans _ _ _ (rise_less h t s (by omega)) (by have := h (s + (t + 1) + 1) hs (by omega); rwa [show s + (t + 1) + 1 - 1 = s + t + 1 by omega] at this)
theorem rise_lt {L : List Li} (h : RiseK L) {i j : Nat} (hij : i < j) (hj : j < L.length) : lessN (keyN (liAt L i).key) (keyN (liAt L j).key) = true := by
  have := rise_less h (j - 1 - i) i (by omega)
  rwa [show i + (j - 1 - i) + 1 = j by omega] at this
theorem rise_ne {L : List Li} (h : RiseK L) {i j : Nat} (hi : i < L.length) (hj : j < L.length) (e : keyN (liAt L i).key = keyN (liAt L j).key) : i = j := by
  rcases Nat.lt_trichotomy i j with h1 | h1 | h1
  · have := rise_lt h h1 hj
    rw [e, lessN_irrefl] at this
    cases this
  · exact h1
  · have := rise_lt h h1 hi
    rw [e, lessN_irrefl] at this
    cases this
theorem keyN_lt (s : ByteArray) : ∀ b ∈ keyN s, b < 256 := by
  intro b hb
  obtain ⟨x, _, rfl⟩ := List.mem_map.1 hb
  exact x.toNat_lt
/-- What the search finds on its way: each list's record, each list's place. -/
structure Told (cs : List Int) (lists : Int) (L : List Li) (ad : Nat → Int) : Prop where
  rise : RiseK L
  lo : 0 ≤ lists
  hi : lists + 2 * L.length ≤ cs.length
  rec_ : ∀ i, i < L.length → cs.getD (lists + 2 * (i : Int)).toNat 0 = (liAt L i).record
  at_ : ∀ i, i < L.length → cs.getD (lists + 2 * (i : Int) + 1).toNat 0 = ad i
  key : ∀ i, i < L.length → CellsAt cs ((liAt L i).record + 1) ((keyN (liAt L i).key).length :: cellsN (keyN (liAt L i).key))
def Found (L : List Li) (ad : Nat → Int) (key : List Nat) (f t : Nat) (r : Int) : Prop := (∃ i, f ≤ i ∧ i < t ∧ keyN (liAt L i).key = key ∧ r = ad i) ∨ (r = 0 ∧ ∀ i, f ≤ i → i < t → keyN (liAt L i).key ≠ key)
theorem does_search {cs : List Int} {lists : Int} {L : List Li} {ad : Nat → Int} (h : Told cs lists L ad) (key : List Nat) : ∀ (m f t : Nat), t ≤ L.length → t - f ≤ m → ∃ n r, Does (searchF lists key m f t) cs n r cs ∧ Found L ad key f t r
  | 0, f, t, ht, hm => ⟨0, 0, .ret _ _, .inr ⟨rfl, fun i h1 h2 => by omega⟩⟩
  | m + 1, f, t, ht, hm => by
    unfold searchF
    by_cases hft : f < t
    · rw [if_pos hft]
      obtain ⟨mid, hmid⟩ : ∃ mid, (f + t) / 2 = mid := ⟨_, rfl⟩
      rw [hmid]
      have hml : mid < L.length := by omega
      have hlo := h.lo
      have hhi := h.hi
      obtain ⟨n, hd⟩ := does_cmp key (keyN (liAt L mid).key) (liAt L mid).record (keyN_lt _) (h.key mid hml)
      obtain ⟨s1, s2⟩ := cmpL_spec key (keyN (liAt L mid).key)
      obtain ⟨o, ho⟩ : ∃ o, cmpL key (keyN (liAt L mid).key) = o := ⟨_, rfl⟩
      rw [ho] at hd s1 s2
      by_cases h1 : o < 0
      · obtain ⟨n2, r, hd2, hf⟩ := does_search h key m f mid (by omega) (by omega)
        refine ⟨n + n2 + 1, r, .load (by omega) (by omega) ?_, ?_⟩
        · rw [h.rec_ mid hml]
          refine hd.bind ?_
          rw [if_pos h1]
          exact hd2
        · rcases hf with ⟨i, a1, a2, a3, a4⟩ | ⟨a1, a2⟩
          · exact .inl ⟨i, a1, by omega, a3, a4⟩
          · refine .inr ⟨a1, fun i b1 b2 e => ?_⟩
            by_cases hi : i < mid
            · exact a2 i b1 hi e
            · have hlt : lessN key (keyN (liAt L i).key) = true := by
                by_cases e2 : i = mid
                · subst e2; exact s1.1 h1
                · exact lessN_trans _ _ _ (s1.1 h1) (rise_lt h.rise (by omega) (by omega))
              rw [e, lessN_irrefl] at hlt
              cases hlt
      · by_cases h2 : 0 < o
        · obtain ⟨n2, r, hd2, hf⟩ := does_search h key m (mid + 1) t ht (by omega)
          have hgt : lessN (keyN (liAt L mid).key) key = true := by
            have h3 := lessN_total key (keyN (liAt L mid).key)
            have h4 : lessN key (keyN (liAt L mid).key) = false := by
              cases e : lessN key (keyN (liAt L mid).key) with
              | false => rfl
              | true => exact absurd (s1.2 e) (by omega)
            have h5 : (key == keyN (liAt L mid).key) = false := by
              simp only [beq_eq_false_iff_ne, ne_eq]
              intro e
              have := s2.2 e
              omega
            rw [h4, h5] at h3
            simpa using h3
          refine ⟨n + n2 + 1, r, .load (by omega) (by omega) ?_, ?_⟩
          · rw [h.rec_ mid hml]
            refine hd.bind ?_
            rw [if_neg h1, if_pos h2]
            exact hd2
          · rcases hf with ⟨i, a1, a2, a3, a4⟩ | ⟨a1, a2⟩
            · exact .inl ⟨i, by omega, a2, a3, a4⟩
            · refine .inr ⟨a1, fun i b1 b2 e => ?_⟩
              by_cases hi : mid + 1 ≤ i
              · exact a2 i hi b2 e
              · have hlt : lessN (keyN (liAt L i).key) key = true := by
                  by_cases e2 : i = mid
                  · subst e2; exact hgt
                  · exact lessN_trans _ _ _ (rise_lt h.rise (by omega) hml) hgt
                rw [e, lessN_irrefl] at hlt
                cases hlt
        · have e0 : o = 0 := by omega
          refine ⟨n + 1 + 1, ad mid, .load (by omega) (by omega) ?_, .inl ⟨mid, by omega, by omega, (s2.1 e0).symm, rfl⟩⟩
          rw [h.rec_ mid hml]
          refine hd.bind ?_
          rw [if_neg h1, if_neg h2]
          refine .load (by omega) (by omega) ?_
          rw [h.at_ mid hml]
          exact .ret _ _
    · rw [if_neg hft]
      exact ⟨0, 0, .ret _ _, .inr ⟨rfl, fun i h1 h2 => by omega⟩⟩
theorem does_docs {cs : List Int} {a : Int} {n : Nat} (h0 : 0 ≤ a) (h1 : a < cs.length) (h : cs.getD a.toNat 0 = (n : Int) + 1) : Does (docsT a) cs 1 (n : Int) cs := by
  unfold docsT
  refine .load h0 h1 ?_
  rw [h, show (n : Int) + 1 - 1 = n by omega]
  exact .ret _ _
theorem does_term {cs : List Int} {a : Int} {n : Nat} {L : List Li} {ad : Nat → Int} (h0 : 0 ≤ a) (h1 : a + 1 < cs.length) (hn : cs.getD a.toNat 0 = (n : Int) + 1) (ht : cs.getD (a + 1).toNat 0 = (L.length : Int)) (hl : L.length ≤ 256) (hT : Told cs (a + 2 + 4 * (n : Int)) L ad) (key : List Nat) (hk : key.length ≤ 4096) :
    ∃ k r, Does (termT a key) cs k r cs ∧ Found L ad key 0 L.length r := by
  obtain ⟨k, r, hd, hf⟩ := does_search hT key 257 0 L.length (Nat.le_refl _) (by omega)
  refine ⟨1 + (k + 1), r, ?_, hf⟩
  unfold termT
  rw [if_neg (by omega)]
  refine (does_docs h0 (by omega) hn).bind ?_
  refine .load (by omega) h1 ?_
  rw [ht, show min ((L.length : Int)).toNat 256 = L.length by omega]
  exact hd
theorem Found.at_ {L : List Li} {ad : Nat → Int} {r : Int} (hR : RiseK L) {i : Nat} (hi : i < L.length) (h : Found L ad (keyN (liAt L i).key) 0 L.length r) : r = ad i := by
  rcases h with ⟨j, _, h2, h3, h4⟩ | ⟨_, h2⟩
  · rw [h4, rise_ne hR h2 hi h3]
  · exact absurd rfl (h2 i (by omega) hi)
end Go.Proofs.Ytkjimgidlpocbaa
