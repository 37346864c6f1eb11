/-
  Lists of entries as cells, without the program's text: which may be, their bytes, their cells, reading them.
-/
import Derived.Test.YtaaeooimalglaaaVlqPure
import Derived.Test.YtaaeooimalglaaaPackPure
namespace Go.Proofs.Ytaaeooimalglaaa

/-- An entry: its document, its places. -/
abbrev En := Int × List Int
def enAt (l : List En) (i : Nat) : En := l.getD i (0, [])
theorem enAt_some {l : List En} {i : Nat} {e : En} (h : l[i]? = some e) : enAt l i = e := by unfold enAt; rw [List.getD_eq_getElem?_getD, h]; rfl
theorem enAt_lt {l : List En} {i : Nat} (h : i < l.length) : l[i]? = some (enAt l i) := by
  unfold enAt
  rw [List.getD_eq_getElem?_getD, List.getElem?_eq_getElem h]
  rfl
/-! ### Which may be -/
def okP (l : List Int) (k : Nat) : Prop := 0 ≤ l.getD k 0 ∧ l.getD k 0 ≤ 65535 ∧ (0 < k → l.getD (k - 1) 0 < l.getD k 0)
instance (l : List Int) (k : Nat) : Decidable (okP l k) := by unfold okP; exact inferInstance
def UpP (l : List Int) : Prop := ∀ k, k < l.length → okP l k
instance (l : List Int) : Decidable (UpP l) := by unfold UpP; exact inferInstance
def okE (l : List En) (i : Nat) : Prop := okP (l.map (·.1)) i ∧ 1 ≤ (enAt l i).2.length ∧ (enAt l i).2.length ≤ 256 ∧ UpP (enAt l i).2
instance (l : List En) (k : Nat) : Decidable (okE l k) := by unfold okE; exact inferInstance
def MayE (l : List En) : Prop := l.length ≤ 64 ∧ ∀ i, i < l.length → okE l i
instance (l : List En) : Decidable (MayE l) := by unfold MayE; exact inferInstance
def mayB (l : List En) : Bool := decide (MayE l)
theorem mayB_false {l : List En} (h : ¬ MayE l) : mayB l = false := decide_eq_false h
theorem doc_map (l : List En) (i : Nat) : (l.map (·.1)).getD i 0 = (enAt l i).1 := by
  unfold enAt
  rw [List.getD_eq_getElem?_getD, List.getElem?_map, List.getD_eq_getElem?_getD]
  cases l[i]? <;> rfl
/-- By a bound that goes along. -/
def riseB : Int → List Int → Bool
  | _, [] => true
  | a, x :: l => if x ≤ a ∨ 65535 < x then false else riseB x l
theorem rise_iff : ∀ (l : List Int) (a : Int), riseB a l = true ↔ ∀ k, k < l.length → l.getD k 0 ≤ 65535 ∧ (if k = 0 then a else l.getD (k - 1) 0) < l.getD k 0
  | [], a => by simp [riseB]
  | x :: l, a => by
    unfold riseB
    by_cases h : x ≤ a ∨ 65535 < x
    · rw [if_pos h]
      refine ⟨fun c => (by cases c), fun c => ?_⟩
      have := c 0 (by simp)
      simp at this
      omega
    · rw [if_neg h, rise_iff l x]
      constructor
      · intro c k hk
        cases k with
        | zero => simp; omega
        | succ k =>
          have := c k (by simpa using hk)
          cases k with
          | zero => simpa using this
          | succ k => simpa using this
      · intro c k hk
        have := c (k + 1) (by simpa using hk)
        cases k with
        | zero => simpa using this
        | succ k => simpa using this
theorem up_pos {l : List Int} (h : ∀ k, k < l.length → l.getD k 0 ≤ 65535 ∧ (if k = 0 then (-1 : Int) else l.getD (k - 1) 0) < l.getD k 0) : ∀ k, k < l.length → 0 ≤ l.getD k 0
  | 0, hk => by have := (h 0 hk).2; simp at this; simp; omega
  | k + 1, hk => by
    have h1 := up_pos h k (by omega)
    have := (h (k + 1) hk).2
    rw [if_neg (by omega), Nat.add_sub_cancel] at this
    omega
theorem rise_up (l : List Int) : riseB (-1) l = true ↔ UpP l := by
  rw [rise_iff]
  constructor
  · intro h k hk
    have h0 := up_pos h k hk
    have h1 := h k hk
    refine ⟨h0, h1.1, fun h2 => ?_⟩
    rw [if_neg (by omega)] at h1
    exact h1.2
  · intro h k hk
    obtain ⟨h1, h2, h3⟩ := h k hk
    refine ⟨h2, ?_⟩
    by_cases hk0 : k = 0
    · rw [if_pos hk0]; omega
    · rw [if_neg hk0]; exact h3 (by omega)
/-! ### Bytes -/
def posB : Int → List Int → List Nat
  | _, [] => []
  | a, p :: l => putN (p - a).toNat ++ posB p l
def entB (a : Int) (e : En) : List Nat := putN (e.1 - a).toNat ++ (putN e.2.length ++ posB 0 e.2)
def aheadD (l : List En) (i : Nat) : Int := if i % 4 = 0 then 0 else (enAt l (i - 1)).1
def bytesTo (l : List En) : Nat → List Nat
  | 0 => []
  | n + 1 => bytesTo l n ++ entB (aheadD l n) (enAt l n)
def lastI (l : List En) (k : Nat) : Nat := min (4 * k + 3) (l.length - 1)
def headAt (l : List En) (k : Nat) : Nat := (65536 * (enAt l (lastI l k)).1).toNat + (bytesTo l (4 * k)).length
def headsN (l : List En) (n : Nat) : List Nat := (List.range n).map (headAt l)
theorem headsN_snoc (l : List En) (n : Nat) : headsN l (n + 1) = headsN l n ++ [headAt l n] := by simp [headsN, List.range_succ]
theorem headsN_length (l : List En) (n : Nat) : (headsN l n).length = n := by simp [headsN]
theorem headsN_get {l : List En} {n k : Nat} (h : k < n) : (headsN l n)[k]? = some (headAt l k) := by
  unfold headsN
  rw [List.getElem?_map, List.getElem?_range h]
  rfl
def encN (l : List En) : List Nat := l.length :: (headsN l ((l.length + 3) / 4) ++ cellsN (bytesTo l l.length))
theorem encN_length (l : List En) : (encN l).length = 1 + ((l.length + 3) / 4 + ((bytesTo l l.length).length + 3) / 4) := by
  unfold encN
  rw [List.length_cons, List.length_append, headsN_length, cellsN_length]
  omega
theorem put_len3 {n : Nat} (h : n < 2097152) : (putN n).length ≤ 3 := by
  unfold putN
  rw [putF]
  split
  · simp
  rw [putF]
  split
  · simp
  rw [putF]
  split
  · simp
  · omega
theorem posB_len : ∀ (l : List Int) (a : Int), 0 ≤ a → a ≤ 65535 → (∀ x ∈ l, 0 ≤ x ∧ x ≤ 65535) → (posB a l).length ≤ 3 * l.length
  | [], a, _, _, _ => by simp [posB]
  | p :: l, a, h0, h1, h => by
    have hp := h p (by simp)
    have ih := posB_len l p hp.1 hp.2 fun x hx => h x (by simp [hx])
    have := put_len3 (n := (p - a).toNat) (by omega)
    simp only [posB, List.length_append, List.length_cons]
    omega
theorem okP_mem {l : List Int} (h : UpP l) : ∀ x ∈ l, 0 ≤ x ∧ x ≤ 65535 := by
  intro x hx
  obtain ⟨k, hk, rfl⟩ := List.mem_iff_getElem.1 hx
  have := h k hk
  unfold okP at this
  rw [List.getD_eq_getElem?_getD, List.getElem?_eq_getElem hk] at this
  exact ⟨this.1, this.2.1⟩
theorem may_doc {l : List En} (h : MayE l) {i : Nat} (hi : i < l.length) : 0 ≤ (enAt l i).1 ∧ (enAt l i).1 ≤ 65535 := by
  have := (h.2 i hi).1
  unfold okP at this
  rw [doc_map] at this
  exact ⟨this.1, this.2.1⟩
theorem may_ahead {l : List En} (h : MayE l) {i : Nat} (hi : i < l.length) : 0 ≤ aheadD l i ∧ aheadD l i ≤ (enAt l i).1 := by
  have hd := may_doc h hi
  unfold aheadD
  split
  · omega
  · rename_i h4
    have h1 := may_doc h (i := i - 1) (by omega)
    have := (h.2 i hi).1.2.2 (by omega)
    rw [doc_map, doc_map] at this
    omega
theorem entB_len {l : List En} (h : MayE l) {i : Nat} (hi : i < l.length) : (entB (aheadD l i) (enAt l i)).length ≤ 774 := by
  have hd := may_doc h hi
  have ha := may_ahead h hi
  obtain ⟨_, h1, h2, h3⟩ := h.2 i hi
  have := posB_len (enAt l i).2 0 (by omega) (by omega) (okP_mem h3)
  have := put_len3 (n := ((enAt l i).1 - aheadD l i).toNat) (by omega)
  have := put_len3 (n := (enAt l i).2.length) (by omega)
  unfold entB
  rw [List.length_append, List.length_append]
  omega
theorem bytesTo_len {l : List En} (h : MayE l) : ∀ n, n ≤ l.length → (bytesTo l n).length ≤ 774 * n
  | 0, _ => by simp [bytesTo]
  | n + 1, hn => by
    have := bytesTo_len h n (by omega)
    have := entB_len h (i := n) (by omega)
    simp only [bytesTo, List.length_append]
    omega
theorem bytesTo_mono (l : List En) : ∀ n m, n ≤ m → (bytesTo l n).length ≤ (bytesTo l m).length
  | n, 0, h => by
    obtain rfl : n = 0 := by omega
    exact Nat.le_refl _
  | n, m + 1, h => by
    by_cases e : n = m + 1
    · subst e; exact Nat.le_refl _
    · have := bytesTo_mono l n m (by omega)
      simp only [bytesTo, List.length_append]
      omega
theorem posB_byte : ∀ (l : List Int) (a : Int), 0 ≤ a → a ≤ 65535 → (∀ x ∈ l, 0 ≤ x ∧ x ≤ 65535) → ∀ b ∈ posB a l, b < 256
  | [], a, _, _, _, b, hb => by simp [posB] at hb
  | p :: l, a, h0, h1, h, b, hb => by
    have hp := h p (by simp)
    simp only [posB, List.mem_append] at hb
    rcases hb with hb | hb
    · exact putN_byte (by omega) b hb
    · exact posB_byte l p hp.1 hp.2 (fun x hx => h x (by simp [hx])) b hb
theorem entB_byte {l : List En} (h : MayE l) {i : Nat} (hi : i < l.length) : ∀ b ∈ entB (aheadD l i) (enAt l i), b < 256 := by
  intro b hb
  have hd := may_doc h hi
  have ha := may_ahead h hi
  obtain ⟨_, h1, h2, h3⟩ := h.2 i hi
  unfold entB at hb
  simp only [List.mem_append] at hb
  rcases hb with hb | hb | hb
  · exact putN_byte (by omega) b hb
  · exact putN_byte (by omega) b hb
  · exact posB_byte _ 0 (by omega) (by omega) (okP_mem h3) b hb
theorem bytesTo_byte {l : List En} (h : MayE l) : ∀ n, n ≤ l.length → ∀ b ∈ bytesTo l n, b < 256
  | 0, _, b, hb => by simp [bytesTo] at hb
  | n + 1, hn, b, hb => by
    simp only [bytesTo, List.mem_append] at hb
    rcases hb with hb | hb
    · exact bytesTo_byte h n (by omega) b hb
    · exact entB_byte h (by omega) b hb
theorem headAt_eq {l : List En} (h : MayE l) {k : Nat} (hk : 4 * k < l.length) : ((headAt l k : Nat) : Int) = 65536 * (enAt l (lastI l k)).1 + ((bytesTo l (4 * k)).length : Int) ∧ headAt l k < 4294967296 ∧ (bytesTo l (4 * k)).length ≤ 65535 := by
  have hl : lastI l k < l.length := by unfold lastI; omega
  have hd := may_doc h hl
  have hb := bytesTo_len h (4 * k) (by omega)
  have := h.1
  unfold headAt
  omega
/-! ### A block's bytes -/
def blkB : Int → List En → List Nat
  | _, [] => []
  | a, e :: r => entB a e ++ blkB e.1 r
def lastD : Int → List En → Int
  | a, [] => a
  | _, e :: r => lastD e.1 r
theorem blkB_snoc : ∀ (r : List En) (a : Int) (e : En), blkB a (r ++ [e]) = blkB a r ++ entB (lastD a r) e
  | [], a, e => by simp [blkB, lastD]
  | x :: r, a, e => by
    have := blkB_snoc r x.1 e
    simp only [List.cons_append, blkB, lastD, this, List.append_assoc]
theorem lastD_snoc : ∀ (r : List En) (a : Int) (e : En), lastD a (r ++ [e]) = e.1
  | [], a, e => rfl
  | x :: r, a, e => by
    simp only [List.cons_append, lastD]
    exact lastD_snoc r x.1 e
def blkOf (l : List En) (k : Nat) : List En := (l.drop (4 * k)).take 4
theorem blkOf_length {l : List En} {k : Nat} : (blkOf l k).length = min 4 (l.length - 4 * k) := by unfold blkOf; simp
theorem take_get {l : List En} {s m : Nat} (h : s + m < l.length) : (l.drop s).take (m + 1) = (l.drop s).take m ++ [enAt l (s + m)] := by
  rw [List.take_add_one, List.getElem?_drop, enAt_lt h]
  rfl
theorem bytesTo_part (l : List En) (k : Nat) : ∀ m, m ≤ 4 → 4 * k + m ≤ l.length → bytesTo l (4 * k + m) = bytesTo l (4 * k) ++ blkB 0 ((l.drop (4 * k)).take m) ∧ (m = 0 ∨ lastD 0 ((l.drop (4 * k)).take m) = (enAt l (4 * k + m - 1)).1)
  | 0, _, _ => by simp [blkB]
  | m + 1, hm, hl => by
    obtain ⟨h1, h2⟩ := bytesTo_part l k m (by omega) (by omega)
    rw [take_get (by omega), blkB_snoc, lastD_snoc]
    refine ⟨?_, .inr rfl⟩
    have e : aheadD l (4 * k + m) = lastD 0 ((l.drop (4 * k)).take m) := by
      unfold aheadD
      rcases h2 with rfl | h2
      · rw [if_pos (by omega)]; simp [lastD]
      · by_cases h0 : m = 0
        · subst h0
          rw [if_pos (by omega)]; simp [lastD]
        · rw [if_neg (by omega), h2]
    rw [← Nat.add_assoc, bytesTo, h1, e, List.append_assoc]
theorem bytesTo_block {l : List En} {k : Nat} (h : 4 * k < l.length) : bytesTo l (min (4 * (k + 1)) l.length) = bytesTo l (4 * k) ++ blkB 0 (blkOf l k) := by
  obtain ⟨m, hm⟩ : ∃ m, m = min 4 (l.length - 4 * k) := ⟨_, rfl⟩
  have h1 := (bytesTo_part l k m (by omega) (by omega)).1
  rw [show min (4 * (k + 1)) l.length = 4 * k + m by omega, h1]
  unfold blkOf
  rw [List.take_eq_take_iff.2 (show min m (l.drop (4 * k)).length = min 4 (l.drop (4 * k)).length by rw [List.length_drop]; omega)]
/-! ### Reading, that takes 0 where no number stands -/
def nextN (L : List Nat) : Nat × List Nat := ((getR 5 L).1, L.drop (getR 5 L).2.1)
def posR : Nat → Int → List Nat → List Int × List Nat
  | 0, _, L => ([], L)
  | n + 1, a, L => ((a + ((nextN L).1 : Int)) :: (posR n (a + ((nextN L).1 : Int)) (nextN L).2).1, (posR n (a + ((nextN L).1 : Int)) (nextN L).2).2)
def entR (a : Int) (L : List Nat) : En × List Nat :=
  let p := posR (min (nextN (nextN L).2).1 256) 0 (nextN (nextN L).2).2
  ((a + ((nextN L).1 : Int), p.1), p.2)
def readR : Nat → List En → List Nat → List En
  | 0, l, _ => l
  | m + 1, l, L => readR m (l ++ [(entR (aheadD l l.length) L).1]) (entR (aheadD l l.length) L).2
def fromN (C : List Nat) : Nat := 1 + (C.getD 0 0 + 3) / 4
def badC (C : List Nat) : Prop := C = [] ∨ 64 < C.getD 0 0 ∨ C.length < fromN C
instance (C : List Nat) : Decidable (badC C) := by unfold badC; exact inferInstance
def readN (C : List Nat) : List En := if badC C then [] else readR (C.getD 0 0) [] (bytesC (C.drop (fromN C)))
def decN (C : List Nat) : List En × Int := if MayE (readN C) ∧ encN (readN C) = C then (readN C, 0) else ([], 11)
/-! ### Reading, that takes no other numbers -/
def posS : Nat → Int → List Nat → Option (List Int × List Nat)
  | 0, _, L => some ([], L)
  | n + 1, a, L => if (getR 5 L).2.2 ≠ 0 ∨ 65535 < (getR 5 L).1 then none else
    match posS n (a + ((nextN L).1 : Int)) (nextN L).2 with
    | none => none
    | some r => some ((a + ((nextN L).1 : Int)) :: r.1, r.2)
def entS (a : Int) (L : List Nat) : Option (En × List Nat) :=
  if (getR 5 L).2.2 ≠ 0 ∨ 65535 < (getR 5 L).1 then none
  else if (getR 5 (nextN L).2).2.2 ≠ 0 ∨ 256 < (getR 5 (nextN L).2).1 then none
  else match posS (nextN (nextN L).2).1 0 (nextN (nextN L).2).2 with
    | none => none
    | some r => some ((a + ((nextN L).1 : Int), r.1), r.2)
def readS : Nat → List En → List Nat → Option (List En)
  | 0, l, _ => some l
  | m + 1, l, L => match entS (aheadD l l.length) L with
    | none => none
    | some r => readS m (l ++ [r.1]) r.2
def decS (C : List Nat) : List En × Int := if badC C then ([], 11) else
  match readS (C.getD 0 0) [] (bytesC (C.drop (fromN C))) with
  | none => ([], 11)
  | some l => if MayE l ∧ encN l = C then (l, 0) else ([], 11)
theorem posS_R : ∀ (n : Nat) (a : Int) (L : List Nat) (r : List Int × List Nat), posS n a L = some r → posR n a L = r
  | 0, a, L, r, h => by simp only [posS, Option.some.injEq] at h; exact h
  | n + 1, a, L, r, h => by
    rw [posS] at h
    split at h
    · cases h
    split at h
    · cases h
    · rename_i r' hr
      rw [Option.some.injEq] at h
      rw [posR, posS_R n _ _ _ hr]
      exact h
theorem entS_R {a : Int} {L : List Nat} {r : En × List Nat} (h : entS a L = some r) : entR a L = r := by
  unfold entS at h
  split at h
  · cases h
  split at h
  · cases h
  rename_i h1 h2
  split at h
  · cases h
  · rename_i r' hr
    rw [Option.some.injEq] at h
    unfold entR
    simp only
    rw [Nat.min_eq_left (by show (getR 5 _).1 ≤ 256; omega), posS_R _ _ _ _ hr]
    exact h
theorem readS_R : ∀ (m : Nat) (l : List En) (L : List Nat) (r : List En), readS m l L = some r → readR m l L = r
  | 0, l, L, r, h => by simp only [readS, Option.some.injEq] at h; exact h
  | m + 1, l, L, r, h => by
    rw [readS] at h
    split at h
    · cases h
    · rename_i r' hr
      rw [readR, entS_R hr]
      exact readS_R m _ _ _ h
/-! ### There and back -/
theorem posS_back : ∀ (l : List Int) (a : Int) (M : List Nat), 0 ≤ a → a ≤ 65535 → riseB a l = true → posS l.length a (posB a l ++ M) = some (l, M)
  | [], a, M, _, _, _ => rfl
  | p :: l, a, M, h0, h1, h => by
    unfold riseB at h
    split at h
    · cases h
    rename_i hp
    have ih := posS_back l p M (by omega) (by omega) h
    have hg := get_put (p - a).toNat (posB p l ++ M) (by omega)
    rw [List.length_cons, posB, List.append_assoc, posS, hg, if_neg (by simp; omega)]
    unfold nextN
    rw [hg]
    simp only [List.drop_left]
    rw [show a + ((p - a).toNat : Int) = p by omega, ih]
theorem posS_first (l : List Int) (M : List Nat) (hu : UpP l) : posS l.length 0 (posB 0 l ++ M) = some (l, M) := by
  cases l with
  | nil => rfl
  | cons p l =>
    have h := (rise_up _).2 hu
    unfold riseB at h
    split at h
    · cases h
    rename_i hp
    have ih := posS_back l p M (by omega) (by omega) h
    have hg := get_put (p - 0).toNat (posB p l ++ M) (by omega)
    rw [List.length_cons, posB, List.append_assoc, posS, hg, if_neg (by simp; omega)]
    unfold nextN
    rw [hg]
    simp only [List.drop_left]
    rw [show (0 : Int) + ((p - 0).toNat : Int) = p by omega, ih]
theorem entS_back {a : Int} {e : En} (M : List Nat) (h0 : 0 ≤ a) (h1 : a ≤ e.1) (h2 : e.1 ≤ 65535) (hl : e.2.length ≤ 256) (hu : UpP e.2) : entS a (entB a e ++ M) = some (e, M) := by
  have hg := get_put (e.1 - a).toNat (putN e.2.length ++ (posB 0 e.2 ++ M)) (by omega)
  have hg2 := get_put e.2.length (posB 0 e.2 ++ M) (by omega)
  unfold entB entS
  rw [List.append_assoc, List.append_assoc, hg, if_neg (by simp; omega)]
  unfold nextN
  rw [hg]
  simp only [List.drop_left]
  rw [hg2, if_neg (by simp; omega)]
  simp only [List.drop_left]
  rw [posS_first _ _ hu]
  simp only
  rw [show a + ((e.1 - a).toNat : Int) = e.1 by omega]
theorem take_snoc_en {l : List En} {n : Nat} (h : n < l.length) : l.take (n + 1) = l.take n ++ [enAt l n] := by
  rw [List.take_add_one, enAt_lt h]
  rfl
theorem aheadD_take {l : List En} {n : Nat} : aheadD (l.take n) n = aheadD l n := by
  unfold aheadD
  split
  · rfl
  · unfold enAt
    rw [List.getD_eq_getElem?_getD, List.getD_eq_getElem?_getD, List.getElem?_take, if_pos (by omega)]
/-- The bytes from an entry on. -/
def bytesFrom (l : List En) : Nat → Nat → List Nat
  | 0, _ => []
  | m + 1, n => entB (aheadD l n) (enAt l n) ++ bytesFrom l m (n + 1)
theorem bytesTo_from (l : List En) : ∀ (m n : Nat), bytesTo l (n + m) = bytesTo l n ++ bytesFrom l m n
  | 0, n => by simp [bytesFrom]
  | m + 1, n => by
    rw [show n + (m + 1) = (n + 1) + m by omega, bytesTo_from l m (n + 1), bytesTo, bytesFrom, List.append_assoc]
theorem readS_back {l : List En} (h : MayE l) : ∀ (m n : Nat) (M : List Nat), n + m = l.length → readS m (l.take n) (bytesFrom l m n ++ M) = some l
  | 0, n, M, hn => by
    rw [readS, List.take_of_length_le (by omega)]
  | m + 1, n, M, hn => by
    have hi : n < l.length := by omega
    have hd := may_doc h hi
    have ha := may_ahead h hi
    obtain ⟨_, h1, h2, h3⟩ := h.2 n hi
    rw [readS, List.length_take, Nat.min_eq_left (by omega), aheadD_take, bytesFrom, List.append_assoc, entS_back _ ha.1 ha.2 hd.2 h2 h3]
    simp only
    rw [← take_snoc_en hi]
    exact readS_back h m (n + 1) M (by omega)
theorem bytesC_cells {L : List Nat} (h : ∀ b ∈ L, b < 256) : ∃ M, bytesC (cellsN L) = L ++ M := by
  refine ⟨(bytesC (cellsN L)).drop L.length, ?_⟩
  conv => lhs; rw [← List.take_append_drop L.length (bytesC (cellsN L))]
  rw [pack_back h]
theorem enc_head (l : List En) : (encN l).getD 0 0 = l.length := rfl
theorem enc_good {l : List En} (h : MayE l) : ¬ badC (encN l) := by
  have := h.1
  have hl := encN_length l
  unfold badC fromN
  rw [enc_head]
  rintro (c | c | c)
  · rw [c] at hl; simp at hl; omega
  · omega
  · omega
theorem enc_drop (l : List En) : (encN l).drop (fromN (encN l)) = cellsN (bytesTo l l.length) := by
  unfold fromN
  rw [enc_head]
  unfold encN
  rw [Nat.add_comm 1, List.drop_succ_cons, List.drop_left' (headsN_length _ _)]
theorem readS_enc {l : List En} (h : MayE l) : readS ((encN l).getD 0 0) [] (bytesC ((encN l).drop (fromN (encN l)))) = some l := by
  obtain ⟨M, hM⟩ := bytesC_cells (bytesTo_byte h l.length (Nat.le_refl _))
  rw [enc_drop, hM, enc_head]
  have h1 := bytesTo_from l l.length 0
  rw [Nat.zero_add] at h1
  rw [h1]
  exact readS_back h l.length 0 M (by omega)
theorem dec_enc {l : List En} (h : MayE l) : decS (encN l) = (l, 0) := by
  unfold decS
  rw [if_neg (enc_good h), readS_enc h]
  simp only
  rw [if_pos ⟨h, trivial⟩]
theorem readN_enc {l : List En} (h : MayE l) : readN (encN l) = l := by
  unfold readN
  rw [if_neg (enc_good h)]
  exact readS_R _ _ _ _ (readS_enc h)
theorem enc_nil : encN [] = [0] := by decide +kernel
theorem dec_same (C : List Nat) : decN C = decS C := by
  by_cases hc : MayE (readN C) ∧ encN (readN C) = C
  · have h := dec_enc hc.1
    rw [hc.2] at h
    unfold decN
    rw [if_pos hc, h]
  · unfold decN
    rw [if_neg hc]
    unfold decS
    split
    · rfl
    · rename_i hb
      split
      · rfl
      · rename_i l hl
        have hr : readN C = l := by
          unfold readN
          rw [if_neg hb]
          exact readS_R _ _ _ _ hl
        rw [hr] at hc
        rw [if_neg hc]
end Go.Proofs.Ytaaeooimalglaaa
