/-
  A sealed segment's content as cells, without the program's text: which may be, its image, reading it, there and back.
-/
import Derived.Test.YtaaeooimalglaaaBlkPure
namespace Go.Proofs.Ytaaeooimalglaaa

/-- A list: its key, its record, its entries. -/
structure Li where
  key : ByteArray
  record : Int
  ents : List En
def li0 : Li := ⟨ByteArray.empty, 0, []⟩
instance : Inhabited Li := ⟨li0⟩
def liAt (L : List Li) (i : Nat) : Li := L.getD i li0
theorem liAt_some {L : List Li} {i : Nat} {l : Li} (h : L[i]? = some l) : liAt L i = l := by unfold liAt; rw [List.getD_eq_getElem?_getD, h]; rfl
theorem liAt_lt {L : List Li} {i : Nat} (h : i < L.length) : L[i]? = some (liAt L i) := by
  unfold liAt
  rw [List.getD_eq_getElem?_getD, List.getElem?_eq_getElem h]
  rfl
theorem liAt_mem {L : List Li} {i : Nat} (h : i < L.length) : liAt L i ∈ L := List.mem_of_getElem? (liAt_lt h)
/-! ### Texts that rise -/
def keyN (s : ByteArray) : List Nat := s.data.toList.map (·.toNat)
def lessN : List Nat → List Nat → Bool
  | _, [] => false
  | [], _ :: _ => true
  | a :: x, b :: y => decide (a < b) || (a == b && lessN x y)
theorem lessN_cons (a b : Nat) (x y : List Nat) : lessN (a :: x) (b :: y) = (decide (a < b) || (a == b && lessN x y)) := rfl
theorem bytesLess_N : ∀ (x y : List UInt8), Op.bytesLess x y = lessN (x.map (·.toNat)) (y.map (·.toNat))
  | _, [] => by cases ‹List UInt8› <;> rfl
  | [], _ :: _ => rfl
  | a :: x, b :: y => by
    have e1 : (decide (a < b) : Bool) = decide (a.toNat < b.toNat) := by rw [decide_eq_decide]; exact UInt8.lt_iff_toNat_lt
    have e2 : (a == b) = (a.toNat == b.toNat) := by
      rw [Bool.eq_iff_iff]
      simp [← UInt8.toNat_inj]
    show (decide (a < b) || (a == b && Op.bytesLess x y)) = _
    rw [e1, e2, bytesLess_N x y]
    rfl
/-- Not ahead, and not the same: behind. -/
theorem lessN_total : ∀ (x y : List Nat), (lessN x y || x == y) = !lessN y x
  | [], [] => rfl
  | [], _ :: _ => by simp [lessN]
  | _ :: _, [] => by simp [lessN]
  | a :: x, b :: y => by
    have ih := lessN_total x y
    rw [lessN_cons, lessN_cons]
    by_cases h1 : a < b
    · have h2 : ¬ b < a := by omega
      have h3 : ¬ b = a := by omega
      simp [h1, h2, h3]
    · by_cases h2 : b < a
      · have h3 : ¬ a = b := by omega
        simp [h1, h2, h3]
      · obtain rfl : a = b := by omega
        simp only [Nat.lt_irrefl, decide_false, Bool.false_or, beq_self_eq_true, Bool.true_and]
        rw [← ih]
        congr 1
        simp
theorem less_leq (x y : ByteArray) : (Op.bytesLess x.data.toList y.data.toList || x.data.toList == y.data.toList) = !lessN (keyN y) (keyN x) := by
  rw [bytesLess_N]
  have := lessN_total (keyN x) (keyN y)
  unfold keyN at this ⊢
  rw [← this]
  congr 1
  rw [Bool.eq_iff_iff, beq_iff_eq, beq_iff_eq]
  constructor
  · intro h; rw [h]
  · intro h
    exact (List.map_inj_right (fun a b hab => UInt8.toNat_inj.1 hab)).1 h
def upK (L : List Li) (i : Nat) : Prop := 0 < i → lessN (keyN (liAt L (i - 1)).key) (keyN (liAt L i).key) = true
instance (L : List Li) (i : Nat) : Decidable (upK L i) := by unfold upK; exact inferInstance
def RiseK (L : List Li) : Prop := ∀ i, i < L.length → upK L i
instance (L : List Li) : Decidable (RiseK L) := by unfold RiseK; exact inferInstance
/-! ### Which may be -/
def lastDoc (l : List En) : Int := (enAt l (l.length - 1)).1
def okLi (n : Nat) (l : Li) : Prop := 1 ≤ l.record ∧ l.record ≤ 65535 ∧ 0 < l.ents.length ∧ MayE l.ents ∧ lastDoc l.ents < n
instance (n : Nat) (l : Li) : Decidable (okLi n l) := by unfold okLi; exact inferInstance
def okAll (n : Nat) (L : List Li) : Prop := ∀ i, i < L.length → okLi n (liAt L i)
instance (n : Nat) (L : List Li) : Decidable (okAll n L) := by unfold okAll; exact inferInstance
def MayI (n : Nat) (L : List Li) : Prop := n ≤ 64 ∧ L.length ≤ 256 ∧ RiseK L ∧ okAll n L
instance (n : Nat) (L : List Li) : Decidable (MayI n L) := by unfold MayI; exact inferInstance
theorem docs_up {l : List En} (h : MayE l) : ∀ t s, s + t < l.length → (enAt l s).1 ≤ (enAt l (s + t)).1
  | 0, s, _ => Int.le_refl _
  | t + 1, s, ht => by
    have h1 := (h.2 (s + (t + 1)) ht).1.2.2 (by omega)
    rw [doc_map, doc_map, show s + (t + 1) - 1 = s + t by omega] at h1
    have := docs_up h t s (by omega)
    omega
theorem docs_last {l : List En} (h : MayE l) (n : Int) (h0 : 0 < l.length) : (∀ i, i < l.length → (enAt l i).1 < n) ↔ lastDoc l < n := by
  unfold lastDoc
  constructor
  · intro hh; exact hh _ (by omega)
  · intro hl i hi
    have := docs_up h (l.length - 1 - i) i (by omega)
    rw [show i + (l.length - 1 - i) = l.length - 1 by omega] at this
    omega
/-! ### The image -/
def headsI : Nat → List Li → List Nat
  | _, [] => []
  | b, l :: r => l.record.toNat :: b :: headsI (b + (encN l.ents).length) r
def bodyI : List Li → List Nat
  | [] => []
  | l :: r => encN l.ents ++ bodyI r
theorem bodyI_append : ∀ (L M : List Li), bodyI (L ++ M) = bodyI L ++ bodyI M
  | [], M => by simp [bodyI]
  | l :: r, M => by rw [List.cons_append, bodyI, bodyI, bodyI_append r M, List.append_assoc]
theorem headsI_append : ∀ (b : Nat) (L M : List Li), headsI b (L ++ M) = headsI b L ++ headsI (b + (bodyI L).length) M
  | b, [], M => by simp [headsI, bodyI]
  | b, l :: r, M => by
    rw [List.cons_append, headsI, headsI, headsI_append _ r M, bodyI, List.length_append, List.cons_append, List.cons_append, Nat.add_assoc]
theorem headsI_length : ∀ (b : Nat) (L : List Li), (headsI b L).length = 2 * L.length
  | _, [] => rfl
  | b, l :: r => by rw [headsI, List.length_cons, List.length_cons, headsI_length, List.length_cons]; omega
theorem bodyI_snoc (L : List Li) (l : Li) : bodyI (L ++ [l]) = bodyI L ++ encN l.ents := by rw [bodyI_append, bodyI, bodyI, List.append_nil]
theorem headsI_snoc (b : Nat) (L : List Li) (l : Li) : headsI b (L ++ [l]) = headsI b L ++ [l.record.toNat, b + (bodyI L).length] := by rw [headsI_append]; rfl
theorem li_take {L : List Li} {i : Nat} {l : Li} (h : L[i]? = some l) : L.take (i + 1) = L.take i ++ [l] := by
  rw [List.take_add_one, h]
  rfl
theorem li_drop {L : List Li} {i : Nat} {l : Li} (h : L[i]? = some l) : L.drop i = l :: L.drop (i + 1) := by
  obtain ⟨h1, h2⟩ := List.getElem?_eq_some_iff.1 h
  rw [List.drop_eq_getElem_cons h1, h2]
theorem encN_lenI {l : List En} (h : MayE l) : (encN l).length ≤ 12500 := by
  have h1 := bytesTo_len h l.length (Nat.le_refl _)
  have h2 := encN_length l
  have := h.1
  omega
theorem encN_ltI {l : List En} (h : MayE l) : ∀ x ∈ encN l, x < 4294967296 := by
  intro x hx
  unfold encN at hx
  simp only [List.mem_cons, List.mem_append] at hx
  rcases hx with rfl | hx | hx
  · have := h.1; omega
  · obtain ⟨k, hk, rfl⟩ := List.mem_map.1 hx
    have hk := List.mem_range.1 hk
    exact (headAt_eq h (by omega)).2.1
  · obtain ⟨j, _, rfl⟩ := List.mem_map.1 hx
    exact cellAt_lt (bytesTo_byte h _ (Nat.le_refl _)) j
theorem encN_pos (l : List En) : 0 < (encN l).length := by unfold encN; simp
theorem bodyI_len {n : Nat} : ∀ {L : List Li}, okAll n L → (bodyI L).length ≤ 12500 * L.length
  | [], _ => by simp [bodyI]
  | l :: r, h => by
    have h1 := encN_lenI (h 0 (by simp)).2.2.2.1
    have h2 := bodyI_len (L := r) (fun i hi => h (i + 1) (by simpa using hi))
    rw [bodyI, List.length_append, List.length_cons]
    simp only [liAt, List.getD_cons_zero] at h1
    omega
def baseI (at_ n t : Nat) : Nat := at_ + 2 + 4 * n + 2 * t
def imgN (at_ n : Nat) (F : List Nat) (L : List Li) : List Nat := (n + 1) :: L.length :: (F ++ (headsI (baseI at_ n L.length) L ++ bodyI L))
def okMk (at_ : Int) (n : Nat) (L : List Li) : Prop := MayI n L ∧ 0 ≤ at_ ∧ at_ ≤ 65536
instance (at_ : Int) (n : Nat) (L : List Li) : Decidable (okMk at_ n L) := by unfold okMk; exact inferInstance
def mkE (at_ : Int) (n : Nat) (L : List Li) : Int := if okMk at_ n L then 0 else 1
def mkX (at_ : Int) (n : Nat) (F : List Nat) (L : List Li) : List Nat := if okMk at_ n L then imgN at_.toNat n F L else []
theorem imgN_length (at_ n : Nat) (F : List Nat) (L : List Li) (hF : F.length = 4 * n) : (imgN at_ n F L).length = 2 + 4 * n + 2 * L.length + (bodyI L).length := by
  unfold imgN
  rw [List.length_cons, List.length_cons, List.length_append, List.length_append, headsI_length, hF]
  omega
theorem mkX_len (at_ : Int) (n : Nat) (F : List Nat) (L : List Li) (hF : F.length = 4 * n) : (mkX at_ n F L).length ≤ 3300000 := by
  unfold mkX
  split
  · rename_i h
    have h1 := bodyI_len h.1.2.2.2
    have h2 := h.1.1
    have h3 := h.1.2.1
    rw [imgN_length _ _ _ _ hF]
    omega
  · simp
/-! ### Reading -/
def listR (n r : Nat) (C : List Nat) : Option (List En) :=
  if (decS C).2 = 0 ∧ 0 < (decS C).1.length ∧ lastDoc (decS C).1 < n ∧ 1 ≤ r ∧ r ≤ 65535 then some (decS C).1 else none
def cutC (C : List Nat) (a b : Int) : List Nat := (C.drop a.toNat).take (b - a).toNat
def endI (at_ : Int) (C : List Nat) : List (Nat × Nat) → Int
  | [] => C.length
  | p :: _ => (p.2 : Int) - at_
def partsR (at_ : Int) (n : Nat) (C : List Nat) : List (Nat × Nat) → Int → Option (List Li)
  | [], here => if here = C.length then some [] else none
  | p :: H, here =>
    if (p.2 : Int) - at_ ≠ here ∨ endI at_ C H < here ∨ C.length < endI at_ C H then none
    else match listR n p.1 (cutC C here (endI at_ C H)) with
      | none => none
      | some l => match partsR at_ n C H (endI at_ C H) with
        | none => none
        | some m => some (⟨ByteArray.empty, p.1, l⟩ :: m)
def pairsI (C : List Nat) (h t : Nat) : List (Nat × Nat) := (List.range t).map fun i => (C.getD (h + 2 * i) 0, C.getD (h + 2 * i + 1) 0)
theorem pairsI_length (C : List Nat) (h t : Nat) : (pairsI C h t).length = t := by simp [pairsI]
theorem pairsI_get {C : List Nat} {h t i : Nat} (hi : i < t) : (pairsI C h t)[i]? = some (C.getD (h + 2 * i) 0, C.getD (h + 2 * i + 1) 0) := by
  unfold pairsI
  rw [List.getElem?_map, List.getElem?_range hi]
  rfl
def badI (at_ : Int) (C : List Nat) : Prop := at_ < 0 ∨ 65536 < at_ ∨ C.length < 2 ∨ C.getD 0 0 = 0 ∨ 65 < C.getD 0 0 ∨ 256 < C.getD 1 0
instance (at_ : Int) (C : List Nat) : Decidable (badI at_ C) := by unfold badI; exact inferInstance
def aheadI (C : List Nat) : Nat := 2 + 4 * (C.getD 0 0 - 1) + 2 * C.getD 1 0
def readI (at_ : Int) (C : List Nat) : Option (List Nat × List Li) :=
  if badI at_ C ∨ C.length < aheadI C then none
  else match partsR at_ (C.getD 0 0 - 1) C (pairsI C (2 + 4 * (C.getD 0 0 - 1)) (C.getD 1 0)) (aheadI C) with
    | none => none
    | some L => some ((C.drop 2).take (4 * (C.getD 0 0 - 1)), L)
theorem dec_casesI {C : List Nat} {m : List En} {er : Int} (h : decS C = (m, er)) : (m = [] ∧ er = 11) ∨ (MayE m ∧ encN m = C ∧ er = 0) := by
  unfold decS at h
  split at h
  · cases h; exact .inl ⟨rfl, rfl⟩
  split at h
  · cases h; exact .inl ⟨rfl, rfl⟩
  split at h
  · rename_i hh
    cases h
    exact .inr ⟨hh.1, hh.2, rfl⟩
  · cases h; exact .inl ⟨rfl, rfl⟩
theorem listR_some {n r : Nat} {C : List Nat} {l : List En} (h : listR n r C = some l) : encN l = C ∧ decS C = (l, 0) ∧ okLi n ⟨ByteArray.empty, r, l⟩ := by
  unfold listR at h
  split at h
  · rename_i hh
    obtain ⟨h1, h2, h3, h4, h5⟩ := hh
    rw [Option.some.injEq] at h
    rcases dec_casesI (m := (decS C).1) (er := (decS C).2) rfl with ⟨e1, _⟩ | ⟨m1, m2, _⟩
    · rw [e1] at h2; simp at h2
    · rw [h] at m1 m2 h2 h3
      refine ⟨m2, ?_, ?_⟩
      · rw [← h, ← h1]
      · unfold okLi
        dsimp only
        exact ⟨by omega, by omega, h2, m1, h3⟩
  · cases h
theorem listR_enc {n : Nat} {l : Li} (h : okLi n l) : listR n l.record.toNat (encN l.ents) = some l.ents := by
  obtain ⟨h1, h2, h3, h4, h5⟩ := h
  unfold listR
  rw [dec_enc h4]
  rw [if_pos ⟨rfl, h3, h5, by omega, by omega⟩]
def bare (l : Li) : Li := ⟨ByteArray.empty, l.record, l.ents⟩
/-- What is told of lists, as pairs. -/
def pairsL : Nat → List Li → List (Nat × Nat)
  | _, [] => []
  | b, l :: r => (l.record.toNat, b) :: pairsL (b + (encN l.ents).length) r
theorem pairsL_length : ∀ (b : Nat) (L : List Li), (pairsL b L).length = L.length
  | _, [] => rfl
  | b, l :: r => by rw [pairsL, List.length_cons, pairsL_length, List.length_cons]
theorem pairsI_cons (C : List Nat) (h t : Nat) : pairsI C h (t + 1) = (C.getD h 0, C.getD (h + 1) 0) :: pairsI C (h + 2) t := by
  unfold pairsI
  rw [List.range_succ_eq_map, List.map_cons, List.map_map]
  congr 1
  refine List.map_congr_left fun i _ => ?_
  simp only [Function.comp]
  rw [show h + 2 * (i + 1) = h + 2 + 2 * i by omega]
theorem pairs_heads : ∀ (L : List Li) (b h : Nat) (A B : List Nat), A.length = h → pairsI (A ++ (headsI b L ++ B)) h L.length = pairsL b L
  | [], b, h, A, B, _ => rfl
  | l :: r, b, h, A, B, hA => by
    have ih := pairs_heads r (b + (encN l.ents).length) (h + 2) (A ++ [l.record.toNat, b]) B (by simp [hA])
    have e : A ++ (headsI b (l :: r) ++ B) = (A ++ [l.record.toNat, b]) ++ (headsI (b + (encN l.ents).length) r ++ B) := by simp [headsI]
    rw [List.length_cons, pairsI_cons, pairsL, e, ih]
    subst hA
    congr 2
    · rw [List.getD_eq_getElem?_getD, List.append_assoc, List.getElem?_append_right (by omega), Nat.sub_self]; rfl
    · rw [List.getD_eq_getElem?_getD, List.append_assoc, List.getElem?_append_right (by omega), show A.length + 1 - A.length = 1 by omega]; rfl
theorem endI_pairs (at_ : Int) (C : List Nat) (b : Nat) (L : List Li) (here : Int) (h1 : (b : Int) - at_ = here) (h2 : L = [] → here = C.length) : endI at_ C (pairsL b L) = here := by
  cases L with
  | nil => exact (h2 rfl).symm
  | cons l r => exact h1
/-- The image is read. -/
theorem parts_back (at_ : Int) (n : Nat) (C : List Nat) : ∀ (L : List Li) (b : Nat) (h : Nat), okAll n L → C.drop h = bodyI L → h ≤ C.length → (b : Int) - at_ = (h : Int) → partsR at_ n C (pairsL b L) (h : Int) = some (L.map bare)
  | [], b, h, _, hd, hc, _ => by
    unfold pairsL partsR
    have := congrArg List.length hd
    rw [List.length_drop] at this
    simp only [bodyI, List.length_nil] at this
    rw [if_pos (by omega)]
    rfl
  | l :: r, b, h, hok, hd, hc, hb => by
    have hl := hok 0 (by simp)
    simp only [liAt, List.getD_cons_zero] at hl
    have hok2 : okAll n r := fun i hi => hok (i + 1) (by simpa using hi)
    have hlen := congrArg List.length hd
    rw [List.length_drop, bodyI, List.length_append] at hlen
    obtain ⟨m, hm⟩ : ∃ m, (encN l.ents).length = m := ⟨_, rfl⟩
    rw [hm] at hlen
    have hd2 : C.drop (h + m) = bodyI r := by
      rw [← List.drop_drop, hd, bodyI, ← hm, List.drop_left]
    have he := endI_pairs at_ C (b + m) r ((h + m : Nat) : Int) (by omega) (by
      rintro rfl
      simp only [bodyI, List.length_nil] at hlen
      omega)
    have ih := parts_back at_ n C r (b + m) (h + m) hok2 hd2 (by omega) (by omega)
    rw [pairsL, hm, partsR, he, if_neg (by
      rintro (c | c | c)
      · dsimp only at c; omega
      · omega
      · omega)]
    have hcut : cutC C (h : Int) ((h + m : Nat) : Int) = encN l.ents := by
      unfold cutC
      rw [show ((h : Int)).toNat = h by omega, show (((h + m : Nat) : Int) - (h : Int)).toNat = m by omega, hd, bodyI, ← hm, List.take_left]
    rw [hcut]
    dsimp only
    rw [listR_enc hl]
    dsimp only
    rw [ih]
    dsimp only
    rw [List.map_cons, bare, show ((l.record.toNat : Nat) : Int) = l.record by have := hl.1; omega]
theorem read_back (at_ : Int) (n : Nat) (F : List Nat) (L : List Li) (hF : F.length = 4 * n) (h : okMk at_ n L) : readI at_ (imgN at_.toNat n F L) = some (F, L.map bare) := by
  obtain ⟨⟨h1, h2, _, h3⟩, h4, h5⟩ := h
  have hl := imgN_length at_.toNat n F L hF
  have g0 : (imgN at_.toNat n F L).getD 0 0 = n + 1 := rfl
  have g1 : (imgN at_.toNat n F L).getD 1 0 = L.length := rfl
  have ha : aheadI (imgN at_.toNat n F L) = 2 + 4 * n + 2 * L.length := by unfold aheadI; rw [g0, g1]; omega
  have hb : ¬ badI at_ (imgN at_.toNat n F L) := by
    unfold badI
    rw [g0, g1]
    omega
  unfold readI
  rw [if_neg (by rintro (c | c); exact hb c; rw [ha] at c; omega), g0, g1, ha, show n + 1 - 1 = n by omega]
  have hp := pairs_heads L (baseI at_.toNat n L.length) (2 + 4 * n) ((n + 1) :: L.length :: F) (bodyI L) (by rw [List.length_cons, List.length_cons, hF]; omega)
  have he : imgN at_.toNat n F L = ((n + 1) :: L.length :: F) ++ (headsI (baseI at_.toNat n L.length) L ++ bodyI L) := rfl
  rw [he, hp, ← he]
  have hd : (imgN at_.toNat n F L).drop (2 + 4 * n + 2 * L.length) = bodyI L := by
    have e2 : imgN at_.toNat n F L = (((n + 1) :: L.length :: F) ++ headsI (baseI at_.toNat n L.length) L) ++ bodyI L := by rw [he, List.append_assoc]
    rw [e2, List.drop_left' (by rw [List.length_append, List.length_cons, List.length_cons, hF, headsI_length]; omega)]
  rw [parts_back at_ n (imgN at_.toNat n F L) L (baseI at_.toNat n L.length) (2 + 4 * n + 2 * L.length) h3 hd (by omega) (by unfold baseI; omega)]
  dsimp only
  congr 2
  unfold imgN
  rw [List.drop_succ_cons, List.drop_succ_cons, List.drop_zero, ← hF, List.take_left]
/-- What is read has just these cells. -/
theorem parts_only (at_ : Int) (n : Nat) (C : List Nat) : ∀ (H : List (Nat × Nat)) (h : Int) (L : List Li), 0 ≤ h → partsR at_ n C H h = some L → okAll n L ∧ L.map bare = L ∧ h ≤ C.length ∧ C.drop h.toNat = bodyI L ∧ ∀ b : Nat, (b : Int) - at_ = h → H = pairsL b L
  | [], h, L, h0, hp => by
    rw [partsR] at hp
    split at hp
    · rw [Option.some.injEq] at hp
      subst hp
      refine ⟨fun i hi => by simp at hi, rfl, by omega, ?_, fun _ _ => rfl⟩
      rw [List.drop_eq_nil_of_le (by omega)]
      rfl
    · cases hp
  | p :: H, h, L, h0, hp => by
    rw [partsR] at hp
    split at hp
    · cases hp
    rename_i hc
    split at hp
    · cases hp
    rename_i l hl
    split at hp
    · cases hp
    rename_i m hm
    rw [Option.some.injEq] at hp
    subst hp
    obtain ⟨l1, l2, l3⟩ := listR_some hl
    obtain ⟨E, hE⟩ : ∃ E, endI at_ C H = E := ⟨_, rfl⟩
    rw [hE] at hc hl hm l1
    have hc1 : (p.2 : Int) - at_ = h := by omega
    have hc2 : h ≤ E := by omega
    have hc3 : E ≤ C.length := by omega
    obtain ⟨i1, i2, i3, i4, i5⟩ := parts_only at_ n C H E m (by omega) hm
    have hcl : (encN l).length = (E - h).toNat := by
      rw [l1]
      unfold cutC
      rw [List.length_take, List.length_drop]
      omega
    refine ⟨fun i hi => ?_, ?_, by omega, ?_, fun b hb => ?_⟩
    · cases i with
      | zero => exact l3
      | succ i => exact i1 i (by simpa using hi)
    · rw [List.map_cons, i2]; rfl
    · rw [bodyI]
      dsimp only
      rw [l1, ← i4]
      unfold cutC
      rw [show E.toNat = h.toNat + (E - h).toNat by omega, ← List.drop_drop, List.take_append_drop]
    · rw [pairsL, i5 (b + (encN l).length) (by rw [hcl]; omega)]
      congr 1
      obtain ⟨p1, p2⟩ := p
      dsimp only at hc1 ⊢
      congr 1
      omega
theorem heads_pairs : ∀ (L : List Li) (b h : Nat) (C : List Nat), pairsI C h L.length = pairsL b L → h + 2 * L.length ≤ C.length → C.drop h = headsI b L ++ C.drop (h + 2 * L.length)
  | [], b, h, C, _, _ => by simp [headsI]
  | l :: r, b, h, C, hp, hc => by
    rw [List.length_cons, pairsI_cons, pairsL] at hp
    injection hp with hp1 hp2
    injection hp1 with hq1 hq2
    rw [List.length_cons] at hc ⊢
    have ih := heads_pairs r (b + (encN l.ents).length) (h + 2) C hp2 (by omega)
    rw [List.drop_eq_getElem_cons (show h < C.length by omega), List.drop_eq_getElem_cons (show h + 1 < C.length by omega), headsI]
    rw [List.getD_eq_getElem?_getD, List.getElem?_eq_getElem (show h < C.length by omega)] at hq1
    rw [List.getD_eq_getElem?_getD, List.getElem?_eq_getElem (show h + 1 < C.length by omega)] at hq2
    simp only [Option.getD_some] at hq1 hq2
    rw [hq1, hq2, show h + 1 + 1 = h + 2 by omega, ih, show h + 2 * (r.length + 1) = h + 2 + 2 * r.length by omega]
    rfl
theorem read_only {at_ : Int} {C F : List Nat} {L : List Li} (h : readI at_ C = some (F, L)) : 0 ≤ at_ ∧ at_ ≤ 65536 ∧ ∃ n, n ≤ 64 ∧ L.length ≤ 256 ∧ F.length = 4 * n ∧ okAll n L ∧ L.map bare = L ∧ C = imgN at_.toNat n F L ∧ C.getD 0 0 = n + 1 := by
  unfold readI at h
  split at h
  · cases h
  rename_i hb
  split at h
  · cases h
  rename_i L' hp
  injection h with h
  injection h with hF hL
  subst hL
  obtain ⟨n, hn⟩ : ∃ n, C.getD 0 0 - 1 = n := ⟨_, rfl⟩
  obtain ⟨t, ht⟩ : ∃ t, C.getD 1 0 = t := ⟨_, rfl⟩
  have hc : aheadI C ≤ C.length := by omega
  have hb' : ¬ badI at_ C := fun c => hb (.inl c)
  unfold badI at hb'
  have h0 : C.getD 0 0 = n + 1 := by omega
  have ha : aheadI C = 2 + 4 * n + 2 * t := by unfold aheadI; rw [hn, ht]
  rw [ha] at hc hp
  rw [hn, ht] at hp
  rw [hn] at hF
  obtain ⟨i1, i2, i3, i4, i5⟩ := parts_only at_ n C _ _ _ (by omega) hp
  have hpl := i5 (baseI at_.toNat n t) (by unfold baseI; omega)
  have hlt : L'.length = t := by
    have := congrArg List.length hpl
    rw [pairsI_length, pairsL_length] at this
    omega
  have hFl : F.length = 4 * n := by rw [← hF, List.length_take, List.length_drop]; omega
  refine ⟨by omega, by omega, n, by omega, by omega, hFl, i1, i2, ?_, h0⟩
  have hh := heads_pairs L' (baseI at_.toNat n t) (2 + 4 * n) C (by rw [hlt]; exact hpl) (by omega)
  have e3 : ((2 + 4 * n + 2 * t : Nat) : Int).toNat = 2 + 4 * n + 2 * t := by omega
  rw [e3] at i4
  rw [hlt] at hh
  rw [i4] at hh
  unfold imgN
  rw [hlt, ← hh, ← hF]
  rw [show C.drop (2 + 4 * n) = (C.drop 2).drop (4 * n) by rw [List.drop_drop], List.take_append_drop]
  rw [List.getD_eq_getElem?_getD, List.getElem?_eq_getElem (show 0 < C.length by omega)] at h0
  rw [List.getD_eq_getElem?_getD, List.getElem?_eq_getElem (show 1 < C.length by omega)] at ht
  simp only [Option.getD_some] at h0 ht
  rw [← h0, ← ht]
  rw [← List.drop_eq_getElem_cons, ← List.drop_eq_getElem_cons, List.drop_zero]
/-! ### Where the lists' cells begin -/
def boundsI (at_ : Int) (C : List Nat) (H : List (Nat × Nat)) : List Int := H.map (fun p => (p.2 : Int) - at_) ++ [(C.length : Int)]
theorem boundsI_length (at_ : Int) (C : List Nat) (H : List (Nat × Nat)) : (boundsI at_ C H).length = H.length + 1 := by simp [boundsI]
def sortedB : List Int → Bool
  | a :: b :: r => decide (a ≤ b) && sortedB (b :: r)
  | _ => true
def headB (B : List Int) : Int := B.getD 0 0
theorem bounds_cons (at_ : Int) (C : List Nat) (p : Nat × Nat) (H : List (Nat × Nat)) : boundsI at_ C (p :: H) = ((p.2 : Int) - at_) :: boundsI at_ C H := rfl
theorem headB_bounds (at_ : Int) (C : List Nat) (H : List (Nat × Nat)) : headB (boundsI at_ C H) = endI at_ C H := by cases H <;> rfl
theorem sorted_cons (a : Int) (at_ : Int) (C : List Nat) (H : List (Nat × Nat)) : sortedB (a :: boundsI at_ C H) = (decide (a ≤ endI at_ C H) && sortedB (boundsI at_ C H)) := by
  cases H <;> rfl
theorem parts_bounds (at_ : Int) (n : Nat) (C : List Nat) : ∀ (H : List (Nat × Nat)) (h : Int) (L : List Li), partsR at_ n C H h = some L → headB (boundsI at_ C H) = h ∧ sortedB (boundsI at_ C H) = true
  | [], h, L, hp => by
    rw [partsR] at hp
    split at hp
    · rename_i e; exact ⟨e.symm, rfl⟩
    · cases hp
  | p :: H, h, L, hp => by
    rw [partsR] at hp
    split at hp
    · cases hp
    rename_i hc
    split at hp
    · cases hp
    split at hp
    · cases hp
    rename_i m hm
    obtain ⟨i1, i2⟩ := parts_bounds at_ n C H _ m hm
    refine ⟨?_, ?_⟩
    · rw [bounds_cons]
      show (p.2 : Int) - at_ = h
      omega
    · rw [bounds_cons, sorted_cons, i2, decide_eq_true (by omega)]
      rfl
theorem sorted_le : ∀ (H : List (Nat × Nat)) (at_ : Int) (C : List Nat), sortedB (boundsI at_ C H) = true → endI at_ C H ≤ C.length
  | [], at_, C, _ => Int.le_refl _
  | p :: H, at_, C, h => by
    rw [bounds_cons, sorted_cons, Bool.and_eq_true] at h
    have := sorted_le H at_ C h.2
    have := of_decide_eq_true h.1
    show (p.2 : Int) - at_ ≤ _
    omega
theorem parts_step (at_ : Int) (n : Nat) (C : List Nat) (p : Nat × Nat) (H : List (Nat × Nat)) (hs : sortedB (boundsI at_ C (p :: H)) = true) :
    partsR at_ n C (p :: H) ((p.2 : Int) - at_) = match listR n p.1 (cutC C ((p.2 : Int) - at_) (endI at_ C H)) with
      | none => none
      | some l => match partsR at_ n C H (endI at_ C H) with
        | none => none
        | some m => some (⟨ByteArray.empty, p.1, l⟩ :: m) := by
  rw [bounds_cons, sorted_cons, Bool.and_eq_true] at hs
  have h1 := of_decide_eq_true hs.1
  have h2 := sorted_le H at_ C hs.2
  rw [partsR, if_neg (by rintro (c | c | c); exact c rfl; omega; omega)]
theorem bounds_get {at_ : Int} {C : List Nat} {H : List (Nat × Nat)} {i : Nat} (hi : i ≤ H.length) : (boundsI at_ C H)[i]? = some (endI at_ C (H.drop i)) := by
  unfold boundsI
  by_cases h : i < H.length
  · rw [List.getElem?_append_left (by simpa using h), List.getElem?_map, List.getElem?_eq_getElem h, List.drop_eq_getElem_cons h]
    rfl
  · obtain rfl : i = H.length := by omega
    rw [List.getElem?_append_right (by simp), List.length_map, Nat.sub_self, List.drop_length]
    rfl
theorem sorted_drop (at_ : Int) (C : List Nat) : ∀ (i : Nat) (H : List (Nat × Nat)), sortedB (boundsI at_ C H) = true → sortedB (boundsI at_ C (H.drop i)) = true
  | 0, H, h => h
  | i + 1, [], h => h
  | i + 1, p :: H, h => by
    rw [bounds_cons, sorted_cons, Bool.and_eq_true] at h
    exact sorted_drop at_ C i H h.2
theorem listR_nil (n r : Nat) : listR n r [] = none := by
  unfold listR
  rw [if_neg]
  rintro ⟨h, _⟩
  revert h
  decide +kernel
theorem listR_big {n r : Nat} {C : List Nat} (h : 64 < C.getD 0 0) : listR n r C = none := by
  unfold listR
  rw [if_neg]
  rintro ⟨c, _⟩
  revert c
  unfold decS
  rw [if_pos (.inr (.inl h))]
  decide
end Go.Proofs.Ytaaeooimalglaaa
