/-
  Layer 15's reference: a memory that holds a content, its records and its image; without the program's text.
-/
import Derived.Test.YtkjimgidlpocbaaFindPure
namespace Go.Proofs.Ytkjimgidlpocbaa

def sumE : List En → Nat
  | [] => 0
  | e :: l => 1 + e.2.length + sumE l
def sumLi : List Li → Nat
  | [] => 0
  | l :: r => 1 + l.key.size + sumE l.ents + sumLi r
theorem sumE_append : ∀ (l m : List En), sumE (l ++ m) = sumE l + sumE m
  | [], m => by simp [sumE]
  | e :: l, m => by simp only [List.cons_append, sumE, sumE_append l m]; omega
theorem sumLi_append : ∀ (l m : List Li), sumLi (l ++ m) = sumLi l + sumLi m
  | [], m => by simp [sumLi]
  | e :: l, m => by simp only [List.cons_append, sumLi, sumLi_append l m]; omega
theorem sumLi_take (L : List Li) (n : Nat) : sumLi (L.take n) ≤ sumLi L := by
  have := sumLi_append (L.take n) (L.drop n)
  rw [List.take_append_drop] at this
  omega
theorem sumE_mem : ∀ {l : List En} {e : En}, e ∈ l → e.2.length ≤ sumE l
  | x :: l, e, h => by
    simp only [sumE]
    rcases List.mem_cons.1 h with rfl | h
    · omega
    · have := sumE_mem h
      omega
theorem sumLi_mem : ∀ {L : List Li} {l : Li}, l ∈ L → sumE l.ents ≤ sumLi L
  | x :: L, l, h => by
    simp only [sumLi]
    rcases List.mem_cons.1 h with rfl | h
    · omega
    · have := sumLi_mem h
      omega
theorem sumE_len : ∀ (l : List En), l.length ≤ sumE l
  | [] => by simp [sumE]
  | e :: l => by
    have := sumE_len l
    simp only [sumE, List.length_cons]
    omega
theorem entB_sum {l : List En} (h : MayE l) {i : Nat} (hi : i < l.length) : (entB (aheadD l i) (enAt l i)).length ≤ 6 + 3 * (enAt l i).2.length := by
  have hd := may_doc h hi
  have ha := may_ahead h hi
  obtain ⟨_, h1, h2, h3⟩ := h.2 i hi
  have := posB_len (enAt l i).2 0 (by omega) (by omega) (okP_mem h3)
  have := put_len3 (n := ((enAt l i).1 - aheadD l i).toNat) (by omega)
  have := put_len3 (n := (enAt l i).2.length) (by omega)
  unfold entB
  rw [List.length_append, List.length_append]
  omega
theorem bytesTo_sum {l : List En} (h : MayE l) : ∀ n, n ≤ l.length → (bytesTo l n).length ≤ 6 * sumE (l.take n)
  | 0, _ => by simp [bytesTo]
  | n + 1, hn => by
    have h1 := bytesTo_sum h n (by omega)
    have h2 := entB_sum h (i := n) (by omega)
    rw [take_snoc_en (by omega), sumE_append]
    simp only [bytesTo, List.length_append, sumE]
    omega
theorem encN_sum {l : List En} (h : MayE l) : (encN l).length ≤ 3 + 2 * sumE l := by
  have h1 := bytesTo_sum h l.length (Nat.le_refl _)
  rw [List.take_length] at h1
  have h2 := encN_length l
  have h3 := sumE_len l
  omega
theorem bodyI_sum {n : Nat} : ∀ {L : List Li}, okAll n L → (bodyI L).length ≤ 3 * sumLi L
  | [], _ => by simp [bodyI]
  | l :: r, h => by
    have h0 := h 0 (by simp)
    simp only [liAt, List.getD_cons_zero] at h0
    have h1 := encN_sum h0.2.2.2.1
    have h2 := bodyI_sum (L := r) (fun i hi => h (i + 1) (by simpa using hi))
    simp only [bodyI, List.length_append, sumLi]
    omega
def Small15 (n : Nat) (L : List Li) : Prop := n ≤ 100 ∧ L.length ≤ 300 ∧ sumLi L ≤ 4096 ∧ ∀ l ∈ L, l.ents.length ≤ 100 ∧ l.key.size ≤ 17
theorem keyN_bytes (s : ByteArray) : keyN s = bytesL s := rfl
def recN (s : ByteArray) : List Nat := 0 :: s.size :: cellsN (bytesL s)
theorem recN_len (s : ByteArray) : (recN s).length = 2 + (s.size + 3) / 4 := by
  unfold recN
  rw [List.length_cons, List.length_cons, cellsN_length, bytesL_length]
  omega
def heldC : List Li → List Nat
  | [] => []
  | l :: r => recN l.key ++ heldC r
def heldL : Nat → List Li → List Li
  | _, [] => []
  | a, l :: r => ⟨l.key, a, l.ents⟩ :: heldL (a + (recN l.key).length) r
theorem heldC_append : ∀ L M : List Li, heldC (L ++ M) = heldC L ++ heldC M
  | [], M => rfl
  | l :: r, M => by rw [List.cons_append, heldC, heldC, heldC_append r M, List.append_assoc]
theorem heldC_snoc (L : List Li) (l : Li) : heldC (L ++ [l]) = heldC L ++ recN l.key := by rw [heldC_append, heldC, heldC, List.append_nil]
theorem heldL_append : ∀ (a : Nat) (L M : List Li), heldL a (L ++ M) = heldL a L ++ heldL (a + (heldC L).length) M
  | a, [], M => by simp [heldL, heldC]
  | a, l :: r, M => by
    rw [List.cons_append, heldL, heldL, heldL_append _ r M, heldC, List.length_append, List.cons_append, Nat.add_assoc]
theorem heldL_snoc (a : Nat) (L : List Li) (l : Li) : heldL a (L ++ [l]) = heldL a L ++ [⟨l.key, (a + (heldC L).length : Nat), l.ents⟩] := by rw [heldL_append]; rfl
theorem heldL_length : ∀ (a : Nat) (L : List Li), (heldL a L).length = L.length
  | _, [] => rfl
  | a, l :: r => by rw [heldL, List.length_cons, heldL_length, List.length_cons]
theorem heldC_small {L : List Li} (h : ∀ l ∈ L, l.key.size ≤ 17) : (heldC L).length ≤ 7 * L.length := by
  induction L with
  | nil => simp [heldC]
  | cons l r ih =>
    have h1 := ih fun x hx => h x (by simp [hx])
    have h2 := recN_len l.key
    have h3 := h l (by simp)
    rw [heldC, List.length_append, List.length_cons]
    omega
theorem heldC_lt {L : List Li} (h : ∀ l ∈ L, l.key.size ≤ 17) : ∀ x ∈ heldC L, x < 4294967296 := by
  induction L with
  | nil => intro x hx; simp [heldC] at hx
  | cons l r ih =>
    intro x hx
    rw [heldC, List.mem_append] at hx
    rcases hx with hx | hx
    · unfold recN at hx
      simp only [List.mem_cons] at hx
      rcases hx with rfl | rfl | hx
      · omega
      · have := h l (by simp); omega
      · obtain ⟨j, _, rfl⟩ := List.mem_map.1 hx
        exact cellAt_lt (keyN_lt l.key) j
    · exact ih (fun x hx => h x (by simp [hx])) x hx
theorem split_at {L : List Li} {i : Nat} (hi : i < L.length) : L = L.take i ++ (liAt L i :: L.drop (i + 1)) := by
  rw [← li_drop (liAt_lt hi), List.take_append_drop]
theorem heldL_at {a : Nat} {L : List Li} {i : Nat} (hi : i < L.length) : liAt (heldL a L) i = ⟨(liAt L i).key, (a + (heldC (L.take i)).length : Nat), (liAt L i).ents⟩ := by
  have e := congrArg (heldL a) (split_at hi)
  rw [heldL_append] at e
  rw [e]
  unfold liAt
  rw [List.getD_eq_getElem?_getD, List.getElem?_append_right (by rw [heldL_length, List.length_take]; omega), heldL_length, List.length_take, Nat.min_eq_left (by omega), Nat.sub_self, heldL]
  rfl
theorem heldL_ents (a : Nat) (L : List Li) : ∀ l ∈ heldL a L, ∃ x ∈ L, l.key = x.key ∧ l.ents = x.ents := by
  intro l hl
  obtain ⟨i, hi, rfl⟩ := List.mem_iff_getElem.1 hl
  rw [heldL_length] at hi
  have := heldL_at (a := a) hi
  rw [liAt_some (List.getElem?_eq_getElem (by rw [heldL_length]; exact hi))] at this
  exact ⟨liAt L i, liAt_mem hi, by rw [this], by rw [this]⟩
theorem heldL_sum : ∀ (a : Nat) (L : List Li), sumLi (heldL a L) = sumLi L
  | _, [] => rfl
  | a, l :: r => by rw [heldL, sumLi, sumLi, heldL_sum]
/-! ### What lies where -/
def ints (C : List Nat) : List Int := C.map fun x : Nat => (x : Int)
theorem ints_length (C : List Nat) : (ints C).length = C.length := by simp [ints]
theorem ints_get {C : List Nat} {i : Nat} {v : Nat} (h : C[i]? = some v) : (ints C).getD i 0 = (v : Int) := by
  unfold ints
  rw [List.getD_eq_getElem?_getD, List.getElem?_map, h]
  rfl
theorem mid_cells (A B D : List Nat) (hu : ∀ x ∈ B, x < 4294967296) : CellsAt (ints (A ++ (B ++ D))) (A.length : Int) B := by
  refine ⟨by omega, by rw [ints_length]; simp only [List.length_append]; omega, fun j v hj => ?_⟩
  have hlt := (List.getElem?_eq_some_iff.1 hj).1
  refine ⟨?_, hu v (List.mem_of_getElem? hj)⟩
  rw [show ((A.length : Int) + (j : Int)).toNat = A.length + j by omega]
  exact ints_get (by rw [List.getElem?_append_right (by omega), Nat.add_sub_cancel_left, List.getElem?_append_left hlt]; exact hj)
theorem headsI_at : ∀ (L : List Li) (b i : Nat), i < L.length → (headsI b L)[2 * i]? = some (liAt L i).record.toNat ∧ (headsI b L)[2 * i + 1]? = some (b + (bodyI (L.take i)).length)
  | [], _, i, h => by simp at h
  | l :: r, b, 0, _ => by
    simp [headsI, bodyI, liAt]
  | l :: r, b, i + 1, h => by
    obtain ⟨h1, h2⟩ := headsI_at r (b + (encN l.ents).length) i (by simpa using h)
    rw [headsI, show 2 * (i + 1) = 2 * i + 1 + 1 by omega, List.getElem?_cons_succ, List.getElem?_cons_succ, List.getElem?_cons_succ, List.getElem?_cons_succ, h1, h2, List.take_succ_cons, bodyI, List.length_append, Nat.add_assoc]
    exact ⟨rfl, rfl⟩
/-- The cells of a Hold. -/
def holdX (n : Nat) (F : List Nat) (L : List Li) : List Nat := (0 :: heldC L) ++ imgN (1 + (heldC L).length) n F (heldL 1 L)
def holdA (L : List Li) : Nat := 1 + (heldC L).length
def holdAd (n : Nat) (L : List Li) (i : Nat) : Int := ((baseI (holdA L) n L.length + (bodyI ((heldL 1 L).take i)).length : Nat) : Int)
theorem hold_len {n : Nat} {F : List Nat} {L : List Li} (hF : F.length = 4 * n) : (holdX n F L).length = holdA L + (2 + 4 * n + 2 * L.length + (bodyI (heldL 1 L)).length) := by
  unfold holdX holdA
  rw [List.length_append, imgN_length _ _ _ _ hF, List.length_cons, heldL_length]
  omega
section
variable {n : Nat} {F : List Nat} {L : List Li}
theorem hold_docs : (ints (holdX n F L)).getD ((holdA L : Int)).toNat 0 = (n : Int) + 1 := by
  rw [show ((holdA L : Int)).toNat = holdA L by omega]
  refine ints_get (v := n + 1) ?_
  unfold holdX holdA imgN
  rw [List.getElem?_append_right (by rw [List.length_cons]; omega), List.length_cons, show 1 + (heldC L).length - ((heldC L).length + 1) = 0 by omega]
  rfl
theorem hold_lists : (ints (holdX n F L)).getD ((holdA L : Int) + 1).toNat 0 = (L.length : Int) := by
  rw [show ((holdA L : Int) + 1).toNat = holdA L + 1 by omega]
  refine ints_get (v := L.length) ?_
  unfold holdX holdA imgN
  rw [List.getElem?_append_right (by rw [List.length_cons]; omega), List.length_cons, show 1 + (heldC L).length + 1 - ((heldC L).length + 1) = 1 by omega, heldL_length]
  rfl
theorem hold_head (hF : F.length = 4 * n) {i : Nat} (hi : i < 2 * L.length) : (holdX n F L)[holdA L + 2 + 4 * n + i]? = (headsI (baseI (holdA L) n L.length) (heldL 1 L))[i]? := by
  unfold holdX holdA imgN
  rw [List.getElem?_append_right (by rw [List.length_cons]; omega), List.length_cons, show 1 + (heldC L).length + 2 + 4 * n + i - ((heldC L).length + 1) = (4 * n + i) + 1 + 1 by omega, List.getElem?_cons_succ, List.getElem?_cons_succ, List.getElem?_append_right (by omega), hF, show 4 * n + i - 4 * n = i by omega, List.getElem?_append_left (by rw [headsI_length, heldL_length]; exact hi), heldL_length]
theorem hold_told (hF : F.length = 4 * n) (hM : MayI n (heldL 1 L)) (hk : ∀ l ∈ L, l.key.size ≤ 17) : Told (ints (holdX n F L)) ((holdA L : Int) + 2 + 4 * (n : Int)) (heldL 1 L) (holdAd n L) := by
  have hlen := hold_len (L := L) hF
  refine ⟨hM.2.2.1, by omega, ?_, fun i hi => ?_, fun i hi => ?_, fun i hi => ?_⟩
  · rw [ints_length, hlen, heldL_length]
    omega
  · rw [heldL_length] at hi
    have h := (headsI_at (heldL 1 L) (baseI (holdA L) n L.length) i (by rw [heldL_length]; exact hi)).1
    rw [← hold_head hF (by omega)] at h
    rw [show ((holdA L : Int) + 2 + 4 * (n : Int) + 2 * (i : Int)).toNat = holdA L + 2 + 4 * n + 2 * i by omega, ints_get h]
    rw [heldL_at hi]
    dsimp only
    omega
  · rw [heldL_length] at hi
    have h := (headsI_at (heldL 1 L) (baseI (holdA L) n L.length) i (by rw [heldL_length]; exact hi)).2
    rw [← hold_head hF (by omega)] at h
    rw [show ((holdA L : Int) + 2 + 4 * (n : Int) + 2 * (i : Int) + 1).toNat = holdA L + 2 + 4 * n + (2 * i + 1) by omega, ints_get h]
    rfl
  · rw [heldL_length] at hi
    rw [heldL_at hi]
    dsimp only
    have e : holdX n F L = ((0 :: heldC (L.take i)) ++ [0]) ++ (((keyN (liAt L i).key).length :: cellsN (keyN (liAt L i).key)) ++ (heldC (L.drop (i + 1)) ++ imgN (1 + (heldC L).length) n F (heldL 1 L))) := by
      unfold holdX
      conv => lhs; arg 1; rw [split_at hi, heldC_append, heldC]
      unfold recN
      rw [keyN_bytes, bytesL_length]
      simp
    rw [e]
    have hu : ∀ x ∈ ((keyN (liAt L i).key).length :: cellsN (keyN (liAt L i).key)), x < 4294967296 := by
      intro x hx
      rcases List.mem_cons.1 hx with rfl | hx
      · rw [keyN_bytes, bytesL_length]
        have := hk _ (liAt_mem hi)
        omega
      · obtain ⟨j, _, rfl⟩ := List.mem_map.1 hx
        exact cellAt_lt (keyN_lt _) j
    have := mid_cells ((0 :: heldC (L.take i)) ++ [0]) _ (heldC (L.drop (i + 1)) ++ imgN (1 + (heldC L).length) n F (heldL 1 L)) hu
    rw [show ((1 + (heldC (L.take i)).length : Nat) : Int) + 1 = ((((0 :: heldC (L.take i)) ++ [0]).length : Nat) : Int) by simp; omega]
    exact this
theorem hold_list (hF : F.length = 4 * n) (hM : MayI n (heldL 1 L)) {i : Nat} (hi : i < L.length) : CellsAt (ints (holdX n F L)) (holdAd n L i) (encN (liAt L i).ents) := by
  have hi2 : i < (heldL 1 L).length := by rw [heldL_length]; exact hi
  have hb : bodyI (heldL 1 L) = bodyI ((heldL 1 L).take i) ++ (encN (liAt L i).ents ++ bodyI ((heldL 1 L).drop (i + 1))) := by
    conv => lhs; rw [split_at hi2, bodyI_append, bodyI]
    rw [heldL_at hi]
  have e : holdX n F L = ((0 :: heldC L) ++ ((n + 1) :: L.length :: (F ++ (headsI (baseI (holdA L) n L.length) (heldL 1 L) ++ bodyI ((heldL 1 L).take i))))) ++ (encN (liAt L i).ents ++ bodyI ((heldL 1 L).drop (i + 1))) := by
    unfold holdX imgN
    rw [hb, heldL_length]
    unfold holdA
    simp
  have hok := (hM.2.2.2 i hi2).2.2.2.1
  rw [heldL_at hi] at hok
  rw [e]
  have := mid_cells ((0 :: heldC L) ++ ((n + 1) :: L.length :: (F ++ (headsI (baseI (holdA L) n L.length) (heldL 1 L) ++ bodyI ((heldL 1 L).take i))))) (encN (liAt L i).ents) (bodyI ((heldL 1 L).drop (i + 1))) (encN_ltI hok)
  unfold holdAd
  rw [show baseI (holdA L) n L.length + (bodyI ((heldL 1 L).take i)).length = ((0 :: heldC L) ++ ((n + 1) :: L.length :: (F ++ (headsI (baseI (holdA L) n L.length) (heldL 1 L) ++ bodyI ((heldL 1 L).take i))))).length by
    unfold baseI holdA
    simp only [List.length_append, List.length_cons, headsI_length, heldL_length, hF]
    omega]
  exact this
end
end Go.Proofs.Ytkjimgidlpocbaa
