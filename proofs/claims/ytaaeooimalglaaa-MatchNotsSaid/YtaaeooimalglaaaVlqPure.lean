/-
  Numbers in few bytes, as lists of numbers, without the program's text: there and back, nothing else, how many.
-/
import Derived.Test.YtaaeooimalglaaaNums
namespace Go.Proofs.Ytaaeooimalglaaa

/-- A number's bytes, so many of them with more behind at most. -/
def putF : Nat → Nat → List Nat
  | 0, n => [n]
  | f + 1, n => if n ≤ 127 then [n] else (n % 128 + 128) :: putF f (n / 128)
def putN (n : Nat) : List Nat := putF 4 n
/-- The number that stands at a list's beginning: it, its bytes, the error's number. -/
def getR : Nat → List Nat → Nat × Nat × Nat
  | 0, _ => (0, 0, 11)
  | _ + 1, [] => (0, 0, 12)
  | f + 1, x :: M =>
    if f = 0 ∧ 15 < x then (0, 0, 11)
    else if x ≤ 127 then (if x = 0 ∧ f < 4 then (0, 0, 11) else (x, 1, 0))
    else if (getR f M).2.2 = 0 then (x - 128 + 128 * (getR f M).1, (getR f M).2.1 + 1, 0) else (0, 0, (getR f M).2.2)
def lim : Nat → Nat
  | 0 => 16
  | f + 1 => 128 * lim f
theorem lim_pos : ∀ f, 0 < lim f
  | 0 => by decide
  | f + 1 => by have := lim_pos f; unfold lim; omega
theorem lim_four : lim 4 = 4294967296 := rfl
theorem put_len : ∀ f n, 1 ≤ (putF f n).length ∧ (putF f n).length ≤ f + 1
  | 0, _ => by simp [putF]
  | f + 1, n => by
    unfold putF
    have := put_len f (n / 128)
    split
    · simp
    · simp; omega
theorem put_byte : ∀ f n, n < lim f → ∀ b ∈ putF f n, b < 256
  | 0, n, h, b, hb => by simp [putF, lim] at hb h; omega
  | f + 1, n, h, b, hb => by
    unfold putF at hb
    split at hb
    · simp at hb; omega
    · rcases List.mem_cons.1 hb with rfl | hb
      · omega
      · exact put_byte f (n / 128) (by simp only [lim] at h; omega) b hb
/-- There and back. -/
theorem get_putF : ∀ (f n : Nat) (M : List Nat), n < lim f → (f = 4 ∨ 0 < n) → f ≤ 4 → getR (f + 1) (putF f n ++ M) = (n, (putF f n).length, 0)
  | 0, n, M, h, h0, _ => by
    simp only [lim] at h
    have h1 : 0 < n := by omega
    simp only [putF, List.cons_append, List.nil_append, getR, List.length_cons, List.length_nil]
    rw [if_neg (by omega), if_pos (by omega), if_neg (by omega)]
  | f + 1, n, M, h, h0, hf => by
    simp only [lim] at h
    unfold putF
    by_cases h1 : n ≤ 127
    · rw [if_pos h1]
      simp only [List.cons_append, List.nil_append, getR, List.length_cons, List.length_nil]
      rw [if_neg (by omega), if_pos (by omega), if_neg (by omega)]
    · rw [if_neg h1]
      have ih := get_putF f (n / 128) M (by omega) (.inr (by omega)) (by omega)
      rw [List.cons_append, getR, ih, if_neg (by omega), if_neg (by omega), if_pos rfl, List.length_cons]
      ext <;> simp <;> omega
theorem get_put (n : Nat) (M : List Nat) (h : n < 4294967296) : getR 5 (putN n ++ M) = (n, (putN n).length, 0) := get_putF 4 n M h (.inl rfl) (Nat.le_refl _)
/-- What is read is just what is put. -/
theorem get_only : ∀ (f : Nat) (M : List Nat) (n k : Nat), f ≤ 4 → getR (f + 1) M = (n, k, 0) → (∀ b ∈ M, b < 256) → putF f n = M.take k ∧ 1 ≤ k ∧ k ≤ M.length ∧ n < lim f ∧ (f = 4 ∨ 0 < n)
  | f, [], n, k, _, h, _ => by simp [getR] at h
  | 0, x :: M, n, k, _, h, _ => by
    rw [getR] at h
    by_cases c1 : 15 < x
    · rw [if_pos ⟨rfl, c1⟩] at h
      simp at h
    · rw [if_neg (fun c => c1 c.2), if_pos (by omega)] at h
      by_cases c2 : x = 0
      · rw [if_pos ⟨c2, by omega⟩] at h
        simp at h
      · rw [if_neg (fun c => c2 c.1)] at h
        simp only [Prod.mk.injEq] at h
        obtain ⟨rfl, rfl, _⟩ := h
        simp only [lim, putF]
        refine ⟨by simp, by omega, by simp, by omega, by omega⟩
  | f + 1, x :: M, n, k, hf, h, hb => by
    rw [getR] at h
    rw [if_neg (by omega)] at h
    split at h
    · split at h
      · simp at h
      · simp only [Prod.mk.injEq] at h
        obtain ⟨rfl, rfl, _⟩ := h
        unfold putF
        rw [if_pos (by assumption)]
        have := lim_pos f
        have h16 : 128 ≤ 128 * lim f := by omega
        refine ⟨by simp, by omega, by simp, by show x < 128 * lim f; omega, by omega⟩
    · rename_i hx
      split at h
      · rename_i he
        generalize hg : getR (f + 1) M = q at h he
        obtain ⟨m, j, e⟩ := q
        simp only at h he
        subst he
        simp only [Prod.mk.injEq] at h
        obtain ⟨rfl, rfl, _⟩ := h
        obtain ⟨h1, h2, h3, h4, h5⟩ := get_only f M m j (by omega) hg fun b hm => hb b (by simp [hm])
        have hxb := hb x (by simp)
        have h6 : 0 < m := by omega
        unfold putF
        rw [if_neg (by omega), show (x - 128 + 128 * m) % 128 + 128 = x by omega, show (x - 128 + 128 * m) / 128 = m by omega, h1]
        refine ⟨by simp, by omega, by simp; omega, by show _ < 128 * lim f; omega, by omega⟩
      · simp only [Prod.mk.injEq] at h
        rename_i he
        exact absurd h.2.2 he
theorem get_only5 {M : List Nat} {n k : Nat} (h : getR 5 M = (n, k, 0)) (hb : ∀ b ∈ M, b < 256) : putN n = M.take k ∧ 1 ≤ k ∧ k ≤ M.length ∧ n < 4294967296 := by
  obtain ⟨h1, h2, h3, h4, _⟩ := get_only 4 M n k (Nat.le_refl _) h hb
  exact ⟨h1, h2, h3, h4⟩
/-- Beside an error all is 0. -/
theorem get_err : ∀ (f : Nat) (M : List Nat), (getR f M).2.2 ≠ 0 → (getR f M).1 = 0 ∧ (getR f M).2.1 = 0
  | 0, _, _ => by simp [getR]
  | _ + 1, [], _ => by simp [getR]
  | f + 1, x :: M, h => by
    rw [getR] at h ⊢
    split
    · simp
    · split
      · split
        · simp
        · rename_i h1 h2 h3
          rw [if_neg h1, if_pos h2, if_neg h3] at h
          simp at h
      · split
        · rename_i h1 h2 h3
          rw [if_neg h1, if_neg h2, if_pos h3] at h
          simp at h
        · simp
theorem get_kinds : ∀ (f : Nat) (M : List Nat), (getR f M).2.2 = 0 ∨ (getR f M).2.2 = 11 ∨ (getR f M).2.2 = 12
  | 0, _ => by simp [getR]
  | _ + 1, [] => by simp [getR]
  | f + 1, x :: M => by
    have := get_kinds f M
    rw [getR]
    repeat' split
    all_goals simp
    all_goals omega

/-! ### All of them -/
def allF : Nat → List Nat → List Nat × Nat
  | 0, _ => ([], 0)
  | g + 1, L => if L = [] then ([], 0) else if (getR 5 L).2.2 = 0 then (if (allF g (L.drop (getR 5 L).2.1)).2 = 0 then ((getR 5 L).1 :: (allF g (L.drop (getR 5 L).2.1)).1, 0) else ([], (allF g (L.drop (getR 5 L).2.1)).2)) else ([], (getR 5 L).2.2)
def allR (L : List Nat) : List Nat × Nat := allF L.length L
theorem get_len {L : List Nat} (hb : ∀ b ∈ L, b < 256) (h : (getR 5 L).2.2 = 0) : 1 ≤ (getR 5 L).2.1 ∧ (getR 5 L).2.1 ≤ L.length ∧ (getR 5 L).1 < 4294967296 := by
  generalize hg : getR 5 L = q at h
  obtain ⟨n, k, e⟩ := q
  simp only at h
  subst h
  obtain ⟨_, h1, h2, h3⟩ := get_only5 hg hb
  exact ⟨h1, h2, h3⟩
theorem allF_enough : ∀ (g h : Nat) (L : List Nat), L.length ≤ g → L.length ≤ h → (∀ b ∈ L, b < 256) → allF g L = allF h L
  | 0, h, L, hg, _, _ => by
    obtain rfl := List.eq_nil_of_length_eq_zero (show L.length = 0 by omega)
    cases h <;> simp [allF]
  | g + 1, 0, L, _, hh, _ => by
    obtain rfl := List.eq_nil_of_length_eq_zero (show L.length = 0 by omega)
    simp [allF]
  | g + 1, h + 1, L, hg, hh, hb => by
    unfold allF
    by_cases hL : L = []
    · rw [if_pos hL, if_pos hL]
    rw [if_neg hL, if_neg hL]
    by_cases he : (getR 5 L).2.2 = 0
    · have := get_len hb he
      rw [if_pos he, if_pos he, allF_enough g h _ (by simp; omega) (by simp; omega) fun b hm => hb b (List.mem_of_mem_drop hm)]
    · rw [if_neg he, if_neg he]
theorem allR_nil : allR [] = ([], 0) := rfl
theorem allR_step {L : List Nat} (hL : L ≠ []) (hb : ∀ b ∈ L, b < 256) (he : (getR 5 L).2.2 = 0) : allR L = if (allR (L.drop (getR 5 L).2.1)).2 = 0 then ((getR 5 L).1 :: (allR (L.drop (getR 5 L).2.1)).1, 0) else ([], (allR (L.drop (getR 5 L).2.1)).2) := by
  have h1 := get_len hb he
  have h2 : L.length ≠ 0 := by simpa using hL
  obtain ⟨n, hn⟩ : ∃ n, L.length = n + 1 := ⟨L.length - 1, by omega⟩
  unfold allR
  rw [hn]
  conv => lhs; unfold allF
  rw [if_neg hL, if_pos he, allF_enough n (L.drop (getR 5 L).2.1).length _ (by simp; omega) (Nat.le_refl _) fun b hm => hb b (List.mem_of_mem_drop hm)]
theorem allR_bad {L : List Nat} (hL : L ≠ []) (he : (getR 5 L).2.2 ≠ 0) : allR L = ([], (getR 5 L).2.2) := by
  have h2 : L.length ≠ 0 := by simpa using hL
  obtain ⟨n, hn⟩ : ∃ n, L.length = n + 1 := ⟨L.length - 1, by omega⟩
  unfold allR
  rw [hn]
  unfold allF
  rw [if_neg hL, if_neg he]
/-- Behind those that were read. -/
def allOn (acc : List Nat) (L : List Nat) : List Nat × Nat := if (allR L).2 = 0 then (acc ++ (allR L).1, 0) else ([], (allR L).2)
theorem allOn_nil (acc : List Nat) : allOn acc [] = (acc, 0) := by simp [allOn, allR_nil]
theorem allF_err : ∀ (g : Nat) (L : List Nat), (allF g L).2 ≠ 0 → (allF g L).1 = []
  | 0, _, _ => by simp [allF]
  | g + 1, L, h => by
    unfold allF at h ⊢
    repeat' split
    all_goals simp_all
theorem allOn_start (L : List Nat) : allOn [] L = allR L := by
  unfold allOn
  split
  · rename_i h
    rw [List.nil_append]
    exact Prod.ext rfl h.symm
  · rename_i h
    exact Prod.ext (allF_err _ _ h).symm rfl
theorem allOn_step {L : List Nat} (acc : List Nat) (hL : L ≠ []) (hb : ∀ b ∈ L, b < 256) (he : (getR 5 L).2.2 = 0) : allOn acc L = allOn (acc ++ [(getR 5 L).1]) (L.drop (getR 5 L).2.1) := by
  unfold allOn
  rw [allR_step hL hb he]
  by_cases h : (allR (L.drop (getR 5 L).2.1)).2 = 0
  · rw [if_pos h]
    simp [h]
  · rw [if_neg h]
    simp only
    rw [if_neg h, if_neg h]
theorem allOn_bad {L : List Nat} (acc : List Nat) (hL : L ≠ []) (he : (getR 5 L).2.2 ≠ 0) : allOn acc L = ([], (getR 5 L).2.2) := by
  unfold allOn
  rw [allR_bad hL he]
  simp only
  rw [if_neg he]
/-- Numbers' bytes, one behind the other, are these numbers. -/
def putsN (l : List Nat) : List Nat := l.flatMap putN
theorem putsN_snoc (l : List Nat) (n : Nat) : putsN (l ++ [n]) = putsN l ++ putN n := by simp [putsN]
theorem putN_byte {n : Nat} (h : n < 4294967296) : ∀ b ∈ putN n, b < 256 := put_byte 4 n h
theorem putsN_byte {l : List Nat} (h : ∀ n ∈ l, n < 4294967296) : ∀ b ∈ putsN l, b < 256 := by
  intro b hb
  obtain ⟨n, hn, hm⟩ := List.mem_flatMap.1 hb
  exact putN_byte (h n hn) b hm
theorem putsN_len : ∀ l : List Nat, (putsN l).length ≤ 5 * l.length
  | [] => by simp [putsN]
  | n :: l => by
    have := putsN_len l
    have h2 : (putN n).length ≤ 5 := (put_len 4 n).2
    have e : putsN (n :: l) = putN n ++ putsN l := by simp [putsN]
    rw [e]; simp; omega
theorem all_puts : ∀ l : List Nat, (∀ n ∈ l, n < 4294967296) → allR (putsN l) = (l, 0)
  | [], _ => rfl
  | n :: l, h => by
    have e : putsN (n :: l) = putN n ++ putsN l := by simp [putsN]
    have hg := get_put n (putsN l) (h n (by simp))
    have h1 : 1 ≤ (putN n).length := (put_len 4 n).1
    have hne : putN n ++ putsN l ≠ [] := by
      intro e
      have := congrArg List.length e
      simp at this
      simp [this.1] at h1
    have hb : ∀ b ∈ putN n ++ putsN l, b < 256 := by
      rw [← e]
      exact putsN_byte h
    have ih := all_puts l fun m hm => h m (by simp [hm])
    rw [e, allR_step hne hb (by rw [hg]), hg]
    simp only [List.drop_left]
    rw [ih]
    rfl

/-! ### Bytes with 128 more ahead -/
def ConT (M : List Nat) (k : Nat) : Prop := ∀ j, j < k → ∃ x, M[j]? = some x ∧ 127 < x
def valP : Nat → List Nat → Nat → Nat
  | 0, _, n => n
  | _ + 1, [], n => n
  | k + 1, x :: M, n => x - 128 + 128 * valP k M n
theorem get_skip : ∀ (k f : Nat) (M : List Nat), k ≤ f → ConT M k → getR (f + 1) M = if (getR (f + 1 - k) (M.drop k)).2.2 = 0 then (valP k M (getR (f + 1 - k) (M.drop k)).1, (getR (f + 1 - k) (M.drop k)).2.1 + k, 0) else (0, 0, (getR (f + 1 - k) (M.drop k)).2.2)
  | 0, f, M, _, _ => by
    simp only [Nat.sub_zero, List.drop_zero, valP, Nat.add_zero]
    split
    · rename_i h
      exact Prod.ext rfl (Prod.ext rfl h)
    · rename_i h
      have := get_err (f + 1) M h
      exact Prod.ext this.1 (Prod.ext this.2 rfl)
  | k + 1, f, [], _, h => by
    obtain ⟨x, hx, _⟩ := h 0 (by omega)
    simp at hx
  | k + 1, 0, x :: M, hk, _ => by omega
  | k + 1, f + 1, x :: M, hk, h => by
    obtain ⟨y, hy, hy2⟩ := h 0 (by omega)
    simp at hy
    subst hy
    have ih := get_skip k f M (by omega) fun j hj => by
      obtain ⟨z, hz, hz2⟩ := h (j + 1) (by omega)
      exact ⟨z, by simpa using hz, hz2⟩
    rw [getR, if_neg (by omega), if_neg (by omega), show f + 1 + 1 - (k + 1) = f + 1 - k by omega, List.drop_succ_cons, ih]
    generalize getR (f + 1 - k) (M.drop k) = q
    by_cases hq : q.2.2 = 0
    · rw [if_pos hq, if_pos hq]
      simp only [if_true, valP]
      exact Prod.ext rfl (Prod.ext (by simp; omega) rfl)
    · rw [if_neg hq, if_neg hq]
      simp only
      rw [if_neg hq]
theorem drop_at {M : List Nat} {k x : Nat} (h : M[k]? = some x) : M.drop k = x :: M.drop (k + 1) := by
  obtain ⟨h1, h2⟩ := List.getElem?_eq_some_iff.1 h
  rw [List.drop_eq_getElem_cons h1, h2]
theorem get_skip_of {k : Nat} {M : List Nat} {q : Nat × Nat × Nat} (hk : k ≤ 4) (hc : ConT M k) (h : getR (4 - k + 1) (M.drop k) = q) : getR 5 M = if q.2.2 = 0 then (valP k M q.1, q.2.1 + k, 0) else (0, 0, q.2.2) := by
  have := get_skip k 4 M hk hc
  rw [show 4 + 1 - k = 4 - k + 1 by omega, h] at this
  exact this
theorem get_ok {M : List Nat} {k x : Nat} (hc : ConT M k) (hk : k ≤ 4) (hx : M[k]? = some x) (h1 : x ≤ 127) (h2 : ¬ (k = 4 ∧ 15 < x)) (h3 : ¬ (0 < k ∧ x = 0)) : getR 5 M = (valP k M x, k + 1, 0) := by
  have h : getR (4 - k + 1) (M.drop k) = (x, 1, 0) := by
    rw [drop_at hx, getR, if_neg (by omega), if_pos h1, if_neg (by omega)]
  rw [get_skip_of hk hc h, if_pos rfl]
  exact Prod.ext rfl (Prod.ext (by simp; omega) rfl)
theorem get_big {M : List Nat} {x : Nat} (hc : ConT M 4) (hx : M[4]? = some x) (h : 15 < x) : getR 5 M = (0, 0, 11) := by
  have h : getR (4 - 4 + 1) (M.drop 4) = (0, 0, 11) := by
    rw [drop_at hx, getR, if_pos ⟨rfl, h⟩]
  rw [get_skip_of (Nat.le_refl _) hc h, if_neg (by simp)]
theorem get_zero {M : List Nat} {k : Nat} (hc : ConT M k) (hk : k ≤ 4) (h0 : 0 < k) (hx : M[k]? = some 0) : getR 5 M = (0, 0, 11) := by
  have h : getR (4 - k + 1) (M.drop k) = (0, 0, 11) := by
    rw [drop_at hx, getR, if_neg (by omega), if_pos (by omega), if_pos ⟨rfl, by omega⟩]
  rw [get_skip_of hk hc h, if_neg (by simp)]
theorem get_end {M : List Nat} {k : Nat} (hc : ConT M k) (hk : k ≤ 4) (hl : M.length = k) : getR 5 M = (0, 0, 12) := by
  have h : getR (4 - k + 1) (M.drop k) = (0, 0, 12) := by
    rw [List.drop_eq_nil_of_le (by omega), getR]
  rw [get_skip_of hk hc h, if_neg (by simp)]
theorem valP_step {M : List Nat} {t x : Nat} (k n : Nat) (h : M[t]? = some x) : valP (k + 1) (M.drop t) n = x - 128 + 128 * valP k (M.drop (t + 1)) n := by
  rw [drop_at h]
  rfl
theorem valP_lt : ∀ (k : Nat) (M : List Nat) (n : Nat), n ≤ 127 → (∀ b ∈ M, b < 256) → valP k M n < 128 ^ (k + 1)
  | 0, _, n, h, _ => by simp [valP]; omega
  | k + 1, [], n, h, _ => by
    have : 128 ≤ 128 ^ (k + 1 + 1) := by rw [Nat.pow_succ]; exact Nat.le_mul_of_pos_left 128 (Nat.pow_pos (by omega))
    simp only [valP]
    omega
  | k + 1, x :: M, n, h, hb => by
    have ih := valP_lt k M n h fun b hm => hb b (by simp [hm])
    have hx := hb x (by simp)
    have e : 128 ^ (k + 1 + 1) = 128 ^ (k + 1) * 128 := Nat.pow_succ ..
    simp only [valP]
    omega

/-! ### At a place -/
/-- What stands at a place: the number, the place behind it, the error's number. -/
def getA (L : List Nat) (at_ : Int) : Nat × Int × Nat :=
  if at_ < 0 ∨ (L.length : Int) < at_ then (0, 0, 1)
  else if (getR 5 (L.drop at_.toNat)).2.2 = 0 then ((getR 5 (L.drop at_.toNat)).1, at_ + (getR 5 (L.drop at_.toNat)).2.1, 0) else (0, 0, (getR 5 (L.drop at_.toNat)).2.2)
theorem getA_out {L : List Nat} {a : Int} (h : a < 0 ∨ (L.length : Int) < a) : getA L a = (0, 0, 1) := by unfold getA; rw [if_pos h]
theorem getA_in {L : List Nat} {a : Nat} (h : a ≤ L.length) {q : Nat × Nat × Nat} (hq : getR 5 (L.drop a) = q) : getA L (a : Int) = if q.2.2 = 0 then (q.1, (a : Int) + q.2.1, 0) else (0, 0, q.2.2) := by
  unfold getA
  rw [if_neg (by omega), Int.toNat_natCast, hq]

/-! ### How many bytes -/
theorem put_mono : ∀ (f n m : Nat), n ≤ m → (putF f n).length ≤ (putF f m).length
  | 0, _, _, _ => by simp [putF]
  | f + 1, n, m, h => by
    unfold putF
    have ih := put_mono f (n / 128) (m / 128) (Nat.div_le_div_right h)
    by_cases h1 : n ≤ 127
    · rw [if_pos h1]
      split <;> simp
    · rw [if_neg h1, if_neg (by omega)]
      simpa using ih
theorem put_size : ∀ (f n : Nat), n < lim f → n < 128 ^ (putF f n).length ∧ (1 < (putF f n).length → 128 ^ ((putF f n).length - 1) ≤ n)
  | 0, n, h => by simp only [lim] at h; simp [putF]; omega
  | f + 1, n, h => by
    simp only [lim] at h
    unfold putF
    by_cases h1 : n ≤ 127
    · rw [if_pos h1]; simp; omega
    · rw [if_neg h1]
      obtain ⟨i1, i2⟩ := put_size f (n / 128) (by omega)
      have hl := (put_len f (n / 128)).1
      obtain ⟨l, hl2⟩ : ∃ l, (putF f (n / 128)).length = l + 1 := ⟨(putF f (n / 128)).length - 1, by omega⟩
      rw [hl2] at i1 i2
      rw [List.length_cons, hl2]
      refine ⟨?_, fun _ => ?_⟩
      · rw [Nat.pow_succ]; omega
      · rw [Nat.add_sub_cancel]
        cases l with
        | zero => simp; omega
        | succ l =>
          have := i2 (by omega)
          rw [Nat.add_sub_cancel] at this
          rw [Nat.pow_succ]
          omega
theorem put_last : ∀ (f n : Nat), n < lim f → ∀ i b, (putF f n)[i]? = some b → (b < 128 ↔ i + 1 = (putF f n).length)
  | 0, n, h, i, b, hb => by
    simp only [lim] at h
    cases i with
    | zero => simp [putF] at hb ⊢; omega
    | succ i => simp [putF] at hb
  | f + 1, n, h, i, b, hb => by
    simp only [lim] at h
    unfold putF at hb ⊢
    by_cases h1 : n ≤ 127
    · rw [if_pos h1] at hb ⊢
      cases i with
      | zero => simp at hb ⊢; omega
      | succ i => simp at hb
    · rw [if_neg h1] at hb ⊢
      have hl := (put_len f (n / 128)).1
      cases i with
      | zero =>
        rw [List.getElem?_cons_zero] at hb
        injection hb with hb
        rw [List.length_cons]
        omega
      | succ i =>
        have := put_last f (n / 128) (by omega) i b (by simpa using hb)
        rw [this, List.length_cons]
        omega
theorem allF_len : ∀ (g : Nat) (L : List Nat), (allF g L).1.length ≤ g
  | 0, _ => by simp [allF]
  | g + 1, L => by
    have := allF_len g (L.drop (getR 5 L).2.1)
    unfold allF
    repeat' split
    all_goals simp
    all_goals omega
theorem getA_err {L : List Nat} {z : Int} (h : (getA L z).2.2 ≠ 0) : (getA L z).1 = 0 ∧ (getA L z).2.1 = 0 := by
  unfold getA at h ⊢
  split
  · simp
  · split
    · rename_i h1 h2
      rw [if_neg h1, if_pos h2] at h
      simp at h
    · simp
theorem getA_ok {L : List Nat} {z : Int} (h : (getA L z).2.2 = 0) : ∃ a k : Nat, z = (a : Int) ∧ a ≤ L.length ∧ getR 5 (L.drop a) = ((getA L z).1, k, 0) ∧ (getA L z).2.1 = (a : Int) + (k : Int) := by
  by_cases h1 : z < 0 ∨ (L.length : Int) < z
  · rw [getA_out h1] at h
    simp at h
  · obtain ⟨a, rfl⟩ := Int.eq_ofNat_of_zero_le (by omega : 0 ≤ z)
    rw [getA_in (by omega) rfl] at h ⊢
    by_cases h2 : (getR 5 (L.drop a)).2.2 = 0
    · rw [if_pos h2]
      exact ⟨a, _, rfl, by omega, Prod.ext rfl (Prod.ext rfl h2), rfl⟩
    · rw [if_neg h2] at h
      exact absurd h h2
end Go.Proofs.Ytaaeooimalglaaa
