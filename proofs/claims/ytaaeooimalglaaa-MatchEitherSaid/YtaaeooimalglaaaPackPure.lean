/-
  Texts as cells and back, numbers of texts, without the program's text.
-/
import Derived.Test.YtaaeooimalglaaaBytes
namespace Go.Proofs.Ytaaeooimalglaaa

/-- The j-th cell of bytes. -/
def cellAt (L : List Nat) (j : Nat) : Nat := L.getD (4 * j) 0 + 256 * L.getD (4 * j + 1) 0 + 65536 * L.getD (4 * j + 2) 0 + 16777216 * L.getD (4 * j + 3) 0
def cellsTo (L : List Nat) (n : Nat) : List Nat := (List.range n).map (cellAt L)
def cellsN (L : List Nat) : List Nat := cellsTo L ((L.length + 3) / 4)
theorem cellsTo_snoc (L : List Nat) (n : Nat) : cellsTo L (n + 1) = cellsTo L n ++ [cellAt L n] := by simp [cellsTo, List.range_succ]
theorem cellsTo_length (L : List Nat) (n : Nat) : (cellsTo L n).length = n := by simp [cellsTo]
theorem cellsN_length (L : List Nat) : (cellsN L).length = (L.length + 3) / 4 := cellsTo_length _ _
/-- A cell's bytes. -/
def fourB (v : Nat) : List Nat := [v % 256, v / 256 % 256, v / 65536 % 256, v / 16777216 % 256]
def bytesC (l : List Nat) : List Nat := l.flatMap fourB
theorem bytesC_length : ∀ l : List Nat, (bytesC l).length = 4 * l.length
  | [] => rfl
  | v :: l => by
    have e : bytesC (v :: l) = fourB v ++ bytesC l := rfl
    rw [e, List.length_append, bytesC_length l, List.length_cons]
    simp [fourB]
    omega
theorem bytesC_snoc (l : List Nat) (v : Nat) : bytesC (l ++ [v]) = bytesC l ++ fourB v := by simp [bytesC]
theorem bytesC_get : ∀ (l : List Nat) (j k : Nat) (v : Nat), l[j]? = some v → k < 4 → (bytesC l)[4 * j + k]? = (fourB v)[k]?
  | [], j, k, v, h, _ => by simp at h
  | x :: l, 0, k, v, h, hk => by
    simp at h
    subst h
    have e : bytesC (x :: l) = fourB x ++ bytesC l := rfl
    rw [e, Nat.mul_zero, Nat.zero_add, List.getElem?_append_left (by simp [fourB]; omega)]
  | x :: l, j + 1, k, v, h, hk => by
    have := bytesC_get l j k v (by simpa using h) hk
    have e : bytesC (x :: l) = fourB x ++ bytesC l := rfl
    rw [e, show 4 * (j + 1) + k = (fourB x).length + (4 * j + k) by simp [fourB]; omega, List.getElem?_append_right (by omega), Nat.add_sub_cancel_left]
    exact this
theorem getD_lt {L : List Nat} (h : ∀ b ∈ L, b < 256) (i : Nat) : L.getD i 0 < 256 := by
  rw [List.getD_eq_getElem?_getD]
  cases hi : L[i]? with
  | none => simp
  | some b => exact h b (List.mem_of_getElem? hi)
theorem cellAt_lt {L : List Nat} (h : ∀ b ∈ L, b < 256) (j : Nat) : cellAt L j < 4294967296 := by
  have h0 := getD_lt h (4 * j)
  have h1 := getD_lt h (4 * j + 1)
  have h2 := getD_lt h (4 * j + 2)
  have h3 := getD_lt h (4 * j + 3)
  unfold cellAt
  omega
theorem fourB_cell {L : List Nat} (h : ∀ b ∈ L, b < 256) (j k : Nat) (hk : k < 4) : (fourB (cellAt L j))[k]? = some (L.getD (4 * j + k) 0) := by
  have h0 := getD_lt h (4 * j)
  have h1 := getD_lt h (4 * j + 1)
  have h2 := getD_lt h (4 * j + 2)
  have h3 := getD_lt h (4 * j + 3)
  have hc : k = 0 ∨ k = 1 ∨ k = 2 ∨ k = 3 := by omega
  unfold fourB cellAt
  rcases hc with rfl | rfl | rfl | rfl
  all_goals (simp only [List.getElem?_cons_zero, List.getElem?_cons_succ, Nat.add_zero, Option.some.injEq]; omega)
/-- There and back. -/
theorem pack_back {L : List Nat} (h : ∀ b ∈ L, b < 256) : (bytesC (cellsN L)).take L.length = L := by
  apply List.ext_getElem?
  intro i
  rw [List.getElem?_take]
  split
  · rename_i hi
    have hc : (cellsN L)[i / 4]? = some (cellAt L (i / 4)) := by
      unfold cellsN cellsTo
      rw [List.getElem?_map, List.getElem?_range (by omega)]
      rfl
    have := bytesC_get (cellsN L) (i / 4) (i % 4) _ hc (by omega)
    rw [show 4 * (i / 4) + i % 4 = i by omega, fourB_cell h _ _ (by omega), show 4 * (i / 4) + i % 4 = i by omega] at this
    rw [this, List.getD_eq_getElem?_getD, List.getElem?_eq_getElem hi]
    rfl
  · rw [List.getElem?_eq_none (by omega)]
theorem pack_unlike {a b : List Nat} (ha : ∀ x ∈ a, x < 256) (hb : ∀ x ∈ b, x < 256) (hl : a.length = b.length) (h : cellsN a = cellsN b) : a = b := by
  rw [← pack_back ha, ← pack_back hb, h, hl]
theorem bytesC_lt (l : List Nat) : ∀ b ∈ bytesC l, b < 256 := by
  intro b hb
  obtain ⟨v, _, hv⟩ := List.mem_flatMap.1 hb
  simp [fourB] at hv
  omega

/-! ### By Horner's rule -/
def hornD (L : List Nat) (b : Nat) : Nat → Nat
  | 0 => 0
  | m + 1 => 256 * hornD L b m + L.getD (b + (3 - m)) 0
theorem hornD_four (L : List Nat) (j : Nat) : hornD L (4 * j) 4 = cellAt L j := by
  simp only [hornD, cellAt]
  show 256 * (256 * (256 * (256 * 0 + L.getD (4 * j + 3) 0) + L.getD (4 * j + 2) 0) + L.getD (4 * j + 1) 0) + L.getD (4 * j + 0) 0 = _
  rw [Nat.add_zero (4 * j)]
  omega
theorem hornD_lt {L : List Nat} (h : ∀ b ∈ L, b < 256) (b : Nat) : hornD L b 1 < 256 ∧ hornD L b 2 < 65536 ∧ hornD L b 3 < 16777216 ∧ hornD L b 4 < 4294967296 := by
  have h0 := getD_lt h (b + 3)
  have h1 := getD_lt h (b + 2)
  have h2 := getD_lt h (b + 1)
  have h3 := getD_lt h (b + 0)
  have e1 : hornD L b 1 = 256 * 0 + L.getD (b + 3) 0 := rfl
  have e2 : hornD L b 2 = 256 * hornD L b 1 + L.getD (b + 2) 0 := rfl
  have e3 : hornD L b 3 = 256 * hornD L b 2 + L.getD (b + 1) 0 := rfl
  have e4 : hornD L b 4 = 256 * hornD L b 3 + L.getD (b + 0) 0 := rfl
  omega
theorem hornD_bound {L : List Nat} (h : ∀ b ∈ L, b < 256) (b m : Nat) (hm : m ≤ 3) : hornD L b m < 16777216 := by
  have := hornD_lt h b
  rcases (show m = 0 ∨ m = 1 ∨ m = 2 ∨ m = 3 by omega) with rfl | rfl | rfl | rfl
  · show 0 < 16777216; omega
  · omega
  · omega
  · omega
/-- A cell's k-th byte, by division. -/
def partB (v : Nat) : Nat → Nat
  | 0 => v
  | k + 1 => partB v k / 256
theorem fourB_take (v k : Nat) (hk : k < 4) : (fourB v).take (k + 1) = (fourB v).take k ++ [partB v k % 256] := by
  rcases (show k = 0 ∨ k = 1 ∨ k = 2 ∨ k = 3 by omega) with rfl | rfl | rfl | rfl
  · simp [fourB, partB]
  · simp [fourB, partB]
  · simp [fourB, partB, Nat.div_div_eq_div_mul]
  · simp [fourB, partB, Nat.div_div_eq_div_mul]
theorem partB_le (v : Nat) : ∀ k, partB v k ≤ v
  | 0 => Nat.le_refl _
  | k + 1 => by have := partB_le v k; show partB v k / 256 ≤ v; omega

/-- The first n bytes of cells, or what is told. -/
def bytesE (L : List Nat) (n : Int) : Int := if n < 0 then 1 else if (4 * L.length : Int) < n then 12 else 0
def bytesX (L : List Nat) (n : Int) : ByteArray := if bytesE L n = 0 then byteText ((bytesC L).take n.toNat) else byteText []

/-- A text's number. -/
def hashStep (h b : Nat) : Nat := (h ^^^ b) * 16777619 % 4294967296
theorem foldl_snoc (f : Nat → Nat → Nat) (x : Nat) (L : List Nat) (b : Nat) : (L ++ [b]).foldl f x = f (L.foldl f x) b := by simp
def hash0 : Nat := 2166136261
theorem hash0_eq : hash0 = 2166136261 := rfl
def hashN (L : List Nat) : Nat := L.foldl hashStep hash0
theorem hash_snoc (L : List Nat) (b : Nat) : hashN (L ++ [b]) = hashStep (hashN L) b := foldl_snoc hashStep hash0 L b
theorem hashStep_lt (h b : Nat) : hashStep h b < 4294967296 := by
  unfold hashStep
  exact Nat.mod_lt _ (by omega)
theorem foldl_lt {f : Nat → Nat → Nat} {N : Nat} (h : ∀ x b, f x b < N) : ∀ (L : List Nat) (x : Nat), x < N → L.foldl f x < N := by
  intro L
  induction L with
  | nil => intro x hx; exact hx
  | cons b L ih => intro x _; exact ih _ (h x b)
theorem hash_lt (L : List Nat) : hashN L < 4294967296 := foldl_lt hashStep_lt L hash0 (by rw [hash0_eq]; omega)

/-- A place as a cell, or what is told. -/
def inW (d p : Int) : Prop := 0 ≤ d ∧ d ≤ 65535 ∧ 0 ≤ p ∧ p ≤ 65535
instance (d p : Int) : Decidable (inW d p) := by unfold inW; exact inferInstance
def wordX (d p : Int) : Int := if inW d p then 65536 * d + p else 0
def wordE (d p : Int) : Int := if inW d p then 0 else 1
end Go.Proofs.Ytaaeooimalglaaa
