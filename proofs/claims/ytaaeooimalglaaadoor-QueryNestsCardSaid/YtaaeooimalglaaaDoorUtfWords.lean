/-
  What the words of layer 4 keep: there and back, byte by byte, what fits. No program in it.
-/
import Derived.Test.YtaaeooimalglaaaDoorUtfText
import Derived.BigQuiet
namespace Go.Proofs.YtaaeooimalglaaaDoor
open Go.RowKit

set_option maxRecDepth 100000 in
theorem ReadI.drewN {w : World} {oa : Option Addr} {l : List Int} (h : ReadI w oa l) (m : Nat) : ReadI (w.drewN m) oa l := fun j r hj => (h j r hj).imp fun _ h => ⟨h.1, by simpa using h.2⟩
set_option maxRecDepth 100000 in
theorem ReadI.take {w : World} {oa : Option Addr} {l : List Int} (h : ReadI w oa l) (k : Nat) : ReadI w oa (l.take k) := fun j r hj => h j r (by
  rw [List.getElem?_take] at hj
  split at hj
  · exact hj
  · cases hj)
set_option maxRecDepth 100000 in
/-- A row of runes of its own can be read. -/
theorem runes_read {w : World} {base : Nat} {v : Value} {l : List Nat} (h : RunesIn w base v l) (hn : v ≠ .slice none 0 0) : ∃ g cap, v = .slice (some ⟨g, 0, none⟩) l.length cap ∧ base ≤ g ∧ g < w.heap.size ∧ l.length ≤ cap ∧ cap ≤ maxLen ∧ ReadI w (some ⟨g, 0, none⟩) (l.map fun (r : Nat) => (r : Int)) := by
  rcases h.2 with ⟨rfl, h0⟩ | ⟨g, cap, cur, rfl, hb, hg, hc, hm, _, ht⟩
  · exact absurd rfl hn
  · refine ⟨g, cap, rfl, hb, (Array.getElem?_eq_some_iff.1 hg).1, hc, hm, ?_⟩
    intro j r hj
    refine ⟨_, rfl, World.ownsRow.cells h (g := g) rfl j _ ?_⟩
    simp at hj ⊢
    obtain ⟨a, ha, rfl⟩ := hj
    exact ⟨a, ha, rfl⟩
/-- The longest beginning that fits, of the first k ones tried. -/
def bestTo (l : List Int) (n : Int) : Nat → ByteArray
  | 0 => ⟨#[]⟩
  | k + 1 => if ((textZ (l.take k)).size : Int) ≤ n then textZ (l.take k) else bestTo l n k

set_option maxRecDepth 100000 in
set_option maxHeartbeats 1000000 in
theorem ref_runes_read (w : World) (s : ByteArray) (hs : s.size ≤ 1000000) :
    Calls Tryd.prog 9 #[.string s] w fun e w' => ∃ g cap, e = .returned (.slice (some ⟨g, 0, none⟩) ((runesOf s).map fun (r : Nat) => (r : Int)).length cap) ∧ ((runesOf s).map fun (r : Nat) => (r : Int)).length ≤ cap ∧ cap ≤ maxLen ∧ ReadI w' (some ⟨g, 0, none⟩) ((runesOf s).map fun (r : Nat) => (r : Int)) ∧ Below w.heap.size w w' := by
  refine (ref_runes w s hs).mono ?_
  rintro e w1 ⟨v, rfl, hv, hr, hb⟩
  obtain ⟨g, cap, rfl, _, _, hc1, hc2, hread⟩ := runes_read hr hv
  exact ⟨g, cap, by simp, by simpa using hc1, hc2, hread, hb⟩
set_option maxRecDepth 100000 in
theorem textB_textL (l : List Int) : textB l = textL (l.map normR) := by
  unfold textB textL
  rw [List.flatMap_map]
set_option maxRecDepth 100000 in
theorem bytesL_textZ (l : List Int) : bytesL (textZ l) = textB l := bytesL_byteText _ (textB_byte l)
set_option maxRecDepth 100000 in
theorem textZ_size (l : List Int) : (textZ l).size = (textB l).length := by rw [← bytesL_length, bytesL_textZ]

set_option maxRecDepth 100000 in
/-- The runes of runes' text. -/
theorem runes_textZ (l : List Int) : runesOf (textZ l) = l.map normR := by
  unfold runesOf
  rw [bytesL_textZ, textB_textL]
  have h := runes_text (l.map normR) (by intro r hr; obtain ⟨x, _, rfl⟩ := List.mem_map.1 hr; exact normR_ok x) []
  simpa [runesL_nil] using h
set_option maxRecDepth 100000 in
theorem runesOf_ok (s : ByteArray) : ∀ r ∈ runesOf s, okR r := runesL_ok _
def ints (l : List Nat) : List Int := l.map fun (r : Nat) => (r : Int)
set_option maxRecDepth 100000 in
theorem ints_length (l : List Nat) : (ints l).length = l.length := by simp [ints]
set_option maxRecDepth 100000 in
theorem ints_take (l : List Nat) (k : Nat) : (ints l).take k = ints (l.take k) := by simp [ints]
set_option maxRecDepth 100000 in
theorem norm_ints {l : List Nat} (h : ∀ r ∈ l, okR r) : (ints l).map normR = l := by
  unfold ints
  rw [List.map_map]
  conv => rhs; rw [← List.map_id l]
  exact List.map_congr_left fun r hr => normR_self (h r hr)
set_option maxRecDepth 100000 in
theorem norm_norm (l : List Int) : (ints (l.map normR)).map normR = l.map normR := norm_ints (by intro r hr; obtain ⟨x, _, rfl⟩ := List.mem_map.1 hr; exact normR_ok x)
set_option maxRecDepth 100000 in
theorem textZ_norm (l : List Int) : textZ (ints (l.map normR)) = textZ l := by
  unfold textZ
  rw [textB_textL, textB_textL, norm_norm]
set_option maxRecDepth 100000 in
/-- A text's runes' text has the same runes. -/
theorem runes_back (s : ByteArray) : runesOf (textZ (ints (runesOf s))) = runesOf s := by rw [runes_textZ, norm_ints (runesOf_ok s)]
set_option maxRecDepth 100000 in
theorem text_back (s : ByteArray) : textZ (ints (runesOf (textZ (ints (runesOf s))))) = textZ (ints (runesOf s)) := by rw [runes_back]
set_option maxRecDepth 100000 in
/-- A text of nothing but runes' bytes. -/
theorem text_whole (s : ByteArray) (h : ∀ r ∈ runesOf s, r ≠ 65533) : textZ (ints (runesOf s)) = s := by
  apply bytesL_inj
  rw [bytesL_textZ, textB_textL, norm_ints (runesOf_ok s)]
  exact text_runes _ (bytesL_lt s) h
set_option maxRecDepth 100000 in
/-- Byte by byte. -/
theorem runesOf_apart (a b : ByteArray) (c : Nat) (d : ByteArray) (hd : bytesL d = [c]) (hc : c < 128) : runesOf (a ++ d ++ b) = runesOf a ++ c :: runesOf b := by
  unfold runesOf
  rw [bytesL_append, bytesL_append, hd, List.append_assoc]
  exact runes_apart c (bytesL b) hc (bytesL a)
set_option maxRecDepth 100000 in
theorem runesOf_many (s : ByteArray) : (runesOf s).length ≤ s.size ∧ s.size ≤ 4 * (runesOf s).length := by
  have h := runesL_many (bytesL s)
  rw [bytesL_length] at h
  exact h

/-! ### What fits -/
/-- How many of the first runes fit. -/
def fitK : List Int → Int → Nat
  | [], _ => 0
  | r :: l, n => if ((encR (normR r)).length : Int) ≤ n then fitK l (n - (encR (normR r)).length) + 1 else 0
set_option maxRecDepth 100000 in
theorem fitK_le : ∀ (l : List Int) (n : Int), fitK l n ≤ l.length
  | [], _ => by simp [fitK]
  | r :: l, n => by
    unfold fitK
    split
    · have := fitK_le l (n - (encR (normR r)).length); simp; omega
    · simp
set_option maxRecDepth 100000 in
theorem textB_cons (r : Int) (l : List Int) : textB (r :: l) = encR (normR r) ++ textB l := rfl
set_option maxRecDepth 100000 in
/-- Just the first so many fit. -/
theorem fitK_iff : ∀ (l : List Int) (n : Int) (k : Nat), 0 ≤ n → k ≤ l.length → (((textB (l.take k)).length : Int) ≤ n ↔ k ≤ fitK l n)
  | [], n, k, h0, hk => by
    have : k = 0 := by simpa using hk
    subst this
    simp [textB, fitK, h0]
  | r :: l, n, 0, h0, _ => by simp [textB, h0]
  | r :: l, n, k + 1, h0, hk => by
    have hk' : k ≤ l.length := by simpa using hk
    rw [List.take_succ_cons, textB_cons, List.length_append]
    unfold fitK
    split
    · rename_i hr
      have := fitK_iff l (n - (encR (normR r)).length) k (by omega) hk'
      rw [Nat.add_le_add_iff_right, ← this]
      omega
    · rename_i hr
      constructor
      · intro h; omega
      · intro h; omega
set_option maxRecDepth 100000 in
/-- The reference's way comes to that. -/
theorem best_fit (l : List Int) (n : Int) (h0 : 0 ≤ n) : ∀ k, k ≤ l.length + 1 → bestTo l n k = if k = 0 then ⟨#[]⟩ else textZ (l.take (min (k - 1) (fitK l n)))
  | 0, _ => by simp [bestTo]
  | k + 1, hk => by
    have hk' : k ≤ l.length := by omega
    have ih := best_fit l n h0 k (by omega)
    have hi := fitK_iff l n k h0 hk'
    unfold bestTo
    rw [textZ_size]
    by_cases h : k ≤ fitK l n
    · rw [if_pos (hi.2 h), if_neg (by omega), Nat.add_sub_cancel, Nat.min_eq_left h]
    · rw [if_neg (fun e => h (hi.1 e)), ih, if_neg (by omega), if_neg (by omega)]
      congr 2
      omega
set_option maxRecDepth 100000 in
theorem best_none (l : List Int) (n : Int) (h0 : n < 0) : ∀ k, bestTo l n k = ⟨#[]⟩
  | 0 => rfl
  | k + 1 => by
    unfold bestTo
    rw [if_neg (by omega)]
    exact best_none l n h0 k
set_option maxRecDepth 100000 in
theorem textZ_nil : textZ [] = ⟨#[]⟩ := rfl
set_option maxRecDepth 100000 in
theorem fitK_neg (l : List Int) (n : Int) (h : n < 0) : fitK l n = 0 := by
  cases l with
  | nil => rfl
  | cons r l => unfold fitK; rw [if_neg (by omega)]
set_option maxRecDepth 100000 in
/-- At every number. -/
theorem best_is (l : List Int) (n : Int) : bestTo l n (l.length + 1) = textZ (l.take (fitK l n)) := by
  by_cases h : 0 ≤ n
  · rw [best_fit l n h _ (Nat.le_refl _), if_neg (by omega), Nat.add_sub_cancel, Nat.min_eq_right (fitK_le l n)]
  · rw [best_none l n (by omega), fitK_neg l n (by omega)]
    rfl
set_option maxRecDepth 100000 in
theorem fit_fits (l : List Int) (n : Int) (h : 0 ≤ n) : ((textZ (l.take (fitK l n))).size : Int) ≤ n := by
  rw [textZ_size]
  exact (fitK_iff l n _ h (fitK_le l n)).2 (Nat.le_refl _)
set_option maxRecDepth 100000 in
/-- The runes of what fits are the first runes. -/
theorem fit_runes (s : ByteArray) (n : Int) : runesOf (textZ ((ints (runesOf s)).take (fitK (ints (runesOf s)) n))) = (runesOf s).take (fitK (ints (runesOf s)) n) := by
  rw [runes_textZ, ints_take]
  exact norm_ints fun r hr => runesOf_ok s r (List.mem_of_mem_take hr)
end Go.Proofs.YtaaeooimalglaaaDoor
