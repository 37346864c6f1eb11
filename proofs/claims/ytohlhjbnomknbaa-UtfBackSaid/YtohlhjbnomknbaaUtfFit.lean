/-
  The reference of layer 4: what fits, and are two rows of runes the same. Over the program's own text.
-/
import Derived.Test.YtohlhjbnomknbaaUtfText
import Derived.BigQuiet
namespace Go.Proofs.Ytohlhjbnomknbaa
open Go.RowKit

theorem ReadI.drewN {w : World} {oa : Option Addr} {l : List Int} (h : ReadI w oa l) (m : Nat) : ReadI (w.drewN m) oa l := fun j r hj => (h j r hj).imp fun _ h => ⟨h.1, by simpa using h.2⟩
theorem ReadI.take {w : World} {oa : Option Addr} {l : List Int} (h : ReadI w oa l) (k : Nat) : ReadI w oa (l.take k) := fun j r hj => h j r (by
  rw [List.getElem?_take] at hj
  split at hj
  · exact hj
  · cases hj)
/-- A row of runes of its own can be read. -/
theorem runes_read {w : World} {base : Nat} {v : Value} {l : List Nat} (h : RunesIn w base v l) (hn : v ≠ .slice none 0 0) : ∃ g cap, v = .slice (some ⟨g, 0, none⟩) l.length cap ∧ base ≤ g ∧ g < w.heap.size ∧ l.length ≤ cap ∧ cap ≤ maxLen ∧ ReadI w (some ⟨g, 0, none⟩) (l.map fun (r : Nat) => (r : Int)) := by
  rcases h.2 with ⟨rfl, h0⟩ | ⟨g, cap, cur, rfl, hb, hg, hc, hm, _, ht⟩
  · exact absurd rfl hn
  · refine ⟨g, cap, rfl, hb, (Array.getElem?_eq_some_iff.1 hg).1, hc, hm, ?_⟩
    intro j r hj
    refine ⟨_, rfl, World.ownsRow.cells h (g := g) rfl j _ ?_⟩
    simp at hj ⊢
    obtain ⟨a, ha, rfl⟩ := hj
    exact ⟨a, ha, rfl⟩

set_option maxRecDepth 100000 in
set_option maxHeartbeats 1000000 in
theorem ref_same (w : World) (oa ob : Option Addr) (ca cb : Nat) (A B : List Int) (ha : ReadI w oa A) (hb : ReadI w ob B) (hn : A.length ≤ 1000000) :
    Calls Try.prog 10 #[.slice oa A.length ca, .slice ob B.length cb] w fun e w' => e = .returned (.bool (decide (A = B))) ∧ Below w.heap.size w w' := by
  have HA := Lib.hid ha
  have HB := Lib.hid hb
  clear ha hb
  by_cases hl : A.length = B.length
  · have hI : (A.length : Int) = (B.length : Int) := by omega
    have HL := Lib.hid hl
    clear hl
    go_enter Try.func10, Try.ntmps10
    go_wp2_with fail
    go_loopw [13] (fun iv wr => ∃ i : Nat, i ≤ A.length ∧ iv = .int .i64 i ∧ Hid (A.take i = B.take i) ∧ ∃ m, wr = w.drewN m) (fun i _ => A.length - (intOf i).toNat)
    case atStart => exact ⟨0, by omega, rfl, Lib.hid rfl, 0, rfl⟩
    case round =>
      obtain ⟨i, hi, rfl, HT, m, rfl⟩ := hrel
      by_cases hlt : i < A.length
      · obtain ⟨x, hx⟩ : ∃ x, A[i]? = some x := ⟨_, List.getElem?_eq_getElem hlt⟩
        obtain ⟨y, hy⟩ : ∃ y, B[i]? = some y := ⟨_, List.getElem?_eq_getElem (by have := HL.out; omega)⟩
        obtain ⟨ax, rfl, cx⟩ := HA.out i x hx
        obtain ⟨ay, rfl, cy⟩ := HB.out i y hy
        have hlt1 : (i : Int) < (A.length : Int) := by omega
        have hlt2 : (i : Int) < (B.length : Int) := by omega
        have HX := Lib.hid (And.intro hx hy)
        clear hx hy
        by_cases hxy : x = y
        · subst hxy
          go_wp2_with fail
          go_quiet (fail)
          go_wp2_with fail
          go_roundw
          case rel => exact ⟨i + 1, by omega, by go_num, Lib.hid (by rw [List.take_add_one, List.take_add_one, HX.out.1, HX.out.2, HT.out]), _, rfl⟩
          case measure => simp [intOf]; omega
        · go_wp2_with fail
          go_quiet (fail)
          go_wp2_with fail
          go_ret
          have : A ≠ B := fun e => hxy (by have := HX.out.1; rw [e, HX.out.2] at this; simpa using this.symm)
          exact ⟨by simp [this], below_drawn (below_drawn (Below.refl _ _) _) _⟩
      · go_wp2_with fail
        go_ret
        have : A = B := by
          have := HT.out
          rwa [List.take_of_length_le (by omega), List.take_of_length_le (by have := HL.out; omega)] at this
        exact ⟨by simp [this], below_drawn (Below.refl _ _) _⟩
  · have hI : (A.length : Int) ≠ (B.length : Int) := by omega
    have : A ≠ B := fun e => hl (by rw [e])
    have HD := Lib.hid this
    clear hl this
    go_enter Try.func10, Try.ntmps10
    go_wp2_with fail
    go_ret
    have := HD.out
    exact ⟨by simp [this], Below.refl _ _⟩

/-- The longest beginning that fits, of the first k ones tried. -/
def bestTo (l : List Int) (n : Int) : Nat → ByteArray
  | 0 => ⟨#[]⟩
  | k + 1 => if ((textZ (l.take k)).size : Int) ≤ n then textZ (l.take k) else bestTo l n k

set_option maxRecDepth 100000 in
set_option maxHeartbeats 1000000 in
theorem ref_runes_read (w : World) (s : ByteArray) (hs : s.size ≤ 1000000) :
    Calls Try.prog 12 #[.string s] w fun e w' => ∃ g cap, e = .returned (.slice (some ⟨g, 0, none⟩) ((runesOf s).map fun (r : Nat) => (r : Int)).length cap) ∧ ((runesOf s).map fun (r : Nat) => (r : Int)).length ≤ cap ∧ cap ≤ maxLen ∧ ReadI w' (some ⟨g, 0, none⟩) ((runesOf s).map fun (r : Nat) => (r : Int)) ∧ Below w.heap.size w w' := by
  refine (ref_runes w s hs).mono ?_
  rintro e w1 ⟨v, rfl, hv, hr, hb⟩
  obtain ⟨g, cap, rfl, _, _, hc1, hc2, hread⟩ := runes_read hr hv
  exact ⟨g, cap, by simp, by simpa using hc1, hc2, hread, hb⟩
set_option maxRecDepth 100000 in
set_option maxHeartbeats 1000000 in
theorem ref_fit (w : World) (s : ByteArray) (n : Int) (hs : s.size ≤ 1000000) :
    Calls Try.prog 17 #[.string s, .int .i64 n] w fun e w' => e = .returned (.string (bestTo ((runesOf s).map fun (r : Nat) => (r : Int)) n ((runesOf s).length + 1))) ∧ Below w.heap.size w w' := by
  have HR0 := ref_runes_read w s hs
  have HM := (runesL_many (bytesL s)).1
  have hlen : (runesOf s).length = ((runesOf s).map fun (r : Nat) => (r : Int)).length := by simp
  rw [hlen]
  generalize hL : ((runesOf s).map fun (r : Nat) => (r : Int)) = L at HR0 hlen
  have hk : L.length ≤ 1000000 := by rw [bytesL_length] at HM; unfold runesOf at hlen; omega
  have HR := Lib.hid HR0
  clear HR0 hL hlen HM
  go_enter Try.func17, Try.ntmps17
  go_wp2_with fail
  refine HR.out.mono ?_
  rintro e w1 ⟨g, cap, rfl, hc1, hc2, hread, hb⟩
  have HT := Lib.hid (show ∀ (w' : World) (k c : Nat), Below w1.heap.size w1 w' → k ≤ L.length → Calls Try.prog 15 #[.slice (some ⟨g, 0, none⟩) k c] w' fun e w2 => e = .returned (.string (textZ (L.take k))) ∧ Below w'.heap.size w' w2 from by
    intro w' k c hb' hk'
    have h := ref_text w' (some ⟨g, 0, none⟩) c (L.take k) ((hread.below hb').take k) (by simp; omega)
    rwa [List.length_take, Nat.min_eq_left hk'] at h)
  have HS := Lib.hid (show ∀ k, (textZ (L.take k)).size ≤ 4000000 from by
    intro k
    have h := textB_le (L.take k)
    simp [textZ, byteText, ByteArray.size] at h ⊢
    omega)
  clear hread
  go_wp2_with fail
  go_loopw [6, 7] (fun bv kv wr => ∃ k : Nat, k ≤ L.length + 1 ∧ kv = .int .i64 k ∧ bv = .string (bestTo L n k) ∧ Below w1.heap.size w1 wr) (fun _ kv _ => L.length + 1 - (intOf kv).toNat)
  case atStart => exact ⟨0, by omega, rfl, rfl, Below.refl _ _⟩
  case round =>
    obtain ⟨k, hk1, rfl, rfl, hlow⟩ := hrel
    by_cases hlt : k ≤ L.length
    · have hlt1 : (k : Int) ≤ (L.length : Int) := by omega
      have hlt2 : k ≤ cap := by omega
      have HW := Lib.hid hlow
      clear hlow
      have hts := HS.out k
      have HB := Lib.hid (show bestTo L n (k + 1) = if ((textZ (L.take k)).size : Int) ≤ n then textZ (L.take k) else bestTo L n k from rfl)
      have HC := Lib.hid (HT.out wr k cap HW.out hlt)
      generalize textZ (L.take k) = t at hts HB HC
      by_cases hfit : (t.size : Int) ≤ n
      · rw [if_pos hfit] at HB
        go_wp2_with fail
        refine HC.out.mono ?_
        rintro e w2 ⟨rfl, hb2⟩
        have HW := Lib.hid (HW.out.trans (hb2.mono HW.out.size))
        clear hb2
        go_wp2_with fail
        go_roundw
        case rel => exact ⟨k + 1, by omega, by go_num, by rw [HB.out], HW.out⟩
        case measure => simp [intOf]; omega
      · rw [if_neg hfit] at HB
        go_wp2_with fail
        refine HC.out.mono ?_
        rintro e w2 ⟨rfl, hb2⟩
        have HW := Lib.hid (HW.out.trans (hb2.mono HW.out.size))
        clear hb2
        go_wp2_with fail
        go_roundw
        case rel => exact ⟨k + 1, by omega, by go_num, by rw [HB.out], HW.out⟩
        case measure => simp [intOf]; omega
    · go_wp2_with fail
      go_ret
      have : k = L.length + 1 := by omega
      subst this
      exact ⟨rfl, hb.trans (hlow.mono hb.size)⟩
end Go.Proofs.Ytohlhjbnomknbaa
