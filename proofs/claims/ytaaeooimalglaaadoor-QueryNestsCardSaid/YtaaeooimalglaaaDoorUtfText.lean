/-
  The reference of layer 4: the text of runes. Over the program's own text.
-/
import Derived.Test.YtaaeooimalglaaaDoorUtfRunes
import Derived.Lib.BufferRead
namespace Go.Proofs.YtaaeooimalglaaaDoor
open Go.RowKit

set_option maxRecDepth 100000 in
theorem enc_le (n : Nat) : (encR n).length ≤ 4 := by
  rw [encR_length]
  repeat' split
  all_goals omega
/-- The bytes of a row of runes, those that may not be as 65533's. -/
def textB (l : List Int) : List Nat := l.flatMap fun r => encR (normR r)
def textZ (l : List Int) : ByteArray := byteText (textB l)
set_option maxRecDepth 100000 in
theorem textB_snoc (l : List Int) (r : Int) : textB (l ++ [r]) = textB l ++ encR (normR r) := by simp [textB]
set_option maxRecDepth 100000 in
theorem textB_le : ∀ l : List Int, (textB l).length ≤ 4 * l.length
  | [] => by simp [textB]
  | r :: l => by
    have h1 := textB_le l
    have h2 := encR_length (normR r)
    have e : textB (r :: l) = encR (normR r) ++ textB l := rfl
    rw [e, List.length_append, List.length_cons]
    split at h2
    · omega
    · split at h2
      · omega
      · split at h2 <;> omega
set_option maxRecDepth 100000 in
theorem bytes_more {w w1 w2 : World} {v v' : Value} {l x : List Nat} (hl : Below w.heap.size w w1) (hr : BytesIn w1 w.heap.size v l) (ho : w2.ownsRow w.heap.size 5 1 v' (l.length + x.length) (l.map (fun (b : Nat) => Value.int .u8 (b : Int)) ++ x.map (fun (b : Nat) => Value.int .u8 (b : Int)))) (hg : w1.grownBy w2 v.ownBlock) :
    BytesIn w2 w.heap.size v' (l ++ x) ∧ Below w.heap.size w w2 :=
  ⟨by unfold BytesIn; simpa using ho, hl.grown hg (by have := hl.size; omega) (fun k hk => (World.ownsRow.lt hr k hk).1)⟩
set_option maxRecDepth 100000 in
theorem bytesAt_cell {w : World} {g : Nat} {l : List Nat} (h : BytesAt w g l) : ∀ j u, (l.map fun (b : Nat) => Value.int .u8 (b : Int))[j]? = some u → w.cell? ((⟨g, 0, none⟩ : Addr).add j) = some u := by
  intro j u hj
  rw [Addr.add_lit, cell_of_row w g (0 + j) _ _ _ h]
  simpa using hj
set_option maxRecDepth 100000 in
theorem bytes_oneCell (l : List Nat) : ∀ u ∈ (l.map fun (b : Nat) => Value.int .u8 (b : Int)), u.oneCell' = true := by
  intro u hu
  simp at hu
  obtain ⟨b, _, rfl⟩ := hu
  rfl

set_option maxRecDepth 100000 in
theorem encR_byte (n : Nat) (h : okR n) : ∀ b ∈ encR n, b < 256 := by
  unfold okR at h
  intro b hb
  unfold encR at hb
  split at hb
  · simp at hb; omega
  · split at hb
    · simp at hb; omega
    · split at hb
      · simp at hb; omega
      · simp at hb; omega
set_option maxRecDepth 100000 in
theorem textB_byte (l : List Int) : ∀ b ∈ textB l, b < 256 := by
  intro b hb
  simp [textB] at hb
  obtain ⟨r, _, h⟩ := hb
  exact encR_byte _ (normR_ok r) b h

/-- A row of runes that is only read. -/
def ReadI (w : World) (oa : Option Addr) (l : List Int) : Prop := ∀ j r, l[j]? = some r → ∃ ad, oa = some ad ∧ w.cell? (ad.add j) = some (.int .i32 r)
set_option maxRecDepth 100000 in
theorem ReadI.below {w w' : World} {oa : Option Addr} {l : List Int} (h : ReadI w oa l) (hb : Below w.heap.size w w') : ReadI w' oa l := fun j r hj => (h j r hj).imp fun _ h => ⟨h.1, below_cell h.2 hb⟩

set_option maxRecDepth 100000 in
set_option maxHeartbeats 1000000 in
theorem ref_text (w : World) (oa : Option Addr) (c : Nat) (l : List Int) (hv : ReadI w oa l) (hn : l.length ≤ 1000000) :
    Calls Tryd.prog 11 #[.slice oa l.length c] w fun e w' => e = .returned (.string (textZ l)) ∧ Below w.heap.size w w' := by
  obtain ⟨i0, hi, hz0, hz1, hz2⟩ := info_parts info_u8
  have HI := Lib.hid (And.intro hi (And.intro hz0 (And.intro hz1 hz2)))
  have HV := Lib.hid hv
  clear hi hz0 hz1 hz2 hv
  go_enter Tryd.func11, Tryd.ntmps11
  go_wp2_with fail
  go_loopw [3, 8] (fun v iv wr => ∃ (i : Nat), i ≤ l.length ∧ iv = .int .i64 i ∧ BytesIn wr w.heap.size v (textB (l.take i)) ∧ Below w.heap.size w wr) (fun _ iv _ => l.length - (intOf iv).toNat)
  case atStart => exact ⟨0, by omega, rfl, owned_lit0 w _ _, below_one⟩
  case round =>
    obtain ⟨i, hi, rfl, hown, hlow⟩ := hrel
    by_cases hlt : i < l.length
    · have HO := Lib.hid hown
      have HW := Lib.hid hlow
      obtain ⟨r, hr⟩ : ∃ r, l[i]? = some r := ⟨_, List.getElem?_eq_getElem hlt⟩
      obtain ⟨ad, rfl, hcell⟩ := (HV.out.below HW.out) i r hr
      have HT := Lib.hid (show textB (l.take (i + 1)) = textB (l.take i) ++ encR (normR r) by rw [List.take_add_one, hr]; exact textB_snoc _ _)
      have HB := Lib.hid (bytes_any · r)
      have HL := Lib.hid (textB_le (l.take i))
      have HE := Lib.hid (enc_le (normR r))
      clear hown hlow
      go_wp2_with fail
      go_at_call 21
      refine (HB.out _).mono ?_
      rintro e w2 ⟨g, rfl, hg2, hb2⟩
      have HG := Lib.hid hg2
      have HO := Lib.hid (show BytesIn w2 _ _ (textB (l.take i)) from owned_below HO.out hb2)
      have HW := Lib.hid (HW.out.trans (hb2.mono HW.out.size))
      clear hb2 hg2
      go_wp2_with (at_builtin; refine wpList_append_own _ rfl (.tmp 11) (.tmp 16) 56 rfl w.heap.size 5 i0 _ 1 1 Tryd.underlying56 HI.out.1 HI.out.2.1 HI.out.2.2.1 HI.out.2.2.2 rfl (by decide) _ (textB (l.take i)).length ((textB (l.take i)).map fun (b : Nat) => Value.int .u8 (b : Int)) rfl HO.out ⟨g, 0, none⟩ (encR (normR r)).length (encR (normR r)).length ((encR (normR r)).map fun (b : Nat) => Value.int .u8 (b : Int)) rfl (by simp) (bytesAt_cell HG.out) (bytes_oneCell _) (by have := HL.out; have := HE.out; simp at *; unfold maxLen; omega) (by have := HL.out; have := HE.out; simp at *; omega) (by have := HW.out.size; omega) ?_; intro v' w5 ho hg _; have HO5 := Lib.hid (bytes_more HW.out HO.out ho hg); clear ho hg)
      go_roundw
      case rel =>
        refine ⟨i + 1, by omega, by go_num, ?_, HO5.out.2⟩
        rw [HT.out]; exact HO5.out.1
      case measure => simp [intOf]; omega
    · have hi' : i = l.length := by omega
      rw [hi', List.take_length] at hown
      have hc := bytes_string hown (textB_byte _)
      go_wp2_with fail
      go_ret
      exact ⟨rfl, hlow⟩
end Go.Proofs.YtaaeooimalglaaaDoor
