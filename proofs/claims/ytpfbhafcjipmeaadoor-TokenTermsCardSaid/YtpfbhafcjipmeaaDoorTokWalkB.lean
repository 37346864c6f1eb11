/-
  A law's walk of layer 6, given what the program's functions keep: a term is the only word of itself. Over the program's own text.
-/
import Derived.Test.YtpfbhafcjipmeaaDoorTokKept
namespace Go.Proofs.YtpfbhafcjipmeaaDoor
open Go.RowKit

theorem words_rise {s : ByteArray} {i j : Nat} {x y : List Nat × Nat} (hx : (wordsT s)[i]? = some x) (hy : (wordsT s)[j]? = some y) (h : i < j) : x.2 < y.2 := by
  have hp := places_rise (allT s) 0
  obtain ⟨hi, rfl⟩ := List.getElem?_eq_some_iff.1 hx
  obtain ⟨hj, rfl⟩ := List.getElem?_eq_some_iff.1 hy
  exact List.pairwise_iff_getElem.1 hp i j hi hj h
theorem byteText_size (t : List Nat) : (byteText t).size = t.length := by
  simp [byteText, ByteArray.size]

section
variable {T : World → Prop} (K : KeptTok T) (W : World) (hT : T W)
include K hT

set_option maxRecDepth 100000 in
set_option maxHeartbeats 4000000 in
theorem terms_all (s : ByteArray) (hs : (s.size : Int) ≤ 9223372036854775807) : Calls Tryd.prog 8 #[.string s] W fun e w' => e = .returned (.bool true) ∧ Below W.heap.size W w' := by
  have HF := Lib.hid (fun w h => fixed_any K w h)
  by_cases hlen : (1000 : Int) < (s.size : Int)
  · have HT := Lib.hid hT
    clear K hT
    go_enter Tryd.func8, Tryd.ntmps8
    go_wp2_with fail
    refine (HF.out _ HT.out).mono ?_; rintro e w' ⟨rfl, _, hb⟩
    go_wp2_with fail
    go_ret
    exact ⟨rfl, hb⟩
  · have hle : s.size ≤ 1000000 := by omega
    have HW := Lib.hid (K.words_of s _ hle rfl)
    have HWt := Lib.hid (fun (t : List Nat) (ht : Term t) (hst : stopB t = false) => K.words_of (byteText t) [(0, byteText t, 0)] (by rw [byteText_size]; have := ht.len; omega) (by rw [words_of_term ht hst]; rfl))
    have HK := Lib.hid (fun w w' => K.keep w w')
    have HTm := Lib.hid (fun (x : List Nat × Nat) (hx : x ∈ wordsT s) => (⟨allT_term s _ (places_term _ _ x hx).1, (places_term _ _ x hx).2.1⟩ : Term x.1 ∧ stopB x.1 = false))
    have HRise := Lib.hid (fun i j x y hx hy h => words_rise (s := s) (i := i) (j := j) (x := x) (y := y) hx hy h)
    have hwl := words_le s
    have HT := Lib.hid hT
    rw [toksP_length] at HW
    generalize wordsT s = o at HW HTm HRise hwl
    obtain ⟨n, hn⟩ : ∃ n, o.length = n := ⟨_, rfl⟩
    have HN := Lib.hid hn
    rw [hn] at HW hwl
    clear K hT hn
    go_enter Tryd.func8, Tryd.ntmps8
    go_wp2_with fail
    refine (HW.out _ HT.out).mono ?_; rintro e w1 ⟨oa, c, rfl, _, _, _, hr, ht, hb⟩
    have HR := Lib.hid hr; have HT := Lib.hid ht; have HB := Lib.hid hb; clear hr ht hb
    go_wp2_with fail
    go_loopw [3, 14] (fun wv iv wr => ∃ (i : Nat) (v : Int), i ≤ n ∧ iv = .int .i64 i ∧ wv = .int .i64 v ∧ (∀ j y, i ≤ j → o[j]? = some y → v < ((y.2 : Nat) : Int)) ∧ T wr ∧ Below w1.heap.size w1 wr) (fun _ iv _ => n - (intOf iv).toNat)
    case atStart => exact ⟨0, -1, by omega, rfl, rfl, fun j y _ _ => by omega, HT.out, Below.refl _ _⟩
    case round =>
      obtain ⟨i, v, hi, rfl, rfl, hv, ht, hb⟩ := hrel
      have HT := Lib.hid ht
      have HB1 := Lib.hid hb
      have HV := Lib.hid hv
      clear ht hv
      by_cases hlt : i < n
      · obtain ⟨y, hy⟩ : ∃ y, o[i]? = some y := ⟨_, List.getElem?_eq_getElem (by rw [HN.out]; exact hlt)⟩
        obtain ⟨g, off, hoa, c0, c1, c2⟩ := (HR.out.below hb) i ((0 : Int), byteText y.1, (y.2 : Int)) (by simp [toksP, hy])
        subst hoa
        simp only at c0 c1 c2
        obtain ⟨htm, hst⟩ := HTm.out y (List.mem_of_getElem? hy)
        have hp1 := HV.out i y (Nat.le_refl _) hy
        have h1 : ¬ ((byteText y.1).size : Int) < 1 := by rw [byteText_size]; have := term_pos htm; omega
        have h16 : ¬ (16 : Int) < ((byteText y.1).size : Int) := by rw [byteText_size]; have := htm.len; omega
        have HWx := Lib.hid (HWt.out y.1 htm hst)
        have HNx := Lib.hid (fun j z (hj : i + 1 ≤ j) (hz : o[j]? = some z) => show ((y.2 : Nat) : Int) < ((z.2 : Nat) : Int) by have := HRise.out i j y z hy hz (by omega); omega)
        have HBn := Lib.hid (show Below w1.heap.size w1 (wr.alloc (.cells #[.int .u8 0, .string (byteText y.1), .int .i64 ((y.2 : Nat) : Int)] 40)) from low_new hb)
        have HTn := Lib.hid (HK.out _ _ HT.out (show Below wr.heap.size wr (wr.alloc (.cells #[.int .u8 0, .string (byteText y.1), .int .i64 ((y.2 : Nat) : Int)] 40)) from below_one))
        have hcell := heap_alloc_new wr (.cells #[.int .u8 0, .string (byteText y.1), .int .i64 ((y.2 : Nat) : Int)] 40)
        have a1 : (wr.alloc (.cells #[.int .u8 0, .string (byteText y.1), .int .i64 ((y.2 : Nat) : Int)] 40)).cell? ⟨wr.heap.size, 1, none⟩ = some (.string (byteText y.1)) := Lib.cell_of_heap hcell 1
        have a2 : (wr.alloc (.cells #[.int .u8 0, .string (byteText y.1), .int .i64 ((y.2 : Nat) : Int)] 40)).cell? ⟨wr.heap.size, 2, none⟩ = some (.int .i64 ((y.2 : Nat) : Int)) := Lib.cell_of_heap hcell 2
        have HA1 := Lib.hid a1
        have HA2 := Lib.hid a2
        generalize byteText y.1 = x at *
        generalize ((y.2 : Nat) : Int) = p at *
        clear hy htm hst hb hcell a1 a2
        go_wp2_with fail
        refine (HWx.out _ HTn.out).mono ?_
        rintro e w6 ⟨ob, cb, rfl, _, _, _, hr, ht, hb6⟩
        obtain ⟨g2, off2, hob, d0, d1, d2⟩ := hr 0 (0, x, 0) rfl
        subst hob
        simp only [Nat.zero_mul, Nat.add_zero] at d0 d1 d2
        have b1 := below_cell HA1.out hb6
        have b2 := below_cell HA2.out hb6
        have HT6 := Lib.hid ht
        have HB6 := Lib.hid (HBn.out.trans (hb6.mono HBn.out.size))
        clear hr ht hb6 HA1 HA2 HBn HTn HB1
        go_wp2_with fail
        go_quiet (fail)
        go_wp2_with fail
        go_roundw
        case rel => exact ⟨i + 1, p, by omega, by go_num, rfl, fun j z hj hz => HNx.out j z hj hz, HK.out _ _ HT6.out (below_drawn (Below.refl _ _) _), below_drawn HB6.out _⟩
        case measure => simp [intOf]; omega
      · go_wp2_with fail
        refine (HF.out _ HT.out).mono ?_; rintro e w6 ⟨rfl, _, hb6⟩
        have HB6 := Lib.hid (low_more HB.out (hb.trans (hb6.mono hb.size)))
        clear hb6 hb
        go_wp2_with fail
        go_ret
        exact ⟨rfl, HB6.out⟩
end
end Go.Proofs.YtpfbhafcjipmeaaDoor
