/-
  What the program's two functions of layer 5 keep, as the laws' walks take it; the laws' own example and the laws' walks, given that. Over the program's own text.
-/
import Derived.Test.YthgnklbcomhalaaDoorFoldRef
import Derived.Lib.Hide
namespace Go.Proofs.YthgnklbcomhalaaDoor
open Go.RowKit

/-- Both answer as the chapter says in a world where T holds (what the tables read as): taken as given here, proved of the landed code elsewhere. -/
structure KeptFold (T : World → Prop) : Prop where
  cls : ∀ (w : World) (r : Int), T w → -2147483648 ≤ r → r ≤ 2147483647 → Calls Tryd.prog 9 #[.int .i32 r] w fun e w' => e = .returned (.int .i64 (classZ r)) ∧ Below w.heap.size w w'
  fold : ∀ (w : World) (r : Int), T w → -2147483648 ≤ r → r ≤ 2147483647 → Calls Tryd.prog 11 #[.int .i32 r] w fun e w' => e = .returned (.int .i32 (foldZ r)) ∧ Below w.heap.size w w'
  keep : ∀ (w w' : World), T w → Below w.heap.size w w' → T w'

theorem KeptFold.cls_of {T : World → Prop} (K : KeptFold T) (r c : Int) (h0 : -2147483648 ≤ r) (h1 : r ≤ 2147483647) (hc : classZ r = c) (w : World) (h : T w) : Calls Tryd.prog 9 #[.int .i32 r] w fun e w' => e = .returned (.int .i64 c) ∧ T w' ∧ Below w.heap.size w w' := by
  subst hc
  exact (K.cls w r h h0 h1).mono fun _ _ ⟨h1, h2⟩ => ⟨h1, K.keep _ _ h h2, h2⟩
theorem KeptFold.fold_of {T : World → Prop} (K : KeptFold T) (r f : Int) (h0 : -2147483648 ≤ r) (h1 : r ≤ 2147483647) (hf : foldZ r = f) (w : World) (h : T w) : Calls Tryd.prog 11 #[.int .i32 r] w fun e w' => e = .returned (.int .i32 f) ∧ T w' ∧ Below w.heap.size w w' := by
  subst hf
  exact (K.fold w r h h0 h1).mono fun _ _ ⟨h1, h2⟩ => ⟨h1, K.keep _ _ h h2, h2⟩
/-- One call more. -/
theorem low_more {a b c : World} (h : Below a.heap.size a b) (k : Below b.heap.size b c) : Below a.heap.size a c := h.trans (k.mono h.size)

set_option maxRecDepth 100000 in
set_option maxHeartbeats 1000000 in
theorem fixed_any {T : World → Prop} (K : KeptFold T) (w : World) (h : T w) : Calls Tryd.prog 8 #[] w fun e w' => e = .returned (.bool true) ∧ T w' ∧ Below w.heap.size w w' := by
  have HT := Lib.hid h
  have HB := Lib.hid (Below.refl w.heap.size w)
  have F1 := Lib.hid (K.fold_of 65 97 (by decide) (by decide) (by decide +kernel))
  have F2 := Lib.hid (K.fold_of 201 233 (by decide) (by decide) (by decide +kernel))
  have F3 := Lib.hid (K.fold_of 931 963 (by decide) (by decide) (by decide +kernel))
  have F4 := Lib.hid (K.fold_of 962 963 (by decide) (by decide) (by decide +kernel))
  have F5 := Lib.hid (K.fold_of 1633 49 (by decide) (by decide) (by decide +kernel))
  have C1 := Lib.hid (K.cls_of 215 0 (by decide) (by decide) (by decide +kernel))
  have C2 := Lib.hid (K.cls_of 19968 1 (by decide) (by decide) (by decide +kernel))
  have C3 := Lib.hid (K.cls_of 1633 2 (by decide) (by decide) (by decide +kernel))
  clear h
  go_enter Tryd.func8, Tryd.ntmps8
  go_wp2_with fail
  refine (F1.out _ HT.out).mono ?_; rintro e w1 ⟨rfl, ht, hb⟩
  have HT := Lib.hid ht; have HB := Lib.hid (low_more HB.out hb); clear ht hb
  go_wp2_with fail
  refine (F2.out _ HT.out).mono ?_; rintro e w2 ⟨rfl, ht, hb⟩
  have HT := Lib.hid ht; have HB := Lib.hid (low_more HB.out hb); clear ht hb
  go_wp2_with fail
  refine (F3.out _ HT.out).mono ?_; rintro e w3 ⟨rfl, ht, hb⟩
  have HT := Lib.hid ht; have HB := Lib.hid (low_more HB.out hb); clear ht hb
  go_wp2_with fail
  refine (F4.out _ HT.out).mono ?_; rintro e w4 ⟨rfl, ht, hb⟩
  have HT := Lib.hid ht; have HB := Lib.hid (low_more HB.out hb); clear ht hb
  go_wp2_with fail
  refine (F5.out _ HT.out).mono ?_; rintro e w5 ⟨rfl, ht, hb⟩
  have HT := Lib.hid ht; have HB := Lib.hid (low_more HB.out hb); clear ht hb
  go_wp2_with fail
  refine (C1.out _ HT.out).mono ?_; rintro e w6 ⟨rfl, ht, hb⟩
  have HT := Lib.hid ht; have HB := Lib.hid (low_more HB.out hb); clear ht hb
  go_wp2_with fail
  refine (C2.out _ HT.out).mono ?_; rintro e w7 ⟨rfl, ht, hb⟩
  have HT := Lib.hid ht; have HB := Lib.hid (low_more HB.out hb); clear ht hb
  go_wp2_with fail
  refine (C3.out _ HT.out).mono ?_; rintro e w8 ⟨rfl, ht, hb⟩
  have HT := Lib.hid ht; have HB := Lib.hid (low_more HB.out hb); clear ht hb
  go_wp2_with fail
  go_ret
  exact ⟨rfl, HT.out, HB.out⟩

section
variable {T : World → Prop} (K : KeptFold T) (W : World) (hT : T W)
include K hT

set_option maxRecDepth 100000 in
set_option maxHeartbeats 1000000 in
theorem class_all (r : Int) (h0 : -2147483648 ≤ r) (h1 : r ≤ 2147483647) : Calls Tryd.prog 3 #[.int .i32 r] W fun e w' => e = .returned (.bool true) ∧ Below W.heap.size W w' := by
  have HF := Lib.hid (fixed_any K W hT)
  have HC := Lib.hid (K.cls_of r _ h0 h1 rfl)
  have HR := Lib.hid (fun w => ref_class w r)
  generalize classZ r = c at HC HR
  clear hT K
  go_enter Tryd.func3, Tryd.ntmps3
  go_wp2_with fail
  refine HF.out.mono ?_; rintro e w1 ⟨rfl, ht, hb⟩
  have HT := Lib.hid ht; have HB := Lib.hid hb; clear ht hb
  go_wp2_with fail
  refine (HC.out _ HT.out).mono ?_; rintro e w2 ⟨rfl, ht, hb⟩
  have HT := Lib.hid ht; have HB := Lib.hid (low_more HB.out hb); clear ht hb
  go_wp2_with fail
  refine (HR.out _).mono ?_; rintro e w3 ⟨rfl, rfl⟩
  go_wp2_with fail
  go_ret
  exact ⟨rfl, HB.out⟩

set_option maxRecDepth 100000 in
set_option maxHeartbeats 1000000 in
theorem folds_all (r : Int) (h0 : -2147483648 ≤ r) (h1 : r ≤ 2147483647) : Calls Tryd.prog 4 #[.int .i32 r] W fun e w' => e = .returned (.bool true) ∧ Below W.heap.size W w' := by
  have HF := Lib.hid (fixed_any K W hT)
  have HC := Lib.hid (K.fold_of r _ h0 h1 rfl)
  have HR := Lib.hid (fun w => ref_fold w r)
  generalize foldZ r = c at HC HR
  clear hT K
  go_enter Tryd.func4, Tryd.ntmps4
  go_wp2_with fail
  refine HF.out.mono ?_; rintro e w1 ⟨rfl, ht, hb⟩
  have HT := Lib.hid ht; have HB := Lib.hid hb; clear ht hb
  go_wp2_with fail
  refine (HC.out _ HT.out).mono ?_; rintro e w2 ⟨rfl, ht, hb⟩
  have HT := Lib.hid ht; have HB := Lib.hid (low_more HB.out hb); clear ht hb
  go_wp2_with fail
  refine (HR.out _).mono ?_; rintro e w3 ⟨rfl, rfl⟩
  go_wp2_with fail
  go_ret
  exact ⟨rfl, HB.out⟩

set_option maxRecDepth 100000 in
set_option maxHeartbeats 1000000 in
theorem once_all (r : Int) (h0 : -2147483648 ≤ r) (h1 : r ≤ 2147483647) : Calls Tryd.prog 5 #[.int .i32 r] W fun e w' => e = .returned (.bool true) ∧ Below W.heap.size W w' := by
  have HF := Lib.hid (fun w h => fixed_any K w h)
  have hf := fold_i32 h0 h1
  have h1r := K.fold_of r _ h0 h1 rfl
  have h2r := K.fold_of (foldZ r) (foldZ r) hf.1 hf.2 (fold_once r).1
  have h3r := K.cls_of (foldZ r) (classZ r) hf.1 hf.2 (fold_once r).2
  have h4r := K.cls_of r (classZ r) h0 h1 rfl
  generalize foldZ r = f at h1r h2r h3r
  generalize classZ r = c at h3r h4r
  have H1 := Lib.hid h1r
  have H2 := Lib.hid h2r
  have H3 := Lib.hid h3r
  have H4 := Lib.hid h4r
  have HT := Lib.hid hT
  clear hT K h1r h2r h3r h4r hf
  go_enter Tryd.func5, Tryd.ntmps5
  go_wp2_with fail
  refine (H1.out _ HT.out).mono ?_; rintro e w1 ⟨rfl, ht, hb⟩
  have HT := Lib.hid ht; have HB := Lib.hid hb; clear ht hb
  go_wp2_with fail
  refine (HF.out _ HT.out).mono ?_; rintro e w2 ⟨rfl, ht, hb⟩
  have HT := Lib.hid ht; have HB := Lib.hid (low_more HB.out hb); clear ht hb
  go_wp2_with fail
  refine (H2.out _ HT.out).mono ?_; rintro e w3 ⟨rfl, ht, hb⟩
  have HT := Lib.hid ht; have HB := Lib.hid (low_more HB.out hb); clear ht hb
  go_wp2_with fail
  refine (H3.out _ HT.out).mono ?_; rintro e w4 ⟨rfl, ht, hb⟩
  have HT := Lib.hid ht; have HB := Lib.hid (low_more HB.out hb); clear ht hb
  go_wp2_with fail
  refine (H4.out _ HT.out).mono ?_; rintro e w5 ⟨rfl, ht, hb⟩
  have HT := Lib.hid ht; have HB := Lib.hid (low_more HB.out hb); clear ht hb
  go_wp2_with fail
  go_ret
  exact ⟨rfl, HB.out⟩

set_option maxRecDepth 100000 in
set_option maxHeartbeats 1000000 in
theorem plain_all (r : Int) (h0 : -2147483648 ≤ r) (h1 : r ≤ 2147483647) : Calls Tryd.prog 7 #[.int .i32 r] W fun e w' => e = .returned (.bool true) ∧ Below W.heap.size W w' := by
  have HF := Lib.hid (fixed_any K W hT)
  have HC := Lib.hid (K.cls_of r _ h0 h1 rfl)
  by_cases hz : classZ r = 0
  · have HD := Lib.hid (K.fold_of r r h0 h1 (fold_plain hz))
    rw [hz] at HC
    clear hT K hz
    go_enter Tryd.func7, Tryd.ntmps7
    go_wp2_with fail
    refine HF.out.mono ?_; rintro e w1 ⟨rfl, ht, hb⟩
    have HT := Lib.hid ht; have HB := Lib.hid hb; clear ht hb
    go_wp2_with fail
    refine (HC.out _ HT.out).mono ?_; rintro e w2 ⟨rfl, ht, hb⟩
    have HT := Lib.hid ht; have HB := Lib.hid (low_more HB.out hb); clear ht hb
    go_wp2_with fail
    refine (HD.out _ HT.out).mono ?_; rintro e w3 ⟨rfl, ht, hb⟩
    have HB := Lib.hid (low_more HB.out hb); clear ht hb
    go_wp2_with fail
    go_ret
    exact ⟨rfl, HB.out⟩
  · have q : (classZ r != 0) = true := bne_iff_ne.2 hz
    generalize classZ r = c at HC q
    clear hT K hz
    go_enter Tryd.func7, Tryd.ntmps7
    go_wp2_with fail
    refine HF.out.mono ?_; rintro e w1 ⟨rfl, ht, hb⟩
    have HT := Lib.hid ht; have HB := Lib.hid hb; clear ht hb
    go_wp2_with fail
    refine (HC.out _ HT.out).mono ?_; rintro e w2 ⟨rfl, ht, hb⟩
    have HB := Lib.hid (low_more HB.out hb); clear ht hb
    go_wp2_with fail
    go_ret
    exact ⟨rfl, HB.out⟩

set_option maxRecDepth 100000 in
set_option maxHeartbeats 2000000 in
theorem few_all (a b c d : Int) (ha0 : -2147483648 ≤ a) (ha1 : a ≤ 2147483647) (hb0 : -2147483648 ≤ b) (hb1 : b ≤ 2147483647) (hc0 : -2147483648 ≤ c) (hc1 : c ≤ 2147483647) (hd0 : -2147483648 ≤ d) (hd1 : d ≤ 2147483647) :
    Calls Tryd.prog 6 #[.int .i32 a, .int .i32 b, .int .i32 c, .int .i32 d] W fun e w' => e = .returned (.bool true) ∧ Below W.heap.size W w' := by
  have HF := Lib.hid (fun w h => fixed_any K w h)
  have hfew := fun f ha hb hc hd => few_of (a := a) (b := b) (c := c) (d := d) (f := f) ha hb hc hd
  have h1 := K.fold_of a _ ha0 ha1 rfl
  have h2 := K.fold_of b _ hb0 hb1 rfl
  have h3 := K.fold_of c _ hc0 hc1 rfl
  have h4 := K.fold_of d _ hd0 hd1 rfl
  generalize foldZ a = fa at h1 hfew
  generalize foldZ b = fb at h2 hfew
  generalize foldZ c = fc at h3 hfew
  generalize foldZ d = fd at h4 hfew
  have hfew := hfew fa rfl
  have H1 := Lib.hid h1
  have H2 := Lib.hid h2
  have H3 := Lib.hid h3
  have H4 := Lib.hid h4
  have HT := Lib.hid hT
  clear hT K h1 h2 h3 h4 ha0 ha1 hb0 hb1 hc0 hc1 hd0 hd1
  by_cases e2 : fb = fa
  · subst e2
    have qb : (fb != fb) = false := by simp
    by_cases e3 : fc = fb
    · subst e3
      by_cases e4 : fd = fc
      · subst e4
        have hq := hfew rfl rfl rfl
        clear hfew
        by_cases eab : a = b
        · have pab : (a == b) = true := beq_iff_eq.2 eab
          clear hq eab 
          go_enter Tryd.func6, Tryd.ntmps6
          go_wp2_with fail
          refine (H1.out _ HT.out).mono ?_; rintro e w1 ⟨rfl, ht, hb⟩
          have HT := Lib.hid ht; have HB := Lib.hid hb; clear ht hb
          go_wp2_with fail
          refine (HF.out _ HT.out).mono ?_; rintro e w2 ⟨rfl, ht, hb⟩
          have HT := Lib.hid ht; have HB := Lib.hid (low_more HB.out hb); clear ht hb
          go_wp2_with fail
          refine (H2.out _ HT.out).mono ?_; rintro e w3 ⟨rfl, ht, hb⟩
          have HT := Lib.hid ht; have HB := Lib.hid (low_more HB.out hb); clear ht hb
          go_wp2_with fail
          refine (H3.out _ HT.out).mono ?_; rintro e w4 ⟨rfl, ht, hb⟩
          have HT := Lib.hid ht; have HB := Lib.hid (low_more HB.out hb); clear ht hb
          go_wp2_with fail
          refine (H4.out _ HT.out).mono ?_; rintro e w5 ⟨rfl, ht, hb⟩
          have HT := Lib.hid ht; have HB := Lib.hid (low_more HB.out hb); clear ht hb
          go_wp2_with fail
          go_ret
          exact ⟨rfl, HB.out⟩
        by_cases eac : a = c
        · have nab : (a == b) = false := beq_eq_false_iff_ne.2 eab
          have pac : (a == c) = true := beq_iff_eq.2 eac
          clear hq eac eab
          go_enter Tryd.func6, Tryd.ntmps6
          go_wp2_with fail
          refine (H1.out _ HT.out).mono ?_; rintro e w1 ⟨rfl, ht, hb⟩
          have HT := Lib.hid ht; have HB := Lib.hid hb; clear ht hb
          go_wp2_with fail
          refine (HF.out _ HT.out).mono ?_; rintro e w2 ⟨rfl, ht, hb⟩
          have HT := Lib.hid ht; have HB := Lib.hid (low_more HB.out hb); clear ht hb
          go_wp2_with fail
          refine (H2.out _ HT.out).mono ?_; rintro e w3 ⟨rfl, ht, hb⟩
          have HT := Lib.hid ht; have HB := Lib.hid (low_more HB.out hb); clear ht hb
          go_wp2_with fail
          refine (H3.out _ HT.out).mono ?_; rintro e w4 ⟨rfl, ht, hb⟩
          have HT := Lib.hid ht; have HB := Lib.hid (low_more HB.out hb); clear ht hb
          go_wp2_with fail
          refine (H4.out _ HT.out).mono ?_; rintro e w5 ⟨rfl, ht, hb⟩
          have HT := Lib.hid ht; have HB := Lib.hid (low_more HB.out hb); clear ht hb
          go_wp2_with fail
          go_ret
          exact ⟨rfl, HB.out⟩
        by_cases ead : a = d
        · have nab : (a == b) = false := beq_eq_false_iff_ne.2 eab
          have nac : (a == c) = false := beq_eq_false_iff_ne.2 eac
          have pad : (a == d) = true := beq_iff_eq.2 ead
          clear hq ead eab eac
          go_enter Tryd.func6, Tryd.ntmps6
          go_wp2_with fail
          refine (H1.out _ HT.out).mono ?_; rintro e w1 ⟨rfl, ht, hb⟩
          have HT := Lib.hid ht; have HB := Lib.hid hb; clear ht hb
          go_wp2_with fail
          refine (HF.out _ HT.out).mono ?_; rintro e w2 ⟨rfl, ht, hb⟩
          have HT := Lib.hid ht; have HB := Lib.hid (low_more HB.out hb); clear ht hb
          go_wp2_with fail
          refine (H2.out _ HT.out).mono ?_; rintro e w3 ⟨rfl, ht, hb⟩
          have HT := Lib.hid ht; have HB := Lib.hid (low_more HB.out hb); clear ht hb
          go_wp2_with fail
          refine (H3.out _ HT.out).mono ?_; rintro e w4 ⟨rfl, ht, hb⟩
          have HT := Lib.hid ht; have HB := Lib.hid (low_more HB.out hb); clear ht hb
          go_wp2_with fail
          refine (H4.out _ HT.out).mono ?_; rintro e w5 ⟨rfl, ht, hb⟩
          have HT := Lib.hid ht; have HB := Lib.hid (low_more HB.out hb); clear ht hb
          go_wp2_with fail
          go_ret
          exact ⟨rfl, HB.out⟩
        by_cases ebc : b = c
        · have nab : (a == b) = false := beq_eq_false_iff_ne.2 eab
          have nac : (a == c) = false := beq_eq_false_iff_ne.2 eac
          have nad : (a == d) = false := beq_eq_false_iff_ne.2 ead
          have pbc : (b == c) = true := beq_iff_eq.2 ebc
          clear hq ebc eab eac ead
          go_enter Tryd.func6, Tryd.ntmps6
          go_wp2_with fail
          refine (H1.out _ HT.out).mono ?_; rintro e w1 ⟨rfl, ht, hb⟩
          have HT := Lib.hid ht; have HB := Lib.hid hb; clear ht hb
          go_wp2_with fail
          refine (HF.out _ HT.out).mono ?_; rintro e w2 ⟨rfl, ht, hb⟩
          have HT := Lib.hid ht; have HB := Lib.hid (low_more HB.out hb); clear ht hb
          go_wp2_with fail
          refine (H2.out _ HT.out).mono ?_; rintro e w3 ⟨rfl, ht, hb⟩
          have HT := Lib.hid ht; have HB := Lib.hid (low_more HB.out hb); clear ht hb
          go_wp2_with fail
          refine (H3.out _ HT.out).mono ?_; rintro e w4 ⟨rfl, ht, hb⟩
          have HT := Lib.hid ht; have HB := Lib.hid (low_more HB.out hb); clear ht hb
          go_wp2_with fail
          refine (H4.out _ HT.out).mono ?_; rintro e w5 ⟨rfl, ht, hb⟩
          have HT := Lib.hid ht; have HB := Lib.hid (low_more HB.out hb); clear ht hb
          go_wp2_with fail
          go_ret
          exact ⟨rfl, HB.out⟩
        by_cases ebd : b = d
        · have nab : (a == b) = false := beq_eq_false_iff_ne.2 eab
          have nac : (a == c) = false := beq_eq_false_iff_ne.2 eac
          have nad : (a == d) = false := beq_eq_false_iff_ne.2 ead
          have nbc : (b == c) = false := beq_eq_false_iff_ne.2 ebc
          have pbd : (b == d) = true := beq_iff_eq.2 ebd
          clear hq ebd eab eac ead ebc
          go_enter Tryd.func6, Tryd.ntmps6
          go_wp2_with fail
          refine (H1.out _ HT.out).mono ?_; rintro e w1 ⟨rfl, ht, hb⟩
          have HT := Lib.hid ht; have HB := Lib.hid hb; clear ht hb
          go_wp2_with fail
          refine (HF.out _ HT.out).mono ?_; rintro e w2 ⟨rfl, ht, hb⟩
          have HT := Lib.hid ht; have HB := Lib.hid (low_more HB.out hb); clear ht hb
          go_wp2_with fail
          refine (H2.out _ HT.out).mono ?_; rintro e w3 ⟨rfl, ht, hb⟩
          have HT := Lib.hid ht; have HB := Lib.hid (low_more HB.out hb); clear ht hb
          go_wp2_with fail
          refine (H3.out _ HT.out).mono ?_; rintro e w4 ⟨rfl, ht, hb⟩
          have HT := Lib.hid ht; have HB := Lib.hid (low_more HB.out hb); clear ht hb
          go_wp2_with fail
          refine (H4.out _ HT.out).mono ?_; rintro e w5 ⟨rfl, ht, hb⟩
          have HT := Lib.hid ht; have HB := Lib.hid (low_more HB.out hb); clear ht hb
          go_wp2_with fail
          go_ret
          exact ⟨rfl, HB.out⟩
        have ecd : c = d := by omega
        · have nab : (a == b) = false := beq_eq_false_iff_ne.2 eab
          have nac : (a == c) = false := beq_eq_false_iff_ne.2 eac
          have nad : (a == d) = false := beq_eq_false_iff_ne.2 ead
          have nbc : (b == c) = false := beq_eq_false_iff_ne.2 ebc
          have nbd : (b == d) = false := beq_eq_false_iff_ne.2 ebd
          have pcd : (c == d) = true := beq_iff_eq.2 ecd
          clear hq ecd eab eac ead ebc ebd
          go_enter Tryd.func6, Tryd.ntmps6
          go_wp2_with fail
          refine (H1.out _ HT.out).mono ?_; rintro e w1 ⟨rfl, ht, hb⟩
          have HT := Lib.hid ht; have HB := Lib.hid hb; clear ht hb
          go_wp2_with fail
          refine (HF.out _ HT.out).mono ?_; rintro e w2 ⟨rfl, ht, hb⟩
          have HT := Lib.hid ht; have HB := Lib.hid (low_more HB.out hb); clear ht hb
          go_wp2_with fail
          refine (H2.out _ HT.out).mono ?_; rintro e w3 ⟨rfl, ht, hb⟩
          have HT := Lib.hid ht; have HB := Lib.hid (low_more HB.out hb); clear ht hb
          go_wp2_with fail
          refine (H3.out _ HT.out).mono ?_; rintro e w4 ⟨rfl, ht, hb⟩
          have HT := Lib.hid ht; have HB := Lib.hid (low_more HB.out hb); clear ht hb
          go_wp2_with fail
          refine (H4.out _ HT.out).mono ?_; rintro e w5 ⟨rfl, ht, hb⟩
          have HT := Lib.hid ht; have HB := Lib.hid (low_more HB.out hb); clear ht hb
          go_wp2_with fail
          go_ret
          exact ⟨rfl, HB.out⟩
      · have qd : (fd != fc) = true := bne_iff_ne.2 e4
        clear hfew e4
        go_enter Tryd.func6, Tryd.ntmps6
        go_wp2_with fail
        refine (H1.out _ HT.out).mono ?_; rintro e w1 ⟨rfl, ht, hb⟩
        have HT := Lib.hid ht; have HB := Lib.hid hb; clear ht hb
        go_wp2_with fail
        refine (HF.out _ HT.out).mono ?_; rintro e w2 ⟨rfl, ht, hb⟩
        have HT := Lib.hid ht; have HB := Lib.hid (low_more HB.out hb); clear ht hb
        go_wp2_with fail
        refine (H2.out _ HT.out).mono ?_; rintro e w3 ⟨rfl, ht, hb⟩
        have HT := Lib.hid ht; have HB := Lib.hid (low_more HB.out hb); clear ht hb
        go_wp2_with fail
        refine (H3.out _ HT.out).mono ?_; rintro e w4 ⟨rfl, ht, hb⟩
        have HT := Lib.hid ht; have HB := Lib.hid (low_more HB.out hb); clear ht hb
        go_wp2_with fail
        refine (H4.out _ HT.out).mono ?_; rintro e w5 ⟨rfl, ht, hb⟩
        have HT := Lib.hid ht; have HB := Lib.hid (low_more HB.out hb); clear ht hb
        go_wp2_with fail
        go_ret
        exact ⟨rfl, HB.out⟩
    · have qc : (fc != fb) = true := bne_iff_ne.2 e3
      clear hfew e3
      go_enter Tryd.func6, Tryd.ntmps6
      go_wp2_with fail
      refine (H1.out _ HT.out).mono ?_; rintro e w1 ⟨rfl, ht, hb⟩
      have HT := Lib.hid ht; have HB := Lib.hid hb; clear ht hb
      go_wp2_with fail
      refine (HF.out _ HT.out).mono ?_; rintro e w2 ⟨rfl, ht, hb⟩
      have HT := Lib.hid ht; have HB := Lib.hid (low_more HB.out hb); clear ht hb
      go_wp2_with fail
      refine (H2.out _ HT.out).mono ?_; rintro e w3 ⟨rfl, ht, hb⟩
      have HT := Lib.hid ht; have HB := Lib.hid (low_more HB.out hb); clear ht hb
      go_wp2_with fail
      refine (H3.out _ HT.out).mono ?_; rintro e w4 ⟨rfl, ht, hb⟩
      have HT := Lib.hid ht; have HB := Lib.hid (low_more HB.out hb); clear ht hb
      go_wp2_with fail
      go_ret
      exact ⟨rfl, HB.out⟩
  · have qc : (fb != fa) = true := bne_iff_ne.2 e2
    clear hfew e2
    go_enter Tryd.func6, Tryd.ntmps6
    go_wp2_with fail
    refine (H1.out _ HT.out).mono ?_; rintro e w1 ⟨rfl, ht, hb⟩
    have HT := Lib.hid ht; have HB := Lib.hid hb; clear ht hb
    go_wp2_with fail
    refine (HF.out _ HT.out).mono ?_; rintro e w2 ⟨rfl, ht, hb⟩
    have HT := Lib.hid ht; have HB := Lib.hid (low_more HB.out hb); clear ht hb
    go_wp2_with fail
    refine (H2.out _ HT.out).mono ?_; rintro e w3 ⟨rfl, ht, hb⟩
    have HT := Lib.hid ht; have HB := Lib.hid (low_more HB.out hb); clear ht hb
    go_wp2_with fail
    go_ret
    exact ⟨rfl, HB.out⟩
end
end Go.Proofs.YthgnklbcomhalaaDoor
