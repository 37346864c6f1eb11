/-
  Layer 13's laws: the contracts as the walks take them; the law's own bound and example. Over the program's own text.
-/
import Derived.Test.YtecbkobliknpiaaBlkRefF
import Derived.Test.YtecbkobliknpiaaBlkRefE
import Derived.Test.YtecbkobliknpiaaBlkRefD
import Derived.Test.YtecbkobliknpiaaCopy32
namespace Go.Proofs.Ytecbkobliknpiaa
open Go.RowKit

/-! ### The contracts -/
def EncAt (f : Nat) (N n : Nat) (l : List En) (X : List Nat) (er : Int) : Prop := ∀ (w : World) (oa : Option Addr) (c : Nat), ReadE w oa l → N ≤ c → Calls Try.prog f #[.slice oa N c] w fun e w' => ∃ ob d, e = .returned (.tuple #[.slice ob n d, .int .i64 er]) ∧ n ≤ d ∧ d ≤ maxLen ∧ ReadN .u32 w' ob X ∧ Below w.heap.size w w'
theorem enc_of {N n : Nat} {l : List En} {X : List Nat} {er : Int} (en : l.length = N) (hl : N ≤ 100000) (hE : encE l = er) (hX : encX l = X) (hn : X.length = n) : EncAt 11 N n l X er := by
  intro w oa c ha hc
  subst hE hX
  refine (lands_encode w oa c N l en ha hc hl).mono fun _ _ ⟨v, h1, h2, h3⟩ => ?_
  obtain ⟨ob, d, rfl, h4, h5, _, h6⟩ := h2.reads_of n hn
  exact ⟨ob, d, h1, h4, h5, h6, h3⟩
theorem ref_enc_of {N n : Nat} {l : List En} {X : List Nat} {er : Int} (en : l.length = N) (hl : N ≤ 100000) (hE : encE l = er) (hX : encX l = X) (hn : X.length = n) : EncAt 12 N n l X er := by
  intro w oa c ha hc
  subst hE hX
  refine (ref_encode13 w oa c N l en ha hl).mono fun _ _ ⟨v, h1, h2, h3⟩ => ?_
  obtain ⟨ob, d, rfl, h4, h5, _, h6⟩ := h2.reads_of n hn
  exact ⟨ob, d, h1, h4, h5, h6, h3⟩
def DecAt (f : Nat) (N n : Nat) (C : List Nat) (l : List En) (er : Int) : Prop := ∀ (w : World) (oa : Option Addr) (c : Nat), ReadN .u32 w oa C → N ≤ c → c ≤ maxLen → Calls Try.prog f #[.slice oa N c] w fun e w' => ∃ ob d, e = .returned (.tuple #[.slice ob n d, .int .i64 er]) ∧ n ≤ d ∧ d ≤ maxLen ∧ ReadE w' ob l ∧ Below w.heap.size w w'
theorem dec_of {N n : Nat} {C : List Nat} {l : List En} {er : Int} (en : C.length = N) (hl : N ≤ 200000) (hx : ∀ x ∈ C, x < 4294967296) (hD : decS C = (l, er)) (hn : l.length = n) : DecAt 16 N n C l er := by
  intro w oa c ha hc hm
  refine (lands_decode13 w oa c N C en ha hc hm hl hx).mono fun _ _ ⟨v, h1, h2, h3⟩ => ?_
  rw [dec_same, hD] at h1 h2
  obtain ⟨ob, d, rfl, h4, h5, _, h6⟩ := h2.reads
  simp only [hn] at h4 h1
  exact ⟨ob, d, h1, h4, h5, h6, h3⟩
theorem ref_dec_of {N n : Nat} {C : List Nat} {l : List En} {er : Int} (en : C.length = N) (hl : N ≤ 200000) (hx : ∀ x ∈ C, x < 4294967296) (hD : decS C = (l, er)) (hn : l.length = n) : DecAt 17 N n C l er := by
  intro w oa c ha hc hm
  refine (ref_decode13 w oa c N C en ha hc hm hl hx).mono fun _ _ ⟨v, h1, h2, h3⟩ => ?_
  rw [hD] at h1 h2
  obtain ⟨ob, d, rfl, h4, h5, _, h6⟩ := h2.reads
  simp only [hn] at h4 h1
  exact ⟨ob, d, h1, h4, h5, h6, h3⟩
theorem same13_eq (w : World) (oa ob : Option Addr) (ca cb n : Nat) (A : List En) (ea : A.length = n) (ha : ReadE w oa A) (hb : ReadE w ob A) (hn : n ≤ 1000000) (hpa : ∀ e ∈ A, e.2.length ≤ 1000000) :
    Calls Try.prog 14 #[.slice oa n ca, .slice ob n cb] w fun e w' => e = .returned (.bool true) ∧ Below w.heap.size w w' := by
  refine (ref_same13 w oa ob ca cb n n A A ea ea ha hb hn hpa).mono fun _ _ ⟨h1, h2⟩ => ⟨?_, h2⟩
  rw [h1, decide_eq_true rfl]
theorem same32_eq (w : World) (oa ob : Option Addr) (ca cb n : Nat) (A : List Nat) (ea : A.length = n) (ha : ReadN .u32 w oa A) (hb : ReadN .u32 w ob A) (hn : n ≤ 1000000) :
    Calls Try.prog 13 #[.slice oa n ca, .slice ob n cb] w fun e w' => e = .returned (.bool true) ∧ Below w.heap.size w w' := by
  refine (same32_at w oa ob ca cb n n A A ea ea ha hb hn).mono fun _ _ ⟨h1, h2⟩ => ⟨?_, h2⟩
  rw [h1, decide_eq_true rfl]

/-! ### More than is gone through? -/
def sumP : List En → Nat
  | [] => 0
  | e :: l => e.2.length + sumP l
theorem sumP_append : ∀ (l m : List En), sumP (l ++ m) = sumP l + sumP m
  | [], m => by simp [sumP]
  | e :: l, m => by simp only [List.cons_append, sumP, sumP_append l m]; omega
theorem sumP_take (l : List En) (n : Nat) : sumP (l.take n) ≤ sumP l := by
  have := sumP_append (l.take n) (l.drop n)
  rw [List.take_append_drop] at this
  omega
theorem sumP_mem : ∀ {l : List En} {e : En}, e ∈ l → e.2.length ≤ sumP l
  | x :: l, e, h => by
    simp only [sumP]
    rcases List.mem_cons.1 h with rfl | h
    · omega
    · have := sumP_mem h
      omega
def greatB (l : List En) : Bool := decide (100 < l.length ∨ 3000 < sumP l)
theorem great_no {l : List En} (h : greatB l = false) : l.length ≤ 100 ∧ ∀ e ∈ l, e.2.length ≤ 3000 := by
  have h := of_decide_eq_false h
  refine ⟨by omega, fun e he => ?_⟩
  have := sumP_mem he
  omega

set_option maxRecDepth 100000 in
set_option maxHeartbeats 2000000 in
theorem great13 (W : World) (oa : Option Addr) (c N : Nat) (l : List En) (en : l.length = N) (ha : ReadE W oa l) (hr : ∀ e ∈ l, e.2.length ≤ reachBytes) :
    Calls Try.prog 8 #[.slice oa N c] W fun e w' => e = .returned (.bool (greatB l)) ∧ Below W.heap.size W w' := by
  by_cases h64 : 100 < N
  · have HB := Lib.hid (show greatB l = true from decide_eq_true (by omega))
    have h64i : (100 : Int) < (N : Int) := by omega
    clear ha en hr
    go_enter Try.func8, Try.ntmps8
    go_wp2_with fail
    go_ret
    exact ⟨by rw [HB.out]; rfl, Below.refl _ _⟩
  have h64i : ¬ (100 : Int) < (N : Int) := by omega
  have HA := Lib.hid ha
  have HN := Lib.hid en
  have HRb := Lib.hid hr
  clear ha en hr
  go_enter Try.func8, Try.ntmps8
  go_wp2_with fail
  go_loopw [3, 11] (fun nv iv wr => ∃ i s : Nat, i ≤ N ∧ iv = .int .i64 (i : Int) ∧ nv = .int .i64 (s : Int) ∧ s ≤ 3000 ∧ Hid (sumP (l.take i) = s) ∧ Below W.heap.size W wr) (fun _ iv _ => N - (intOf iv).toNat)
  case atStart => exact ⟨0, 0, by omega, rfl, rfl, by omega, Lib.hid rfl, Below.refl _ _⟩
  case round =>
    obtain ⟨i, s, hi, rfl, rfl, hs, HS, hlow⟩ := hrel
    have HW := Lib.hid hlow
    clear hlow
    by_cases hlt : i < N
    · obtain ⟨e, he⟩ : ∃ e, l[i]? = some e := ⟨_, List.getElem?_eq_getElem (by rw [HN.out]; exact hlt)⟩
      obtain ⟨g, o, hoa, c0, p, c1, pa, pc, rfl, p1, p2, p3, p4⟩ := HA.out i e he
      subst hoa
      obtain ⟨m, hm⟩ : ∃ m, e.2.length = m := ⟨_, rfl⟩
      rw [hm] at c1 p1
      have c0 := below_cell c0 HW.out
      have c1 := below_cell c1 HW.out
      have hlt1 : (i : Int) < (N : Int) := by omega
      have hmb : m ≤ 281474976710656 := by have h1 := HRb.out e (List.mem_of_getElem? he); rw [hm] at h1; unfold reachBytes at h1; omega
      obtain ⟨t, ht⟩ : ∃ t, s + m = t := ⟨_, rfl⟩
      have z1 : (s : Int) + (m : Int) = (t : Int) := by omega
      have z2 : IntKind.i64.wrap (t : Int) = (t : Int) := IntWalk.i64_in _ (by omega)
      have HT := Lib.hid (show sumP (l.take (i + 1)) = t by
        rw [List.take_add_one, sumP_append, HS.out, he]
        show s + (e.2.length + 0) = t
        omega)
      clear he hm p4 ht
      by_cases hbig : 3000 < t
      · have HB := Lib.hid (show greatB l = true from decide_eq_true (by have := sumP_take l (i + 1); rw [HT.out] at this; omega))
        have hb1 : (3000 : Int) < (t : Int) := by omega
        go_wp2_with fail
        go_ret
        exact ⟨by rw [HB.out]; rfl, low_new HW.out⟩
      · have hb1 : ¬ (3000 : Int) < (t : Int) := by omega
        go_wp2_with fail
        go_roundw
        case rel => exact ⟨i + 1, t, by omega, by go_num, rfl, by omega, HT, low_new HW.out⟩
        case measure => simp [intOf]; omega
    · obtain rfl : i = N := by omega
      have HB := Lib.hid (show greatB l = false from decide_eq_false (by
        have := HS.out
        rw [List.take_of_length_le (by rw [HN.out]; exact Nat.le_refl _)] at this
        have := HN.out
        omega))
      go_wp2_with fail
      go_ret
      exact ⟨by rw [HB.out]; rfl, HW.out⟩

/-! ### The chapter's examples -/
set_option maxRecDepth 100000 in
set_option maxHeartbeats 2000000 in
theorem fixed13 (w : World) : Calls Try.prog 9 #[] w fun e w' => e = .returned (.bool true) ∧ Below w.heap.size w w' := by
  have H1 := Lib.hid (enc_of (N := 0) (n := 1) (l := []) (X := [0]) (er := 0) rfl (by decide) (by decide +kernel) (by decide +kernel) rfl w none 0 (ReadE.nil _ _) (by decide))
  have H2 := Lib.hid (enc_of (N := 1) (n := 3) (l := [(3, [1, 5])]) (X := [1, 196608, 67174915]) (er := 0) rfl (by decide) (by decide +kernel) (by decide +kernel) rfl)
  go_enter Try.func9, Try.ntmps9
  go_wp2_with fail
  refine H1.out.mono ?_; rintro e w1 ⟨oa, c, rfl, _, _, hr, hb⟩
  have HR := Lib.hid hr; have HB := Lib.hid hb; clear hr hb
  go_wp2_with fail
  have HC := Lib.hid (show ReadE ((w1.alloc (.cells #[.int .i64 1, .int .i64 5] 3)).alloc (.cells #[.int .i64 3, .slice (some ⟨w1.heap.size, 0, none⟩) 2 2] 45)) (some ⟨w1.heap.size + 1, 0, none⟩) [(3, [1, 5])] from by
    have k1 := heap_alloc_new w1 (.cells #[.int .i64 1, .int .i64 5] 3)
    have k2 := heap_alloc_new (w1.alloc (.cells #[.int .i64 1, .int .i64 5] 3)) (.cells #[.int .i64 3, .slice (some ⟨w1.heap.size, 0, none⟩) 2 2] 45)
    rw [show (w1.alloc (.cells #[.int .i64 1, .int .i64 5] 3)).heap.size = w1.heap.size + 1 by simp] at k2
    have k1 := block_below k1 (low_new (o := .cells #[.int .i64 3, .slice (some ⟨w1.heap.size, 0, none⟩) 2 2] 45) (Below.refl _ _))
    intro j e hj
    cases j with
    | zero =>
      cases hj
      refine ⟨_, 0, rfl, cell_at k2 0, _, cell_at k2 1, _, 2, rfl, by simp, by simp [maxLen], (by intro e; cases e), ?_⟩
      intro j x hj
      match j, hj with
      | 0, hj => cases hj; exact ⟨_, 0, rfl, cell_at k1 0⟩
      | 1, hj => cases hj; exact ⟨_, 0, rfl, cell_at k1 1⟩
      | j + 2, hj => simp at hj
    | succ j => simp at hj)
  refine (H2.out _ _ _ HC.out (by decide)).mono ?_; rintro e w2 ⟨ob, d, rfl, _, _, hr, hb⟩
  have HB2 := Lib.hid (low_more (low_new (low_new HB.out)) hb)
  have HR2 := Lib.hid hr
  have HR1 := Lib.hid (HR.out.below (low_more (low_new (low_new (Below.refl _ _))) hb))
  clear hr hb
  go_wp2_with fail
  refine (same32_eq _ oa (some ⟨w2.heap.size, 0, none⟩) c 1 1 [0] rfl (HR1.out.alloc _) (readN_new .u32 w2 [0] _) (by decide)).mono ?_; rintro e w3 ⟨rfl, hb⟩
  have HR3 := Lib.hid ((HR2.out.alloc (.cells #[.int .u32 0] 41)).below hb)
  have HB3 := Lib.hid (low_more (low_new HB2.out) hb); clear hb
  go_wp2_with fail
  refine (same32_eq _ ob (some ⟨w3.heap.size, 0, none⟩) d 3 3 [1, 196608, 67174915] rfl (HR3.out.alloc _) (readN_new .u32 w3 [1, 196608, 67174915] _) (by decide)).mono ?_; rintro e w4 ⟨rfl, hb⟩
  have HB4 := Lib.hid (low_more (low_new HB3.out) hb); clear hb
  go_wp2_with fail
  go_ret
  exact ⟨rfl, HB4.out⟩
end Go.Proofs.Ytecbkobliknpiaa
