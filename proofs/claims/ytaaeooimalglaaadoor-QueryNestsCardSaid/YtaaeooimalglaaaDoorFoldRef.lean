/-
  The reference of layer 5: letters, digits, and what a number folds to. Over the program's own text.
-/
import Derived.Test.YtaaeooimalglaaaDoorFoldPure
namespace Go.Proofs.YtaaeooimalglaaaDoor
open Go.RowKit

set_option maxRecDepth 100000 in
theorem in_yes (w : World) (r lo hi : Int) (h : lo ≤ r ∧ r ≤ hi) : Calls Tryd.prog 20 #[.int .i32 r, .int .i32 lo, .int .i32 hi] w fun e w' => e = .returned (.bool true) ∧ w' = w := by
  obtain ⟨h1, h2⟩ := h
  go_enter Tryd.func20, Tryd.ntmps20
  go_wp2_with fail
  go_ret
  exact ⟨rfl, rfl⟩
set_option maxRecDepth 100000 in
theorem in_no (w : World) (r lo hi : Int) (h : ¬ (lo ≤ r ∧ r ≤ hi)) : Calls Tryd.prog 20 #[.int .i32 r, .int .i32 lo, .int .i32 hi] w fun e w' => e = .returned (.bool false) ∧ w' = w := by
  by_cases h1 : lo ≤ r
  · have h2 : ¬ r ≤ hi := fun h2 => h ⟨h1, h2⟩
    clear h
    go_enter Tryd.func20, Tryd.ntmps20
    go_wp2_with fail
    go_ret
    exact ⟨rfl, rfl⟩
  · clear h
    go_enter Tryd.func20, Tryd.ntmps20
    go_wp2_with fail
    go_ret
    exact ⟨rfl, rfl⟩

def clP (w : World) (r k : Int) : Prop := Calls Tryd.prog 22 #[.int .i32 r] w fun e w' => e = .returned (.int .i64 k) ∧ w' = w
def foP (w : World) (r k : Int) : Prop := Calls Tryd.prog 10 #[.int .i32 r] w fun e w' => e = .returned (.int .i32 k) ∧ w' = w
set_option maxRecDepth 100000 in
theorem tC {p : Prop} (h : p := by
  have q902 : (r == 902) = false := beq_eq_false_iff_ne.2 (by omega)
  have q908 : (r == 908) = false := beq_eq_false_iff_ne.2 (by omega)
  try have b215 : (r != 215) = true := bne_iff_ne.2 (by omega)
  try have b247 : (r != 247) = true := bne_iff_ne.2 (by omega)
  unfold clP
  go_enter Tryd.func22, Tryd.ntmps22
  go_wp2_with (go_at_call 20; first | (refine (in_no _ _ _ _ (by assumption)).mono ?_; rintro _ _ ⟨rfl, rfl⟩) | (refine (in_yes _ _ _ _ (by omega)).mono ?_; rintro _ _ ⟨rfl, rfl⟩) | (refine (in_no _ _ _ _ (by omega)).mono ?_; rintro _ _ ⟨rfl, rfl⟩))
  go_ret
  exact ⟨rfl, rfl⟩) : p := h
set_option maxRecDepth 100000 in
theorem tCs {p : Prop} (h : p := by
  unfold clP
  go_enter Tryd.func22, Tryd.ntmps22
  go_wp2_with (go_at_call 20; first | (refine (in_no _ _ _ _ (by assumption)).mono ?_; rintro _ _ ⟨rfl, rfl⟩) | (refine (in_yes _ _ _ _ (by omega)).mono ?_; rintro _ _ ⟨rfl, rfl⟩) | (refine (in_no _ _ _ _ (by omega)).mono ?_; rintro _ _ ⟨rfl, rfl⟩))
  go_ret
  exact ⟨rfl, rfl⟩) : p := h
set_option maxRecDepth 100000 in
theorem tF {p : Prop} (h : p := by
  have q376 : (r == 376) = false := beq_eq_false_iff_ne.2 (by omega)
  have q383 : (r == 383) = false := beq_eq_false_iff_ne.2 (by omega)
  have q902 : (r == 902) = false := beq_eq_false_iff_ne.2 (by omega)
  have q908 : (r == 908) = false := beq_eq_false_iff_ne.2 (by omega)
  have q962 : (r == 962) = false := beq_eq_false_iff_ne.2 (by omega)
  try have b215 : (r != 215) = true := bne_iff_ne.2 (by omega)
  try have b930 : (r != 930) = true := bne_iff_ne.2 (by omega)
  unfold foP
  go_enter Tryd.func10, Tryd.ntmps10
  go_wp2_with (go_at_call 20; first | (refine (in_no _ _ _ _ (by assumption)).mono ?_; rintro _ _ ⟨rfl, rfl⟩) | (refine (in_yes _ _ _ _ (by omega)).mono ?_; rintro _ _ ⟨rfl, rfl⟩) | (refine (in_no _ _ _ _ (by omega)).mono ?_; rintro _ _ ⟨rfl, rfl⟩))
  go_ret
  exact ⟨rfl, rfl⟩) : p := h
set_option maxRecDepth 100000 in
theorem tFs {p : Prop} (h : p := by
  unfold foP
  go_enter Tryd.func10, Tryd.ntmps10
  go_wp2_with (go_at_call 20; first | (refine (in_no _ _ _ _ (by assumption)).mono ?_; rintro _ _ ⟨rfl, rfl⟩) | (refine (in_yes _ _ _ _ (by omega)).mono ?_; rintro _ _ ⟨rfl, rfl⟩) | (refine (in_no _ _ _ _ (by omega)).mono ?_; rintro _ _ ⟨rfl, rfl⟩))
  go_ret
  exact ⟨rfl, rfl⟩) : p := h
set_option maxHeartbeats 2000000 in
set_option maxRecDepth 100000 in
theorem ref_c48 (w : World) (r : Int) (h : 48 ≤ r ∧ r ≤ 57) : clP w r 2 := by
  obtain ⟨h1, h2⟩ := h
  exact tC
set_option maxHeartbeats 2000000 in
set_option maxRecDepth 100000 in
theorem ref_c1632 (w : World) (r : Int) (h : 1632 ≤ r ∧ r ≤ 1641) : clP w r 2 := by
  obtain ⟨h1, h2⟩ := h
  exact tC
set_option maxHeartbeats 2000000 in
set_option maxRecDepth 100000 in
theorem ref_c65 (w : World) (r : Int) (h : 65 ≤ r ∧ r ≤ 90) : clP w r 1 := by
  obtain ⟨h1, h2⟩ := h
  exact tC
set_option maxHeartbeats 2000000 in
set_option maxRecDepth 100000 in
theorem ref_c97 (w : World) (r : Int) (h : 97 ≤ r ∧ r ≤ 122) : clP w r 1 := by
  obtain ⟨h1, h2⟩ := h
  exact tC
set_option maxHeartbeats 2000000 in
set_option maxRecDepth 100000 in
theorem ref_c192 (w : World) (r : Int) (h1 : 192 ≤ r) (h2 : r ≤ 591) (h3 : r ≠ 215) (h4 : r ≠ 247) : clP w r 1 := by
  exact tC
set_option maxHeartbeats 2000000 in
set_option maxRecDepth 100000 in
theorem ref_c215 (w : World) (r : Int) (h : r = 215) : clP w r 0 := by
  subst h
  exact tCs
set_option maxHeartbeats 2000000 in
set_option maxRecDepth 100000 in
theorem ref_c247 (w : World) (r : Int) (h : r = 247) : clP w r 0 := by
  subst h
  exact tCs
set_option maxHeartbeats 2000000 in
set_option maxRecDepth 100000 in
theorem ref_c902 (w : World) (r : Int) (h : r = 902) : clP w r 1 := by
  subst h
  exact tCs
set_option maxHeartbeats 2000000 in
set_option maxRecDepth 100000 in
theorem ref_c904 (w : World) (r : Int) (h : 904 ≤ r ∧ r ≤ 906) : clP w r 1 := by
  obtain ⟨h1, h2⟩ := h
  exact tC
set_option maxHeartbeats 2000000 in
set_option maxRecDepth 100000 in
theorem ref_c908 (w : World) (r : Int) (h : r = 908) : clP w r 1 := by
  subst h
  exact tCs
set_option maxHeartbeats 2000000 in
set_option maxRecDepth 100000 in
theorem ref_c910 (w : World) (r : Int) (h : 910 ≤ r ∧ r ≤ 929) : clP w r 1 := by
  obtain ⟨h1, h2⟩ := h
  exact tC
set_option maxHeartbeats 2000000 in
set_option maxRecDepth 100000 in
theorem ref_c931 (w : World) (r : Int) (h : 931 ≤ r ∧ r ≤ 974) : clP w r 1 := by
  obtain ⟨h1, h2⟩ := h
  exact tC
set_option maxHeartbeats 2000000 in
set_option maxRecDepth 100000 in
theorem ref_c1024 (w : World) (r : Int) (h : 1024 ≤ r ∧ r ≤ 1153) : clP w r 1 := by
  obtain ⟨h1, h2⟩ := h
  exact tC
set_option maxHeartbeats 2000000 in
set_option maxRecDepth 100000 in
theorem ref_c1162 (w : World) (r : Int) (h : 1162 ≤ r ∧ r ≤ 1327) : clP w r 1 := by
  obtain ⟨h1, h2⟩ := h
  exact tC
set_option maxHeartbeats 2000000 in
set_option maxRecDepth 100000 in
theorem ref_c1488 (w : World) (r : Int) (h : 1488 ≤ r ∧ r ≤ 1514) : clP w r 1 := by
  obtain ⟨h1, h2⟩ := h
  exact tC
set_option maxHeartbeats 2000000 in
set_option maxRecDepth 100000 in
theorem ref_c19968 (w : World) (r : Int) (h : 19968 ≤ r ∧ r ≤ 40959) : clP w r 1 := by
  obtain ⟨h1, h2⟩ := h
  exact tC
set_option maxHeartbeats 2000000 in
set_option maxRecDepth 100000 in
theorem ref_c44032 (w : World) (r : Int) (h : 44032 ≤ r ∧ r ≤ 55203) : clP w r 1 := by
  obtain ⟨h1, h2⟩ := h
  exact tC
set_option maxHeartbeats 2000000 in
set_option maxRecDepth 100000 in
theorem ref_cnone (w : World) (r : Int) (n48 : ¬ (48 ≤ r ∧ r ≤ 57)) (n1632 : ¬ (1632 ≤ r ∧ r ≤ 1641)) (n65 : ¬ (65 ≤ r ∧ r ≤ 90)) (n97 : ¬ (97 ≤ r ∧ r ≤ 122)) (n192 : ¬ (192 ≤ r ∧ r ≤ 591)) (n902 : r ≠ 902) (n904 : ¬ (904 ≤ r ∧ r ≤ 906)) (n908 : r ≠ 908) (n910 : ¬ (910 ≤ r ∧ r ≤ 929)) (n931 : ¬ (931 ≤ r ∧ r ≤ 974)) (n1024 : ¬ (1024 ≤ r ∧ r ≤ 1153)) (n1162 : ¬ (1162 ≤ r ∧ r ≤ 1327)) (n1488 : ¬ (1488 ≤ r ∧ r ≤ 1514)) (n19968 : ¬ (19968 ≤ r ∧ r ≤ 40959)) (n44032 : ¬ (44032 ≤ r ∧ r ≤ 55203)) : clP w r 0 := by
  exact tC
set_option maxRecDepth 100000 in
/-- What the reference's Class answers. -/
theorem ref_class (w : World) (r : Int) : Calls Tryd.prog 22 #[.int .i32 r] w fun e w' => e = .returned (.int .i64 (classZ r)) ∧ w' = w := by
  have two : digitZ r → classZ r = 2 := fun h => by unfold classZ; rw [if_pos h]
  have one : ¬ digitZ r → letterZ r → classZ r = 1 := fun h k => by unfold classZ; rw [if_neg h, if_pos k]
  have zero : ¬ digitZ r → ¬ letterZ r → classZ r = 0 := fun h k => by unfold classZ; rw [if_neg h, if_neg k]
  unfold digitZ letterZ at *
  by_cases n48 : 48 ≤ r ∧ r ≤ 57
  · rw [two (by omega)]; exact ref_c48 w r n48
  by_cases n1632 : 1632 ≤ r ∧ r ≤ 1641
  · rw [two (by omega)]; exact ref_c1632 w r n1632
  by_cases n65 : 65 ≤ r ∧ r ≤ 90
  · rw [one (by omega) (by omega)]; exact ref_c65 w r n65
  by_cases n97 : 97 ≤ r ∧ r ≤ 122
  · rw [one (by omega) (by omega)]; exact ref_c97 w r n97
  by_cases n192 : 192 ≤ r ∧ r ≤ 591
  · clear n48 n1632 n65 n97
    by_cases e1 : r = 215
    · rw [zero (by omega) (by omega)]; exact ref_c215 w r e1
    by_cases e2 : r = 247
    · rw [zero (by omega) (by omega)]; exact ref_c247 w r e2
    rw [one (by omega) (by omega)]; exact ref_c192 w r n192.1 n192.2 e1 e2
  by_cases n902 : r = 902
  · rw [one (by omega) (by omega)]; exact ref_c902 w r n902
  by_cases n904 : 904 ≤ r ∧ r ≤ 906
  · rw [one (by omega) (by omega)]; exact ref_c904 w r n904
  by_cases n908 : r = 908
  · rw [one (by omega) (by omega)]; exact ref_c908 w r n908
  by_cases n910 : 910 ≤ r ∧ r ≤ 929
  · rw [one (by omega) (by omega)]; exact ref_c910 w r n910
  by_cases n931 : 931 ≤ r ∧ r ≤ 974
  · rw [one (by omega) (by omega)]; exact ref_c931 w r n931
  by_cases n1024 : 1024 ≤ r ∧ r ≤ 1153
  · rw [one (by omega) (by omega)]; exact ref_c1024 w r n1024
  by_cases n1162 : 1162 ≤ r ∧ r ≤ 1327
  · rw [one (by omega) (by omega)]; exact ref_c1162 w r n1162
  by_cases n1488 : 1488 ≤ r ∧ r ≤ 1514
  · rw [one (by omega) (by omega)]; exact ref_c1488 w r n1488
  by_cases n19968 : 19968 ≤ r ∧ r ≤ 40959
  · rw [one (by omega) (by omega)]; exact ref_c19968 w r n19968
  by_cases n44032 : 44032 ≤ r ∧ r ≤ 55203
  · rw [one (by omega) (by omega)]; exact ref_c44032 w r n44032
  rw [zero (by omega) (by omega)]
  exact ref_cnone w r n48 n1632 n65 n97 n192 n902 n904 n908 n910 n931 n1024 n1162 n1488 n19968 n44032

set_option maxHeartbeats 2000000 in
set_option maxRecDepth 100000 in
theorem ref_f65 (w : World) (r : Int) (h : 65 ≤ r ∧ r ≤ 90) : foP w r (r + 32) := by
  obtain ⟨h1, h2⟩ := h
  exact tF
set_option maxHeartbeats 2000000 in
set_option maxRecDepth 100000 in
theorem ref_f192 (w : World) (r : Int) (h1 : 192 ≤ r) (h2 : r ≤ 222) (h3 : r ≠ 215) : foP w r (r + 32) := by
  exact tF
set_option maxHeartbeats 2000000 in
set_option maxRecDepth 100000 in
theorem ref_f215 (w : World) (r : Int) (h : r = 215) : foP w r (r) := by
  subst h
  exact tFs
set_option maxHeartbeats 2000000 in
set_option maxRecDepth 100000 in
theorem ref_f913 (w : World) (r : Int) (h1 : 913 ≤ r) (h2 : r ≤ 939) (h3 : r ≠ 930) : foP w r (r + 32) := by
  exact tF
set_option maxHeartbeats 2000000 in
set_option maxRecDepth 100000 in
theorem ref_f930 (w : World) (r : Int) (h : r = 930) : foP w r (r) := by
  subst h
  exact tFs
set_option maxHeartbeats 2000000 in
set_option maxRecDepth 100000 in
theorem ref_f1040 (w : World) (r : Int) (h : 1040 ≤ r ∧ r ≤ 1071) : foP w r (r + 32) := by
  obtain ⟨h1, h2⟩ := h
  exact tF
set_option maxHeartbeats 2000000 in
set_option maxRecDepth 100000 in
theorem ref_f256_0 (w : World) (r : Int) (h1 : 256 ≤ r) (h2 : r ≤ 311) (hm : r % 2 = 0) : foP w r (r + 1) := by
  have m0 : (r % 2 == 0) = true := by simp; omega
  have m1 : (r % 2 == 1) = false := by simp; omega
  exact tF
set_option maxHeartbeats 2000000 in
set_option maxRecDepth 100000 in
theorem ref_f256_1 (w : World) (r : Int) (h1 : 256 ≤ r) (h2 : r ≤ 311) (hm : r % 2 = 1) : foP w r (r) := by
  have m0 : (r % 2 == 0) = false := by simp; omega
  have m1 : (r % 2 == 1) = true := by simp; omega
  exact tF
set_option maxHeartbeats 2000000 in
set_option maxRecDepth 100000 in
theorem ref_f330_0 (w : World) (r : Int) (h1 : 330 ≤ r) (h2 : r ≤ 375) (hm : r % 2 = 0) : foP w r (r + 1) := by
  have m0 : (r % 2 == 0) = true := by simp; omega
  have m1 : (r % 2 == 1) = false := by simp; omega
  exact tF
set_option maxHeartbeats 2000000 in
set_option maxRecDepth 100000 in
theorem ref_f330_1 (w : World) (r : Int) (h1 : 330 ≤ r) (h2 : r ≤ 375) (hm : r % 2 = 1) : foP w r (r) := by
  have m0 : (r % 2 == 0) = false := by simp; omega
  have m1 : (r % 2 == 1) = true := by simp; omega
  exact tF
set_option maxHeartbeats 2000000 in
set_option maxRecDepth 100000 in
theorem ref_f1120_0 (w : World) (r : Int) (h1 : 1120 ≤ r) (h2 : r ≤ 1153) (hm : r % 2 = 0) : foP w r (r + 1) := by
  have m0 : (r % 2 == 0) = true := by simp; omega
  have m1 : (r % 2 == 1) = false := by simp; omega
  exact tF
set_option maxHeartbeats 2000000 in
set_option maxRecDepth 100000 in
theorem ref_f1120_1 (w : World) (r : Int) (h1 : 1120 ≤ r) (h2 : r ≤ 1153) (hm : r % 2 = 1) : foP w r (r) := by
  have m0 : (r % 2 == 0) = false := by simp; omega
  have m1 : (r % 2 == 1) = true := by simp; omega
  exact tF
set_option maxHeartbeats 2000000 in
set_option maxRecDepth 100000 in
theorem ref_f1162_0 (w : World) (r : Int) (h1 : 1162 ≤ r) (h2 : r ≤ 1215) (hm : r % 2 = 0) : foP w r (r + 1) := by
  have m0 : (r % 2 == 0) = true := by simp; omega
  have m1 : (r % 2 == 1) = false := by simp; omega
  exact tF
set_option maxHeartbeats 2000000 in
set_option maxRecDepth 100000 in
theorem ref_f1162_1 (w : World) (r : Int) (h1 : 1162 ≤ r) (h2 : r ≤ 1215) (hm : r % 2 = 1) : foP w r (r) := by
  have m0 : (r % 2 == 0) = false := by simp; omega
  have m1 : (r % 2 == 1) = true := by simp; omega
  exact tF
set_option maxHeartbeats 2000000 in
set_option maxRecDepth 100000 in
theorem ref_f1232_0 (w : World) (r : Int) (h1 : 1232 ≤ r) (h2 : r ≤ 1327) (hm : r % 2 = 0) : foP w r (r + 1) := by
  have m0 : (r % 2 == 0) = true := by simp; omega
  have m1 : (r % 2 == 1) = false := by simp; omega
  exact tF
set_option maxHeartbeats 2000000 in
set_option maxRecDepth 100000 in
theorem ref_f1232_1 (w : World) (r : Int) (h1 : 1232 ≤ r) (h2 : r ≤ 1327) (hm : r % 2 = 1) : foP w r (r) := by
  have m0 : (r % 2 == 0) = false := by simp; omega
  have m1 : (r % 2 == 1) = true := by simp; omega
  exact tF
set_option maxHeartbeats 2000000 in
set_option maxRecDepth 100000 in
theorem ref_f313_0 (w : World) (r : Int) (h1 : 313 ≤ r) (h2 : r ≤ 328) (hm : r % 2 = 0) : foP w r (r) := by
  have m0 : (r % 2 == 0) = true := by simp; omega
  have m1 : (r % 2 == 1) = false := by simp; omega
  exact tF
set_option maxHeartbeats 2000000 in
set_option maxRecDepth 100000 in
theorem ref_f313_1 (w : World) (r : Int) (h1 : 313 ≤ r) (h2 : r ≤ 328) (hm : r % 2 = 1) : foP w r (r + 1) := by
  have m0 : (r % 2 == 0) = false := by simp; omega
  have m1 : (r % 2 == 1) = true := by simp; omega
  exact tF
set_option maxHeartbeats 2000000 in
set_option maxRecDepth 100000 in
theorem ref_f377_0 (w : World) (r : Int) (h1 : 377 ≤ r) (h2 : r ≤ 382) (hm : r % 2 = 0) : foP w r (r) := by
  have m0 : (r % 2 == 0) = true := by simp; omega
  have m1 : (r % 2 == 1) = false := by simp; omega
  exact tF
set_option maxHeartbeats 2000000 in
set_option maxRecDepth 100000 in
theorem ref_f377_1 (w : World) (r : Int) (h1 : 377 ≤ r) (h2 : r ≤ 382) (hm : r % 2 = 1) : foP w r (r + 1) := by
  have m0 : (r % 2 == 0) = false := by simp; omega
  have m1 : (r % 2 == 1) = true := by simp; omega
  exact tF
set_option maxHeartbeats 2000000 in
set_option maxRecDepth 100000 in
theorem ref_f376 (w : World) (r : Int) (h : r = 376) : foP w r (255) := by
  subst h
  exact tFs
set_option maxHeartbeats 2000000 in
set_option maxRecDepth 100000 in
theorem ref_f383 (w : World) (r : Int) (h : r = 383) : foP w r (115) := by
  subst h
  exact tFs
set_option maxHeartbeats 2000000 in
set_option maxRecDepth 100000 in
theorem ref_f902 (w : World) (r : Int) (h : r = 902) : foP w r (940) := by
  subst h
  exact tFs
set_option maxHeartbeats 2000000 in
set_option maxRecDepth 100000 in
theorem ref_f908 (w : World) (r : Int) (h : r = 908) : foP w r (972) := by
  subst h
  exact tFs
set_option maxHeartbeats 2000000 in
set_option maxRecDepth 100000 in
theorem ref_f962 (w : World) (r : Int) (h : r = 962) : foP w r (963) := by
  subst h
  exact tFs
set_option maxHeartbeats 2000000 in
set_option maxRecDepth 100000 in
theorem ref_f904 (w : World) (r : Int) (h : 904 ≤ r ∧ r ≤ 906) : foP w r (r + 37) := by
  obtain ⟨h1, h2⟩ := h
  exact tF
set_option maxHeartbeats 2000000 in
set_option maxRecDepth 100000 in
theorem ref_f910 (w : World) (r : Int) (h : 910 ≤ r ∧ r ≤ 911) : foP w r (r + 63) := by
  obtain ⟨h1, h2⟩ := h
  exact tF
set_option maxHeartbeats 2000000 in
set_option maxRecDepth 100000 in
theorem ref_f1024 (w : World) (r : Int) (h : 1024 ≤ r ∧ r ≤ 1039) : foP w r (r + 80) := by
  obtain ⟨h1, h2⟩ := h
  exact tF
set_option maxHeartbeats 2000000 in
set_option maxRecDepth 100000 in
theorem ref_f1632 (w : World) (r : Int) (h : 1632 ≤ r ∧ r ≤ 1641) : foP w r (r - 1584) := by
  obtain ⟨h1, h2⟩ := h
  exact tF
set_option maxHeartbeats 2000000 in
set_option maxRecDepth 100000 in
theorem ref_fnone (w : World) (r : Int) (n65 : ¬ (65 ≤ r ∧ r ≤ 90)) (n192 : ¬ (192 ≤ r ∧ r ≤ 222)) (n913 : ¬ (913 ≤ r ∧ r ≤ 939)) (n1040 : ¬ (1040 ≤ r ∧ r ≤ 1071)) (n256 : ¬ (256 ≤ r ∧ r ≤ 311)) (n330 : ¬ (330 ≤ r ∧ r ≤ 375)) (n1120 : ¬ (1120 ≤ r ∧ r ≤ 1153)) (n1162 : ¬ (1162 ≤ r ∧ r ≤ 1215)) (n1232 : ¬ (1232 ≤ r ∧ r ≤ 1327)) (n313 : ¬ (313 ≤ r ∧ r ≤ 328)) (n377 : ¬ (377 ≤ r ∧ r ≤ 382)) (n376 : r ≠ 376) (n383 : r ≠ 383) (n902 : r ≠ 902) (n908 : r ≠ 908) (n962 : r ≠ 962) (n904 : ¬ (904 ≤ r ∧ r ≤ 906)) (n910 : ¬ (910 ≤ r ∧ r ≤ 911)) (n1024 : ¬ (1024 ≤ r ∧ r ≤ 1039)) (n1632 : ¬ (1632 ≤ r ∧ r ≤ 1641)) : foP w r (r) := by
  exact tF
set_option maxRecDepth 100000 in
set_option maxHeartbeats 2000000 in
/-- What the reference's Fold answers. -/
theorem ref_fold (w : World) (r : Int) : Calls Tryd.prog 10 #[.int .i32 r] w fun e w' => e = .returned (.int .i32 (foldZ r)) ∧ w' = w := by
  have up : upZ r → foldZ r = r + 32 := fun h => by unfold foldZ; rw [if_pos h]
  have ne : ¬ upZ r → ((evenZ r ∧ r % 2 = 0) ∨ (oddZ r ∧ r % 2 = 1)) → foldZ r = r + 1 := fun h k => by unfold foldZ; rw [if_neg h, if_pos k]
  have el : ∀ x, ¬ upZ r → ¬ ((evenZ r ∧ r % 2 = 0) ∨ (oddZ r ∧ r % 2 = 1)) → (if r = 376 then (255 : Int) else if r = 383 then 115 else if r = 902 then 940 else if r = 908 then 972 else if r = 962 then 963
    else if 904 ≤ r ∧ r ≤ 906 then r + 37 else if 910 ≤ r ∧ r ≤ 911 then r + 63 else if 1024 ≤ r ∧ r ≤ 1039 then r + 80 else if 1632 ≤ r ∧ r ≤ 1641 then r - 1584 else r) = x → foldZ r = x := fun x h k hx => by unfold foldZ; rw [if_neg h, if_neg k]; exact hx
  unfold upZ evenZ oddZ at *
  by_cases n65 : 65 ≤ r ∧ r ≤ 90
  · rw [up (by omega)]; exact ref_f65 w r n65
  by_cases n192 : 192 ≤ r ∧ r ≤ 222
  · clear n65
    by_cases e1 : r = 215
    · rw [el r (by omega) (by omega) (by repeat' split <;> omega)]; exact ref_f215 w r e1
    rw [up (by omega)]; exact ref_f192 w r n192.1 n192.2 e1
  by_cases n913 : 913 ≤ r ∧ r ≤ 939
  · clear n65 n192
    by_cases e1 : r = 930
    · rw [el r (by omega) (by omega) (by repeat' split <;> omega)]; exact ref_f930 w r e1
    rw [up (by omega)]; exact ref_f913 w r n913.1 n913.2 e1
  by_cases n1040 : 1040 ≤ r ∧ r ≤ 1071
  · rw [up (by omega)]; exact ref_f1040 w r n1040
  by_cases n256 : 256 ≤ r ∧ r ≤ 311
  · clear n65 n192 n913 n1040 
    by_cases hm : r % 2 = 0
    · rw [ne (by omega) (by omega)]; exact ref_f256_0 w r n256.1 n256.2 hm
    · rw [el r (by omega) (by omega) (by repeat' split <;> omega)]; exact ref_f256_1 w r n256.1 n256.2 (by omega)
  by_cases n330 : 330 ≤ r ∧ r ≤ 375
  · clear n65 n192 n913 n1040 n256
    by_cases hm : r % 2 = 0
    · rw [ne (by omega) (by omega)]; exact ref_f330_0 w r n330.1 n330.2 hm
    · rw [el r (by omega) (by omega) (by repeat' split <;> omega)]; exact ref_f330_1 w r n330.1 n330.2 (by omega)
  by_cases n1120 : 1120 ≤ r ∧ r ≤ 1153
  · clear n65 n192 n913 n1040 n256 n330
    by_cases hm : r % 2 = 0
    · rw [ne (by omega) (by omega)]; exact ref_f1120_0 w r n1120.1 n1120.2 hm
    · rw [el r (by omega) (by omega) (by repeat' split <;> omega)]; exact ref_f1120_1 w r n1120.1 n1120.2 (by omega)
  by_cases n1162 : 1162 ≤ r ∧ r ≤ 1215
  · clear n65 n192 n913 n1040 n256 n330 n1120
    by_cases hm : r % 2 = 0
    · rw [ne (by omega) (by omega)]; exact ref_f1162_0 w r n1162.1 n1162.2 hm
    · rw [el r (by omega) (by omega) (by repeat' split <;> omega)]; exact ref_f1162_1 w r n1162.1 n1162.2 (by omega)
  by_cases n1232 : 1232 ≤ r ∧ r ≤ 1327
  · clear n65 n192 n913 n1040 n256 n330 n1120 n1162
    by_cases hm : r % 2 = 0
    · rw [ne (by omega) (by omega)]; exact ref_f1232_0 w r n1232.1 n1232.2 hm
    · rw [el r (by omega) (by omega) (by repeat' split <;> omega)]; exact ref_f1232_1 w r n1232.1 n1232.2 (by omega)
  by_cases n313 : 313 ≤ r ∧ r ≤ 328
  · clear n65 n192 n913 n1040 n256 n330 n1120 n1162 n1232
    by_cases hm : r % 2 = 0
    · rw [el r (by omega) (by omega) (by repeat' split <;> omega)]; exact ref_f313_0 w r n313.1 n313.2 hm
    · rw [ne (by omega) (by omega)]; exact ref_f313_1 w r n313.1 n313.2 (by omega)
  by_cases n377 : 377 ≤ r ∧ r ≤ 382
  · clear n65 n192 n913 n1040 n256 n330 n1120 n1162 n1232 n313
    by_cases hm : r % 2 = 0
    · rw [el r (by omega) (by omega) (by repeat' split <;> omega)]; exact ref_f377_0 w r n377.1 n377.2 hm
    · rw [ne (by omega) (by omega)]; exact ref_f377_1 w r n377.1 n377.2 (by omega)
  by_cases n376 : r = 376
  · clear n65 n192 n913 n1040 n256 n330 n1120 n1162 n1232 n313 n377
    clear up
    rw [el 255 (by omega) (by omega) (by repeat' split <;> omega)]; exact ref_f376 w r n376
  by_cases n383 : r = 383
  · clear n65 n192 n913 n1040 n256 n330 n1120 n1162 n1232 n313 n377
    clear  n376
    rw [el 115 (by omega) (by omega) (by repeat' split <;> omega)]; exact ref_f383 w r n383
  by_cases n902 : r = 902
  · clear n65 n192 n913 n1040 n256 n330 n1120 n1162 n1232 n313 n377
    clear  n376 n383
    rw [el 940 (by omega) (by omega) (by repeat' split <;> omega)]; exact ref_f902 w r n902
  by_cases n908 : r = 908
  · clear n65 n192 n913 n1040 n256 n330 n1120 n1162 n1232 n313 n377
    clear  n376 n383 n902
    rw [el 972 (by omega) (by omega) (by repeat' split <;> omega)]; exact ref_f908 w r n908
  by_cases n962 : r = 962
  · clear n65 n192 n913 n1040 n256 n330 n1120 n1162 n1232 n313 n377
    clear  n376 n383 n902 n908
    rw [el 963 (by omega) (by omega) (by repeat' split <;> omega)]; exact ref_f962 w r n962
  by_cases n904 : 904 ≤ r ∧ r ≤ 906
  · clear n65 n192 n913 n1040 n256 n330 n1120 n1162 n1232 n313 n377
    clear  n376 n383 n902 n908 n962
    rw [el (r + 37) (by omega) (by omega) (by repeat' split <;> omega)]; exact ref_f904 w r n904
  by_cases n910 : 910 ≤ r ∧ r ≤ 911
  · clear n65 n192 n913 n1040 n256 n330 n1120 n1162 n1232 n313 n377
    clear  n376 n383 n902 n908 n962 n904
    rw [el (r + 63) (by omega) (by omega) (by repeat' split <;> omega)]; exact ref_f910 w r n910
  by_cases n1024 : 1024 ≤ r ∧ r ≤ 1039
  · clear n65 n192 n913 n1040 n256 n330 n1120 n1162 n1232 n313 n377
    clear  n376 n383 n902 n908 n962 n904 n910
    rw [el (r + 80) (by omega) (by omega) (by repeat' split <;> omega)]; exact ref_f1024 w r n1024
  by_cases n1632 : 1632 ≤ r ∧ r ≤ 1641
  · clear n65 n192 n913 n1040 n256 n330 n1120 n1162 n1232 n313 n377
    clear  n376 n383 n902 n908 n962 n904 n910 n1024
    rw [el (r - 1584) (by omega) (by omega) (by repeat' split <;> omega)]; exact ref_f1632 w r n1632
  have k1 : ¬ ((65 ≤ r ∧ r ≤ 90) ∨ (192 ≤ r ∧ r ≤ 222 ∧ r ≠ 215) ∨ (913 ≤ r ∧ r ≤ 939 ∧ r ≠ 930) ∨ (1040 ≤ r ∧ r ≤ 1071)) := by
    rintro (h | h | h | h)
    · exact n65 h
    · exact n192 ⟨h.1, h.2.1⟩
    · exact n913 ⟨h.1, h.2.1⟩
    · exact n1040 h
  have k2 : ¬ ((((256 ≤ r ∧ r ≤ 311) ∨ (330 ≤ r ∧ r ≤ 375) ∨ (1120 ≤ r ∧ r ≤ 1153) ∨ (1162 ≤ r ∧ r ≤ 1215) ∨ (1232 ≤ r ∧ r ≤ 1327)) ∧ r % 2 = 0) ∨ (((313 ≤ r ∧ r ≤ 328) ∨ (377 ≤ r ∧ r ≤ 382)) ∧ r % 2 = 1)) := by
    rintro (⟨h | h | h | h | h, _⟩ | ⟨h | h, _⟩)
    · exact n256 h
    · exact n330 h
    · exact n1120 h
    · exact n1162 h
    · exact n1232 h
    · exact n313 h
    · exact n377 h
  rw [el r k1 k2 (by rw [if_neg n376, if_neg n383, if_neg n902, if_neg n908, if_neg n962, if_neg n904, if_neg n910, if_neg n1024, if_neg n1632])]
  exact ref_fnone w r n65 n192 n913 n1040 n256 n330 n1120 n1162 n1232 n313 n377 n376 n383 n902 n908 n962 n904 n910 n1024 n1632

end Go.Proofs.YtaaeooimalglaaaDoor
