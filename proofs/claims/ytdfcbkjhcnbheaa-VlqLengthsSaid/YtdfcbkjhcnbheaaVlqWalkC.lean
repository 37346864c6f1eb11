/-
  Laws of layer 8, given what the program's functions keep. Over the program's own text.
-/
import Derived.Test.YtdfcbkjhcnbheaaVlqKept
namespace Go.Proofs.Ytdfcbkjhcnbheaa
open Go.RowKit

section
variable (K : KeptVlq) (W : World)
include K
set_option maxRecDepth 100000 in
set_option maxHeartbeats 4000000 in
theorem lengths_all (n m : Int) (n0 : 0 ≤ n) (n1 : n ≤ 4294967295) (m0 : 0 ≤ m) (m1 : m ≤ 4294967295) : Calls Try.prog 7 #[.int .u32 n, .int .u32 m] W fun e w' => e = .returned (.bool true) ∧ Below W.heap.size W w' := by
  have HF := Lib.hid (fixed_any K)
  obtain ⟨x, rfl⟩ := Int.eq_ofNat_of_zero_le n0
  obtain ⟨y, rfl⟩ := Int.eq_ofNat_of_zero_le m0
  by_cases hsw : (y : Int) < (x : Int)
  · obtain ⟨Q, hQ⟩ : ∃ Q, putN x = Q := ⟨_, rfl⟩
    obtain ⟨lb, hQl⟩ : ∃ lb, Q.length = lb := ⟨_, rfl⟩
    have hsz := put_size 4 x (by rw [lim_four]; omega)
    have hlast := put_last 4 x (by rw [lim_four]; omega)
    have hlen := put_len 4 x
    rw [show putF 4 x = Q from hQ, hQl] at hsz hlen
    rw [show putF 4 x = Q from hQ] at hlast
    have HLast := Lib.hid hlast
    obtain ⟨h1, h2⟩ := hsz
    have A2 := K.put_of x Q lb (by omega) hQ hQl
    have d9 : IntKind.u64.wrap (x : Int) = (x : Int) := IntWalk.u64_in _ (by omega)
    clear hlast
    obtain ⟨P, hP⟩ : ∃ P, putN y = P := ⟨_, rfl⟩
    obtain ⟨la, hla⟩ : ∃ la, P.length = la := ⟨_, rfl⟩
    have hlm : la ≤ lb := by have := put_mono 4 y x (by omega); rw [show putF 4 y = P from hP, show putF 4 x = Q from hQ, hla, hQl] at this; exact this
    have hl1 := (put_len 4 y).1
    rw [show putF 4 y = P from hP, hla] at hl1
    have d0 : ¬ (la : Int) < 1 := by omega
    have A1 := K.put_of y P la (by omega) hP hla
    have A1 := Lib.hid A1
    clear hP hla hQ K
    by_cases hpl : lb = 1
    · subst hpl
      have A2 := Lib.hid A2
      have d2 : ((x : Int) / 128 != 0) = false := by simp; omega
      have d3 : ¬ (1 : Int) < (la : Int) := by omega
      have HLn := Lib.hid (show Q.length = 1 from hQl)
      clear hQl h1 h2
      go_enter Try.func7, Try.ntmps7
      go_wp2_with fail
      refine (A1.out _).mono ?_; rintro e w1 ⟨oa, c, rfl, _, _, _, _, hb⟩
      have HB := Lib.hid (hb); clear hb
      go_wp2_with fail
      refine (A2.out _).mono ?_; rintro e w2 ⟨oq, cq, rfl, _, _, _, hr, hb⟩
      have HB := Lib.hid (low_more HB.out hb); have HQ := Lib.hid hr; clear hr; clear hb
      go_wp2_with fail
      refine (HF.out _).mono ?_; rintro e w3 ⟨rfl, hb⟩
      have HQ := Lib.hid (HQ.out.below hb); have HB := Lib.hid (low_more HB.out hb); clear hb
      go_wp2_with fail
      go_loopw [62] (fun iv wr => ∃ i : Nat, i ≤ 1 ∧ iv = .int .i64 (i : Int) ∧ wr = w3) (fun iv _ => 1 - (intOf iv).toNat)
      case atStart => exact ⟨0, by omega, rfl, rfl⟩
      case round =>
        obtain ⟨i, hi, rfl, hw⟩ := hrel
        have hw' := hw.symm
        subst hw'
        by_cases hlt : i < 1
        · have hlt1 : (i : Int) < 1 := by omega
          obtain ⟨y, hy⟩ : ∃ y, Q[i]? = some y := ⟨_, List.getElem?_eq_getElem (by have := HLn.out; omega)⟩
          obtain ⟨g, o, rfl, hcell⟩ := HQ.out i y hy
          have hl := HLast.out i y hy
          rw [HLn.out] at hl
          clear hy
          by_cases he : i + 1 = 1
          · have hy1 : (y : Int) < 128 := by have := hl.2 he; omega
            have hi1 : ((i : Int) == 0) = true := beq_iff_eq.2 (by omega)
            clear hl he
            go_wp2_with fail
            go_roundw
            case rel => exact ⟨i + 1, by omega, by go_num, trivial⟩
            case measure => simp [intOf]; omega
          · have hy1 : ¬ (y : Int) < 128 := fun h => he (hl.1 (by omega))
            have hi1 : ((i : Int) == 0) = false := beq_eq_false_iff_ne.2 (by omega)
            clear hl he
            go_wp2_with fail
            go_roundw
            case rel => exact ⟨i + 1, by omega, by go_num, trivial⟩
            case measure => simp [intOf]; omega
        · have hlt1 : ¬ (i : Int) < 1 := by omega
          go_wp2_with fail
          go_ret
          exact ⟨rfl, HB.out⟩
    by_cases hpl : lb = 2
    · subst hpl
      have A2 := Lib.hid A2
      have d1 : ((x : Int) / 128 == 0) = false := beq_eq_false_iff_ne.2 (by have := h2 (by decide); omega)
      have d2 : ((x : Int) / 16384 != 0) = false := by simp; omega
      have d3 : ¬ (2 : Int) < (la : Int) := by omega
      have HLn := Lib.hid (show Q.length = 2 from hQl)
      clear hQl h1 h2
      go_enter Try.func7, Try.ntmps7
      go_wp2_with fail
      refine (A1.out _).mono ?_; rintro e w1 ⟨oa, c, rfl, _, _, _, _, hb⟩
      have HB := Lib.hid (hb); clear hb
      go_wp2_with fail
      refine (A2.out _).mono ?_; rintro e w2 ⟨oq, cq, rfl, _, _, _, hr, hb⟩
      have HB := Lib.hid (low_more HB.out hb); have HQ := Lib.hid hr; clear hr; clear hb
      go_wp2_with fail
      refine (HF.out _).mono ?_; rintro e w3 ⟨rfl, hb⟩
      have HQ := Lib.hid (HQ.out.below hb); have HB := Lib.hid (low_more HB.out hb); clear hb
      go_wp2_with fail
      go_loopw [62] (fun iv wr => ∃ i : Nat, i ≤ 2 ∧ iv = .int .i64 (i : Int) ∧ wr = w3) (fun iv _ => 2 - (intOf iv).toNat)
      case atStart => exact ⟨0, by omega, rfl, rfl⟩
      case round =>
        obtain ⟨i, hi, rfl, hw⟩ := hrel
        have hw' := hw.symm
        subst hw'
        by_cases hlt : i < 2
        · have hlt1 : (i : Int) < 2 := by omega
          obtain ⟨y, hy⟩ : ∃ y, Q[i]? = some y := ⟨_, List.getElem?_eq_getElem (by have := HLn.out; omega)⟩
          obtain ⟨g, o, rfl, hcell⟩ := HQ.out i y hy
          have hl := HLast.out i y hy
          rw [HLn.out] at hl
          clear hy
          by_cases he : i + 1 = 2
          · have hy1 : (y : Int) < 128 := by have := hl.2 he; omega
            have hi1 : ((i : Int) == 1) = true := beq_iff_eq.2 (by omega)
            clear hl he
            go_wp2_with fail
            go_roundw
            case rel => exact ⟨i + 1, by omega, by go_num, trivial⟩
            case measure => simp [intOf]; omega
          · have hy1 : ¬ (y : Int) < 128 := fun h => he (hl.1 (by omega))
            have hi1 : ((i : Int) == 1) = false := beq_eq_false_iff_ne.2 (by omega)
            clear hl he
            go_wp2_with fail
            go_roundw
            case rel => exact ⟨i + 1, by omega, by go_num, trivial⟩
            case measure => simp [intOf]; omega
        · have hlt1 : ¬ (i : Int) < 2 := by omega
          go_wp2_with fail
          go_ret
          exact ⟨rfl, HB.out⟩
    by_cases hpl : lb = 3
    · subst hpl
      have A2 := Lib.hid A2
      have d1 : ((x : Int) / 16384 == 0) = false := beq_eq_false_iff_ne.2 (by have := h2 (by decide); omega)
      have d2 : ((x : Int) / 2097152 != 0) = false := by simp; omega
      have d3 : ¬ (3 : Int) < (la : Int) := by omega
      have HLn := Lib.hid (show Q.length = 3 from hQl)
      clear hQl h1 h2
      go_enter Try.func7, Try.ntmps7
      go_wp2_with fail
      refine (A1.out _).mono ?_; rintro e w1 ⟨oa, c, rfl, _, _, _, _, hb⟩
      have HB := Lib.hid (hb); clear hb
      go_wp2_with fail
      refine (A2.out _).mono ?_; rintro e w2 ⟨oq, cq, rfl, _, _, _, hr, hb⟩
      have HB := Lib.hid (low_more HB.out hb); have HQ := Lib.hid hr; clear hr; clear hb
      go_wp2_with fail
      refine (HF.out _).mono ?_; rintro e w3 ⟨rfl, hb⟩
      have HQ := Lib.hid (HQ.out.below hb); have HB := Lib.hid (low_more HB.out hb); clear hb
      go_wp2_with fail
      go_loopw [62] (fun iv wr => ∃ i : Nat, i ≤ 3 ∧ iv = .int .i64 (i : Int) ∧ wr = w3) (fun iv _ => 3 - (intOf iv).toNat)
      case atStart => exact ⟨0, by omega, rfl, rfl⟩
      case round =>
        obtain ⟨i, hi, rfl, hw⟩ := hrel
        have hw' := hw.symm
        subst hw'
        by_cases hlt : i < 3
        · have hlt1 : (i : Int) < 3 := by omega
          obtain ⟨y, hy⟩ : ∃ y, Q[i]? = some y := ⟨_, List.getElem?_eq_getElem (by have := HLn.out; omega)⟩
          obtain ⟨g, o, rfl, hcell⟩ := HQ.out i y hy
          have hl := HLast.out i y hy
          rw [HLn.out] at hl
          clear hy
          by_cases he : i + 1 = 3
          · have hy1 : (y : Int) < 128 := by have := hl.2 he; omega
            have hi1 : ((i : Int) == 2) = true := beq_iff_eq.2 (by omega)
            clear hl he
            go_wp2_with fail
            go_roundw
            case rel => exact ⟨i + 1, by omega, by go_num, trivial⟩
            case measure => simp [intOf]; omega
          · have hy1 : ¬ (y : Int) < 128 := fun h => he (hl.1 (by omega))
            have hi1 : ((i : Int) == 2) = false := beq_eq_false_iff_ne.2 (by omega)
            clear hl he
            go_wp2_with fail
            go_roundw
            case rel => exact ⟨i + 1, by omega, by go_num, trivial⟩
            case measure => simp [intOf]; omega
        · have hlt1 : ¬ (i : Int) < 3 := by omega
          go_wp2_with fail
          go_ret
          exact ⟨rfl, HB.out⟩
    by_cases hpl : lb = 4
    · subst hpl
      have A2 := Lib.hid A2
      have d1 : ((x : Int) / 2097152 == 0) = false := beq_eq_false_iff_ne.2 (by have := h2 (by decide); omega)
      have d2 : ((x : Int) / 268435456 != 0) = false := by simp; omega
      have d3 : ¬ (4 : Int) < (la : Int) := by omega
      have HLn := Lib.hid (show Q.length = 4 from hQl)
      clear hQl h1 h2
      go_enter Try.func7, Try.ntmps7
      go_wp2_with fail
      refine (A1.out _).mono ?_; rintro e w1 ⟨oa, c, rfl, _, _, _, _, hb⟩
      have HB := Lib.hid (hb); clear hb
      go_wp2_with fail
      refine (A2.out _).mono ?_; rintro e w2 ⟨oq, cq, rfl, _, _, _, hr, hb⟩
      have HB := Lib.hid (low_more HB.out hb); have HQ := Lib.hid hr; clear hr; clear hb
      go_wp2_with fail
      refine (HF.out _).mono ?_; rintro e w3 ⟨rfl, hb⟩
      have HQ := Lib.hid (HQ.out.below hb); have HB := Lib.hid (low_more HB.out hb); clear hb
      go_wp2_with fail
      go_loopw [62] (fun iv wr => ∃ i : Nat, i ≤ 4 ∧ iv = .int .i64 (i : Int) ∧ wr = w3) (fun iv _ => 4 - (intOf iv).toNat)
      case atStart => exact ⟨0, by omega, rfl, rfl⟩
      case round =>
        obtain ⟨i, hi, rfl, hw⟩ := hrel
        have hw' := hw.symm
        subst hw'
        by_cases hlt : i < 4
        · have hlt1 : (i : Int) < 4 := by omega
          obtain ⟨y, hy⟩ : ∃ y, Q[i]? = some y := ⟨_, List.getElem?_eq_getElem (by have := HLn.out; omega)⟩
          obtain ⟨g, o, rfl, hcell⟩ := HQ.out i y hy
          have hl := HLast.out i y hy
          rw [HLn.out] at hl
          clear hy
          by_cases he : i + 1 = 4
          · have hy1 : (y : Int) < 128 := by have := hl.2 he; omega
            have hi1 : ((i : Int) == 3) = true := beq_iff_eq.2 (by omega)
            clear hl he
            go_wp2_with fail
            go_roundw
            case rel => exact ⟨i + 1, by omega, by go_num, trivial⟩
            case measure => simp [intOf]; omega
          · have hy1 : ¬ (y : Int) < 128 := fun h => he (hl.1 (by omega))
            have hi1 : ((i : Int) == 3) = false := beq_eq_false_iff_ne.2 (by omega)
            clear hl he
            go_wp2_with fail
            go_roundw
            case rel => exact ⟨i + 1, by omega, by go_num, trivial⟩
            case measure => simp [intOf]; omega
        · have hlt1 : ¬ (i : Int) < 4 := by omega
          go_wp2_with fail
          go_ret
          exact ⟨rfl, HB.out⟩
    have hpl : lb = 5 := by omega
    subst hpl
    have A2 := Lib.hid A2
    have d1 : ((x : Int) / 268435456 == 0) = false := beq_eq_false_iff_ne.2 (by have := h2 (by decide); omega)
    have d2 : ((x : Int) / 34359738368 != 0) = false := by simp; omega
    have d3 : ¬ (5 : Int) < (la : Int) := by omega
    have HLn := Lib.hid (show Q.length = 5 from hQl)
    clear hQl h1 h2
    go_enter Try.func7, Try.ntmps7
    go_wp2_with fail
    refine (A1.out _).mono ?_; rintro e w1 ⟨oa, c, rfl, _, _, _, _, hb⟩
    have HB := Lib.hid (hb); clear hb
    go_wp2_with fail
    refine (A2.out _).mono ?_; rintro e w2 ⟨oq, cq, rfl, _, _, _, hr, hb⟩
    have HB := Lib.hid (low_more HB.out hb); have HQ := Lib.hid hr; clear hr; clear hb
    go_wp2_with fail
    refine (HF.out _).mono ?_; rintro e w3 ⟨rfl, hb⟩
    have HQ := Lib.hid (HQ.out.below hb); have HB := Lib.hid (low_more HB.out hb); clear hb
    go_wp2_with fail
    go_loopw [62] (fun iv wr => ∃ i : Nat, i ≤ 5 ∧ iv = .int .i64 (i : Int) ∧ wr = w3) (fun iv _ => 5 - (intOf iv).toNat)
    case atStart => exact ⟨0, by omega, rfl, rfl⟩
    case round =>
      obtain ⟨i, hi, rfl, hw⟩ := hrel
      have hw' := hw.symm
      subst hw'
      by_cases hlt : i < 5
      · have hlt1 : (i : Int) < 5 := by omega
        obtain ⟨y, hy⟩ : ∃ y, Q[i]? = some y := ⟨_, List.getElem?_eq_getElem (by have := HLn.out; omega)⟩
        obtain ⟨g, o, rfl, hcell⟩ := HQ.out i y hy
        have hl := HLast.out i y hy
        rw [HLn.out] at hl
        clear hy
        by_cases he : i + 1 = 5
        · have hy1 : (y : Int) < 128 := by have := hl.2 he; omega
          have hi1 : ((i : Int) == 4) = true := beq_iff_eq.2 (by omega)
          clear hl he
          go_wp2_with fail
          go_roundw
          case rel => exact ⟨i + 1, by omega, by go_num, trivial⟩
          case measure => simp [intOf]; omega
        · have hy1 : ¬ (y : Int) < 128 := fun h => he (hl.1 (by omega))
          have hi1 : ((i : Int) == 4) = false := beq_eq_false_iff_ne.2 (by omega)
          clear hl he
          go_wp2_with fail
          go_roundw
          case rel => exact ⟨i + 1, by omega, by go_num, trivial⟩
          case measure => simp [intOf]; omega
      · have hlt1 : ¬ (i : Int) < 5 := by omega
        go_wp2_with fail
        go_ret
        exact ⟨rfl, HB.out⟩
  · obtain ⟨Q, hQ⟩ : ∃ Q, putN y = Q := ⟨_, rfl⟩
    obtain ⟨lb, hQl⟩ : ∃ lb, Q.length = lb := ⟨_, rfl⟩
    have hsz := put_size 4 y (by rw [lim_four]; omega)
    have hlast := put_last 4 y (by rw [lim_four]; omega)
    have hlen := put_len 4 y
    rw [show putF 4 y = Q from hQ, hQl] at hsz hlen
    rw [show putF 4 y = Q from hQ] at hlast
    have HLast := Lib.hid hlast
    obtain ⟨h1, h2⟩ := hsz
    have A2 := K.put_of y Q lb (by omega) hQ hQl
    have d9 : IntKind.u64.wrap (y : Int) = (y : Int) := IntWalk.u64_in _ (by omega)
    clear hlast
    obtain ⟨P, hP⟩ : ∃ P, putN x = P := ⟨_, rfl⟩
    obtain ⟨la, hla⟩ : ∃ la, P.length = la := ⟨_, rfl⟩
    have hlm : la ≤ lb := by have := put_mono 4 x y (by omega); rw [show putF 4 x = P from hP, show putF 4 y = Q from hQ, hla, hQl] at this; exact this
    have hl1 := (put_len 4 x).1
    rw [show putF 4 x = P from hP, hla] at hl1
    have d0 : ¬ (la : Int) < 1 := by omega
    have A1 := K.put_of x P la (by omega) hP hla
    have A1 := Lib.hid A1
    clear hP hla hQ K
    by_cases hpl : lb = 1
    · subst hpl
      have A2 := Lib.hid A2
      have d2 : ((y : Int) / 128 != 0) = false := by simp; omega
      have d3 : ¬ (1 : Int) < (la : Int) := by omega
      have HLn := Lib.hid (show Q.length = 1 from hQl)
      clear hQl h1 h2
      go_enter Try.func7, Try.ntmps7
      go_wp2_with fail
      refine (A1.out _).mono ?_; rintro e w1 ⟨oa, c, rfl, _, _, _, _, hb⟩
      have HB := Lib.hid (hb); clear hb
      go_wp2_with fail
      refine (A2.out _).mono ?_; rintro e w2 ⟨oq, cq, rfl, _, _, _, hr, hb⟩
      have HB := Lib.hid (low_more HB.out hb); have HQ := Lib.hid hr; clear hr; clear hb
      go_wp2_with fail
      refine (HF.out _).mono ?_; rintro e w3 ⟨rfl, hb⟩
      have HQ := Lib.hid (HQ.out.below hb); have HB := Lib.hid (low_more HB.out hb); clear hb
      go_wp2_with fail
      go_loopw [62] (fun iv wr => ∃ i : Nat, i ≤ 1 ∧ iv = .int .i64 (i : Int) ∧ wr = w3) (fun iv _ => 1 - (intOf iv).toNat)
      case atStart => exact ⟨0, by omega, rfl, rfl⟩
      case round =>
        obtain ⟨i, hi, rfl, hw⟩ := hrel
        have hw' := hw.symm
        subst hw'
        by_cases hlt : i < 1
        · have hlt1 : (i : Int) < 1 := by omega
          obtain ⟨y, hy⟩ : ∃ y, Q[i]? = some y := ⟨_, List.getElem?_eq_getElem (by have := HLn.out; omega)⟩
          obtain ⟨g, o, rfl, hcell⟩ := HQ.out i y hy
          have hl := HLast.out i y hy
          rw [HLn.out] at hl
          clear hy
          by_cases he : i + 1 = 1
          · have hy1 : (y : Int) < 128 := by have := hl.2 he; omega
            have hi1 : ((i : Int) == 0) = true := beq_iff_eq.2 (by omega)
            clear hl he
            go_wp2_with fail
            go_roundw
            case rel => exact ⟨i + 1, by omega, by go_num, trivial⟩
            case measure => simp [intOf]; omega
          · have hy1 : ¬ (y : Int) < 128 := fun h => he (hl.1 (by omega))
            have hi1 : ((i : Int) == 0) = false := beq_eq_false_iff_ne.2 (by omega)
            clear hl he
            go_wp2_with fail
            go_roundw
            case rel => exact ⟨i + 1, by omega, by go_num, trivial⟩
            case measure => simp [intOf]; omega
        · have hlt1 : ¬ (i : Int) < 1 := by omega
          go_wp2_with fail
          go_ret
          exact ⟨rfl, HB.out⟩
    by_cases hpl : lb = 2
    · subst hpl
      have A2 := Lib.hid A2
      have d1 : ((y : Int) / 128 == 0) = false := beq_eq_false_iff_ne.2 (by have := h2 (by decide); omega)
      have d2 : ((y : Int) / 16384 != 0) = false := by simp; omega
      have d3 : ¬ (2 : Int) < (la : Int) := by omega
      have HLn := Lib.hid (show Q.length = 2 from hQl)
      clear hQl h1 h2
      go_enter Try.func7, Try.ntmps7
      go_wp2_with fail
      refine (A1.out _).mono ?_; rintro e w1 ⟨oa, c, rfl, _, _, _, _, hb⟩
      have HB := Lib.hid (hb); clear hb
      go_wp2_with fail
      refine (A2.out _).mono ?_; rintro e w2 ⟨oq, cq, rfl, _, _, _, hr, hb⟩
      have HB := Lib.hid (low_more HB.out hb); have HQ := Lib.hid hr; clear hr; clear hb
      go_wp2_with fail
      refine (HF.out _).mono ?_; rintro e w3 ⟨rfl, hb⟩
      have HQ := Lib.hid (HQ.out.below hb); have HB := Lib.hid (low_more HB.out hb); clear hb
      go_wp2_with fail
      go_loopw [62] (fun iv wr => ∃ i : Nat, i ≤ 2 ∧ iv = .int .i64 (i : Int) ∧ wr = w3) (fun iv _ => 2 - (intOf iv).toNat)
      case atStart => exact ⟨0, by omega, rfl, rfl⟩
      case round =>
        obtain ⟨i, hi, rfl, hw⟩ := hrel
        have hw' := hw.symm
        subst hw'
        by_cases hlt : i < 2
        · have hlt1 : (i : Int) < 2 := by omega
          obtain ⟨y, hy⟩ : ∃ y, Q[i]? = some y := ⟨_, List.getElem?_eq_getElem (by have := HLn.out; omega)⟩
          obtain ⟨g, o, rfl, hcell⟩ := HQ.out i y hy
          have hl := HLast.out i y hy
          rw [HLn.out] at hl
          clear hy
          by_cases he : i + 1 = 2
          · have hy1 : (y : Int) < 128 := by have := hl.2 he; omega
            have hi1 : ((i : Int) == 1) = true := beq_iff_eq.2 (by omega)
            clear hl he
            go_wp2_with fail
            go_roundw
            case rel => exact ⟨i + 1, by omega, by go_num, trivial⟩
            case measure => simp [intOf]; omega
          · have hy1 : ¬ (y : Int) < 128 := fun h => he (hl.1 (by omega))
            have hi1 : ((i : Int) == 1) = false := beq_eq_false_iff_ne.2 (by omega)
            clear hl he
            go_wp2_with fail
            go_roundw
            case rel => exact ⟨i + 1, by omega, by go_num, trivial⟩
            case measure => simp [intOf]; omega
        · have hlt1 : ¬ (i : Int) < 2 := by omega
          go_wp2_with fail
          go_ret
          exact ⟨rfl, HB.out⟩
    by_cases hpl : lb = 3
    · subst hpl
      have A2 := Lib.hid A2
      have d1 : ((y : Int) / 16384 == 0) = false := beq_eq_false_iff_ne.2 (by have := h2 (by decide); omega)
      have d2 : ((y : Int) / 2097152 != 0) = false := by simp; omega
      have d3 : ¬ (3 : Int) < (la : Int) := by omega
      have HLn := Lib.hid (show Q.length = 3 from hQl)
      clear hQl h1 h2
      go_enter Try.func7, Try.ntmps7
      go_wp2_with fail
      refine (A1.out _).mono ?_; rintro e w1 ⟨oa, c, rfl, _, _, _, _, hb⟩
      have HB := Lib.hid (hb); clear hb
      go_wp2_with fail
      refine (A2.out _).mono ?_; rintro e w2 ⟨oq, cq, rfl, _, _, _, hr, hb⟩
      have HB := Lib.hid (low_more HB.out hb); have HQ := Lib.hid hr; clear hr; clear hb
      go_wp2_with fail
      refine (HF.out _).mono ?_; rintro e w3 ⟨rfl, hb⟩
      have HQ := Lib.hid (HQ.out.below hb); have HB := Lib.hid (low_more HB.out hb); clear hb
      go_wp2_with fail
      go_loopw [62] (fun iv wr => ∃ i : Nat, i ≤ 3 ∧ iv = .int .i64 (i : Int) ∧ wr = w3) (fun iv _ => 3 - (intOf iv).toNat)
      case atStart => exact ⟨0, by omega, rfl, rfl⟩
      case round =>
        obtain ⟨i, hi, rfl, hw⟩ := hrel
        have hw' := hw.symm
        subst hw'
        by_cases hlt : i < 3
        · have hlt1 : (i : Int) < 3 := by omega
          obtain ⟨y, hy⟩ : ∃ y, Q[i]? = some y := ⟨_, List.getElem?_eq_getElem (by have := HLn.out; omega)⟩
          obtain ⟨g, o, rfl, hcell⟩ := HQ.out i y hy
          have hl := HLast.out i y hy
          rw [HLn.out] at hl
          clear hy
          by_cases he : i + 1 = 3
          · have hy1 : (y : Int) < 128 := by have := hl.2 he; omega
            have hi1 : ((i : Int) == 2) = true := beq_iff_eq.2 (by omega)
            clear hl he
            go_wp2_with fail
            go_roundw
            case rel => exact ⟨i + 1, by omega, by go_num, trivial⟩
            case measure => simp [intOf]; omega
          · have hy1 : ¬ (y : Int) < 128 := fun h => he (hl.1 (by omega))
            have hi1 : ((i : Int) == 2) = false := beq_eq_false_iff_ne.2 (by omega)
            clear hl he
            go_wp2_with fail
            go_roundw
            case rel => exact ⟨i + 1, by omega, by go_num, trivial⟩
            case measure => simp [intOf]; omega
        · have hlt1 : ¬ (i : Int) < 3 := by omega
          go_wp2_with fail
          go_ret
          exact ⟨rfl, HB.out⟩
    by_cases hpl : lb = 4
    · subst hpl
      have A2 := Lib.hid A2
      have d1 : ((y : Int) / 2097152 == 0) = false := beq_eq_false_iff_ne.2 (by have := h2 (by decide); omega)
      have d2 : ((y : Int) / 268435456 != 0) = false := by simp; omega
      have d3 : ¬ (4 : Int) < (la : Int) := by omega
      have HLn := Lib.hid (show Q.length = 4 from hQl)
      clear hQl h1 h2
      go_enter Try.func7, Try.ntmps7
      go_wp2_with fail
      refine (A1.out _).mono ?_; rintro e w1 ⟨oa, c, rfl, _, _, _, _, hb⟩
      have HB := Lib.hid (hb); clear hb
      go_wp2_with fail
      refine (A2.out _).mono ?_; rintro e w2 ⟨oq, cq, rfl, _, _, _, hr, hb⟩
      have HB := Lib.hid (low_more HB.out hb); have HQ := Lib.hid hr; clear hr; clear hb
      go_wp2_with fail
      refine (HF.out _).mono ?_; rintro e w3 ⟨rfl, hb⟩
      have HQ := Lib.hid (HQ.out.below hb); have HB := Lib.hid (low_more HB.out hb); clear hb
      go_wp2_with fail
      go_loopw [62] (fun iv wr => ∃ i : Nat, i ≤ 4 ∧ iv = .int .i64 (i : Int) ∧ wr = w3) (fun iv _ => 4 - (intOf iv).toNat)
      case atStart => exact ⟨0, by omega, rfl, rfl⟩
      case round =>
        obtain ⟨i, hi, rfl, hw⟩ := hrel
        have hw' := hw.symm
        subst hw'
        by_cases hlt : i < 4
        · have hlt1 : (i : Int) < 4 := by omega
          obtain ⟨y, hy⟩ : ∃ y, Q[i]? = some y := ⟨_, List.getElem?_eq_getElem (by have := HLn.out; omega)⟩
          obtain ⟨g, o, rfl, hcell⟩ := HQ.out i y hy
          have hl := HLast.out i y hy
          rw [HLn.out] at hl
          clear hy
          by_cases he : i + 1 = 4
          · have hy1 : (y : Int) < 128 := by have := hl.2 he; omega
            have hi1 : ((i : Int) == 3) = true := beq_iff_eq.2 (by omega)
            clear hl he
            go_wp2_with fail
            go_roundw
            case rel => exact ⟨i + 1, by omega, by go_num, trivial⟩
            case measure => simp [intOf]; omega
          · have hy1 : ¬ (y : Int) < 128 := fun h => he (hl.1 (by omega))
            have hi1 : ((i : Int) == 3) = false := beq_eq_false_iff_ne.2 (by omega)
            clear hl he
            go_wp2_with fail
            go_roundw
            case rel => exact ⟨i + 1, by omega, by go_num, trivial⟩
            case measure => simp [intOf]; omega
        · have hlt1 : ¬ (i : Int) < 4 := by omega
          go_wp2_with fail
          go_ret
          exact ⟨rfl, HB.out⟩
    have hpl : lb = 5 := by omega
    subst hpl
    have A2 := Lib.hid A2
    have d1 : ((y : Int) / 268435456 == 0) = false := beq_eq_false_iff_ne.2 (by have := h2 (by decide); omega)
    have d2 : ((y : Int) / 34359738368 != 0) = false := by simp; omega
    have d3 : ¬ (5 : Int) < (la : Int) := by omega
    have HLn := Lib.hid (show Q.length = 5 from hQl)
    clear hQl h1 h2
    go_enter Try.func7, Try.ntmps7
    go_wp2_with fail
    refine (A1.out _).mono ?_; rintro e w1 ⟨oa, c, rfl, _, _, _, _, hb⟩
    have HB := Lib.hid (hb); clear hb
    go_wp2_with fail
    refine (A2.out _).mono ?_; rintro e w2 ⟨oq, cq, rfl, _, _, _, hr, hb⟩
    have HB := Lib.hid (low_more HB.out hb); have HQ := Lib.hid hr; clear hr; clear hb
    go_wp2_with fail
    refine (HF.out _).mono ?_; rintro e w3 ⟨rfl, hb⟩
    have HQ := Lib.hid (HQ.out.below hb); have HB := Lib.hid (low_more HB.out hb); clear hb
    go_wp2_with fail
    go_loopw [62] (fun iv wr => ∃ i : Nat, i ≤ 5 ∧ iv = .int .i64 (i : Int) ∧ wr = w3) (fun iv _ => 5 - (intOf iv).toNat)
    case atStart => exact ⟨0, by omega, rfl, rfl⟩
    case round =>
      obtain ⟨i, hi, rfl, hw⟩ := hrel
      have hw' := hw.symm
      subst hw'
      by_cases hlt : i < 5
      · have hlt1 : (i : Int) < 5 := by omega
        obtain ⟨y, hy⟩ : ∃ y, Q[i]? = some y := ⟨_, List.getElem?_eq_getElem (by have := HLn.out; omega)⟩
        obtain ⟨g, o, rfl, hcell⟩ := HQ.out i y hy
        have hl := HLast.out i y hy
        rw [HLn.out] at hl
        clear hy
        by_cases he : i + 1 = 5
        · have hy1 : (y : Int) < 128 := by have := hl.2 he; omega
          have hi1 : ((i : Int) == 4) = true := beq_iff_eq.2 (by omega)
          clear hl he
          go_wp2_with fail
          go_roundw
          case rel => exact ⟨i + 1, by omega, by go_num, trivial⟩
          case measure => simp [intOf]; omega
        · have hy1 : ¬ (y : Int) < 128 := fun h => he (hl.1 (by omega))
          have hi1 : ((i : Int) == 4) = false := beq_eq_false_iff_ne.2 (by omega)
          clear hl he
          go_wp2_with fail
          go_roundw
          case rel => exact ⟨i + 1, by omega, by go_num, trivial⟩
          case measure => simp [intOf]; omega
      · have hlt1 : ¬ (i : Int) < 5 := by omega
        go_wp2_with fail
        go_ret
        exact ⟨rfl, HB.out⟩
end
end Go.Proofs.Ytdfcbkjhcnbheaa
