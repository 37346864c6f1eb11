/-
  Layer 15's laws: the law's own bound. Over the program's own text.
-/
import Derived.Test.YtkjimgidlpocbaaFindHold
import Derived.Test.YtkjimgidlpocbaaListArgs
namespace Go.Proofs.Ytkjimgidlpocbaa
open Go.RowKit

def GreatDone (W : World) (n : Nat) (L : List Li) (e : Ending) (w' : World) : Prop := ∃ b : Bool, e = .returned (.bool b) ∧ (b = false → Small15 n L) ∧ Below W.heap.size W w'
theorem GreatDone.yes {W w' : World} {n : Nat} {L : List Li} {e : Ending} (he : e = .returned (.bool true)) (hb : Below W.heap.size W w') : GreatDone W n L e w' := ⟨true, he, fun h => (by cases h), hb⟩

set_option maxRecDepth 100000 in
set_option maxHeartbeats 3000000 in
theorem great15 (W : World) (oF : Option Addr) (cF n : Nat) (oL : Option Addr) (cL tt : Nat) (L : List Li) (en : L.length = tt) (hL : ReadLi W oL L) (hI : ∀ l ∈ L, LiIn l) :
    Calls Try.prog 6 #[.slice oF n cF, .slice oL tt cL] W fun e w' => GreatDone W n L e w' := by
  by_cases h1 : 100 < n
  · have g1 : decide ((100 : Int) < (n : Int)) = true := decide_eq_true (by omega)
    clear hL hI en h1
    go_enter Try.func6, Try.ntmps6
    go_wp2_with fail
    go_ret
    exact GreatDone.yes rfl (Below.refl _ _)
  have g1 : decide ((100 : Int) < (n : Int)) = false := decide_eq_false (by omega)
  by_cases h2 : 300 < tt
  · have g2 : decide ((300 : Int) < (tt : Int)) = true := decide_eq_true (by omega)
    clear hL hI en h2
    go_enter Try.func6, Try.ntmps6
    go_wp2_with fail
    go_ret
    exact GreatDone.yes rfl (Below.refl _ _)
  have g2 : decide ((300 : Int) < (tt : Int)) = false := decide_eq_false (by omega)
  have HL := Lib.hid hL
  have HI := Lib.hid hI
  have HN := Lib.hid en
  have H12 := Lib.hid (And.intro h1 h2)
  have httb : tt ≤ 300 := by omega
  clear hL hI en h1 h2
  go_enter Try.func6, Try.ntmps6
  go_wp2_with fail
  go_loopw [5, 20] (fun sv iv wr => ∃ i s : Nat, i ≤ tt ∧ iv = .int .i64 (i : Int) ∧ sv = .int .i64 (s : Int) ∧ s ≤ 4096 ∧ Hid (sumLi (L.take i) = s ∧ ∀ j l, j < i → L[j]? = some l → l.ents.length ≤ 100 ∧ l.key.size ≤ 17) ∧ Below W.heap.size W wr) (fun _ iv _ => tt - (intOf iv).toNat)
  case atStart => exact ⟨0, 0, by omega, rfl, rfl, by omega, Lib.hid ⟨rfl, fun j l hj => absurd hj (by omega)⟩, Below.refl _ _⟩
  case round =>
    obtain ⟨i, s, hi, rfl, rfl, hs, HS, hlow⟩ := hrel
    have HW := Lib.hid hlow
    by_cases hlt : i < tt
    · have hlt1 : (i : Int) < (tt : Int) := by omega
      obtain ⟨x, hx⟩ : ∃ x, L[i]? = some x := ⟨_, List.getElem?_eq_getElem (by rw [HN.out]; exact hlt)⟩
      obtain ⟨g, oo, hoL, c0, c1, p, c2, pa, pc, rfl, r1, r2, r3, r4⟩ := HL.out i x hx
      subst hoL
      have c0 := below_cell c0 hlow
      have c1 := below_cell c1 hlow
      have c2 := below_cell c2 hlow
      obtain ⟨_, hkz, hen⟩ := HI.out x (List.mem_of_getElem? hx)
      obtain ⟨kk, rr, es⟩ := x
      dsimp only at c0 c1 c2 r4 hkz hen
      obtain ⟨m, hm⟩ : ∃ m, es.length = m := ⟨_, rfl⟩
      rw [hm] at c2
      have HM := Lib.hid hm
      have HRe := Lib.hid r4
      have HEn := Lib.hid hen
      obtain ⟨kz, hkk⟩ : ∃ kz, kk.size = kz := ⟨_, rfl⟩
      have hkb : kz ≤ 281474976710656 := by unfold reachBytes at hkz; omega
      obtain ⟨k1, hk1⟩ : ∃ k1, 1 + kz = k1 := ⟨_, rfl⟩
      obtain ⟨t, ht⟩ : ∃ t, s + k1 = t := ⟨_, rfl⟩
      have z0 : ((kk.size : Nat) : Int) = (kz : Int) := by rw [hkk]
      have z1 : 1 + (kz : Int) = (k1 : Int) := by omega
      have z2 : IntKind.i64.wrap (1 + (kz : Int)) = (k1 : Int) := by rw [z1]; exact IntWalk.i64_in _ (by omega)
      have z3 : (s : Int) + (k1 : Int) = (t : Int) := by omega
      have z4 : IntKind.i64.wrap ((s : Int) + (k1 : Int)) = (t : Int) := by rw [z3]; exact IntWalk.i64_in _ (by omega)
      have z5 : IntKind.i64.wrap (k1 : Int) = (k1 : Int) := IntWalk.i64_in _ (by omega)
      have z6 : IntKind.i64.wrap (t : Int) = (t : Int) := IntWalk.i64_in _ (by omega)
      have z7 : goInt kk.size = .int .i64 (kz : Int) := by rw [hkk]; rfl
      have HKz := Lib.hid hkk
      have HSn := Lib.hid (show ∀ u, t + sumE es = u → sumLi (L.take (i + 1)) = u from fun u hu => by
        rw [li_take hx, sumLi_append, HS.out.1]
        simp only [sumLi]
        omega)
      have HEs := Lib.hid (show m ≤ 100 → kz ≤ 17 → ∀ j l, j < i + 1 → L[j]? = some l → l.ents.length ≤ 100 ∧ l.key.size ≤ 17 from fun h h2 j l hj hl => by
        by_cases hji : j < i
        · exact HS.out.2 j l hji hl
        · obtain rfl : j = i := by omega
          rw [hx] at hl
          injection hl with hl
          subst hl
          dsimp only
          exact ⟨by rw [HM.out]; exact h, by rw [HKz.out]; exact h2⟩)
      have HWa := Lib.hid (low_new (o := .cells #[.string kk, .int .i64 rr, .slice pa m pc] 34) hlow)
      clear hx r4 hm hkz hen hlow r1 r2 r3 hk1 ht hkk
      by_cases hb1 : 4096 < t
      · have g3 : decide ((4096 : Int) < (t : Int)) = true := decide_eq_true (by omega)
        have g3n : decide (4096 < t) = true := decide_eq_true hb1
        clear hb1
        go_wp2_with fail
        go_ret
        exact GreatDone.yes rfl HWa.out
      have g3 : decide ((4096 : Int) < (t : Int)) = false := decide_eq_false (by omega)
      have g3n : decide (4096 < t) = false := decide_eq_false hb1
      by_cases hb17 : 17 < kz
      · have g17 : decide ((17 : Int) < (kz : Int)) = true := decide_eq_true (by omega)
        have g17n : decide (17 < kz) = true := decide_eq_true hb17
        have g17k : decide (17 < kk.size) = true := decide_eq_true (by have := HKz.out; omega)
        clear hb17 hb1
        go_wp2_with fail
        go_ret
        exact GreatDone.yes rfl HWa.out
      have g17 : decide ((17 : Int) < (kz : Int)) = false := decide_eq_false (by omega)
      have g17n : decide (17 < kz) = false := decide_eq_false hb17
      have g17k : decide (17 < kk.size) = false := decide_eq_false (by have := HKz.out; omega)
      have hzb : kz ≤ 17 := by omega
      clear hb17
      by_cases hb2 : 100 < m
      · have g4 : decide ((100 : Int) < (m : Int)) = true := decide_eq_true (by omega)
        have g4n : decide (100 < m) = true := decide_eq_true hb2
        clear hb2 hb1
        go_wp2_with fail
        go_ret
        exact GreatDone.yes rfl HWa.out
      have g4 : decide ((100 : Int) < (m : Int)) = false := decide_eq_false (by omega)
      have g4n : decide (100 < m) = false := decide_eq_false hb2
      have htb : t ≤ 4096 := by omega
      have hmb : m ≤ 100 := by omega
      clear hb1 hb2
      go_wp2_with fail
      go_loopw [5, 47] (fun sv kv wr => ∃ k u : Nat, k ≤ m ∧ kv = .int .i64 (k : Int) ∧ sv = .int .i64 (u : Int) ∧ u ≤ 4096 ∧ Hid (t + sumE (es.take k) = u) ∧ Below W.heap.size W wr) (fun _ kv _ => m - (intOf kv).toNat)
      case atStart => exact ⟨0, t, by omega, rfl, rfl, htb, Lib.hid rfl, HWa.out⟩
      case round =>
        obtain ⟨k, u, hk, rfl, rfl, hu, HU, hw2⟩ := hrel
        have HW2 := Lib.hid hw2
        by_cases hkm : k < m
        · have hkm1 : (k : Int) < (m : Int) := by omega
          obtain ⟨e, he⟩ : ∃ e, es[k]? = some e := ⟨_, List.getElem?_eq_getElem (by rw [HM.out]; exact hkm)⟩
          obtain ⟨gp, op, hpa, d0, p, d1, qa, qc, rfl, p1, p2, p3, p4⟩ := HRe.out k e he
          subst hpa
          obtain ⟨q, hq⟩ : ∃ q, e.2.length = q := ⟨_, rfl⟩
          rw [hq] at d1
          have d0 := below_cell d0 hw2
          have d1 := below_cell d1 hw2
          have hqb : q ≤ 281474976710656 := by have h1 := (HEn.out e (List.mem_of_getElem? he)).2; rw [hq] at h1; unfold reachBytes at h1; omega
          obtain ⟨q1, hq1⟩ : ∃ q1, 1 + q = q1 := ⟨_, rfl⟩
          obtain ⟨v, hv⟩ : ∃ v, u + q1 = v := ⟨_, rfl⟩
          have y1 : 1 + (q : Int) = (q1 : Int) := by omega
          have y2 : IntKind.i64.wrap (1 + (q : Int)) = (q1 : Int) := by rw [y1]; exact IntWalk.i64_in _ (by omega)
          have y3 : (u : Int) + (q1 : Int) = (v : Int) := by omega
          have y4 : IntKind.i64.wrap ((u : Int) + (q1 : Int)) = (v : Int) := by rw [y3]; exact IntWalk.i64_in _ (by omega)
          have y5 : IntKind.i64.wrap (q1 : Int) = (q1 : Int) := IntWalk.i64_in _ (by omega)
          have y6 : IntKind.i64.wrap (v : Int) = (v : Int) := IntWalk.i64_in _ (by omega)
          have HV := Lib.hid (show t + sumE (es.take (k + 1)) = v by
            rw [List.take_add_one, he, sumE_append]
            simp only [Option.toList, sumE]
            have := HU.out
            omega)
          clear he hq hq1 hv hw2 p1 p2 p3 p4
          by_cases hb3 : 4096 < v
          · have g5 : decide ((4096 : Int) < (v : Int)) = true := decide_eq_true (by omega)
            have g5n : decide (4096 < v) = true := decide_eq_true hb3
            clear hb3
            go_wp2_with fail
            go_ret
            exact GreatDone.yes rfl (low_new HW2.out)
          · have g5 : decide ((4096 : Int) < (v : Int)) = false := decide_eq_false (by omega)
            have g5n : decide (4096 < v) = false := decide_eq_false hb3
            have hvb : v ≤ 4096 := by omega
            clear hb3
            go_wp2_with fail
            go_roundw
            case rel => exact ⟨k + 1, v, by omega, by go_num, rfl, hvb, HV, low_new HW2.out⟩
            case measure => simp [intOf]; omega
        · obtain rfl : k = m := by omega
          have HU2 := Lib.hid (HSn.out u (by have := HU.out; rwa [List.take_of_length_le (by rw [HM.out]; exact Nat.le_refl _)] at this))
          have HE2 := Lib.hid (HEs.out hmb hzb)
          clear hw2
          go_wp2_with fail
          go_roundw
          case rel => exact ⟨i + 1, u, by omega, by go_num, rfl, hu, Lib.hid ⟨HU2.out, HE2.out⟩, HW2.out⟩
          case measure => simp [intOf]; omega
    · obtain rfl : i = tt := by omega
      have HSm := Lib.hid (show Small15 n L from ⟨by have := H12.out; omega, by have := H12.out; have := HN.out; omega, by
        have := HS.out.1
        rw [List.take_of_length_le (by rw [HN.out]; exact Nat.le_refl _)] at this
        omega, fun l hl => by
        obtain ⟨j, hj⟩ := List.getElem?_of_mem hl
        exact HS.out.2 j l (by have := (List.getElem?_eq_some_iff.1 hj).1; rw [HN.out] at this; exact this) hj⟩)
      clear hlow
      go_wp2_with fail
      go_ret
      exact ⟨false, rfl, fun _ => HSm.out, HW.out⟩

end Go.Proofs.Ytkjimgidlpocbaa
