/-
  The reference of layer 14: Read. Over the program's own text.
  The laws of layer 14 that make and read. Over the program's own text.
  The laws of layer 14 that read and make again, and that make at two addresses. Over the program's own text.
  The law of layer 14 that makes at two addresses. Over the program's own text.
-/
import Derived.Test.YtpmhkmakkeckkaaImgAllB
import Derived.Test.YtpmhkmakkeckkaaImgAllC
import Derived.Test.YtpmhkmakkeckkaaOwnSet
namespace Go.Proofs.Ytpmhkmakkeckkaa
open Go.RowKit Go.Deep

set_option maxRecDepth 100000 in
theorem parts_bad1 {at_ : Int} {n : Nat} {C : List Nat} {p : Nat × Nat} {H : List (Nat × Nat)} {h : Int} (hh : (p.2 : Int) ≠ at_ + h) : partsR at_ n C (p :: H) h = none := by rw [partsR, if_pos (.inl (by omega))]
set_option maxRecDepth 100000 in
theorem parts_bad4 {at_ : Int} {n : Nat} {C : List Nat} {p : Nat × Nat} {H : List (Nat × Nat)} {h : Int} (hh : endI at_ C H < h ∨ (C.length : Int) < endI at_ C H) : partsR at_ n C (p :: H) h = none := by rw [partsR, if_pos (.inr hh)]
set_option maxRecDepth 100000 in
theorem parts_bad0 {at_ : Int} {n : Nat} {C : List Nat} {p : Nat × Nat} {H : List (Nat × Nat)} {h : Int} (hl : listR n p.1 (cutC C h (endI at_ C H)) = none) : partsR at_ n C (p :: H) h = none := by
  rw [partsR]
  split
  · rfl
  · rw [hl]
set_option maxRecDepth 100000 in
theorem parts_bad2 {at_ : Int} {n : Nat} {C : List Nat} {p : Nat × Nat} {H : List (Nat × Nat)} {h : Nat} (hh : C.length ≤ h) : partsR at_ n C (p :: H) (h : Int) = none := by
  refine parts_bad0 ?_
  unfold cutC
  rw [show ((h : Nat) : Int).toNat = h by omega, List.drop_eq_nil_of_le hh, List.take_nil]
  exact listR_nil _ _
set_option maxRecDepth 100000 in
theorem parts_bad3 {at_ : Int} {n : Nat} {C : List Nat} {p : Nat × Nat} {H : List (Nat × Nat)} {h x : Nat} (hx : C[h]? = some x) (hb : 64 < x) : partsR at_ n C (p :: H) (h : Int) = none := by
  refine parts_bad0 ?_
  obtain ⟨h1, h2⟩ := List.getElem?_eq_some_iff.1 hx
  unfold cutC
  rw [show ((h : Nat) : Int).toNat = h by omega, List.drop_eq_getElem_cons h1, h2]
  cases (endI at_ C H - (h : Int)).toNat with
  | zero => rw [List.take_zero]; exact listR_nil _ _
  | succ k => rw [List.take_succ_cons]; exact listR_big (by simpa using hb)
set_option maxRecDepth 100000 in
theorem parts_go {at_ : Int} {n : Nat} {C : List Nat} {p : Nat × Nat} {H : List (Nat × Nat)} {h : Int} (h1 : (p.2 : Int) = at_ + h) (h2 : h ≤ endI at_ C H) (h3 : endI at_ C H ≤ C.length) {whole : Option (List Li)} {Dn : List Li} (hr : RestI whole Dn (partsR at_ n C (p :: H) h)) :
    (listR n p.1 (cutC C h (endI at_ C H)) = none → whole = none) ∧ ∀ l, listR n p.1 (cutC C h (endI at_ C H)) = some l → RestI whole (Dn ++ [⟨ByteArray.empty, p.1, l⟩]) (partsR at_ n C H (endI at_ C H)) := by
  unfold RestI at hr ⊢
  rw [partsR, if_neg (by rintro (c | c | c); exact c (by omega); omega; omega)] at hr
  refine ⟨fun h => by rw [h] at hr; exact hr, fun l h => ?_⟩
  rw [h] at hr
  rw [hr]
  cases partsR at_ n C H (endI at_ C H) with
  | none => rfl
  | some m => simp
set_option maxRecDepth 100000 in
theorem restI_none {whole : Option (List Li)} {Dn : List Li} {o : Option (List Li)} (hr : RestI whole Dn o) (ho : o = none) : whole = none := by
  unfold RestI at hr
  rw [hr, ho]
  rfl

set_option maxRecDepth 100000 in
set_option maxHeartbeats 8000000 in
theorem ref_Read14 (W : World) (at_ : Int) (oa : Option Addr) (c N : Nat) (C : List Nat) (en : C.length = N) (ha : ReadN .u32 W oa C) (hc : N ≤ c) (hm : c ≤ maxLen) (hl : N ≤ 200000) (hx : ∀ x ∈ C, x < 4294967296) :
    Calls Try.prog 17 #[.int .i64 at_, .slice oa N c] W fun e w' => ReadDone W (readI at_ C) e w' := by
  by_cases h1a : at_ < 0
  case pos =>
    have HNo := Lib.hid (show readI at_ C = none from if_pos (.inl (by unfold badI; omega)))
    have g : decide (at_ < 0) = true := decide_eq_true h1a
    clear ha hx en
    go_enter Try.func17, Try.ntmps17
    go_wp2_with fail
    try rw [Exit.noGoto_ret]
    refine bodyPost_ret (results_tmp3 rfl _ _) rfl ?_
    exact ReadDone.no HNo.out rfl (Below.refl _ _)
  have ga : decide (at_ < 0) = false := decide_eq_false h1a
  by_cases h1b : 65536 < at_
  case pos =>
    have HNo := Lib.hid (show readI at_ C = none from if_pos (.inl (by unfold badI; omega)))
    have g : decide (65536 < at_) = true := decide_eq_true h1b
    clear ha hx en
    go_enter Try.func17, Try.ntmps17
    go_wp2_with fail
    try rw [Exit.noGoto_ret]
    refine bodyPost_ret (results_tmp3 rfl _ _) rfl ?_
    exact ReadDone.no HNo.out rfl (Below.refl _ _)
  have gb : decide (65536 < at_) = false := decide_eq_false h1b
  have h1 : 0 ≤ at_ ∧ at_ ≤ 65536 := by omega
  by_cases h2 : 2 ≤ N
  case neg =>
    have HNo := Lib.hid (show readI at_ C = none from if_pos (.inl (by unfold badI; omega)))
    have g : decide ((N : Int) < 2) = true := decide_eq_true (by omega)
    clear ha hx en h1
    go_enter Try.func17, Try.ntmps17
    go_wp2_with fail
    try rw [Exit.noGoto_ret]
    refine bodyPost_ret (results_tmp3 rfl _ _) rfl ?_
    exact ReadDone.no HNo.out rfl (Below.refl _ _)
  have g2 : decide ((N : Int) < 2) = false := decide_eq_false (by omega)
  obtain ⟨x0, hx0⟩ : ∃ x, C[0]? = some x := ⟨_, List.getElem?_eq_getElem (by omega)⟩
  obtain ⟨x1, hx1⟩ : ∃ x, C[1]? = some x := ⟨_, List.getElem?_eq_getElem (by omega)⟩
  have e0 : C.getD 0 0 = x0 := by rw [List.getD_eq_getElem?_getD, hx0]; rfl
  have e1 : C.getD 1 0 = x1 := by rw [List.getD_eq_getElem?_getD, hx1]; rfl
  have hb0 : x0 < 4294967296 := hx x0 (List.mem_of_getElem? hx0)
  have hb1 : x1 < 4294967296 := hx x1 (List.mem_of_getElem? hx1)
  obtain ⟨g, oo, hoa, d0⟩ := ha 0 x0 hx0
  obtain ⟨_, _, hq, d1⟩ := ha 1 x1 hx1
  rw [hoa] at hq
  injection hq with hq
  injection hq with hq1 hq2
  subst hq1 hq2 hoa
  rw [Nat.add_zero] at d0
  have h2n : 0 < N := by omega
  have h2m : 1 < N := by omega
  by_cases h3 : x0 = 0
  case pos =>
    have HNo := Lib.hid (show readI at_ C = none from if_pos (.inl (by unfold badI; omega)))
    have gg : ((x0 : Int) == 0) = true := by simp [h3]
    clear ha hx en h1 hx0 hx1 e0 e1 h3
    go_enter Try.func17, Try.ntmps17
    go_wp2_with fail
    try rw [Exit.noGoto_ret]
    refine bodyPost_ret (results_tmp3 rfl _ _) rfl ?_
    exact ReadDone.no HNo.out rfl (Below.refl _ _)
  have g3 : ((x0 : Int) == 0) = false := beq_eq_false_iff_ne.2 (by omega)
  by_cases h4 : 65 < x0
  case pos =>
    have HNo := Lib.hid (show readI at_ C = none from if_pos (.inl (by unfold badI; omega)))
    have gg : decide ((65 : Int) < (x0 : Int)) = true := decide_eq_true (by omega)
    clear ha hx en h1 hx0 hx1 e0 e1
    go_enter Try.func17, Try.ntmps17
    go_wp2_with fail
    try rw [Exit.noGoto_ret]
    refine bodyPost_ret (results_tmp3 rfl _ _) rfl ?_
    exact ReadDone.no HNo.out rfl (Below.refl _ _)
  have g4 : decide ((65 : Int) < (x0 : Int)) = false := decide_eq_false (by omega)
  by_cases h5 : 256 < x1
  case pos =>
    have HNo := Lib.hid (show readI at_ C = none from if_pos (.inl (by unfold badI; omega)))
    have gg : decide ((256 : Int) < (x1 : Int)) = true := decide_eq_true (by omega)
    clear ha hx en h1 hx0 hx1 e0 e1
    go_enter Try.func17, Try.ntmps17
    go_wp2_with fail
    try rw [Exit.noGoto_ret]
    refine bodyPost_ret (results_tmp3 rfl _ _) rfl ?_
    exact ReadDone.no HNo.out rfl (Below.refl _ _)
  have g5 : decide ((256 : Int) < (x1 : Int)) = false := decide_eq_false (by omega)
  have HBadI := Lib.hid (show ¬ badI at_ C from by unfold badI; rw [e0, e1]; omega)
  obtain ⟨n, hn⟩ : ∃ n, x0 - 1 = n := ⟨_, rfl⟩
  have n1 : (x0 : Int) - 1 = (n : Int) := by omega
  have n2 : IntKind.i64.wrap ((x0 : Int) - 1) = (n : Int) := by rw [n1]; exact IntWalk.i64_in _ (by omega)
  have n3 : IntKind.i64.wrap (n : Int) = (n : Int) := IntWalk.i64_in _ (by omega)
  have n4 : IntKind.i64.wrap (x1 : Int) = (x1 : Int) := IntWalk.i64_in _ (by omega)
  have n5 : IntKind.i64.wrap (x0 : Int) = (x0 : Int) := IntWalk.i64_in _ (by omega)
  have hnb : n ≤ 64 := by omega
  have htb : x1 ≤ 256 := by omega
  obtain ⟨M, hM⟩ : ∃ M, 4 * n = M := ⟨_, rfl⟩
  obtain ⟨hh, hhh⟩ : ∃ h, 2 + M = h := ⟨_, rfl⟩
  obtain ⟨t2, ht2⟩ : ∃ t2, 2 * x1 = t2 := ⟨_, rfl⟩
  obtain ⟨k, hk⟩ : ∃ k, hh + t2 = k := ⟨_, rfl⟩
  have q1 : 4 * (n : Int) = (M : Int) := by omega
  have q2 : IntKind.i64.wrap (4 * (n : Int)) = (M : Int) := by rw [q1]; exact IntWalk.i64_in _ (by omega)
  have q3 : 2 + (M : Int) = (hh : Int) := by omega
  have q4 : IntKind.i64.wrap (2 + (M : Int)) = (hh : Int) := by rw [q3]; exact IntWalk.i64_in _ (by omega)
  have q5 : 2 * (x1 : Int) = (t2 : Int) := by omega
  have q6 : IntKind.i64.wrap (2 * (x1 : Int)) = (t2 : Int) := by rw [q5]; exact IntWalk.i64_in _ (by omega)
  have q7 : (hh : Int) + (t2 : Int) = (k : Int) := by omega
  have q8 : IntKind.i64.wrap ((hh : Int) + (t2 : Int)) = (k : Int) := by rw [q7]; exact IntWalk.i64_in _ (by omega)
  have q9 : IntKind.i64.wrap (M : Int) = (M : Int) := IntWalk.i64_in _ (by omega)
  have q10 : IntKind.i64.wrap (hh : Int) = (hh : Int) := IntWalk.i64_in _ (by omega)
  have q11 : IntKind.i64.wrap (t2 : Int) = (t2 : Int) := IntWalk.i64_in _ (by omega)
  have q12 : IntKind.i64.wrap (k : Int) = (k : Int) := IntWalk.i64_in _ (by omega)
  have hah : aheadI C = k := by unfold aheadI; rw [e0, e1, hn]; omega
  by_cases h6 : N < k
  case pos =>
    have HNo := Lib.hid (show readI at_ C = none from if_pos (.inr (by omega)))
    have g6 : decide ((N : Int) < (k : Int)) = true := decide_eq_true (by omega)
    have g6n : decide (N < k) = true := decide_eq_true (by omega)
    clear ha hx h1 en hx0 hx1 e0 e1 hn n1 hk hhh hah h3 h4 h5 h2 hM ht2
    go_enter Try.func17, Try.ntmps17
    go_wp2_with fail
    try rw [Exit.noGoto_ret]
    refine bodyPost_ret (results_tmp3 rfl _ _) rfl ?_
    exact ReadDone.no HNo.out rfl (Below.refl _ _)
  have g6 : decide ((N : Int) < (k : Int)) = false := decide_eq_false (by omega)
  have g6n : decide (N < k) = false := decide_eq_false (by omega)
  obtain ⟨F, hF⟩ : ∃ F, (C.drop 2).take M = F := ⟨_, rfl⟩
  have hFl : F.length = 4 * n := by rw [← hF, List.length_take, List.length_drop]; omega
  obtain ⟨H, hH⟩ : ∃ H, pairsI C hh x1 = H := ⟨_, rfl⟩
  obtain ⟨P, hP⟩ : ∃ P, partsR at_ n C H (k : Int) = P := ⟨_, rfl⟩
  have HRd := Lib.hid (show readI at_ C = P.map (fun L => (F, L)) from by
    unfold readI
    rw [if_neg (by rintro (c | c); exact HBadI.out c; omega), e0, e1, hn, hah, hM, hhh, hH, hP, hF]
    cases P <;> rfl)
  have HHl := Lib.hid (show H.length = x1 by rw [← hH, pairsI_length])
  have HP := Lib.hid hP
  have HA := Lib.hid ha
  have HFl := Lib.hid hFl
  have HF := Lib.hid hF
  have HH := Lib.hid hH
  have HN := Lib.hid en
  have HX := Lib.hid hx
  have HMx := Lib.hid hm
  have HDecR := Lib.hid ref_decode13
  have HNum := Lib.hid (show 4 * n = M ∧ 2 + M = hh ∧ 2 * x1 = t2 ∧ hh + t2 = k ∧ k ≤ N by omega)
  obtain ⟨iR, eR0, eR1, eR2, eR3⟩ := info_parts info_row
  have HIR := Lib.hid (And.intro eR0 (And.intro eR1 (And.intro eR2 eR3)))
  obtain ⟨iL, eL0, eL1, eL2, eL3⟩ := info_parts info_list
  have HIL := Lib.hid (And.intro eL0 (And.intro eL1 (And.intro eL2 eL3)))
  have hkb : k ≤ 1000 := by omega
  have HAt := Lib.hid (show 0 ≤ at_ ∧ at_ ≤ 65536 by omega)
  have HR0 := Lib.hid (show OwnRw (W.alloc (.cells #[] 54)) W.heap.size (.slice (some ⟨W.heap.size, 0, none⟩) 0 0) 0 (F.take (4 * 0)) from World.ownsRow_lit (base := W.heap.size) (e := 54) (size := 4) W #[] 0 (Nat.le_refl _) (by decide) (by simp))
  clear ha hx h1 en hx0 hx1 e0 e1 hn n1 hk hhh hah h3 h4 h5 h2 hM hF hP hFl hH ht2 eR0 eR1 eR2 eR3 eL0 eL1 eL2 eL3 h6 hm
  go_enter Try.func17, Try.ntmps17
  go_wp2_with fail
  go_loopw [9, 10] (fun rv dv wr => ∃ d : Nat, d ≤ n ∧ dv = .int .i64 (d : Int) ∧ OwnRw wr W.heap.size rv d (F.take (4 * d)) ∧ Below W.heap.size W wr) (fun _ dv _ => n - (intOf dv).toNat)
  case atStart => exact ⟨0, by omega, rfl, HR0.out, below_one⟩
  case round =>
    obtain ⟨ix, hi, rfl, hown, hlow⟩ := hrel
    have HOw := Lib.hid hown
    have HLw := Lib.hid hlow
    obtain ⟨oc, cc, hv, _, _, _, _⟩ := hown.reads
    subst hv
    by_cases hlt : ix < n
    · have hlt1 : (ix : Int) < (n : Int) := by omega
      obtain ⟨xa, xb, xc, xd, f0, f1, f2, f3, f4⟩ := take4 HFl.out hlt
      have hat : ∀ (s y : Nat), F[s]? = some y → C[2 + s]? = some y := fun s y h => by
        rw [← HF.out, List.getElem?_take] at h
        split at h
        · rwa [List.getElem?_drop] at h
        · cases h
      obtain ⟨k4, hk4⟩ : ∃ k4, 4 * ix = k4 := ⟨_, rfl⟩
      obtain ⟨k2, hk2⟩ : ∃ k2, 2 + k4 = k2 := ⟨_, rfl⟩
      obtain ⟨k3, hk3⟩ : ∃ k3, 3 + k4 = k3 := ⟨_, rfl⟩
      obtain ⟨k5, hk5⟩ : ∃ k5, 4 + k4 = k5 := ⟨_, rfl⟩
      obtain ⟨k6, hk6⟩ : ∃ k6, 5 + k4 = k6 := ⟨_, rfl⟩
      obtain ⟨_, _, hq, c0⟩ := HA.out k2 xa (by rw [← hk2, ← hk4]; exact hat _ _ f0)
      injection hq with hq; injection hq with hq1 hq2; subst hq1 hq2
      obtain ⟨_, _, hq, c1⟩ := HA.out k3 xb (by rw [show k3 = 2 + (4 * ix + 1) by omega]; exact hat _ _ f1)
      injection hq with hq; injection hq with hq1 hq2; subst hq1 hq2
      obtain ⟨_, _, hq, c2⟩ := HA.out k5 xc (by rw [show k5 = 2 + (4 * ix + 2) by omega]; exact hat _ _ f2)
      injection hq with hq; injection hq with hq1 hq2; subst hq1 hq2
      obtain ⟨_, _, hq, c3⟩ := HA.out k6 xd (by rw [show k6 = 2 + (4 * ix + 3) by omega]; exact hat _ _ f3)
      injection hq with hq; injection hq with hq1 hq2; subst hq1 hq2
      have HC0 := Lib.hid (And.intro c0 (And.intro c1 (And.intro c2 c3)))
      have w1 : 4 * (ix : Int) = (k4 : Int) := by omega
      have w2 : IntKind.i64.wrap (4 * (ix : Int)) = (k4 : Int) := by rw [w1]; exact IntWalk.i64_in _ (by omega)
      have w3 : 2 + (k4 : Int) = (k2 : Int) := by omega
      have w4 : IntKind.i64.wrap (2 + (k4 : Int)) = (k2 : Int) := by rw [w3]; exact IntWalk.i64_in _ (by omega)
      have w5 : 3 + (k4 : Int) = (k3 : Int) := by omega
      have w6 : IntKind.i64.wrap (3 + (k4 : Int)) = (k3 : Int) := by rw [w5]; exact IntWalk.i64_in _ (by omega)
      have w7 : 4 + (k4 : Int) = (k5 : Int) := by omega
      have w8 : IntKind.i64.wrap (4 + (k4 : Int)) = (k5 : Int) := by rw [w7]; exact IntWalk.i64_in _ (by omega)
      have w9 : 5 + (k4 : Int) = (k6 : Int) := by omega
      have w10 : IntKind.i64.wrap (5 + (k4 : Int)) = (k6 : Int) := by rw [w9]; exact IntWalk.i64_in _ (by omega)
      have v1 : IntKind.i64.wrap (k4 : Int) = (k4 : Int) := IntWalk.i64_in _ (by omega)
      have v2 : IntKind.i64.wrap (k2 : Int) = (k2 : Int) := IntWalk.i64_in _ (by omega)
      have v3 : IntKind.i64.wrap (k3 : Int) = (k3 : Int) := IntWalk.i64_in _ (by omega)
      have v4 : IntKind.i64.wrap (k5 : Int) = (k5 : Int) := IntWalk.i64_in _ (by omega)
      have v5 : IntKind.i64.wrap (k6 : Int) = (k6 : Int) := IntWalk.i64_in _ (by omega)
      have hkN : k2 < N ∧ k3 < N ∧ k5 < N ∧ k6 < N := by have := HNum.out; omega
      obtain ⟨hN2, hN3, hN5, hN6⟩ := hkN
      have HT := Lib.hid f4
      have HRow := Lib.hid (show wr.ownsRow W.heap.size 54 4 (.slice oc ix cc) ix (numC .u32 (F.take (4 * ix))) from hown)
      clear f0 f1 f2 f3 f4 hown hlow hat hk4 hk2 hk3 hk5 hk6 c0 c1 c2 c3 d0 d1
      go_wp2_with fail
      refine wp_region_late (fun (p : Nat × Value × Value) jz => [.slice oc ix cc, .slice (some ⟨g, oo, none⟩) N c, .int .i64 (ix : Int), .int .i64 (k4 : Int), .int .i64 (k2 : Int), .pointer (some ⟨g, oo + k2, none⟩), .int .u32 (xa : Int), .slice (some ⟨g, oo, none⟩) N c, .int .i64 (ix : Int), .int .i64 (k4 : Int), .int .i64 (k3 : Int), .pointer (some ⟨g, oo + k3, none⟩), .int .u32 (xb : Int), .slice (some ⟨g, oo, none⟩) N c, .int .i64 (ix : Int), .int .i64 (k4 : Int), .int .i64 (k5 : Int), .pointer (some ⟨g, oo + k5, none⟩), .int .u32 (xc : Int), .slice (some ⟨g, oo, none⟩) N c, .int .i64 (ix : Int), .int .i64 (k4 : Int), .int .i64 (k6 : Int), .pointer (some ⟨g, oo + k6, none⟩), .int .u32 (xd : Int), .agg #[.int .u32 (xa : Int), .int .u32 (xb : Int), .int .u32 (xc : Int), .int .u32 (xd : Int)], .slice (some ⟨p.1, 0, none⟩) 1 1, p.2.1, p.2.2].getD jz undef)
        (fun p l wx => RowLate W 54 4 ix 1 (.slice oc ix cc) (numC .u32 (F.take (4 * ix))) [.int .u32 (xa : Int), .int .u32 (xb : Int), .int .u32 (xc : Int), .int .u32 (xd : Int)] (l 0) (l 26) (l 27) (l 28) p.1 p.2.1 p.2.2 wx ∧ (l 27 = true → ∃ g9 c9, p.2.1 = .slice (some ⟨g9, 0, none⟩) (ix + 1) c9))
        _ (by kernel_rfl) (fun i j => i == 0 && j == 28) (by kernel_rfl) (fun q => by simp only [putTo, dstOf, Act.put, List.size_toArray, List.length_cons, List.length_nil, List.getElem?_toArray, Nat.reduceAdd, Option.bind_some, List.getElem?_cons_zero, List.getElem?_cons_succ, List.setIfInBounds_toArray, List.set_cons_zero, List.set_cons_succ, List.getD_cons_zero, List.getD_cons_succ]; exact rfl) (0, undef, (.slice oc ix cc)) ?_ ?_ ?_ ?_ ?_
      · exact ⟨RowLate.start HLw.out.drew (owned_below HRow.out (Below.refl _ _).drew), fun h => (by cases h)⟩
      · intro l hc i' j' hL hj
        obtain ⟨rfl, rfl⟩ : i' = 0 ∧ j' = 28 := by simpa using hL
        exact hc 27 _ rfl (hc 28 _ rfl hj ⟨27, .data⟩ (by simp) rfl) ⟨0, .data⟩ (by simp) rfl
      · intro q l wx hR i' j' d hL hd hj
        obtain ⟨rfl, rfl⟩ : i' = 0 ∧ j' = 28 := by simpa using hL
        obtain rfl : 9 = d := Option.some.inj hd
        have hcur := hR.1.cur0 hj
        show some (.slice oc ix cc) = some q.2.2
        rw [hcur]
      · intro i o ho p l wx hR hl he K hK
        rcases i with _ | _ | _ | _ | _ | _ | _ | _ | _ | _ | _ | _ | _ | _ | _ | _ | _ | _ | _ | _ | _ | _ | _ | _ | _ | _ | _ | _ | _ | i
        · obtain rfl : _ = o := Option.some.inj ho
          have hld := hR.1.loaded hl
          have hcur := hld.2
          have HR := Lib.hid (And.intro hld.1 hR.2)
          clear hR hld
          obtain ⟨pb, pv, pc⟩ := p
          dsimp only at hcur
          subst hcur
          go_simp
          exact hK (pb, pv, _) wx (fun _ _ => rfl) HR.out
        · obtain rfl : _ = o := Option.some.inj ho
          have HR := Lib.hid hR
          clear hR
          go_simp
          exact hK p wx (fun _ _ => rfl) HR.out
        · obtain rfl : _ = o := Option.some.inj ho
          have HR := Lib.hid hR
          clear hR
          go_simp
          exact hK p wx (fun _ _ => rfl) HR.out
        · obtain rfl : _ = o := Option.some.inj ho
          have HR := Lib.hid hR
          clear hR
          go_simp
          exact hK p wx (fun _ _ => rfl) HR.out
        · obtain rfl : _ = o := Option.some.inj ho
          have HR := Lib.hid hR
          clear hR
          go_simp
          exact hK p wx (fun _ _ => rfl) HR.out
        · obtain rfl : _ = o := Option.some.inj ho
          have HR := Lib.hid hR
          clear hR
          go_simp
          exact hK p wx (fun _ _ => rfl) HR.out
        · obtain rfl : _ = o := Option.some.inj ho
          have q := below_cell HC0.out.1 hR.1.low
          have HR := Lib.hid hR
          clear hR
          go_simp
          exact hK p wx (fun _ _ => rfl) HR.out
        · obtain rfl : _ = o := Option.some.inj ho
          have HR := Lib.hid hR
          clear hR
          go_simp
          exact hK p wx (fun _ _ => rfl) HR.out
        · obtain rfl : _ = o := Option.some.inj ho
          have HR := Lib.hid hR
          clear hR
          go_simp
          exact hK p wx (fun _ _ => rfl) HR.out
        · obtain rfl : _ = o := Option.some.inj ho
          have HR := Lib.hid hR
          clear hR
          go_simp
          exact hK p wx (fun _ _ => rfl) HR.out
        · obtain rfl : _ = o := Option.some.inj ho
          have HR := Lib.hid hR
          clear hR
          go_simp
          exact hK p wx (fun _ _ => rfl) HR.out
        · obtain rfl : _ = o := Option.some.inj ho
          have HR := Lib.hid hR
          clear hR
          go_simp
          exact hK p wx (fun _ _ => rfl) HR.out
        · obtain rfl : _ = o := Option.some.inj ho
          have q := below_cell HC0.out.2.1 hR.1.low
          have HR := Lib.hid hR
          clear hR
          go_simp
          exact hK p wx (fun _ _ => rfl) HR.out
        · obtain rfl : _ = o := Option.some.inj ho
          have HR := Lib.hid hR
          clear hR
          go_simp
          exact hK p wx (fun _ _ => rfl) HR.out
        · obtain rfl : _ = o := Option.some.inj ho
          have HR := Lib.hid hR
          clear hR
          go_simp
          exact hK p wx (fun _ _ => rfl) HR.out
        · obtain rfl : _ = o := Option.some.inj ho
          have HR := Lib.hid hR
          clear hR
          go_simp
          exact hK p wx (fun _ _ => rfl) HR.out
        · obtain rfl : _ = o := Option.some.inj ho
          have HR := Lib.hid hR
          clear hR
          go_simp
          exact hK p wx (fun _ _ => rfl) HR.out
        · obtain rfl : _ = o := Option.some.inj ho
          have HR := Lib.hid hR
          clear hR
          go_simp
          exact hK p wx (fun _ _ => rfl) HR.out
        · obtain rfl : _ = o := Option.some.inj ho
          have q := below_cell HC0.out.2.2.1 hR.1.low
          have HR := Lib.hid hR
          clear hR
          go_simp
          exact hK p wx (fun _ _ => rfl) HR.out
        · obtain rfl : _ = o := Option.some.inj ho
          have HR := Lib.hid hR
          clear hR
          go_simp
          exact hK p wx (fun _ _ => rfl) HR.out
        · obtain rfl : _ = o := Option.some.inj ho
          have HR := Lib.hid hR
          clear hR
          go_simp
          exact hK p wx (fun _ _ => rfl) HR.out
        · obtain rfl : _ = o := Option.some.inj ho
          have HR := Lib.hid hR
          clear hR
          go_simp
          exact hK p wx (fun _ _ => rfl) HR.out
        · obtain rfl : _ = o := Option.some.inj ho
          have HR := Lib.hid hR
          clear hR
          go_simp
          exact hK p wx (fun _ _ => rfl) HR.out
        · obtain rfl : _ = o := Option.some.inj ho
          have HR := Lib.hid hR
          clear hR
          go_simp
          exact hK p wx (fun _ _ => rfl) HR.out
        · obtain rfl : _ = o := Option.some.inj ho
          have q := below_cell HC0.out.2.2.2 hR.1.low
          have HR := Lib.hid hR
          clear hR
          go_simp
          exact hK p wx (fun _ _ => rfl) HR.out
        · obtain rfl : _ = o := Option.some.inj ho
          have HR := Lib.hid hR
          clear hR
          go_simp
          exact hK p wx (fun _ _ => rfl) HR.out
        · obtain rfl : _ = o := Option.some.inj ho
          have HR := Lib.hid hR
          clear hR
          have h8 : l 27 = false := by
            cases h : l 27 with
            | false => rfl
            | true => exact absurd (HR.out.1.o87 h) (by rw [hl]; decide)
          have HM := Lib.hid (HR.out.1.made hl _ rfl)
          go_simp
          refine hK (wx.heap.size, p.2) _ (fun j hj => ?_) ⟨HM.out, HR.out.2⟩
          rcases j with _ | _ | _ | _ | _ | _ | _ | _ | _ | _ | _ | _ | _ | _ | _ | _ | _ | _ | _ | _ | _ | _ | _ | _ | _ | _ | _ | _ | _ | j
          all_goals first | rfl | (rw [hl] at hj; cases hj) | (rw [h8] at hj; cases hj)
        · obtain rfl : _ = o := Option.some.inj ho
          have h7 : l 26 = true := he ⟨26, .data⟩ (by simp) rfl
          have h0 : l 0 = true := he ⟨0, .data⟩ (by simp) rfl
          have hlit := (hR.1.lit h7).resolve_right (by rw [hl]; decide)
          have hcells : ∀ (j : Nat) (u : Value), ([.int .u32 (xa : Int), .int .u32 (xb : Int), .int .u32 (xc : Int), .int .u32 (xd : Int)] : List Value)[j]? = some u → wx.cell? ((⟨p.1, 0, none⟩ : Addr).add j) = some u := fun j u hj => by
            rw [Addr.add_lit, cell_at hlit]
            simpa using hj
          have HR := Lib.hid hR
          clear hR
          refine wp_append_own wx (.tmp 71) (.tmp 97) 22 rfl W.heap.size 54 iR _ 4 16 Try.underlying22 HIR.out.1 HIR.out.2.1 HIR.out.2.2.1 HIR.out.2.2.2 rfl (by decide) _ ix (numC .u32 (F.take (4 * ix))) rfl (HR.out.1.own hl) ⟨p.1, 0, none⟩ 1 1 [.int .u32 (xa : Int), .int .u32 (xb : Int), .int .u32 (xc : Int), .int .u32 (xd : Int)] rfl rfl hcells (by simp [Value.oneCell']) (by unfold maxLen; omega) (by omega) HR.out.1.low.size ?_
          intro v' w' ho hg _
          obtain ⟨gq, cq, hq⟩ := slice_of (show 0 < ix + 1 by omega) ho
          have h9 := HR.out.1.not9 hl
          refine hK (p.1, v', p.2.2) w' (fun j hj => ?_) ⟨HR.out.1.put h0 h7 hl ho hg, fun _ => ⟨gq, cq, hq⟩⟩
          rcases j with _ | _ | _ | _ | _ | _ | _ | _ | _ | _ | _ | _ | _ | _ | _ | _ | _ | _ | _ | _ | _ | _ | _ | _ | _ | _ | _ | _ | _ | j
          all_goals first | rfl | (rw [hl] at hj; cases hj) | (rw [h9] at hj; cases hj)
        · obtain rfl : _ = o := Option.some.inj ho
          have h8 : l 27 = true := he ⟨27, .data⟩ (by simp) rfl
          obtain ⟨g9, c9, hq⟩ := hR.2 h8
          have HS := Lib.hid (hR.1.set h8)
          have HR := Lib.hid hR.2
          clear hR h8
          obtain ⟨pb, pv, pc⟩ := p
          dsimp only at hq HS
          subst hq
          go_simp
          refine hK (pb, _, .slice (some ⟨g9, 0, none⟩) (ix + 1) c9) wx (fun j hj => ?_) ⟨HS.out, HR.out⟩
          rcases j with _ | _ | _ | _ | _ | _ | _ | _ | _ | _ | _ | _ | _ | _ | _ | _ | _ | _ | _ | _ | _ | _ | _ | _ | _ | _ | _ | _ | _ | j
          all_goals first | rfl | (rw [hl] at hj; cases hj)
        · simp at ho
      · intro p l wx hl hR
        have HO5 := Lib.hid (hR.1.own2 (hl 27 (by decide)))
        have HB5 := Lib.hid hR.1.low
        have hcur := hR.1.cur1 (hl 28 (by decide))
        obtain ⟨g9, c9, hq⟩ := hR.2 (hl 27 (by decide))
        clear hR hl
        obtain ⟨pb, pv, pc⟩ := p
        dsimp only at hcur hq HO5
        subst hcur hq
        have HO6 := Lib.hid (show OwnRw wx W.heap.size (.slice (some ⟨g9, 0, none⟩) (ix + 1) c9) (ix + 1) (F.take (4 * (ix + 1))) from by
          unfold OwnRw
          rw [HT.out, numC_append]
          exact HO5.out)
        go_wp2_with fail
        go_roundw
        case rel => exact ⟨ix + 1, by omega, by go_num, HO6.out, HB5.out⟩
        case measure => simp [intOf]; omega
    · obtain rfl : ix = n := by omega
      rw [List.take_of_length_le (by have := HFl.out; omega)] at HOw
      have HRest0 := Lib.hid (show RestI P [] (partsR at_ ix C (H.drop 0) (k : Int)) from by
        unfold RestI
        rw [List.drop_zero, HP.out]
        cases P <;> simp)
      have HLi0 := Lib.hid (show OwnLi (wr.alloc (.cells #[] 44)) W.heap.size (.slice (some ⟨wr.heap.size, 0, none⟩) 0 0) [] from ⟨[], rfl, World.ownsRow_lit (base := W.heap.size) (e := 44) (size := 3) wr #[] 0 HLw.out.size (by decide) (by simp), by simp⟩)
      have HRow0 := Lib.hid (HOw.out.below (below_one (w := wr) (A := .cells #[] 44)))
      have HLow0 := Lib.hid (low_new (o := .cells #[] 44) HLw.out)
      clear hown hlow d0 d1
      go_wp2_with fail
      go_loopw [11, 12, 13] (fun lv hv iv wr => ∃ (i h : Nat) (Dn : List Li), i ≤ x1 ∧ iv = .int .i64 (i : Int) ∧ hv = .int .i64 (h : Int) ∧ h ≤ N ∧ Hid (Dn.length = i ∧ RestI P Dn (partsR at_ ix C (H.drop i) (h : Int))) ∧ OwnLi wr W.heap.size lv Dn ∧ OwnRw wr W.heap.size (.slice oc ix cc) ix F ∧ Below W.heap.size W wr) (fun _ _ iv _ => x1 - (intOf iv).toNat)
      case atStart => exact ⟨0, k, [], by omega, rfl, rfl, HNum.out.2.2.2.2, Lib.hid ⟨rfl, HRest0.out⟩, HLi0.out, HRow0.out, HLow0.out⟩
      case round =>
        obtain ⟨j, h, Dn, hj, rfl, rfl, hhN, HRest, hli, hrow, hlow⟩ := hrel
        have HLi := Lib.hid hli
        have HRw := Lib.hid hrow
        have HLow := Lib.hid hlow
        obtain ⟨dn, hdn⟩ : ∃ dn, Dn.length = dn := ⟨_, rfl⟩
        obtain ⟨ov, cv, hv11, _, _, _, _⟩ := hli.reads
        rw [hdn] at hv11
        subst hv11
        have HDn := Lib.hid hdn
        have hdnb : dn ≤ 256 := by have := HRest.out.1; omega
        clear hdn hli hrow
        by_cases hjt : j < x1
        · have hjt1 : (j : Int) < (x1 : Int) := by omega
          have hjl : j < H.length := by rw [HHl.out]; exact hjt
          obtain ⟨⟨pr, pa⟩, hpp⟩ : ∃ p, H[j]? = some p := ⟨_, List.getElem?_eq_getElem hjl⟩
          have hdrop : H.drop j = (pr, pa) :: H.drop (j + 1) := by
            obtain ⟨_, h2⟩ := List.getElem?_eq_some_iff.1 hpp
            rw [List.drop_eq_getElem_cons hjl, h2]
          have hrest := HRest.out.2
          rw [hdrop] at hrest
          obtain ⟨i2, hi2⟩ : ∃ i2, 2 * j = i2 := ⟨_, rfl⟩
          obtain ⟨j0, hj0⟩ : ∃ j0, hh + i2 = j0 := ⟨_, rfl⟩
          obtain ⟨j1, hj1⟩ : ∃ j1, j0 + 1 = j1 := ⟨_, rfl⟩
          have hcp : C[j0]? = some pr ∧ C[j1]? = some pa := by
            rw [← HH.out, pairsI_get hjt] at hpp
            injection hpp with hpp
            injection hpp with h1 h2
            have hlt0 : j1 < C.length := by rw [HN.out]; have := HNum.out; omega
            rw [show hh + 2 * j = j0 by omega] at h1
            rw [show hh + 2 * j + 1 = j1 by omega] at h2
            rw [List.getD_eq_getElem?_getD, List.getElem?_eq_getElem (by omega)] at h1
            rw [List.getD_eq_getElem?_getD, List.getElem?_eq_getElem hlt0] at h2
            exact ⟨by rw [List.getElem?_eq_getElem (by omega)]; exact congrArg some h1, by rw [List.getElem?_eq_getElem hlt0]; exact congrArg some h2⟩
          have hprb : pr < 4294967296 := HX.out _ (List.mem_of_getElem? hcp.1)
          have hpab : pa < 4294967296 := HX.out _ (List.mem_of_getElem? hcp.2)
          obtain ⟨_, _, hq, c0⟩ := HA.out _ _ hcp.1
          injection hq with hq; injection hq with hq1 hq2; subst hq1 hq2
          obtain ⟨_, _, hq, c1⟩ := HA.out _ _ hcp.2
          injection hq with hq; injection hq with hq1 hq2; subst hq1 hq2
          have HCp := Lib.hid c0
          have c0 := below_cell c0 hlow
          have c1 := below_cell c1 hlow
          have hat := HAt.out
          obtain ⟨s, hs⟩ : ∃ s : Int, at_ + (h : Int) = s := ⟨_, rfl⟩
          have y1 : 2 * (j : Int) = (i2 : Int) := by omega
          have y2 : IntKind.i64.wrap (2 * (j : Int)) = (i2 : Int) := by rw [y1]; exact IntWalk.i64_in _ (by omega)
          have y3 : (hh : Int) + (i2 : Int) = (j0 : Int) := by omega
          have hj0b : j0 ≤ 2000 ∧ j0 < N ∧ j1 < N := by have := HNum.out; omega
          have y4 : IntKind.i64.wrap ((hh : Int) + (i2 : Int)) = (j0 : Int) := by rw [y3]; exact IntWalk.i64_in _ (by omega)
          have y5 : (j0 : Int) + 1 = (j1 : Int) := by omega
          have y6 : IntKind.i64.wrap ((j0 : Int) + 1) = (j1 : Int) := by rw [y5]; exact IntWalk.i64_in _ (by omega)
          have y7 : IntKind.i64.wrap (at_ + (h : Int)) = s := by rw [hs]; exact IntWalk.i64_in _ (by omega)
          have y8 : IntKind.i64.wrap (pa : Int) = (pa : Int) := IntWalk.i64_in _ (by omega)
          have y9 : IntKind.i64.wrap (i2 : Int) = (i2 : Int) := IntWalk.i64_in _ (by omega)
          have y10 : IntKind.i64.wrap (j0 : Int) = (j0 : Int) := IntWalk.i64_in _ (by omega)
          have y11 : IntKind.i64.wrap (j1 : Int) = (j1 : Int) := IntWalk.i64_in _ (by omega)
          have y12 : IntKind.i64.wrap s = s := IntWalk.i64_in _ (by omega)
          have y13 : IntKind.i64.wrap (pr : Int) = (pr : Int) := IntWalk.i64_in _ (by omega)
          obtain ⟨_, hN0, hN1⟩ := hj0b
          have HJ := Lib.hid (show hh + 2 * j = j0 by omega)
          by_cases hA : (pa : Int) = s
          case neg =>
            have HNone := Lib.hid (restI_none hrest (parts_bad1 (by dsimp only; omega)))
            have z1 : ((pa : Int) != s) = true := bne_iff_ne.2 hA
            clear hpp hdrop hrest hi2 hj0 hj1 hcp hlow hs hA
            go_wp2_with fail
            try rw [Exit.noGoto_ret]
            refine bodyPost_ret (results_tmp3 rfl _ _) rfl ?_
            exact ReadDone.no (by rw [HRd.out, HNone.out]; rfl) rfl HLow.out
          have z1 : ((pa : Int) != s) = false := by simp [hA]
          by_cases hB : N ≤ h
          case pos =>
            have HNone := Lib.hid (restI_none hrest (parts_bad2 (by rw [HN.out]; exact hB)))
            have z2 : decide ((N : Int) ≤ (h : Int)) = true := decide_eq_true (by omega)
            have z2n : decide (N ≤ h) = true := decide_eq_true (by omega)
            have z3 : decide ((h : Int) ≥ (N : Int)) = true := z2
            clear hpp hdrop hrest hi2 hj0 hj1 hcp hlow hs hA
            go_wp2_with fail
            try rw [Exit.noGoto_ret]
            refine bodyPost_ret (results_tmp3 rfl _ _) rfl ?_
            exact ReadDone.no (by rw [HRd.out, HNone.out]; rfl) rfl HLow.out
          have z2 : decide ((N : Int) ≤ (h : Int)) = false := decide_eq_false (by omega)
          have z2n : decide (N ≤ h) = false := decide_eq_false (by omega)
          have z3 : decide ((h : Int) ≥ (N : Int)) = false := z2
          have hhN2 : h < N := by omega
          obtain ⟨xh, hxh⟩ : ∃ x, C[h]? = some x := ⟨_, List.getElem?_eq_getElem (by rw [HN.out]; exact hhN2)⟩
          obtain ⟨_, _, hq, c2⟩ := HA.out _ _ hxh
          injection hq with hq; injection hq with hq1 hq2; subst hq1 hq2
          have c2 := below_cell c2 hlow
          by_cases hC : 64 < xh
          case pos =>
            have HNone := Lib.hid (restI_none hrest (parts_bad3 hxh hC))
            have z4 : decide ((64 : Int) < (xh : Int)) = true := decide_eq_true (by omega)
            clear hpp hdrop hrest hi2 hj0 hj1 hcp hlow hs hA hxh hB
            go_wp2_with fail
            try rw [Exit.noGoto_ret]
            refine bodyPost_ret (results_tmp3 rfl _ _) rfl ?_
            exact ReadDone.no (by rw [HRd.out, HNone.out]; rfl) rfl HLow.out
          have z4 : decide ((64 : Int) < (xh : Int)) = false := decide_eq_false (by omega)
          obtain ⟨jn, hjn⟩ : ∃ jn, j + 1 = jn := ⟨_, rfl⟩
          have u1 : (j : Int) + 1 = (jn : Int) := by omega
          have u2 : IntKind.i64.wrap ((j : Int) + 1) = (jn : Int) := by rw [u1]; exact IntWalk.i64_in _ (by omega)
          have u3 : IntKind.i64.wrap (jn : Int) = (jn : Int) := IntWalk.i64_in _ (by omega)
          have hsA : (pa : Int) = at_ + (h : Int) := by omega
          rw [hjn] at hrest
          obtain ⟨tto, hto⟩ : ∃ e : Int, endI at_ C (H.drop jn) = e := ⟨_, rfl⟩
          have HTo := Lib.hid hto
          have HRest2 := Lib.hid hrest
          have HJn := Lib.hid hjn
          have HSA := Lib.hid hsA
          clear hpp hdrop hrest hi2 hj0 hj1 hcp hs hA hxh hB hC hjn hsA
          by_cases hjn1 : jn < x1
          · have u4 : (jn : Int) < (x1 : Int) := by omega
            obtain ⟨⟨pr2, pa2⟩, hpp⟩ : ∃ p, H[jn]? = some p := ⟨_, List.getElem?_eq_getElem (by rw [HHl.out]; exact hjn1)⟩
            have hto2 : (pa2 : Int) - at_ = tto := by
              rw [← HTo.out]
              obtain ⟨h1, h2⟩ := List.getElem?_eq_some_iff.1 hpp
              rw [List.drop_eq_getElem_cons h1, h2]
              rfl
            obtain ⟨j3, hj3⟩ : ∃ j3, j0 + 3 = j3 := ⟨_, rfl⟩
            have hcp2 : C[j3]? = some pa2 := by
              rw [← HH.out, pairsI_get hjn1] at hpp
              injection hpp with hpp
              injection hpp with h1 h2
              have hlt0 : j3 < C.length := by rw [HN.out]; have := HNum.out; have := HJ.out; have := HJn.out; omega
              rw [show hh + 2 * jn + 1 = j3 by have := HJ.out; have := HJn.out; omega] at h2
              rw [List.getD_eq_getElem?_getD, List.getElem?_eq_getElem hlt0] at h2
              rw [List.getElem?_eq_getElem hlt0]
              exact congrArg some h2
            have hpa2 : pa2 < 4294967296 := HX.out _ (List.mem_of_getElem? hcp2)
            obtain ⟨_, _, hq, c3⟩ := HA.out _ _ hcp2
            injection hq with hq; injection hq with hq1 hq2; subst hq1 hq2
            have c3 := below_cell c3 hlow
            have s1 : (j0 : Int) + 3 = (j3 : Int) := by omega
            have s2 : IntKind.i64.wrap ((j0 : Int) + 3) = (j3 : Int) := by rw [s1]; exact IntWalk.i64_in _ (by omega)
            have s3 : IntKind.i64.wrap (j3 : Int) = (j3 : Int) := IntWalk.i64_in _ (by omega)
            have s4 : IntKind.i64.wrap (pa2 : Int) = (pa2 : Int) := IntWalk.i64_in _ (by omega)
            have s5 : IntKind.i64.wrap ((pa2 : Int) - at_) = tto := by rw [hto2]; exact IntWalk.i64_in _ (by omega)
            have s6 : j3 < N := by have := (List.getElem?_eq_some_iff.1 hcp2).1; rw [HN.out] at this; exact this
            have s7 : IntKind.i64.wrap tto = tto := IntWalk.i64_in _ (by omega)
            clear hpp hto hj3 hcp2
            rw [← HTo.out] at hto2
            clear hto2
            by_cases hT1 : tto < (h : Int)
            case pos =>
              have HNone := Lib.hid (restI_none HRest2.out (parts_bad4 (.inl (by rw [HTo.out]; exact hT1))))
              have z5 : decide (tto < (h : Int)) = true := decide_eq_true hT1
              clear hlow
              go_wp2_with fail
              try rw [Exit.noGoto_ret]
              refine bodyPost_ret (results_tmp3 rfl _ _) rfl ?_
              exact ReadDone.no (by rw [HRd.out, HNone.out]; rfl) rfl HLow.out
            have z5 : decide (tto < (h : Int)) = false := decide_eq_false hT1
            by_cases hT2 : (N : Int) < tto
            case pos =>
              have HNone := Lib.hid (restI_none HRest2.out (parts_bad4 (.inr (by rw [HTo.out, HN.out]; exact hT2))))
              have z6 : decide ((N : Int) < tto) = true := decide_eq_true hT2
              clear hlow
              go_wp2_with fail
              try rw [Exit.noGoto_ret]
              refine bodyPost_ret (results_tmp3 rfl _ _) rfl ?_
              exact ReadDone.no (by rw [HRd.out, HNone.out]; rfl) rfl HLow.out
            have z6 : decide ((N : Int) < tto) = false := decide_eq_false hT2
            obtain ⟨tn, htn⟩ : ∃ tn : Nat, tto = (tn : Int) := Int.eq_ofNat_of_zero_le (by omega)
            subst htn
            have hm0 : h ≤ tn ∧ tn ≤ N := by omega
            have z5n : decide (tn < h) = false := decide_eq_false (by omega)
            have z6n : decide (N < tn) = false := decide_eq_false (by omega)
            obtain ⟨m, hm⟩ : ∃ m, tn - h = m := ⟨_, rfl⟩
            obtain ⟨oz, dz, hz, hz1, hz2, hz3⟩ := slice32_part N c h m tn HN.out (by omega) (by omega) hc HMx.out (HA.out.below hlow)
            have hcz : cutC C (h : Int) (endI at_ C (H.drop jn)) = (C.drop h).take m := by
              unfold cutC
              rw [HTo.out, show ((h : Nat) : Int).toNat = h by omega, show (((tn : Nat) : Int) - (h : Int)).toNat = m by omega]
            obtain ⟨Z, hZ⟩ : ∃ Z, (C.drop h).take m = Z := ⟨_, rfl⟩
            rw [hZ] at hz3 hcz
            have hZl : Z.length = m := by rw [← hZ, List.length_take, List.length_drop, HN.out]; omega
            obtain ⟨⟨es, er⟩, hD⟩ : ∃ r, decS Z = r := ⟨_, rfl⟩
            have HDec := Lib.hid (fun (w : World) (h' : ReadN .u32 w oz Z) => HDecR.out w oz dz m Z hZl h' hz1 hz2 (by omega) (fun x hx1 => HX.out x (by rw [← hZ] at hx1; exact List.mem_of_mem_drop (List.mem_of_mem_take hx1))))
            rw [hD] at HDec
            have HRz := Lib.hid hz3
            obtain ⟨hE1, hE2⟩ := parts_go (p := (pr, pa)) HSA.out (by rw [HTo.out]; omega) (by rw [HTo.out, HN.out]; omega) HRest2.out
            rw [hcz, listR_eq hD] at hE1
            rw [hcz, listR_eq hD, HTo.out] at hE2
            dsimp only at hE1 hE2
            have HE1 := Lib.hid hE1
            have HE2 := Lib.hid hE2
            obtain ⟨ne, hne⟩ : ∃ ne, es.length = ne := ⟨_, rfl⟩
            have hneb : ne ≤ 64 := by
              rcases dec_casesI hD with ⟨rfl, _⟩ | ⟨hM, _, _⟩
              · simp at hne; omega
              · have := hM.1; omega
            have HNe := Lib.hid hne
            clear hz3 hcz hZ hZl hD hE1 hE2 hne hm hlow
            go_wp2_with fail
            refine (HDec.out _ HRz.out).mono ?_; rintro e w5 ⟨v5, rfl, ho5, hb5⟩
            obtain ⟨oe, ce, hv5, _, _, _, hre5⟩ := ho5.reads
            rw [HNe.out] at hv5
            subst hv5
            have HE5 := Lib.hid (ho5.base HLow.out.size)
            have HRe5 := Lib.hid hre5
            have HL5 := Lib.hid (low_more HLow.out hb5)
            have HLi5 := Lib.hid (HLi.out.below hb5)
            have HRw5 := Lib.hid (HRw.out.below hb5)
            have c05 := below_cell HCp.out HL5.out
            clear ho5 hb5 hre5 c0 c1 c2 c3
            by_cases her : er = 0
            case neg =>
              have HNone := Lib.hid (HE1.out (if_neg (fun h => her h.1)))
              have z7 : ((er : Int) != 0) = true := bne_iff_ne.2 her
              clear her
              go_wp2_with fail
              try rw [Exit.noGoto_ret]
              refine bodyPost_ret (results_tmp3 rfl _ _) rfl ?_
              exact ReadDone.no (by rw [HRd.out, HNone.out]; rfl) rfl HL5.out
            have z7 : ((er : Int) != 0) = false := by simp [her]
            by_cases hn0 : ne = 0
            case pos =>
              have HNone := Lib.hid (HE1.out (if_neg (fun h => by have := h.2.2.2.1; have := HNe.out; omega)))
              have z8 : ((ne : Int) == 0) = true := by simp [hn0]
              clear her hn0
              go_wp2_with fail
              try rw [Exit.noGoto_ret]
              refine bodyPost_ret (results_tmp3 rfl _ _) rfl ?_
              exact ReadDone.no (by rw [HRd.out, HNone.out]; rfl) rfl HL5.out
            have z8 : ((ne : Int) == 0) = false := beq_eq_false_iff_ne.2 (by omega)
            obtain ⟨nl, hnl⟩ : ∃ nl, ne = nl + 1 := ⟨ne - 1, by omega⟩
            obtain ⟨ge, oe2, hoe, cd, _⟩ := HRe5.out nl _ (enAt_lt (by rw [HNe.out]; omega))
            subst hoe
            obtain ⟨dd, hdd⟩ : ∃ dd, (enAt es nl).1 = dd := ⟨_, rfl⟩
            rw [hdd] at cd
            have HDd := Lib.hid (show lastDoc es = dd by unfold lastDoc; rw [HNe.out, hnl, Nat.add_sub_cancel]; exact hdd)
            have z9 : (ne : Int) - 1 = (nl : Int) := by omega
            have z10 : IntKind.i64.wrap ((ne : Int) - 1) = (nl : Int) := by rw [z9]; exact IntWalk.i64_in _ (by omega)
            have z11 : IntKind.i64.wrap (nl : Int) = (nl : Int) := IntWalk.i64_in _ (by omega)
            have hnl1 : nl < ne := by omega
            clear hnl hdd
            by_cases hdn2 : (ix : Int) ≤ dd
            case pos =>
              have HNone := Lib.hid (HE1.out (if_neg (fun h => by have := h.2.2.2.2; rw [HDd.out] at this; omega)))
              have z12 : decide ((ix : Int) ≤ dd) = true := decide_eq_true hdn2
              have z13 : decide (dd ≥ (ix : Int)) = true := z12
              clear her hn0
              go_wp2_with fail
              try rw [Exit.noGoto_ret]
              refine bodyPost_ret (results_tmp3 rfl _ _) rfl ?_
              exact ReadDone.no (by rw [HRd.out, HNone.out]; rfl) rfl HL5.out
            have z12 : decide ((ix : Int) ≤ dd) = false := decide_eq_false hdn2
            have z13 : decide (dd ≥ (ix : Int)) = false := z12
            by_cases hr1 : (pr : Int) < 1
            case pos =>
              have HNone := Lib.hid (HE1.out (if_neg (fun h => by have := h.2.1; omega)))
              have z14 : decide ((pr : Int) < 1) = true := decide_eq_true hr1
              clear her hn0
              go_wp2_with fail
              try rw [Exit.noGoto_ret]
              refine bodyPost_ret (results_tmp3 rfl _ _) rfl ?_
              exact ReadDone.no (by rw [HRd.out, HNone.out]; rfl) rfl HL5.out
            have z14 : decide ((pr : Int) < 1) = false := decide_eq_false hr1
            by_cases hr2 : (65535 : Int) < (pr : Int)
            case pos =>
              have HNone := Lib.hid (HE1.out (if_neg (fun h => by have := h.2.2.1; omega)))
              have z15 : decide ((65535 : Int) < (pr : Int)) = true := decide_eq_true hr2
              clear her hn0
              go_wp2_with fail
              try rw [Exit.noGoto_ret]
              refine bodyPost_ret (results_tmp3 rfl _ _) rfl ?_
              exact ReadDone.no (by rw [HRd.out, HNone.out]; rfl) rfl HL5.out
            have z15 : decide ((65535 : Int) < (pr : Int)) = false := decide_eq_false hr2
            have HNx := Lib.hid (HE2.out es (if_pos ⟨her, by
              unfold okR
              rw [HDd.out]
              have := HNe.out
              omega⟩))
            obtain ⟨ps, o1, o2, o3⟩ := HLi5.out.below (below_one (w := w5) (A := .cells #[.string ByteArray.empty, .int .i64 (pr : Int), .slice (some ⟨ge, oe2, none⟩) ne ce] 44))
            have HW7 := Lib.hid (low_new (o := .cells #[.string ByteArray.empty, .int .i64 (pr : Int), .slice (some ⟨ge, oe2, none⟩) ne ce] 44) HL5.out)
            have HE7 := Lib.hid (HE5.out.below (below_one (w := w5) (A := .cells #[.string ByteArray.empty, .int .i64 (pr : Int), .slice (some ⟨ge, oe2, none⟩) ne ce] 44)))
            have HRw7 := Lib.hid (HRw5.out.below (below_one (w := w5) (A := .cells #[.string ByteArray.empty, .int .i64 (pr : Int), .slice (some ⟨ge, oe2, none⟩) ne ce] 44)))
            have HO7 := Lib.hid (And.intro o1 (And.intro o2 o3))
            have hrow7 := o2
            rw [HDn.out] at hrow7
            have HRow7 := Lib.hid hrow7
            have hcl : ∀ (jq : Nat) (u : Value), [Value.string ByteArray.empty, .int .i64 (pr : Int), .slice (some ⟨ge, oe2, none⟩) ne ce][jq]? = some u → (w5.alloc (.cells #[.string ByteArray.empty, .int .i64 (pr : Int), .slice (some ⟨ge, oe2, none⟩) ne ce] 44)).cell? ((⟨w5.heap.size, 0, none⟩ : Addr).add jq) = some u := fun jq u hj => by
              rw [Addr.add_lit, cell_at (heap_alloc_new w5 _)]
              simpa using hj
            have HCl := Lib.hid hcl
            have HLen := Lib.hid (show (Dn ++ [(⟨ByteArray.empty, (pr : Int), es⟩ : Li)]).length = jn by rw [List.length_append, HRest.out.1]; exact HJn.out)
            have hjnx : jn ≤ x1 := by have := HJn.out; omega
            have hjlt : j < jn := by have := HJn.out; omega
            clear hrow7 o1 o2 o3 hcl her hn0
            go_wp2_with (at_builtin; refine wpList_append_own _ rfl (.tmp 209) (.tmp 213) 23 rfl W.heap.size 44 iL _ 3 48 Try.underlying23 HIL.out.1 HIL.out.2.1 HIL.out.2.2.1 HIL.out.2.2.2 rfl (by decide) _ dn (liC Dn ps) rfl HRow7.out ⟨_, 0, none⟩ 1 1 [.string ByteArray.empty, .int .i64 (pr : Int), .slice (some ⟨ge, oe2, none⟩) ne ce] rfl rfl HCl.out (by simp [Value.oneCell']) (by unfold maxLen; omega) (by omega) HW7.out.size ?_; intro v' w8 ho hg _; have HP8 := Lib.hid (OwnLi.push (l := ⟨ByteArray.empty, (pr : Int), es⟩) HW7.out.size HW7.out HO7.out.1 HO7.out.2.1 HO7.out.2.2 HE7.out (HDn.out ▸ ho) hg); have HRw8 := Lib.hid (show OwnRw w8 W.heap.size (.slice oc ix cc) ix F from row_grown HRow7.out hg HRw7.out (by decide)); clear ho hg)
            go_roundw
            case rel => exact ⟨jn, tn, Dn ++ [⟨ByteArray.empty, (pr : Int), es⟩], hjnx, by go_num, by go_num, by omega, Lib.hid ⟨HLen.out, HNx.out⟩, HP8.out.1, HRw8.out, HP8.out.2⟩
            case measure => simp [intOf]; omega
          · have u4 : ¬ (jn : Int) < (x1 : Int) := by omega
            have u5 : decide ((jn : Int) < (x1 : Int)) = false := decide_eq_false u4
            have u5n : decide (jn < x1) = false := decide_eq_false (by omega)
            have hto2 : tto = (N : Int) := by
              rw [← HTo.out, List.drop_eq_nil_of_le (by rw [HHl.out]; omega), ← HN.out]
              rfl
            subst hto2
            clear hto
            have z5 : decide ((N : Int) < (h : Int)) = false := decide_eq_false (by omega)
            have z6 : decide ((N : Int) < (N : Int)) = false := decide_eq_false (by omega)
            have hm0 : h ≤ N ∧ N ≤ N := by omega
            have z5n : decide (N < h) = false := decide_eq_false (by omega)
            obtain ⟨m, hm⟩ : ∃ m, N - h = m := ⟨_, rfl⟩
            obtain ⟨oz, dz, hz, hz1, hz2, hz3⟩ := slice32_part N c h m N HN.out (by omega) (by omega) hc HMx.out (HA.out.below hlow)
            have hcz : cutC C (h : Int) (endI at_ C (H.drop jn)) = (C.drop h).take m := by
              unfold cutC
              rw [HTo.out, show ((h : Nat) : Int).toNat = h by omega, show (((N : Nat) : Int) - (h : Int)).toNat = m by omega]
            obtain ⟨Z, hZ⟩ : ∃ Z, (C.drop h).take m = Z := ⟨_, rfl⟩
            rw [hZ] at hz3 hcz
            have hZl : Z.length = m := by rw [← hZ, List.length_take, List.length_drop, HN.out]; omega
            obtain ⟨⟨es, er⟩, hD⟩ : ∃ r, decS Z = r := ⟨_, rfl⟩
            have HDec := Lib.hid (fun (w : World) (h' : ReadN .u32 w oz Z) => HDecR.out w oz dz m Z hZl h' hz1 hz2 (by omega) (fun x hx1 => HX.out x (by rw [← hZ] at hx1; exact List.mem_of_mem_drop (List.mem_of_mem_take hx1))))
            rw [hD] at HDec
            have HRz := Lib.hid hz3
            obtain ⟨hE1, hE2⟩ := parts_go (p := (pr, pa)) HSA.out (by rw [HTo.out]; omega) (by rw [HTo.out, HN.out]; omega) HRest2.out
            rw [hcz, listR_eq hD] at hE1
            rw [hcz, listR_eq hD, HTo.out] at hE2
            dsimp only at hE1 hE2
            have HE1 := Lib.hid hE1
            have HE2 := Lib.hid hE2
            obtain ⟨ne, hne⟩ : ∃ ne, es.length = ne := ⟨_, rfl⟩
            have hneb : ne ≤ 64 := by
              rcases dec_casesI hD with ⟨rfl, _⟩ | ⟨hM, _, _⟩
              · simp at hne; omega
              · have := hM.1; omega
            have HNe := Lib.hid hne
            clear hz3 hcz hZ hZl hD hE1 hE2 hne hm hlow
            go_wp2_with fail
            refine (HDec.out _ HRz.out).mono ?_; rintro e w5 ⟨v5, rfl, ho5, hb5⟩
            obtain ⟨oe, ce, hv5, _, _, _, hre5⟩ := ho5.reads
            rw [HNe.out] at hv5
            subst hv5
            have HE5 := Lib.hid (ho5.base HLow.out.size)
            have HRe5 := Lib.hid hre5
            have HL5 := Lib.hid (low_more HLow.out hb5)
            have HLi5 := Lib.hid (HLi.out.below hb5)
            have HRw5 := Lib.hid (HRw.out.below hb5)
            have c05 := below_cell HCp.out HL5.out
            clear ho5 hb5 hre5 c0 c1 c2
            by_cases her : er = 0
            case neg =>
              have HNone := Lib.hid (HE1.out (if_neg (fun h => her h.1)))
              have z7 : ((er : Int) != 0) = true := bne_iff_ne.2 her
              clear her
              go_wp2_with fail
              try rw [Exit.noGoto_ret]
              refine bodyPost_ret (results_tmp3 rfl _ _) rfl ?_
              exact ReadDone.no (by rw [HRd.out, HNone.out]; rfl) rfl HL5.out
            have z7 : ((er : Int) != 0) = false := by simp [her]
            by_cases hn0 : ne = 0
            case pos =>
              have HNone := Lib.hid (HE1.out (if_neg (fun h => by have := h.2.2.2.1; have := HNe.out; omega)))
              have z8 : ((ne : Int) == 0) = true := by simp [hn0]
              clear her hn0
              go_wp2_with fail
              try rw [Exit.noGoto_ret]
              refine bodyPost_ret (results_tmp3 rfl _ _) rfl ?_
              exact ReadDone.no (by rw [HRd.out, HNone.out]; rfl) rfl HL5.out
            have z8 : ((ne : Int) == 0) = false := beq_eq_false_iff_ne.2 (by omega)
            obtain ⟨nl, hnl⟩ : ∃ nl, ne = nl + 1 := ⟨ne - 1, by omega⟩
            obtain ⟨ge, oe2, hoe, cd, _⟩ := HRe5.out nl _ (enAt_lt (by rw [HNe.out]; omega))
            subst hoe
            obtain ⟨dd, hdd⟩ : ∃ dd, (enAt es nl).1 = dd := ⟨_, rfl⟩
            rw [hdd] at cd
            have HDd := Lib.hid (show lastDoc es = dd by unfold lastDoc; rw [HNe.out, hnl, Nat.add_sub_cancel]; exact hdd)
            have z9 : (ne : Int) - 1 = (nl : Int) := by omega
            have z10 : IntKind.i64.wrap ((ne : Int) - 1) = (nl : Int) := by rw [z9]; exact IntWalk.i64_in _ (by omega)
            have z11 : IntKind.i64.wrap (nl : Int) = (nl : Int) := IntWalk.i64_in _ (by omega)
            have hnl1 : nl < ne := by omega
            clear hnl hdd
            by_cases hdn2 : (ix : Int) ≤ dd
            case pos =>
              have HNone := Lib.hid (HE1.out (if_neg (fun h => by have := h.2.2.2.2; rw [HDd.out] at this; omega)))
              have z12 : decide ((ix : Int) ≤ dd) = true := decide_eq_true hdn2
              have z13 : decide (dd ≥ (ix : Int)) = true := z12
              clear her hn0
              go_wp2_with fail
              try rw [Exit.noGoto_ret]
              refine bodyPost_ret (results_tmp3 rfl _ _) rfl ?_
              exact ReadDone.no (by rw [HRd.out, HNone.out]; rfl) rfl HL5.out
            have z12 : decide ((ix : Int) ≤ dd) = false := decide_eq_false hdn2
            have z13 : decide (dd ≥ (ix : Int)) = false := z12
            by_cases hr1 : (pr : Int) < 1
            case pos =>
              have HNone := Lib.hid (HE1.out (if_neg (fun h => by have := h.2.1; omega)))
              have z14 : decide ((pr : Int) < 1) = true := decide_eq_true hr1
              clear her hn0
              go_wp2_with fail
              try rw [Exit.noGoto_ret]
              refine bodyPost_ret (results_tmp3 rfl _ _) rfl ?_
              exact ReadDone.no (by rw [HRd.out, HNone.out]; rfl) rfl HL5.out
            have z14 : decide ((pr : Int) < 1) = false := decide_eq_false hr1
            by_cases hr2 : (65535 : Int) < (pr : Int)
            case pos =>
              have HNone := Lib.hid (HE1.out (if_neg (fun h => by have := h.2.2.1; omega)))
              have z15 : decide ((65535 : Int) < (pr : Int)) = true := decide_eq_true hr2
              clear her hn0
              go_wp2_with fail
              try rw [Exit.noGoto_ret]
              refine bodyPost_ret (results_tmp3 rfl _ _) rfl ?_
              exact ReadDone.no (by rw [HRd.out, HNone.out]; rfl) rfl HL5.out
            have z15 : decide ((65535 : Int) < (pr : Int)) = false := decide_eq_false hr2
            have HNx := Lib.hid (HE2.out es (if_pos ⟨her, by
              unfold okR
              rw [HDd.out]
              have := HNe.out
              omega⟩))
            obtain ⟨ps, o1, o2, o3⟩ := HLi5.out.below (below_one (w := w5) (A := .cells #[.string ByteArray.empty, .int .i64 (pr : Int), .slice (some ⟨ge, oe2, none⟩) ne ce] 44))
            have HW7 := Lib.hid (low_new (o := .cells #[.string ByteArray.empty, .int .i64 (pr : Int), .slice (some ⟨ge, oe2, none⟩) ne ce] 44) HL5.out)
            have HE7 := Lib.hid (HE5.out.below (below_one (w := w5) (A := .cells #[.string ByteArray.empty, .int .i64 (pr : Int), .slice (some ⟨ge, oe2, none⟩) ne ce] 44)))
            have HRw7 := Lib.hid (HRw5.out.below (below_one (w := w5) (A := .cells #[.string ByteArray.empty, .int .i64 (pr : Int), .slice (some ⟨ge, oe2, none⟩) ne ce] 44)))
            have HO7 := Lib.hid (And.intro o1 (And.intro o2 o3))
            have hrow7 := o2
            rw [HDn.out] at hrow7
            have HRow7 := Lib.hid hrow7
            have hcl : ∀ (jq : Nat) (u : Value), [Value.string ByteArray.empty, .int .i64 (pr : Int), .slice (some ⟨ge, oe2, none⟩) ne ce][jq]? = some u → (w5.alloc (.cells #[.string ByteArray.empty, .int .i64 (pr : Int), .slice (some ⟨ge, oe2, none⟩) ne ce] 44)).cell? ((⟨w5.heap.size, 0, none⟩ : Addr).add jq) = some u := fun jq u hj => by
              rw [Addr.add_lit, cell_at (heap_alloc_new w5 _)]
              simpa using hj
            have HCl := Lib.hid hcl
            have HLen := Lib.hid (show (Dn ++ [(⟨ByteArray.empty, (pr : Int), es⟩ : Li)]).length = jn by rw [List.length_append, HRest.out.1]; exact HJn.out)
            have hjnx : jn ≤ x1 := by have := HJn.out; omega
            have hjlt : j < jn := by have := HJn.out; omega
            clear hrow7 o1 o2 o3 hcl her hn0
            go_wp2_with (at_builtin; refine wpList_append_own _ rfl (.tmp 209) (.tmp 213) 23 rfl W.heap.size 44 iL _ 3 48 Try.underlying23 HIL.out.1 HIL.out.2.1 HIL.out.2.2.1 HIL.out.2.2.2 rfl (by decide) _ dn (liC Dn ps) rfl HRow7.out ⟨_, 0, none⟩ 1 1 [.string ByteArray.empty, .int .i64 (pr : Int), .slice (some ⟨ge, oe2, none⟩) ne ce] rfl rfl HCl.out (by simp [Value.oneCell']) (by unfold maxLen; omega) (by omega) HW7.out.size ?_; intro v' w8 ho hg _; have HP8 := Lib.hid (OwnLi.push (l := ⟨ByteArray.empty, (pr : Int), es⟩) HW7.out.size HW7.out HO7.out.1 HO7.out.2.1 HO7.out.2.2 HE7.out (HDn.out ▸ ho) hg); have HRw8 := Lib.hid (show OwnRw w8 W.heap.size (.slice oc ix cc) ix F from row_grown HRow7.out hg HRw7.out (by decide)); clear ho hg)
            go_roundw
            case rel => exact ⟨jn, N, Dn ++ [⟨ByteArray.empty, (pr : Int), es⟩], hjnx, by go_num, by go_num, by omega, Lib.hid ⟨HLen.out, HNx.out⟩, HP8.out.1, HRw8.out, HP8.out.2⟩
            case measure => simp [intOf]; omega
        · obtain rfl : j = x1 := by omega
          have hend := HRest.out.2
          rw [List.drop_eq_nil_of_le (by rw [HHl.out]; exact Nat.le_refl _), partsR, HN.out] at hend
          by_cases hh2 : h = N
          · have HSome := Lib.hid (show P = some Dn from by
              unfold RestI at hend
              rw [if_pos (by omega)] at hend
              rw [hend]
              simp)
            have z1 : ((h : Int) != (N : Int)) = false := by simp [hh2]
            have HLx := Lib.hid hlow
            have HRd2 := Lib.hid (show readI at_ C = some (F, Dn) by rw [HRd.out, HSome.out]; rfl)
            clear hlow hend hh2
            go_wp2_with fail
            try rw [Exit.noGoto_ret]
            refine bodyPost_ret (results_tmp3 rfl _ _) rfl ?_
            refine ⟨_, _, ix, ?_, by rw [HRd2.out]; exact HRw.out, by rw [HRd2.out]; exact HLi.out, HLx.out⟩
            rw [HRd2.out]; rfl
          · have HNone := Lib.hid (show P = none from by
              unfold RestI at hend
              rw [if_neg (by omega)] at hend
              exact hend)
            have z1 : ((h : Int) != (N : Int)) = true := bne_iff_ne.2 (by omega)
            have HLx := Lib.hid hlow
            clear hlow hend hh2
            go_wp2_with fail
            try rw [Exit.noGoto_ret]
            refine bodyPost_ret (results_tmp3 rfl _ _) rfl ?_
            exact ReadDone.no (by rw [HRd.out, HNone.out]; rfl) rfl HLx.out
end Go.Proofs.Ytpmhkmakkeckkaa

namespace Go.Proofs.Ytpmhkmakkeckkaa
open Go.RowKit

set_option maxRecDepth 100000 in
theorem may_smallI {l : List En} (h : MayE l) : l.length ≤ 64 ∧ ∀ e ∈ l, e.2.length ≤ 256 := by
  refine ⟨h.1, fun e he => ?_⟩
  obtain ⟨i, hi, rfl⟩ := List.mem_iff_getElem.1 he
  have := (h.2 i hi).2.2.1
  rwa [enAt_some (List.getElem?_eq_getElem hi)] at this
set_option maxRecDepth 100000 in
theorem okAll_mem {n : Nat} {L : List Li} (h : okAll n L) : ∀ l ∈ L, okLi n l := fun l hl => by
  obtain ⟨i, hi⟩ := List.getElem?_of_mem hl
  exact okAll_at h hi
set_option maxRecDepth 100000 in
theorem readI_good (at_ : Int) (C : List Nat) : (rdL (readI at_ C)).map bare = rdL (readI at_ C) ∧ (rdL (readI at_ C)).length ≤ 256 ∧ (rdF (readI at_ C)).length ≤ 256 ∧ ∀ l ∈ rdL (readI at_ C), l.ents.length ≤ 64 ∧ ∀ e ∈ l.ents, e.2.length ≤ 256 := by
  cases h : readI at_ C with
  | none => exact ⟨rfl, by simp [rdL], by simp [rdF], by simp [rdL]⟩
  | some p =>
    obtain ⟨F, L⟩ := p
    obtain ⟨_, _, n, h1, h2, h3, h4, h5, _, _⟩ := read_only h
    exact ⟨h5, h2, by show F.length ≤ 256; omega, fun l hl => may_smallI (okAll_mem h4 l hl).2.2.2.1⟩
set_option maxRecDepth 100000 in
theorem bare_key {L : List Li} (h : L.map bare = L) {l : Li} (hl : l ∈ L) : l.key = ByteArray.empty := by
  rw [← h] at hl
  obtain ⟨x, _, rfl⟩ := List.mem_map.1 hl
  rfl
set_option maxRecDepth 100000 in
theorem headsI_lt : ∀ (L : List Li) (b : Nat), (∀ l ∈ L, l.record ≤ 65535) → b + (bodyI L).length < 4294967296 → ∀ x ∈ headsI b L, x < 4294967296
  | [], _, _, _, x, hx => by simp [headsI] at hx
  | l :: r, b, h, hb, x, hx => by
    have h1 := h l (by simp)
    rw [bodyI, List.length_append] at hb
    rw [headsI] at hx
    rcases List.mem_cons.1 hx with rfl | hx
    · omega
    rcases List.mem_cons.1 hx with rfl | hx
    · omega
    · exact headsI_lt r _ (fun l hl => h l (List.mem_cons_of_mem _ hl)) (by omega) x hx
set_option maxRecDepth 100000 in
theorem bodyI_lt : ∀ {L : List Li}, (∀ l ∈ L, MayE l.ents) → ∀ x ∈ bodyI L, x < 4294967296
  | [], _, x, hx => by simp [bodyI] at hx
  | l :: r, h, x, hx => by
    rw [bodyI, List.mem_append] at hx
    rcases hx with hx | hx
    · exact encN_ltI (h l (by simp)) x hx
    · exact bodyI_lt (fun l hl => h l (List.mem_cons_of_mem _ hl)) x hx
set_option maxRecDepth 100000 in
theorem mkX_lt {at_ : Int} {n : Nat} {F : List Nat} {L : List Li} (hx : ∀ x ∈ F, x < 4294967296) : ∀ x ∈ mkX at_ n F L, x < 4294967296 := by
  intro x h
  unfold mkX at h
  split at h
  · rename_i hk
    have hb := bodyI_len hk.1.2.2.2
    have h1 := hk.1.1
    have h2 := hk.1.2.1
    have h3 := hk.2
    unfold imgN at h
    rcases List.mem_cons.1 h with rfl | h
    · omega
    rcases List.mem_cons.1 h with rfl | h
    · omega
    rcases List.mem_append.1 h with h | h
    · exact hx x h
    rcases List.mem_append.1 h with h | h
    · exact headsI_lt L _ (fun l hl => (okAll_mem hk.1.2.2.2 l hl).2.1) (by unfold baseI; omega) x h
    · exact bodyI_lt (fun l hl => (okAll_mem hk.1.2.2.2 l hl).2.2.2.1) x h
  · simp at h
set_option maxRecDepth 100000 in
theorem mkX_len_eq {at_ to_ : Int} {n : Nat} {F : List Nat} {L : List Li} (hF : F.length = 4 * n) (h1 : okMk at_ n L) (h2 : okMk to_ n L) : (mkX at_ n F L).length = (mkX to_ n F L).length := by
  unfold mkX
  rw [if_pos h1, if_pos h2, imgN_length _ _ _ _ hF, imgN_length _ _ _ _ hF]
set_option maxRecDepth 100000 in
theorem okMk_zero {at_ : Int} {n : Nat} {L : List Li} (h : okMk at_ n L) : okMk 0 n L := ⟨h.1, by omega, by omega⟩

set_option maxRecDepth 100000 in
set_option maxHeartbeats 4000000 in
theorem makes14 (W : World) (at_ : Int) (oF : Option Addr) (cF n : Nat) (F : List Nat) (oL : Option Addr) (cL tt : Nat) (L : List Li) (hF : F.length = 4 * n) (hr : ReadN .u32 W oF F) (en : L.length = tt) (hL : ReadLi W oL L) (hI : ∀ l ∈ L, LiIn l) (hx : ∀ x ∈ F, x < 4294967296) :
    Calls Try.prog 3 #[.int .i64 at_, .slice oF n cF, .slice oL tt cL] W fun e w' => e = .returned (.bool true) ∧ Below W.heap.size W w' := by
  have HG := Lib.hid (great14 W oF cF n oL cL tt L en hL hI)
  have HFx := Lib.hid fixed14
  have HR := Lib.hid hr
  have HL := Lib.hid hL
  have HKey := Lib.hid (show ∀ l ∈ L, l.key.size ≤ reachBytes from fun l hl => (hI l hl).2.1)
  have HFl := Lib.hid hF
  have HX := Lib.hid hx
  have HN := Lib.hid en
  clear hF hr en hL hI hx
  go_enter Try.func3, Try.ntmps3
  go_wp2_with fail
  refine HG.out.mono ?_; rintro e w1 ⟨b, rfl, hsm, hb⟩
  have HB := Lib.hid hb; clear hb
  cases b with
  | true =>
    clear hsm
    go_wp2_with fail
    refine (HFx.out _).mono ?_; rintro e w9 ⟨rfl, hb⟩
    have HB := Lib.hid (low_more HB.out hb); clear hb
    go_wp2_with fail
    go_ret
    exact ⟨rfl, HB.out⟩
  | false =>
    have HSm := Lib.hid (hsm rfl)
    clear hsm
    obtain ⟨er, her⟩ : ∃ er, mkE at_ n L = er := ⟨_, rfl⟩
    obtain ⟨X, hX⟩ : ∃ X, mkX at_ n F L = X := ⟨_, rfl⟩
    obtain ⟨N, hN⟩ : ∃ N, X.length = N := ⟨_, rfl⟩
    obtain ⟨N0, hN0⟩ : ∃ N0, (mkX 0 n F L).length = N0 := ⟨_, rfl⟩
    have hNb : N ≤ 61000 := by rw [← hN, ← hX]; exact mkX_small HFl.out HSm.out
    have HS := Lib.hid (show ∀ i, i ≤ tt → okAll n (L.take i) → (bodyI (L.take i)).length ≤ 200000 from fun i _ h => by have := small_body HSm.out i h; omega)
    have HE := Lib.hid (show ∀ l ∈ L, l.ents.length ≤ 100000 from fun l hl => by have := (small_ents HSm.out l hl).1; omega)
    have HE2 := Lib.hid (show ∀ l ∈ L, l.ents.length ≤ 100000 ∧ l.key.size ≤ reachBytes from fun l hl => ⟨HE.out l hl, HKey.out l hl⟩)
    have A1 := Lib.hid (fun (w : World) (h1 : ReadN .u32 w oF F) (h2 : ReadLi w oL L) => lands_make w at_ oF cF n F oL cL tt L HFl.out h1 HN.out h2 HS.out HE.out HX.out)
    have A2 := Lib.hid (fun (w : World) (h1 : ReadN .u32 w oF F) (h2 : ReadLi w oL L) => ref_make14 w at_ oF cF n F oL cL tt L HFl.out h1 HN.out h2 HS.out HE2.out)
    have A3 := Lib.hid (fun (w : World) (h1 : ReadN .u32 w oF F) (h2 : ReadLi w oL L) => lands_size w oF cF n F oL cL tt L HFl.out h1 HN.out h2 HS.out HE.out HX.out N0 hN0)
    have A4 := Lib.hid (fun (w : World) (h1 : ReadN .u32 w oF F) (h2 : ReadLi w oL L) => ref_size14 w oF cF n F oL cL tt L HFl.out h1 HN.out h2 HS.out HE2.out N0 hN0)
    rw [her, hX] at A1 A2
    have HNx := Lib.hid hN
    have hee : (er == er) = true := by simp
    clear her hX hN hN0
    go_wp2_with fail
    refine (A1.out _ (HR.out.below HB.out) (HL.out.below HB.out)).mono ?_; rintro e w3 ⟨v3, rfl, ho, hb⟩
    obtain ⟨oc, c3, rfl, _, _, _, hre⟩ := ho.reads_of N HNx.out
    have HR3 := Lib.hid hre
    have HB := Lib.hid (low_more HB.out hb); clear ho hre hb
    go_wp2_with fail
    refine (A2.out _ (HR.out.below HB.out) (HL.out.below HB.out)).mono ?_; rintro e w4 ⟨v4, rfl, ho, hb⟩
    obtain ⟨od, c4, rfl, _, _, _, hre⟩ := ho.reads_of N HNx.out
    have HR3 := Lib.hid (HR3.out.below hb)
    have HR4 := Lib.hid hre
    have HB := Lib.hid (low_more HB.out hb); clear ho hre hb
    go_wp2_with fail
    refine (HFx.out _).mono ?_; rintro e w5 ⟨rfl, hb⟩
    have HR3 := Lib.hid (HR3.out.below hb)
    have HR4 := Lib.hid (HR4.out.below hb)
    have HB := Lib.hid (low_more HB.out hb); clear hb
    go_wp2_with fail
    refine (same32_eq _ oc od c3 c4 N X HNx.out HR3.out HR4.out (by omega)).mono ?_; rintro e w6 ⟨rfl, hb⟩
    have HB := Lib.hid (low_more HB.out hb); clear hb
    go_wp2_with fail
    refine (A3.out _ (HR.out.below HB.out) (HL.out.below HB.out)).mono ?_; rintro e w7 ⟨rfl, hb⟩
    have HB := Lib.hid (low_more HB.out hb); clear hb
    go_wp2_with fail
    refine (A4.out _ (HR.out.below HB.out) (HL.out.below HB.out)).mono ?_; rintro e w8 ⟨rfl, hb⟩
    have HB := Lib.hid (low_more HB.out hb); clear hb
    go_wp2_with fail
    go_ret
    exact ⟨rfl, HB.out⟩

set_option maxRecDepth 100000 in
set_option maxHeartbeats 4000000 in
theorem reads14 (W : World) (at_ : Int) (oa : Option Addr) (c N : Nat) (C : List Nat) (en : C.length = N) (ha : ReadN .u32 W oa C) (hc : N ≤ c) (hm : c ≤ maxLen) (hx : ∀ x ∈ C, x < 4294967296) :
    Calls Try.prog 4 #[.int .i64 at_, .slice oa N c] W fun e w' => e = .returned (.bool true) ∧ Below W.heap.size W w' := by
  have HF := Lib.hid fixed14
  have HA := Lib.hid ha
  have HN := Lib.hid en
  by_cases h3 : 3000 < N
  · have h3i : (3000 : Int) < (N : Int) := by omega
    have HB := Lib.hid (Below.refl W.heap.size W)
    clear ha hx en h3
    go_enter Try.func4, Try.ntmps4
    go_wp2_with fail
    refine (HF.out _).mono ?_; rintro e w9 ⟨rfl, hb⟩
    have HB := Lib.hid (low_more HB.out hb); clear hb
    go_wp2_with fail
    go_ret
    exact ⟨rfl, HB.out⟩
  · have h3i : ¬ (3000 : Int) < (N : Int) := by omega
    have hNM : N ≤ maxLen := by omega
    have A1 := Lib.hid (fun (w : World) (ob : Option Addr) (h : ReadN .u32 w ob C) => lands_Read14 w at_ ob N N C en h (Nat.le_refl _) hNM (by omega) hx)
    have A2 := Lib.hid (fun (w : World) (h : ReadN .u32 w oa C) => ref_Read14 w at_ oa c N C en h hc hm (by omega) hx)
    obtain ⟨g1, g2, g3, g4⟩ := readI_good at_ C
    obtain ⟨er, her⟩ : ∃ er, rdE (readI at_ C) = er := ⟨_, rfl⟩
    obtain ⟨F, hF⟩ : ∃ F, rdF (readI at_ C) = F := ⟨_, rfl⟩
    obtain ⟨L, hLL⟩ : ∃ L, rdL (readI at_ C) = L := ⟨_, rfl⟩
    have HO := Lib.hid (show rdE (readI at_ C) = er ∧ rdF (readI at_ C) = F ∧ rdL (readI at_ C) = L from ⟨her, hF, hLL⟩)
    rw [hF] at g3
    rw [hLL] at g1 g2 g4
    obtain ⟨tt, htt⟩ : ∃ tt, L.length = tt := ⟨_, rfl⟩
    rw [htt] at g2
    have HT := Lib.hid htt
    have HBare := Lib.hid g1
    have HSm := Lib.hid g4
    have HF3 := Lib.hid g3
    have hee : ((er : Int) != er) = false := by simp
    clear ha hx en her hF hLL htt g1 g4 g3
    go_enter Try.func4, Try.ntmps4
    go_wp2_with fail
    refine (copy32_at W oa c N C HN.out (by omega) HA.out).mono ?_; rintro e w1 ⟨rfl, hre, hb⟩
    have HO1 := Lib.hid hre
    have HB := Lib.hid hb; clear hre hb
    generalize (some (⟨W.heap.size, 0, none⟩ : Addr) : Option Addr) = ob at HO1 ⊢
    go_wp2_with fail
    refine (A1.out _ ob HO1.out).mono ?_; rintro e w3 ⟨v1, v2, n1, rfl, hr1, hl1, hb⟩
    rw [HO.out.1]
    rw [HO.out.2.1] at hr1
    rw [HO.out.2.2] at hl1
    have hn1 := hr1.length
    obtain ⟨o1, d1, rfl, _, _, _, hrr1⟩ := hr1.reads
    obtain ⟨o2, d2, hv2, _, _, _, hll1⟩ := hl1.reads
    rw [HT.out] at hv2
    subst hv2
    have HR1 := Lib.hid hrr1
    have HL1 := Lib.hid hll1
    have HN1 := Lib.hid hn1
    have HO2 := Lib.hid (HO1.out.below hb)
    have HB := Lib.hid (low_more HB.out hb)
    clear hr1 hl1 hb hrr1 hll1 hn1
    go_wp2_with fail
    refine (A2.out _ (HA.out.below HB.out)).mono ?_; rintro e w4 ⟨v3, v4, n2, rfl, hr2, hl2, hb⟩
    rw [HO.out.1]
    rw [HO.out.2.1] at hr2
    rw [HO.out.2.2] at hl2
    have hn2 := hr2.length
    obtain rfl : n2 = n1 := by have := HN1.out; omega
    obtain ⟨o3, d3, rfl, _, _, _, hrr2⟩ := hr2.reads
    obtain ⟨o4, d4, hv4, _, _, _, hll2⟩ := hl2.reads
    rw [HT.out] at hv4
    subst hv4
    have HR1 := Lib.hid (HR1.out.below hb)
    have HL1 := Lib.hid (HL1.out.below hb)
    have HR2 := Lib.hid hrr2
    have HL2 := Lib.hid hll2
    have HO2 := Lib.hid (HO2.out.below hb)
    have HB := Lib.hid (low_more HB.out hb)
    have hn2b : n2 ≤ 64 := by have := HF3.out; omega
    clear hr2 hl2 hb hrr2 hll2 hn2
    go_wp2_with fail
    refine (HF.out _).mono ?_; rintro e w5 ⟨rfl, hb⟩
    have HR1 := Lib.hid (HR1.out.below hb)
    have HL1 := Lib.hid (HL1.out.below hb)
    have HR2 := Lib.hid (HR2.out.below hb)
    have HL2 := Lib.hid (HL2.out.below hb)
    have HO2 := Lib.hid (HO2.out.below hb)
    have HB := Lib.hid (low_more HB.out hb); clear hb
    go_wp2_with fail
    refine (same_rows _ o1 o3 d1 d3 n2 F (by have := HN1.out; omega) HR1.out HR2.out (by omega)).mono ?_; rintro e w6 ⟨rfl, hb⟩
    have HL1 := Lib.hid (HL1.out.below hb)
    have HL2 := Lib.hid (HL2.out.below hb)
    have HO2 := Lib.hid (HO2.out.below hb)
    have HB := Lib.hid (low_more HB.out hb); clear hb
    go_wp2_with fail
    refine (same_lists _ o2 o4 d2 d4 tt L L HT.out HT.out rfl HL1.out HL2.out (by omega) (fun l hl => ⟨by have := (HSm.out l hl).1; omega, fun e he => by have := (HSm.out l hl).2 e he; omega⟩)).mono ?_; rintro e w7 ⟨rfl, hb⟩
    have HL1 := Lib.hid (HL1.out.below hb)
    have HO2 := Lib.hid (HO2.out.below hb)
    have HB := Lib.hid (low_more HB.out hb); clear hb
    go_wp2_with fail
    go_loopw [55] (fun iv wr => ∃ i : Nat, i ≤ tt ∧ iv = .int .i64 (i : Int) ∧ Below w7.heap.size w7 wr) (fun iv _ => tt - (intOf iv).toNat)
    case atStart => exact ⟨0, by omega, rfl, Below.refl _ _⟩
    case round =>
      obtain ⟨i, hi, rfl, hlow⟩ := hrel
      have HW := Lib.hid hlow
      by_cases hlt : i < tt
      · have hlt1 : (i : Int) < (tt : Int) := by omega
        obtain ⟨x, hxl⟩ : ∃ x, L[i]? = some x := ⟨_, List.getElem?_eq_getElem (by rw [HT.out]; exact hlt)⟩
        obtain ⟨g, oo, hoL, c0, c1, p, c2, pa, pc, rfl, _⟩ := HL1.out i x hxl
        subst hoL
        have c0 := below_cell c0 hlow
        have c1 := below_cell c1 hlow
        have c2 := below_cell c2 hlow
        have hke := bare_key HBare.out (List.mem_of_getElem? hxl)
        obtain ⟨kk, rr, es⟩ := x
        dsimp only at c0 c1 c2 hke
        subst hke
        have hkk : (ByteArray.empty.toList == ByteArray.empty.toList) = true := by simp
        have hkk2 : ((ByteArray.empty.toList == (ByteArray.mk #[]).toList)) = true := hkk
        have HW1 := Lib.hid (low_new (o := .cells #[.string ByteArray.empty, .int .i64 rr, .slice pa es.length pc] 44) hlow)
        clear hxl hlow
        go_wp2_with fail
        go_roundw
        case rel => exact ⟨i + 1, by omega, by go_num, HW1.out⟩
        case measure => simp [intOf]; omega
      · have HO3 := Lib.hid (HO2.out.below hlow)
        have HB3 := Lib.hid (low_more HB.out hlow)
        clear hlow
        go_wp2_with fail
        refine (same32_eq _ ob oa N c N C HN.out HO3.out (HA.out.below HB3.out) (by omega)).mono ?_; rintro e w8 ⟨rfl, hb⟩
        have HB := Lib.hid (low_more HB3.out hb); clear hb
        go_wp2_with fail
        go_ret
        exact ⟨rfl, HB.out⟩

set_option maxRecDepth 100000 in
set_option maxHeartbeats 4000000 in
theorem back14 (W : World) (at_ : Int) (oF : Option Addr) (cF n : Nat) (F : List Nat) (oL : Option Addr) (cL tt : Nat) (L : List Li) (hF : F.length = 4 * n) (hr : ReadN .u32 W oF F) (en : L.length = tt) (hL : ReadLi W oL L) (hI : ∀ l ∈ L, LiIn l) (hx : ∀ x ∈ F, x < 4294967296) :
    Calls Try.prog 5 #[.int .i64 at_, .slice oF n cF, .slice oL tt cL] W fun e w' => e = .returned (.bool true) ∧ Below W.heap.size W w' := by
  have HG := Lib.hid (great14 W oF cF n oL cL tt L en hL hI)
  have HFx := Lib.hid fixed14
  have HR := Lib.hid hr
  have HL := Lib.hid hL
  have HKey := Lib.hid (show ∀ l ∈ L, l.key.size ≤ reachBytes from fun l hl => (hI l hl).2.1)
  have HFl := Lib.hid hF
  have HX := Lib.hid hx
  have HN := Lib.hid en
  clear hF hr en hL hI hx
  go_enter Try.func5, Try.ntmps5
  go_wp2_with fail
  refine HG.out.mono ?_; rintro e w1 ⟨b, rfl, hsm, hb⟩
  have HB := Lib.hid hb; clear hb
  cases b with
  | true =>
    clear hsm
    go_wp2_with fail
    refine (HFx.out _).mono ?_; rintro e w9 ⟨rfl, hb⟩
    have HB := Lib.hid (low_more HB.out hb); clear hb
    go_wp2_with fail
    go_ret
    exact ⟨rfl, HB.out⟩
  | false =>
    have HSm := Lib.hid (hsm rfl)
    clear hsm
    have HS := Lib.hid (show ∀ i, i ≤ tt → okAll n (L.take i) → (bodyI (L.take i)).length ≤ 200000 from fun i _ h => by have := small_body HSm.out i h; omega)
    have HE := Lib.hid (show ∀ l ∈ L, l.ents.length ≤ 100000 from fun l hl => by have := (small_ents HSm.out l hl).1; omega)
    have HE2 := Lib.hid (show ∀ l ∈ L, l.ents.length ≤ 1000000 ∧ l.key.size ≤ reachBytes from fun l hl => ⟨by have := HE.out l hl; omega, HKey.out l hl⟩)
    have A1 := Lib.hid (fun (w : World) (h1 : ReadN .u32 w oF F) (h2 : ReadLi w oL L) => lands_make w at_ oF cF n F oL cL tt L HFl.out h1 HN.out h2 HS.out HE.out HX.out)
    by_cases hok : okMk at_ n L
    · obtain ⟨X, hX⟩ : ∃ X, mkX at_ n F L = X := ⟨_, rfl⟩
      obtain ⟨N, hN⟩ : ∃ N, X.length = N := ⟨_, rfl⟩
      have hNb : N ≤ 61000 := by rw [← hN, ← hX]; exact mkX_small HFl.out HSm.out
      have hXi : X = imgN at_.toNat n F L := by rw [← hX]; exact if_pos hok
      have A2 := Lib.hid (fun (w : World) (ob : Option Addr) (d : Nat) (h : ReadN .u32 w ob X) (hd : N ≤ d) (hdm : d ≤ maxLen) => lands_Read14 w at_ ob d N X hN h hd hdm (by omega) (by rw [← hX]; exact mkX_lt HX.out))
      have hrd : readI at_ X = some (F, L.map bare) := by rw [hXi]; exact read_back at_ n F L HFl.out hok
      rw [hrd] at A2
      have A3 := Lib.hid (fun (w : World) (h1 : ReadN .u32 w oF F) (h2 : ReadLi w oL L) => lands_size w oF cF n F oL cL tt L HFl.out h1 HN.out h2 HS.out HE.out HX.out N (by rw [mkX_len_eq HFl.out (okMk_zero hok) hok, hX]; exact hN))
      rw [show mkE at_ n L = 0 from if_pos hok, hX] at A1
      have HNx := Lib.hid hN
      have HLm := Lib.hid (show (L.map bare).length = tt by rw [List.length_map]; exact HN.out)
      have htb : tt ≤ 256 := by have := hok.1.2.1; have := HN.out; omega
      clear hok hX hN hXi hrd
      go_wp2_with fail
      refine (A1.out _ (HR.out.below HB.out) (HL.out.below HB.out)).mono ?_; rintro e w3 ⟨v3, rfl, ho, hb⟩
      obtain ⟨oc, c3, rfl, hc3, hm3, _, hre⟩ := ho.reads_of N HNx.out
      have HR3 := Lib.hid hre
      have HC3 := Lib.hid (And.intro hc3 hm3)
      have HB := Lib.hid (low_more HB.out hb); clear ho hre hb hc3 hm3
      go_wp2_with fail
      refine (A2.out _ oc c3 HR3.out HC3.out.1 HC3.out.2).mono ?_; rintro e w4 ⟨v1, v2, n1, rfl, hr1, hl1, hb⟩
      have hn1 := hr1.length
      obtain rfl : n1 = n := by have := HFl.out; have h : rdF (some (F, L.map bare)) = F := rfl; rw [h] at hn1; omega
      obtain ⟨o1, d1, rfl, _, _, _, hrr1⟩ := hr1.reads
      obtain ⟨o2, d2, hv2, _, _, _, hll1⟩ := hl1.reads
      rw [show (rdL (some (F, L.map bare))).length = tt from HLm.out] at hv2
      subst hv2
      have HR1 := Lib.hid (show ReadN .u32 w4 o1 F from hrr1)
      have HL1 := Lib.hid (show ReadLi w4 o2 (L.map bare) from hll1)
      have HB := Lib.hid (low_more HB.out hb)
      rw [show rdE (some (F, L.map bare)) = 0 from rfl]
      clear hr1 hl1 hb hrr1 hll1 hn1
      go_wp2_with fail
      refine (HFx.out _).mono ?_; rintro e w5 ⟨rfl, hb⟩
      have HR1 := Lib.hid (HR1.out.below hb)
      have HL1 := Lib.hid (HL1.out.below hb)
      have HB := Lib.hid (low_more HB.out hb); clear hb
      go_wp2_with fail
      refine (same_rows _ o1 oF d1 cF n1 F HFl.out HR1.out (HR.out.below HB.out) (by have := HSm.out.1; omega)).mono ?_; rintro e w6 ⟨rfl, hb⟩
      have HL1 := Lib.hid (HL1.out.below hb)
      have HB := Lib.hid (low_more HB.out hb); clear hb
      go_wp2_with fail
      refine (same_lists _ o2 oL d2 cL tt (L.map bare) L HLm.out HN.out (by rw [List.map_map]; rfl) HL1.out (HL.out.below HB.out) (by omega) (fun l hl => by
        obtain ⟨x, hx, rfl⟩ := List.mem_map.1 hl
        have := small_ents HSm.out x hx
        exact ⟨by show x.ents.length ≤ 1000000; omega, fun e he => by have := this.2 e he; omega⟩)).mono ?_; rintro e w7 ⟨rfl, hb⟩
      have HB := Lib.hid (low_more HB.out hb); clear hb
      go_wp2_with fail
      refine (A3.out _ (HR.out.below HB.out) (HL.out.below HB.out)).mono ?_; rintro e w8 ⟨rfl, hb⟩
      have HB := Lib.hid (low_more HB.out hb); clear hb
      go_wp2_with fail
      go_ret
      exact ⟨rfl, HB.out⟩
    · rw [show mkE at_ n L = 1 from if_neg hok, show mkX at_ n F L = [] from if_neg hok] at A1
      have A2 := Lib.hid (fun (w : World) (h2 : ReadLi w oL L) => ref_may14 w oF cF n oL cL tt L HN.out h2 HE2.out)
      have HNo := Lib.hid hok
      clear hok
      go_wp2_with fail
      refine (A1.out _ (HR.out.below HB.out) (HL.out.below HB.out)).mono ?_; rintro e w3 ⟨v3, rfl, ho, hb⟩
      obtain ⟨oc, c3, rfl, _, _, _, _⟩ := ho.reads_of 0 rfl
      have HB := Lib.hid (low_more HB.out hb); clear ho hb
      go_wp2_with fail
      refine (HFx.out _).mono ?_; rintro e w5 ⟨rfl, hb⟩
      have HB := Lib.hid (low_more HB.out hb); clear hb
      go_wp2_with fail
      refine (A2.out _ (HL.out.below HB.out)).mono ?_; rintro e w6 ⟨rfl, hb⟩
      have HB := Lib.hid (low_more HB.out hb); clear hb
      cases hmay : mayIB n L with
      | false =>
        go_wp2_with fail
        go_ret
        exact ⟨rfl, HB.out⟩
      | true =>
        have hr3 : at_ < 0 ∨ 65536 < at_ := by
          by_cases h1 : 0 ≤ at_ ∧ at_ ≤ 65536
          · exact absurd ⟨of_decide_eq_true hmay, h1⟩ HNo.out
          · omega
        clear hmay
        by_cases h1 : at_ < 0
        · have g1 : decide (at_ < 0) = true := decide_eq_true h1
          clear hr3
          go_wp2_with fail
          go_ret
          exact ⟨rfl, HB.out⟩
        · have g1 : decide (at_ < 0) = false := decide_eq_false h1
          have g2 : decide (65536 < at_) = true := decide_eq_true (by omega)
          clear hr3
          go_wp2_with fail
          go_ret
          exact ⟨rfl, HB.out⟩
end Go.Proofs.Ytpmhkmakkeckkaa

namespace Go.Proofs.Ytpmhkmakkeckkaa
open Go.RowKit

def keyT (i : Nat) : ByteArray := byteText [1 + i / 128, i % 128]
set_option maxRecDepth 100000 in
theorem keyT_key {i : Nat} (h : i < 256) : keyN (keyT i) = [1 + i / 128, i % 128] := by
  have := bytesL_byteText [1 + i / 128, i % 128] (by
    intro b hb
    simp only [List.mem_cons, List.not_mem_nil, or_false] at hb
    omega)
  exact this
def keyed (L : List Li) (i : Nat) : List Li := L.mapIdx fun j l => if j < i then ⟨keyT j, l.record, l.ents⟩ else l
set_option maxRecDepth 100000 in
theorem keyed_get (L : List Li) (i j : Nat) : (keyed L i)[j]? = L[j]?.map fun l => if j < i then ⟨keyT j, l.record, l.ents⟩ else l := by
  unfold keyed
  rw [List.getElem?_mapIdx]
set_option maxRecDepth 100000 in
theorem keyed_len (L : List Li) (i : Nat) : (keyed L i).length = L.length := by simp [keyed]
set_option maxRecDepth 100000 in
theorem keyed_zero (L : List Li) : keyed L 0 = L := by
  apply List.ext_getElem?
  intro j
  rw [keyed_get]
  cases L[j]? <;> simp
set_option maxRecDepth 100000 in
theorem keyed_set {L : List Li} {i : Nat} {l : Li} (h : L[i]? = some l) : (keyed L i).set i ⟨keyT i, l.record, l.ents⟩ = keyed L (i + 1) := by
  apply List.ext_getElem?
  intro j
  by_cases hj : i = j
  · subst hj
    have := (List.getElem?_eq_some_iff.1 h).1
    rw [List.getElem?_set_self (by rw [keyed_len]; exact this), keyed_get, h]
    simp
  · rw [List.getElem?_set_ne hj, keyed_get, keyed_get]
    cases L[j]? with
    | none => rfl
    | some x =>
      by_cases h1 : j < i
      · simp [h1, show j < i + 1 by omega]
      · simp [h1, show ¬ j < i + 1 by omega]
set_option maxRecDepth 100000 in
theorem keyed_bare (L : List Li) (i : Nat) : (keyed L i).map bare = L.map bare := by
  apply List.ext_getElem?
  intro j
  rw [List.getElem?_map, List.getElem?_map, keyed_get]
  cases L[j]? with
  | none => rfl
  | some x =>
    by_cases h1 : j < i <;> simp [h1, bare]
set_option maxRecDepth 100000 in
theorem headsI_bare : ∀ (b : Nat) (L : List Li), headsI b (L.map bare) = headsI b L
  | _, [] => rfl
  | b, l :: r => by rw [List.map_cons, headsI, headsI, headsI_bare]; rfl
set_option maxRecDepth 100000 in
theorem bodyI_bare : ∀ (L : List Li), bodyI (L.map bare) = bodyI L
  | [] => rfl
  | l :: r => by rw [List.map_cons, bodyI, bodyI, bodyI_bare]; rfl
set_option maxRecDepth 100000 in
theorem imgN_bare {at_ n : Nat} {F : List Nat} {A B : List Li} (h : A.map bare = B.map bare) : imgN at_ n F A = imgN at_ n F B := by
  have hl := congrArg List.length h
  rw [List.length_map, List.length_map] at hl
  unfold imgN
  rw [← headsI_bare _ A, ← bodyI_bare A, h, headsI_bare, bodyI_bare, hl]
set_option maxRecDepth 100000 in
theorem okAll_bare {n : Nat} {A B : List Li} (h : A.map bare = B.map bare) (hB : okAll n B) : okAll n A := by
  intro i hi
  have hl := congrArg List.length h
  rw [List.length_map, List.length_map] at hl
  have h1 := congrArg (fun L : List Li => L[i]?) h
  simp only [List.getElem?_map, liAt_lt hi, liAt_lt (show i < B.length by omega), Option.map_some, Option.some.injEq] at h1
  have h2 := hB i (by omega)
  unfold bare at h1
  injection h1 with _ h3 h4
  unfold okLi at h2 ⊢
  rw [h3, h4]
  exact h2
set_option maxRecDepth 100000 in
theorem keyed_rise {L : List Li} (h : L.length ≤ 256) : RiseK (keyed L L.length) := by
  intro i hi h0
  rw [keyed_len] at hi
  have k1 : (liAt (keyed L L.length) (i - 1)).key = keyT (i - 1) := by
    have := keyed_get L L.length (i - 1)
    rw [liAt_lt (show i - 1 < L.length by omega), Option.map_some, if_pos (by omega)] at this
    rw [liAt_some this]
  have k2 : (liAt (keyed L L.length) i).key = keyT i := by
    have := keyed_get L L.length i
    rw [liAt_lt hi, Option.map_some, if_pos hi] at this
    rw [liAt_some this]
  rw [k1, k2, keyT_key (by omega), keyT_key (by omega), lessN_cons, lessN_cons]
  by_cases hq : (i - 1) / 128 < i / 128
  · simp [show 1 + (i - 1) / 128 < 1 + i / 128 by omega]
  · have e1 : (i - 1) / 128 = i / 128 := by omega
    have e2 : (i - 1) % 128 < i % 128 := by omega
    simp [e1, e2]
set_option maxRecDepth 100000 in
theorem OwnE.modT {w w' : World} {base q : Nat} {v : Value} {l : List En} {t : TypeId} (h : OwnE w base v l) (hm : ∀ k, k < w.heap.size → k ≠ q → w'.heap[k]? = w.heap[k]?) {c : Array Value} (hq : w.heap[q]? = some (.cells c t (0, 0))) (h1 : t ≠ 52) (h2 : t ≠ 3) : OwnE w' base v l := by
  obtain ⟨ps, p1, p2, p3⟩ := h
  refine ⟨ps, p1, row_mod p2 hm hq h1, fun j e hj => ?_⟩
  obtain ⟨u, p4, p5⟩ := p3 j e hj
  exact ⟨u, p4, row_mod p5 hm hq h2⟩

set_option maxRecDepth 100000 in
set_option maxHeartbeats 4000000 in
theorem only14 (W : World) (at_ : Int) (oa : Option Addr) (c N : Nat) (C : List Nat) (en : C.length = N) (ha : ReadN .u32 W oa C) (hc : N ≤ c) (hm : c ≤ maxLen) (hx : ∀ x ∈ C, x < 4294967296) :
    Calls Try.prog 6 #[.int .i64 at_, .slice oa N c] W fun e w' => e = .returned (.bool true) ∧ Below W.heap.size W w' := by
  have HF := Lib.hid fixed14
  have HA := Lib.hid ha
  have HN := Lib.hid en
  by_cases h3 : 3000 < N
  · have h3i : (3000 : Int) < (N : Int) := by omega
    have HB := Lib.hid (Below.refl W.heap.size W)
    clear ha hx en h3
    go_enter Try.func6, Try.ntmps6
    go_wp2_with fail
    refine (HF.out _).mono ?_; rintro e w9 ⟨rfl, hb⟩
    have HB := Lib.hid (low_more HB.out hb); clear hb
    go_wp2_with fail
    go_ret
    exact ⟨rfl, HB.out⟩
  · have h3i : ¬ (3000 : Int) < (N : Int) := by omega
    have A1 := Lib.hid (lands_Read14 W at_ oa c N C en ha hc hm (by omega) hx)
    cases hrd : readI at_ C with
    | none =>
      rw [hrd] at A1
      clear ha hx en hrd
      go_enter Try.func6, Try.ntmps6
      go_wp2_with fail
      refine A1.out.mono ?_; rintro e w3 ⟨v1, v2, n1, rfl, hr1, hl1, hb⟩
      have hn1 := hr1.length
      obtain rfl : n1 = 0 := by have h : (rdF none).length = 0 := rfl; omega
      obtain ⟨o1, d1, rfl, _, _, _, _⟩ := hr1.reads
      obtain ⟨o2, d2, hv2, _, _, _, _⟩ := hl1.reads
      rw [show (rdL none).length = 0 from rfl] at hv2
      subst hv2
      have HB := Lib.hid hb
      rw [show rdE none = 11 from rfl]
      clear hr1 hl1 hb hn1
      go_wp2_with fail
      refine (HF.out _).mono ?_; rintro e w9 ⟨rfl, hb⟩
      have HB := Lib.hid (low_more HB.out hb); clear hb
      go_wp2_with fail
      go_ret
      exact ⟨rfl, HB.out⟩
    | some p =>
      obtain ⟨F, L⟩ := p
      rw [hrd] at A1
      obtain ⟨ha0, ha1, n, hn, htl, hFl, hok, hbare, hC, hC0⟩ := read_only hrd
      obtain ⟨tt, htt⟩ : ∃ tt, L.length = tt := ⟨_, rfl⟩
      have htb : tt ≤ 256 := by omega
      have hokM : okMk at_ n (keyed L tt) := ⟨⟨hn, by rw [keyed_len, htt]; exact htb, by rw [← htt]; exact keyed_rise (by omega), okAll_bare (keyed_bare L tt) hok⟩, ha0, ha1⟩
      have hmx : mkX at_ n F (keyed L tt) = C := by
        unfold mkX
        rw [if_pos hokM, imgN_bare (keyed_bare L tt)]
        exact hC.symm
      have hFx : ∀ x ∈ F, x < 4294967296 := fun x h => hx x (by rw [hC]; unfold imgN; exact List.mem_cons_of_mem _ (List.mem_cons_of_mem _ (List.mem_append_left _ h)))
      have hbd : ∀ i, i ≤ tt → okAll n ((keyed L tt).take i) → (bodyI ((keyed L tt).take i)).length ≤ 200000 := fun i _ _ => by
        have h1 := imgN_length at_.toNat n F L hFl
        rw [← hC, en] at h1
        have h2 := bodyI_append ((keyed L tt).take i) ((keyed L tt).drop i)
        rw [List.take_append_drop] at h2
        have h3 := congrArg List.length h2
        rw [List.length_append, ← bodyI_bare (keyed L tt), keyed_bare, bodyI_bare] at h3
        omega
      have hen : ∀ l ∈ keyed L tt, l.ents.length ≤ 100000 := fun l hl => by
        have := (may_smallI (okAll_mem hokM.1.2.2.2 l hl).2.2.2.1).1
        omega
      have A2 := Lib.hid (fun (w : World) (oF oL : Option Addr) (cF cL : Nat) (h1 : ReadN .u32 w oF F) (h2 : ReadLi w oL (keyed L tt)) => lands_make w at_ oF cF n F oL cL tt (keyed L tt) hFl h1 (by rw [keyed_len]; exact htt) h2 hbd hen hFx)
      rw [show mkE at_ n (keyed L tt) = 0 from if_pos hokM, hmx] at A2
      have HT := Lib.hid htt
      have HFl := Lib.hid hFl
      clear ha hx en hrd ha0 ha1 hn htl hFl hok hbare hC hC0 htt hokM hmx hFx hbd hen
      go_enter Try.func6, Try.ntmps6
      go_wp2_with fail
      refine A1.out.mono ?_; rintro e w3 ⟨v1, v2, n1, rfl, hr1, hl1, hb⟩
      have hn1 := hr1.length
      obtain rfl : n1 = n := by have := HFl.out; have h : rdF (some (F, L)) = F := rfl; rw [h] at hn1; omega
      obtain ⟨o1, d1, rfl, _, _, _, _⟩ := hr1.reads
      obtain ⟨o2, d2, hv2, _, _, _, _⟩ := hl1.reads
      rw [show (rdL (some (F, L))).length = tt from HT.out] at hv2
      subst hv2
      have HR0 := Lib.hid (show OwnRw w3 W.heap.size (.slice o1 n1 d1) n1 F from hr1)
      have HL0 := Lib.hid (show OwnLi w3 W.heap.size (.slice o2 tt d2) (keyed L 0) by rw [keyed_zero]; exact hl1)
      have HB := Lib.hid hb
      rw [show rdE (some (F, L)) = 0 from rfl]
      clear hr1 hl1 hb hn1
      go_wp2_with fail
      go_loopw [37] (fun iv wr => ∃ i : Nat, i ≤ tt ∧ iv = .int .i64 (i : Int) ∧ OwnRw wr W.heap.size (.slice o1 n1 d1) n1 F ∧ OwnLi wr W.heap.size (.slice o2 tt d2) (keyed L i) ∧ Below W.heap.size W wr) (fun iv _ => tt - (intOf iv).toNat)
      case atStart => exact ⟨0, by omega, rfl, HR0.out, HL0.out, HB.out⟩
      case round =>
        obtain ⟨i, hi, rfl, hrw, hli, hlow⟩ := hrel
        have HRw := Lib.hid hrw
        have HLi := Lib.hid hli
        have HLow := Lib.hid hlow
        by_cases hlt : i < tt
        · have hlt1 : (i : Int) < (tt : Int) := by omega
          obtain ⟨x, hx⟩ : ∃ x, L[i]? = some x := ⟨_, List.getElem?_eq_getElem (by rw [HT.out]; exact hlt)⟩
          obtain ⟨ps, s1, s2, s3⟩ := hli
          rw [keyed_len, HT.out] at s1 s2
          obtain ⟨g, cg, hvg⟩ := slice_of (by omega) s2
          injection hvg with hvg _ hcg
          subst hvg hcg
          obtain ⟨q, hq⟩ : ∃ q, i / 128 = q := ⟨_, rfl⟩
          obtain ⟨r, hr⟩ : ∃ r, i % 128 = r := ⟨_, rfl⟩
          obtain ⟨q1, hq1⟩ : ∃ q1, 1 + q = q1 := ⟨_, rfl⟩
          have e1 : (i : Int) / 128 = (q : Int) := by omega
          have e2 : (i : Int).tdiv 128 = (q : Int) := by rw [Int.tdiv_eq_ediv_of_nonneg (by omega)]; exact e1
          have e3 : (i : Int) % 128 = (r : Int) := by omega
          have e4 : (i : Int).tmod 128 = (r : Int) := by rw [Int.tmod_eq_emod_of_nonneg (by omega)]; exact e3
          have e5 : 1 + (q : Int) = (q1 : Int) := by omega
          have e6 : IntKind.i64.wrap (1 + (q : Int)) = (q1 : Int) := by rw [e5]; exact IntWalk.i64_in _ (by omega)
          have e7 : IntKind.u8.wrap (q1 : Int) = (q1 : Int) := IntWalk.u8_in _ (by omega)
          have e8 : IntKind.u8.wrap (r : Int) = (r : Int) := IntWalk.u8_in _ (by omega)
          have e9 : IntKind.i64.wrap (q : Int) = (q : Int) := IntWalk.i64_in _ (by omega)
          have e10 : IntKind.i64.wrap (r : Int) = (r : Int) := IntWalk.i64_in _ (by omega)
          have e11 : IntKind.i64.wrap (q1 : Int) = (q1 : Int) := IntWalk.i64_in _ (by omega)
          have hkt : byteText [q1, r] = keyT i := by unfold keyT; rw [hq, hr, hq1]
          have hkx : (keyed L i)[i]? = some x := by rw [keyed_get, hx]; simp
          have hset := keyed_set hx
          have hls := liC_set (keyed L i) ps i x (keyT i) (by rw [keyed_len, HT.out]; exact s1) hkx
          rw [hset] at hls
          obtain ⟨⟨y0, hy0, cy0⟩, fy0, ho1⟩ := own_set s2 (i := i * 3) (by omega) (.string (keyT i))
          rw [hls] at ho1
          obtain ⟨cg2, hcg, hge⟩ := own_heap s2
          have hmod : ∀ k, k < wr.heap.size → k ≠ g → (wr.setCell ⟨g, i * 3, none⟩ (.string (keyT i))).heap[k]? = wr.heap[k]? := fun k _ hk => Below.heap_setCell _ _ _ _ hk
          have HNx := Lib.hid (show OwnLi (wr.setCell ⟨g, i * 3, none⟩ (.string (keyT i))) W.heap.size (.slice (some ⟨g, 0, none⟩) tt d2) (keyed L (i + 1)) from by
            refine ⟨ps, by rw [keyed_len, HT.out]; exact s1, by rw [keyed_len, HT.out]; exact ho1, fun j l hj => ?_⟩
            by_cases hji : j = i
            · subst hji
              obtain ⟨u, hu, hue⟩ := s3 j x hkx
              rw [← hset, List.getElem?_set_self (by rw [keyed_len, HT.out]; exact hlt)] at hj
              injection hj with hj
              subst hj
              exact ⟨u, hu, hue.modT hmod hcg (by decide) (by decide)⟩
            · rw [← hset, List.getElem?_set_ne (Ne.symm hji)] at hj
              obtain ⟨u, hu, hue⟩ := s3 j l hj
              exact ⟨u, hu, hue.modT hmod hcg (by decide) (by decide)⟩)
          have HRn := Lib.hid (show OwnRw (wr.setCell ⟨g, i * 3, none⟩ (.string (keyT i))) W.heap.size (.slice o1 n1 d1) n1 F from row_mod hrw hmod hcg (by decide))
          have HLn := Lib.hid (hlow.setCell (p := ⟨g, i * 3, none⟩) hge (.string (keyT i)))
          have hcv := bytes_string (show BytesIn (wr.alloc (.cells #[.int .u8 (q1 : Int), .int .u8 (r : Int)] 5)) wr.heap.size (.slice (some ⟨wr.heap.size, 0, none⟩) 2 2) [q1, r] from World.ownsRow_lit (base := wr.heap.size) (e := 5) (size := 1) wr #[.int .u8 (q1 : Int), .int .u8 (r : Int)] 2 (Nat.le_refl _) (by decide) (by simp)) (by
            intro b hb
            simp only [List.mem_cons, List.not_mem_nil, or_false] at hb
            omega)
          rw [hkt] at hcv
          have cy1 := below_cell cy0 (below_one (w := wr) (A := .cells #[.int .u8 (q1 : Int), .int .u8 (r : Int)] 5))
          have hgl : g < wr.heap.size := lt_of_heap hcg
          have HGl := Lib.hid hgl
          clear hx s1 s2 s3 hq hr hq1 hkt hkx hset hls hy0 ho1 hcg hge hmod hrw hlow
          go_wp2_with fail
          go_roundw
          case rel => exact ⟨i + 1, by omega, by go_num, HRn.out.below below_one, HNx.out.below below_one, low_new HLn.out⟩
          case measure => simp [intOf]; omega
        · obtain rfl : i = tt := by omega
          obtain ⟨o3, d3, hv3, _, _, _, hrr⟩ := hrw.reads
          injection hv3 with hv3 hv3b hv3c
          clear hv3b
          subst hv3 hv3c
          obtain ⟨o4, d4, hv4, _, _, _, hll⟩ := hli.reads
          injection hv4 with hv4 hv4b hv4c
          clear hv4b
          subst hv4 hv4c
          have HRr := Lib.hid hrr
          have HLl := Lib.hid hll
          clear hrw hli hlow hrr hll
          go_wp2_with fail
          refine (A2.out _ _ _ _ _ HRr.out HLl.out).mono ?_; rintro e w5 ⟨v5, rfl, ho5, hb5⟩
          obtain ⟨o5, d5, rfl, _, _, _, hr5⟩ := ho5.reads_of N HN.out
          have HR5 := Lib.hid hr5
          have HB5 := Lib.hid (low_more HLow.out hb5)
          clear ho5 hr5 hb5
          go_wp2_with fail
          refine (HF.out _).mono ?_; rintro e w9 ⟨rfl, hb⟩
          have HR5 := Lib.hid (HR5.out.below hb)
          have HB := Lib.hid (low_more HB5.out hb); clear hb
          go_wp2_with fail
          refine (same32_eq _ o5 oa d5 c N C HN.out HR5.out (HA.out.below HB.out) (by omega)).mono ?_; rintro e w8 ⟨rfl, hb⟩
          have HB := Lib.hid (low_more HB.out hb); clear hb
          go_wp2_with fail
          go_ret
          exact ⟨rfl, HB.out⟩
end Go.Proofs.Ytpmhkmakkeckkaa

namespace Go.Proofs.Ytpmhkmakkeckkaa
open Go.RowKit

set_option maxRecDepth 100000 in
theorem headsI_two : ∀ (L : List Li) (a b i x y : Nat), (headsI a L)[i]? = some x → (headsI b L)[i]? = some y → (y : Int) - (x : Int) = if i % 2 = 1 then (b : Int) - (a : Int) else 0
  | [], _, _, _, _, _, h, _ => by simp [headsI] at h
  | l :: r, a, b, 0, x, y, h1, h2 => by
    simp only [headsI, List.getElem?_cons_zero, Option.some.injEq] at h1 h2
    subst h1 h2
    simp
  | l :: r, a, b, 1, x, y, h1, h2 => by
    simp only [headsI, List.getElem?_cons_succ, List.getElem?_cons_zero, Option.some.injEq] at h1 h2
    subst h1 h2
    simp
  | l :: r, a, b, i + 2, x, y, h1, h2 => by
    simp only [headsI, List.getElem?_cons_succ] at h1 h2
    have := headsI_two r _ _ i x y h1 h2
    rw [show (i + 2) % 2 = i % 2 by omega, this]
    split <;> omega
def dOf (hh t : Nat) (dd : Int) (i : Nat) : Int := if hh ≤ i ∧ i < hh + 2 * t ∧ (i - hh) % 2 = 1 then dd else 0
set_option maxRecDepth 100000 in
theorem img_two {a b n : Nat} {F : List Nat} {L : List Li} (hF : F.length = 4 * n) {i x y : Nat} (h1 : (imgN a n F L)[i]? = some x) (h2 : (imgN b n F L)[i]? = some y) : (y : Int) - (x : Int) = dOf (2 + 4 * n) L.length ((b : Int) - (a : Int)) i := by
  have e : ∀ c : Nat, imgN c n F L = ((n + 1) :: L.length :: F) ++ (headsI (baseI c n L.length) L ++ bodyI L) := fun c => rfl
  have hl : ((n + 1) :: L.length :: F).length = 2 + 4 * n := by rw [List.length_cons, List.length_cons, hF]; omega
  unfold dOf
  rw [e] at h1 h2
  by_cases c1 : i < 2 + 4 * n
  · rw [List.getElem?_append_left (by rw [hl]; exact c1)] at h1 h2
    rw [if_neg (by omega)]
    rw [h1] at h2
    injection h2 with h2
    omega
  · rw [List.getElem?_append_right (by rw [hl]; omega), hl] at h1 h2
    by_cases c2 : i - (2 + 4 * n) < 2 * L.length
    · rw [List.getElem?_append_left (by rw [headsI_length]; exact c2)] at h1 h2
      have h3 := headsI_two L _ _ _ x y h1 h2
      rw [h3]
      by_cases c3 : (i - (2 + 4 * n)) % 2 = 1
      · rw [if_pos c3, if_pos ⟨by omega, by omega, c3⟩]
        unfold baseI
        omega
      · rw [if_neg c3, if_neg (fun h => c3 h.2.2)]
    · rw [List.getElem?_append_right (by rw [headsI_length]; omega), headsI_length] at h1 h2
      rw [if_neg (by omega)]
      rw [h1] at h2
      injection h2 with h2
      omega
set_option maxRecDepth 100000 in
theorem mkX_two {at_ to_ : Int} {n : Nat} {F : List Nat} {L : List Li} (hF : F.length = 4 * n) (h1 : okMk at_ n L) (h2 : okMk to_ n L) {i x y : Nat} (k1 : (mkX at_ n F L)[i]? = some x) (k2 : (mkX to_ n F L)[i]? = some y) : (y : Int) - (x : Int) = dOf (2 + 4 * n) L.length (to_ - at_) i := by
  unfold mkX at k1 k2
  rw [if_pos h1] at k1
  rw [if_pos h2] at k2
  have := img_two hF k1 k2
  rw [show ((to_.toNat : Nat) : Int) = to_ by have := h2.2; omega, show ((at_.toNat : Nat) : Int) = at_ by have := h1.2; omega] at this
  exact this

set_option maxRecDepth 100000 in
set_option maxHeartbeats 4000000 in
theorem anywhere14 (W : World) (at_ dst_ : Int) (oF : Option Addr) (cF n : Nat) (F : List Nat) (oL : Option Addr) (cL tt : Nat) (L : List Li) (hF : F.length = 4 * n) (hr : ReadN .u32 W oF F) (en : L.length = tt) (hL : ReadLi W oL L) (hI : ∀ l ∈ L, LiIn l) (hx : ∀ x ∈ F, x < 4294967296) :
    Calls Try.prog 7 #[.int .i64 at_, .int .i64 dst_, .slice oF n cF, .slice oL tt cL] W fun e w' => e = .returned (.bool true) ∧ Below W.heap.size W w' := by
  have HG := Lib.hid (great14 W oF cF n oL cL tt L en hL hI)
  have HFx := Lib.hid fixed14
  have HR := Lib.hid hr
  have HL := Lib.hid hL
  have HFl := Lib.hid hF
  have HX := Lib.hid hx
  have HN := Lib.hid en
  clear hF hr en hL hI hx
  go_enter Try.func7, Try.ntmps7
  go_wp2_with fail
  refine HG.out.mono ?_; rintro e w1 ⟨b, rfl, hsm, hb⟩
  have HB := Lib.hid hb; clear hb
  cases b with
  | true =>
    clear hsm
    go_wp2_with fail
    refine (HFx.out _).mono ?_; rintro e w9 ⟨rfl, hb⟩
    have HB := Lib.hid (low_more HB.out hb); clear hb
    go_wp2_with fail
    go_ret
    exact ⟨rfl, HB.out⟩
  | false =>
    have HSm := Lib.hid (hsm rfl)
    clear hsm
    have HS := Lib.hid (show ∀ i, i ≤ tt → okAll n (L.take i) → (bodyI (L.take i)).length ≤ 200000 from fun i _ h => by have := small_body HSm.out i h; omega)
    have HE := Lib.hid (show ∀ l ∈ L, l.ents.length ≤ 100000 from fun l hl => by have := (small_ents HSm.out l hl).1; omega)
    have A1 := Lib.hid (fun (w : World) (h1 : ReadN .u32 w oF F) (h2 : ReadLi w oL L) => lands_make w at_ oF cF n F oL cL tt L HFl.out h1 HN.out h2 HS.out HE.out HX.out)
    have A2 := Lib.hid (fun (w : World) (h1 : ReadN .u32 w oF F) (h2 : ReadLi w oL L) => lands_make w dst_ oF cF n F oL cL tt L HFl.out h1 HN.out h2 HS.out HE.out HX.out)
    obtain ⟨X, hX⟩ : ∃ X, mkX at_ n F L = X := ⟨_, rfl⟩
    obtain ⟨Y, hY⟩ : ∃ Y, mkX dst_ n F L = Y := ⟨_, rfl⟩
    obtain ⟨N, hN⟩ : ∃ N, X.length = N := ⟨_, rfl⟩
    obtain ⟨M, hM⟩ : ∃ M, Y.length = M := ⟨_, rfl⟩
    have hNb : N ≤ 61000 := by rw [← hN, ← hX]; exact mkX_small HFl.out HSm.out
    rw [hX] at A1
    rw [hY] at A2
    have HNx := Lib.hid hN
    have HMx := Lib.hid hM
    have HXe := Lib.hid hX
    have HYe := Lib.hid hY
    clear hX hY hN hM
    by_cases h1 : okMk at_ n L
    case neg =>
      obtain ⟨er, her⟩ : ∃ er, mkE dst_ n L = er := ⟨_, rfl⟩
      rw [show mkE at_ n L = 1 from if_neg h1] at A1
      rw [her] at A2
      clear h1 her
      go_wp2_with fail
      refine (A1.out _ (HR.out.below HB.out) (HL.out.below HB.out)).mono ?_; rintro e w3 ⟨v3, rfl, ho, hb⟩
      have HB := Lib.hid (low_more HB.out hb); clear ho hb
      go_wp2_with fail
      refine (A2.out _ (HR.out.below HB.out) (HL.out.below HB.out)).mono ?_; rintro e w4 ⟨v4, rfl, ho, hb⟩
      have HB := Lib.hid (low_more HB.out hb); clear ho hb
      go_wp2_with fail
      refine (HFx.out _).mono ?_; rintro e w9 ⟨rfl, hb⟩
      have HB := Lib.hid (low_more HB.out hb); clear hb
      go_wp2_with fail
      go_ret
      exact ⟨rfl, HB.out⟩
    by_cases h2 : okMk dst_ n L
    case neg =>
      rw [show mkE at_ n L = 0 from if_pos h1] at A1
      rw [show mkE dst_ n L = 1 from if_neg h2] at A2
      clear h1 h2
      go_wp2_with fail
      refine (A1.out _ (HR.out.below HB.out) (HL.out.below HB.out)).mono ?_; rintro e w3 ⟨v3, rfl, ho, hb⟩
      have HB := Lib.hid (low_more HB.out hb); clear ho hb
      go_wp2_with fail
      refine (A2.out _ (HR.out.below HB.out) (HL.out.below HB.out)).mono ?_; rintro e w4 ⟨v4, rfl, ho, hb⟩
      have HB := Lib.hid (low_more HB.out hb); clear ho hb
      go_wp2_with fail
      refine (HFx.out _).mono ?_; rintro e w9 ⟨rfl, hb⟩
      have HB := Lib.hid (low_more HB.out hb); clear hb
      go_wp2_with fail
      go_ret
      exact ⟨rfl, HB.out⟩
    rw [show mkE at_ n L = 0 from if_pos h1] at A1
    rw [show mkE dst_ n L = 0 from if_pos h2] at A2
    obtain rfl : M = N := by rw [← HNx.out, ← HMx.out, ← HXe.out, ← HYe.out]; exact mkX_len_eq HFl.out h2 h1
    have hMM : ((M : Int) != (M : Int)) = false := by simp
    obtain ⟨n4, hn4⟩ : ∃ n4, 4 * n = n4 := ⟨_, rfl⟩
    obtain ⟨hh, hhh⟩ : ∃ h, 2 + n4 = h := ⟨_, rfl⟩
    obtain ⟨t2, ht2⟩ : ∃ t2, 2 * tt = t2 := ⟨_, rfl⟩
    obtain ⟨ht, hht⟩ : ∃ ht, hh + t2 = ht := ⟨_, rfl⟩
    obtain ⟨dd, hdd⟩ : ∃ dd : Int, dst_ - at_ = dd := ⟨_, rfl⟩
    have h200 := HSm.out.1
    have h400 := HSm.out.2.1
    rw [HN.out] at h400
    have q1 : 4 * (n : Int) = (n4 : Int) := by omega
    have q2 : IntKind.i64.wrap (4 * (n : Int)) = (n4 : Int) := by rw [q1]; exact IntWalk.i64_in _ (by omega)
    have q3 : 2 + (n4 : Int) = (hh : Int) := by omega
    have q4 : IntKind.i64.wrap (2 + (n4 : Int)) = (hh : Int) := by rw [q3]; exact IntWalk.i64_in _ (by omega)
    have q5 : 2 * (tt : Int) = (t2 : Int) := by omega
    have q6 : IntKind.i64.wrap (2 * (tt : Int)) = (t2 : Int) := by rw [q5]; exact IntWalk.i64_in _ (by omega)
    have q7 : (hh : Int) + (t2 : Int) = (ht : Int) := by omega
    have q8 : IntKind.i64.wrap ((hh : Int) + (t2 : Int)) = (ht : Int) := by rw [q7]; exact IntWalk.i64_in _ (by omega)
    have q9 : IntKind.i64.wrap (dst_ - at_) = dd := by rw [hdd]; exact IntWalk.i64_in _ (by have := h1.2; have := h2.2; omega)
    have q10 : IntKind.i64.wrap (n4 : Int) = (n4 : Int) := IntWalk.i64_in _ (by omega)
    have q11 : IntKind.i64.wrap (hh : Int) = (hh : Int) := IntWalk.i64_in _ (by omega)
    have q12 : IntKind.i64.wrap (t2 : Int) = (t2 : Int) := IntWalk.i64_in _ (by omega)
    have q13 : IntKind.i64.wrap (ht : Int) = (ht : Int) := IntWalk.i64_in _ (by omega)
    have q14 : IntKind.i64.wrap dd = dd := IntWalk.i64_in _ (by have := h1.2; have := h2.2; omega)
    have HD := Lib.hid (show ∀ i x y : Nat, X[i]? = some x → Y[i]? = some y → (y : Int) - (x : Int) = if hh ≤ i ∧ i < ht ∧ (i - hh) % 2 = 1 then dd else 0 from fun i x y k1 k2 => by
      rw [← HXe.out] at k1
      rw [← HYe.out] at k2
      have := mkX_two HFl.out h1 h2 k1 k2
      unfold dOf at this
      rw [HN.out, hn4, hhh, ht2, hht, hdd] at this
      exact this)
    have HBx := Lib.hid (show (∀ x ∈ X, x < 4294967296) ∧ ∀ x ∈ Y, x < 4294967296 from ⟨by rw [← HXe.out]; exact mkX_lt HX.out, by rw [← HYe.out]; exact mkX_lt HX.out⟩)
    have hht2 : hh ≤ ht ∧ ht ≤ 2000 := by omega
    have A5 := Lib.hid (fun w => ref_copy13 w none 0 0 [] rfl (ReadE.nil _ _) (by omega) (by simp))
    clear h1 h2 hn4 hhh ht2 hht hdd h200 h400
    go_wp2_with fail
    refine (A1.out _ (HR.out.below HB.out) (HL.out.below HB.out)).mono ?_; rintro e w3 ⟨v3, rfl, ho, hb⟩
    obtain ⟨oc, c3, rfl, _, _, _, hre⟩ := ho.reads_of M HNx.out
    have HR3 := Lib.hid hre
    have HB := Lib.hid (low_more HB.out hb); clear ho hre hb
    go_wp2_with fail
    refine (A2.out _ (HR.out.below HB.out) (HL.out.below HB.out)).mono ?_; rintro e w4 ⟨v4, rfl, ho, hb⟩
    obtain ⟨od, c4, rfl, _, _, _, hre⟩ := ho.reads_of M HMx.out
    have HR3 := Lib.hid (HR3.out.below hb)
    have HR4 := Lib.hid hre
    have HB := Lib.hid (low_more HB.out hb); clear ho hre hb
    go_wp2_with fail
    go_loopw [52] (fun iv wr => ∃ ix : Nat, ix ≤ M ∧ iv = .int .i64 (ix : Int) ∧ ∃ s, wr = w4.drewN s) (fun iv _ => M - (intOf iv).toNat)
    case atStart => exact ⟨0, by omega, rfl, 0, rfl⟩
    case round =>
      obtain ⟨ix, hi, rfl, s, rfl⟩ := hrel
      by_cases hlt : ix < M
      · have hlt1 : (ix : Int) < (M : Int) := by omega
        obtain ⟨x, hx⟩ : ∃ x, X[ix]? = some x := ⟨_, List.getElem?_eq_getElem (by rw [HNx.out]; exact hlt)⟩
        obtain ⟨y, hy⟩ : ∃ y, Y[ix]? = some y := ⟨_, List.getElem?_eq_getElem (by rw [HMx.out]; exact hlt)⟩
        obtain ⟨g, oo, hoc, cx⟩ := HR3.out ix x hx
        obtain ⟨g2, o2, hod, cy⟩ := HR4.out ix y hy
        subst hoc hod
        have hd := HD.out ix x y hx hy
        have hxb := HBx.out.1 x (List.mem_of_getElem? hx)
        have hyb := HBx.out.2 y (List.mem_of_getElem? hy)
        obtain ⟨z, hz⟩ : ∃ z : Int, (y : Int) - (x : Int) = z := ⟨_, rfl⟩
        rw [hz] at hd
        have y1 : IntKind.i64.wrap ((y : Int) - (x : Int)) = z := by rw [hz]; exact IntWalk.i64_in _ (by omega)
        have y2 : IntKind.i64.wrap (x : Int) = (x : Int) := IntWalk.i64_in _ (by omega)
        have y3 : IntKind.i64.wrap (y : Int) = (y : Int) := IntWalk.i64_in _ (by omega)
        have y4 : IntKind.i64.wrap z = z := IntWalk.i64_in _ (by omega)
        have HC := Lib.hid (show w4.cell? ⟨g, oo + ix, none⟩ = some (.int .u32 (x : Int)) ∧ w4.cell? ⟨g2, o2 + ix, none⟩ = some (.int .u32 (y : Int)) from ⟨cx, cy⟩)
        clear hx hy cx cy hz hxb hyb
        by_cases c1 : hh ≤ ix
        case neg =>
          rw [if_neg (fun h => c1 h.1)] at hd
          have z1 : decide ((hh : Int) ≤ (ix : Int)) = false := decide_eq_false (by omega)
          have z2 : decide (hh ≤ ix) = false := decide_eq_false c1
          have z3 : decide ((ix : Int) ≥ (hh : Int)) = false := z1
          have z4 : ((z : Int) != 0) = false := by simp [hd]
          clear hd c1
          go_wp2_with fail
          refine wp_region_cl (fun (p : Unit) jz => [.slice (some ⟨g2, o2, none⟩) M c4, .int .i64 (ix : Int), .pointer (some ⟨g2, o2 + ix, none⟩), .int .u32 (y : Int), .int .i64 (y : Int), .slice (some ⟨g, oo, none⟩) M c3, .int .i64 (ix : Int), .pointer (some ⟨g, oo + ix, none⟩), .int .u32 (x : Int), .int .i64 (x : Int), .int .i64 z, .int .i64 0, .bool false].getD jz undef)
            (fun p l wx => wx = (w4.drewN s).drew)
            (by kernel_rfl) (by kernel_rfl) (fun q => by simp only [putTo, dstOf, Act.put, List.size_toArray, List.length_cons, List.length_nil, List.getElem?_toArray, Nat.reduceAdd, Option.bind_some, List.getElem?_cons_zero, List.getElem?_cons_succ, List.setIfInBounds_toArray, List.set_cons_zero, List.set_cons_succ, List.getD_cons_zero, List.getD_cons_succ]; exact rfl) () ?_ ?_ ?_
          · rfl
          · intro i o ho p l wx hR hl he hcl K hK
            rcases i with _ | _ | _ | _ | _ | _ | _ | _ | _ | _ | _ | _ | _ | i
            · obtain rfl : _ = o := Option.some.inj ho
              subst hR
              go_simp
              exact hK p _ (fun _ _ => rfl) rfl
            · obtain rfl : _ = o := Option.some.inj ho
              subst hR
              go_simp
              exact hK p _ (fun _ _ => rfl) rfl
            · obtain rfl : _ = o := Option.some.inj ho
              subst hR
              go_simp
              exact hK p _ (fun _ _ => rfl) rfl
            · obtain rfl : _ = o := Option.some.inj ho
              subst hR
              have q : w4.cell? _ = _ := HC.out.2
              go_simp
              exact hK p _ (fun _ _ => rfl) rfl
            · obtain rfl : _ = o := Option.some.inj ho
              subst hR
              go_simp
              exact hK p _ (fun _ _ => rfl) rfl
            · obtain rfl : _ = o := Option.some.inj ho
              subst hR
              go_simp
              exact hK p _ (fun _ _ => rfl) rfl
            · obtain rfl : _ = o := Option.some.inj ho
              subst hR
              go_simp
              exact hK p _ (fun _ _ => rfl) rfl
            · obtain rfl : _ = o := Option.some.inj ho
              subst hR
              go_simp
              exact hK p _ (fun _ _ => rfl) rfl
            · obtain rfl : _ = o := Option.some.inj ho
              subst hR
              have q : w4.cell? _ = _ := HC.out.1
              go_simp
              exact hK p _ (fun _ _ => rfl) rfl
            · obtain rfl : _ = o := Option.some.inj ho
              subst hR
              go_simp
              exact hK p _ (fun _ _ => rfl) rfl
            · obtain rfl : _ = o := Option.some.inj ho
              subst hR
              go_simp
              exact hK p _ (fun _ _ => rfl) rfl
            · obtain rfl : _ = o := Option.some.inj ho
              subst hR
              go_simp
              exact hK p _ (fun _ _ => rfl) rfl
            · obtain rfl : _ = o := Option.some.inj ho
              subst hR
              go_simp
              exact hK p _ (fun _ _ => rfl) rfl
            · simp at ho
          · intro p l wx hl hR
            subst hR
            clear hl
            have hd : (w4.drewN s).drew = w4.drewN (s + 1) := by simp [World.drewN, World.drew, Nat.add_assoc]
            rw [hd]
            go_wp2_with fail
            go_roundw
            case rel => exact ⟨ix + 1, by omega, by go_num, _, rfl⟩
            case measure => simp [intOf]; omega
        have z1 : decide ((hh : Int) ≤ (ix : Int)) = true := decide_eq_true (by omega)
        have z2 : decide (hh ≤ ix) = true := decide_eq_true c1
        have z3 : decide ((ix : Int) ≥ (hh : Int)) = true := z1
        by_cases c2 : ix < ht
        case neg =>
          rw [if_neg (fun h => c2 h.2.1)] at hd
          have z5 : decide ((ix : Int) < (ht : Int)) = false := decide_eq_false (by omega)
          have z6 : decide (ix < ht) = false := decide_eq_false c2
          have z4 : ((z : Int) != 0) = false := by simp [hd]
          clear hd c1 c2
          go_wp2_with fail
          refine wp_region_cl (fun (p : Unit) jz => [.slice (some ⟨g2, o2, none⟩) M c4, .int .i64 (ix : Int), .pointer (some ⟨g2, o2 + ix, none⟩), .int .u32 (y : Int), .int .i64 (y : Int), .slice (some ⟨g, oo, none⟩) M c3, .int .i64 (ix : Int), .pointer (some ⟨g, oo + ix, none⟩), .int .u32 (x : Int), .int .i64 (x : Int), .int .i64 z, .int .i64 0, .bool false].getD jz undef)
            (fun p l wx => wx = (w4.drewN s).drew)
            (by kernel_rfl) (by kernel_rfl) (fun q => by simp only [putTo, dstOf, Act.put, List.size_toArray, List.length_cons, List.length_nil, List.getElem?_toArray, Nat.reduceAdd, Option.bind_some, List.getElem?_cons_zero, List.getElem?_cons_succ, List.setIfInBounds_toArray, List.set_cons_zero, List.set_cons_succ, List.getD_cons_zero, List.getD_cons_succ]; exact rfl) () ?_ ?_ ?_
          · rfl
          · intro i o ho p l wx hR hl he hcl K hK
            rcases i with _ | _ | _ | _ | _ | _ | _ | _ | _ | _ | _ | _ | _ | i
            · obtain rfl : _ = o := Option.some.inj ho
              subst hR
              go_simp
              exact hK p _ (fun _ _ => rfl) rfl
            · obtain rfl : _ = o := Option.some.inj ho
              subst hR
              go_simp
              exact hK p _ (fun _ _ => rfl) rfl
            · obtain rfl : _ = o := Option.some.inj ho
              subst hR
              go_simp
              exact hK p _ (fun _ _ => rfl) rfl
            · obtain rfl : _ = o := Option.some.inj ho
              subst hR
              have q : w4.cell? _ = _ := HC.out.2
              go_simp
              exact hK p _ (fun _ _ => rfl) rfl
            · obtain rfl : _ = o := Option.some.inj ho
              subst hR
              go_simp
              exact hK p _ (fun _ _ => rfl) rfl
            · obtain rfl : _ = o := Option.some.inj ho
              subst hR
              go_simp
              exact hK p _ (fun _ _ => rfl) rfl
            · obtain rfl : _ = o := Option.some.inj ho
              subst hR
              go_simp
              exact hK p _ (fun _ _ => rfl) rfl
            · obtain rfl : _ = o := Option.some.inj ho
              subst hR
              go_simp
              exact hK p _ (fun _ _ => rfl) rfl
            · obtain rfl : _ = o := Option.some.inj ho
              subst hR
              have q : w4.cell? _ = _ := HC.out.1
              go_simp
              exact hK p _ (fun _ _ => rfl) rfl
            · obtain rfl : _ = o := Option.some.inj ho
              subst hR
              go_simp
              exact hK p _ (fun _ _ => rfl) rfl
            · obtain rfl : _ = o := Option.some.inj ho
              subst hR
              go_simp
              exact hK p _ (fun _ _ => rfl) rfl
            · obtain rfl : _ = o := Option.some.inj ho
              subst hR
              go_simp
              exact hK p _ (fun _ _ => rfl) rfl
            · obtain rfl : _ = o := Option.some.inj ho
              subst hR
              go_simp
              exact hK p _ (fun _ _ => rfl) rfl
            · simp at ho
          · intro p l wx hl hR
            subst hR
            clear hl
            have hd : (w4.drewN s).drew = w4.drewN (s + 1) := by simp [World.drewN, World.drew, Nat.add_assoc]
            rw [hd]
            go_wp2_with fail
            go_roundw
            case rel => exact ⟨ix + 1, by omega, by go_num, _, rfl⟩
            case measure => simp [intOf]; omega
        have z5 : decide ((ix : Int) < (ht : Int)) = true := decide_eq_true (by omega)
        have z6 : decide (ix < ht) = true := decide_eq_true c2
        obtain ⟨j, hj⟩ : ∃ j, ix - hh = j := ⟨_, rfl⟩
        have z7 : (ix : Int) - (hh : Int) = (j : Int) := by omega
        have z8 : IntKind.i64.wrap ((ix : Int) - (hh : Int)) = (j : Int) := by rw [z7]; exact IntWalk.i64_in _ (by omega)
        have z9 : IntKind.i64.wrap (j : Int) = (j : Int) := IntWalk.i64_in _ (by omega)
        obtain ⟨r, hr⟩ : ∃ r, j % 2 = r := ⟨_, rfl⟩
        have z10 : (j : Int) % 2 = (r : Int) := by omega
        have z11 : (j : Int).tmod 2 = (r : Int) := by rw [Int.tmod_eq_emod_of_nonneg (by omega)]; exact z10
        have z12 : IntKind.i64.wrap (r : Int) = (r : Int) := IntWalk.i64_in _ (by omega)
        rw [hj, hr] at hd
        by_cases c3 : r = 1
        case neg =>
          rw [if_neg (fun h => c3 h.2.2)] at hd
          have z13 : ((r : Int) == 1) = false := beq_eq_false_iff_ne.2 (by omega)
          have z4 : ((z : Int) != 0) = false := by simp [hd]
          clear hd c1 c2 c3 hj hr
          go_wp2_with fail
          refine wp_region_cl (fun (p : Unit) jz => [.slice (some ⟨g2, o2, none⟩) M c4, .int .i64 (ix : Int), .pointer (some ⟨g2, o2 + ix, none⟩), .int .u32 (y : Int), .int .i64 (y : Int), .slice (some ⟨g, oo, none⟩) M c3, .int .i64 (ix : Int), .pointer (some ⟨g, oo + ix, none⟩), .int .u32 (x : Int), .int .i64 (x : Int), .int .i64 z, .int .i64 0, .bool false].getD jz undef)
            (fun p l wx => wx = (w4.drewN s).drew)
            (by kernel_rfl) (by kernel_rfl) (fun q => by simp only [putTo, dstOf, Act.put, List.size_toArray, List.length_cons, List.length_nil, List.getElem?_toArray, Nat.reduceAdd, Option.bind_some, List.getElem?_cons_zero, List.getElem?_cons_succ, List.setIfInBounds_toArray, List.set_cons_zero, List.set_cons_succ, List.getD_cons_zero, List.getD_cons_succ]; exact rfl) () ?_ ?_ ?_
          · rfl
          · intro i o ho p l wx hR hl he hcl K hK
            rcases i with _ | _ | _ | _ | _ | _ | _ | _ | _ | _ | _ | _ | _ | i
            · obtain rfl : _ = o := Option.some.inj ho
              subst hR
              go_simp
              exact hK p _ (fun _ _ => rfl) rfl
            · obtain rfl : _ = o := Option.some.inj ho
              subst hR
              go_simp
              exact hK p _ (fun _ _ => rfl) rfl
            · obtain rfl : _ = o := Option.some.inj ho
              subst hR
              go_simp
              exact hK p _ (fun _ _ => rfl) rfl
            · obtain rfl : _ = o := Option.some.inj ho
              subst hR
              have q : w4.cell? _ = _ := HC.out.2
              go_simp
              exact hK p _ (fun _ _ => rfl) rfl
            · obtain rfl : _ = o := Option.some.inj ho
              subst hR
              go_simp
              exact hK p _ (fun _ _ => rfl) rfl
            · obtain rfl : _ = o := Option.some.inj ho
              subst hR
              go_simp
              exact hK p _ (fun _ _ => rfl) rfl
            · obtain rfl : _ = o := Option.some.inj ho
              subst hR
              go_simp
              exact hK p _ (fun _ _ => rfl) rfl
            · obtain rfl : _ = o := Option.some.inj ho
              subst hR
              go_simp
              exact hK p _ (fun _ _ => rfl) rfl
            · obtain rfl : _ = o := Option.some.inj ho
              subst hR
              have q : w4.cell? _ = _ := HC.out.1
              go_simp
              exact hK p _ (fun _ _ => rfl) rfl
            · obtain rfl : _ = o := Option.some.inj ho
              subst hR
              go_simp
              exact hK p _ (fun _ _ => rfl) rfl
            · obtain rfl : _ = o := Option.some.inj ho
              subst hR
              go_simp
              exact hK p _ (fun _ _ => rfl) rfl
            · obtain rfl : _ = o := Option.some.inj ho
              subst hR
              go_simp
              exact hK p _ (fun _ _ => rfl) rfl
            · obtain rfl : _ = o := Option.some.inj ho
              subst hR
              go_simp
              exact hK p _ (fun _ _ => rfl) rfl
            · simp at ho
          · intro p l wx hl hR
            subst hR
            clear hl
            have hd : (w4.drewN s).drew = w4.drewN (s + 1) := by simp [World.drewN, World.drew, Nat.add_assoc]
            rw [hd]
            go_wp2_with fail
            go_roundw
            case rel => exact ⟨ix + 1, by omega, by go_num, _, rfl⟩
            case measure => simp [intOf]; omega
        rw [if_pos ⟨c1, c2, c3⟩] at hd
        have z13 : ((r : Int) == 1) = true := by simp [c3]
        have z4 : ((z : Int) != dd) = false := by simp [hd]
        clear hd c1 c2 c3 hj hr
        go_wp2_with fail
        refine wp_region_cl (fun (p : Unit) jz => [.slice (some ⟨g2, o2, none⟩) M c4, .int .i64 (ix : Int), .pointer (some ⟨g2, o2 + ix, none⟩), .int .u32 (y : Int), .int .i64 (y : Int), .slice (some ⟨g, oo, none⟩) M c3, .int .i64 (ix : Int), .pointer (some ⟨g, oo + ix, none⟩), .int .u32 (x : Int), .int .i64 (x : Int), .int .i64 z, .int .i64 dd, .bool false].getD jz undef)
          (fun p l wx => wx = (w4.drewN s).drew)
          (by kernel_rfl) (by kernel_rfl) (fun q => by simp only [putTo, dstOf, Act.put, List.size_toArray, List.length_cons, List.length_nil, List.getElem?_toArray, Nat.reduceAdd, Option.bind_some, List.getElem?_cons_zero, List.getElem?_cons_succ, List.setIfInBounds_toArray, List.set_cons_zero, List.set_cons_succ, List.getD_cons_zero, List.getD_cons_succ]; exact rfl) () ?_ ?_ ?_
        · rfl
        · intro i o ho p l wx hR hl he hcl K hK
          rcases i with _ | _ | _ | _ | _ | _ | _ | _ | _ | _ | _ | _ | _ | i
          · obtain rfl : _ = o := Option.some.inj ho
            subst hR
            go_simp
            exact hK p _ (fun _ _ => rfl) rfl
          · obtain rfl : _ = o := Option.some.inj ho
            subst hR
            go_simp
            exact hK p _ (fun _ _ => rfl) rfl
          · obtain rfl : _ = o := Option.some.inj ho
            subst hR
            go_simp
            exact hK p _ (fun _ _ => rfl) rfl
          · obtain rfl : _ = o := Option.some.inj ho
            subst hR
            have q : w4.cell? _ = _ := HC.out.2
            go_simp
            exact hK p _ (fun _ _ => rfl) rfl
          · obtain rfl : _ = o := Option.some.inj ho
            subst hR
            go_simp
            exact hK p _ (fun _ _ => rfl) rfl
          · obtain rfl : _ = o := Option.some.inj ho
            subst hR
            go_simp
            exact hK p _ (fun _ _ => rfl) rfl
          · obtain rfl : _ = o := Option.some.inj ho
            subst hR
            go_simp
            exact hK p _ (fun _ _ => rfl) rfl
          · obtain rfl : _ = o := Option.some.inj ho
            subst hR
            go_simp
            exact hK p _ (fun _ _ => rfl) rfl
          · obtain rfl : _ = o := Option.some.inj ho
            subst hR
            have q : w4.cell? _ = _ := HC.out.1
            go_simp
            exact hK p _ (fun _ _ => rfl) rfl
          · obtain rfl : _ = o := Option.some.inj ho
            subst hR
            go_simp
            exact hK p _ (fun _ _ => rfl) rfl
          · obtain rfl : _ = o := Option.some.inj ho
            subst hR
            go_simp
            exact hK p _ (fun _ _ => rfl) rfl
          · obtain rfl : _ = o := Option.some.inj ho
            subst hR
            go_simp
            exact hK p _ (fun _ _ => rfl) rfl
          · obtain rfl : _ = o := Option.some.inj ho
            subst hR
            go_simp
            exact hK p _ (fun _ _ => rfl) rfl
          · simp at ho
        · intro p l wx hl hR
          subst hR
          clear hl
          have hd : (w4.drewN s).drew = w4.drewN (s + 1) := by simp [World.drewN, World.drew, Nat.add_assoc]
          rw [hd]
          go_wp2_with fail
          go_roundw
          case rel => exact ⟨ix + 1, by omega, by go_num, _, rfl⟩
          case measure => simp [intOf]; omega
      · obtain rfl : ix = M := by omega
        have HBn := Lib.hid (below_drawn HB.out s)
        go_wp2_with fail
        refine (HFx.out _).mono ?_; rintro e w9 ⟨rfl, hb⟩
        have HB := Lib.hid (low_more HBn.out hb); clear hb
        go_wp2_with fail
        refine (A5.out _).mono ?_; rintro e w10 ⟨o10, rfl, _, hb⟩
        have HB := Lib.hid (low_more HB.out hb); clear hb
        go_wp2_with fail
        go_ret
        exact ⟨rfl, HB.out⟩
end Go.Proofs.Ytpmhkmakkeckkaa
