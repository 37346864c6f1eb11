/-
  The reference of layer 13: Encode. Over the program's own text.
-/
import Derived.Test.YtpmhkmakkeckkaaBlkRefA
import Derived.Test.YtpmhkmakkeckkaaBlkRefB
import Derived.Test.YtpmhkmakkeckkaaPackRefB
namespace Go.Proofs.Ytpmhkmakkeckkaa
open Go.RowKit

/-- What is laid so far: the cells of the blocks, the bytes. -/
structure RE (W : World) (vs vb : Value) (A B : List Nat) (w : World) : Prop where
  s : OwnN 47 .u32 w W.heap.size vs A
  b : OwnN 5 .u8 w W.heap.size vb B
  low : Below W.heap.size W w
set_option maxRecDepth 100000 in
theorem RE.below {W w w' : World} {vs vb : Value} {A B : List Nat} (h : RE W vs vb A B w) (hb : Below w.heap.size w w') : RE W vs vb A B w' := ⟨h.s.below hb, h.b.below hb, low_more h.low hb⟩
set_option maxRecDepth 100000 in
theorem RE.head {W w w1 : World} {vs vb v' : Value} {A B : List Nat} {x n : Nat} (h : RE W vs vb A B w) (hn : A.length = n) (ho : w1.ownsRow W.heap.size 47 1 v' (n + 1) (numC .u32 A ++ [.int .u32 (x : Int)])) (hg : w.grownBy w1 vs.ownBlock) : RE W v' vb (A ++ [x]) B w1 := by
  subst hn
  exact ⟨by unfold OwnN; rw [numC_snoc, List.length_append]; exact ho, row_grown h.s hg h.b (by decide), h.low.grown hg h.low.size (fun k hk => (World.ownsRow.lt h.s k hk).1)⟩
set_option maxRecDepth 100000 in
theorem lastI_min {l : List En} {k N i : Nat} (hN : l.length = N) (hi : i = 4 * k) (j : Nat) (h1 : i ≤ j) (h2 : j ≤ i + 4) (h3 : j ≤ N) (h4 : ¬ (j < N ∧ j < i + 4)) : lastI l k = j - 1 := by
  unfold lastI
  omega

set_option maxRecDepth 100000 in
set_option maxHeartbeats 4000000 in
theorem ref_encode13 (W : World) (oa : Option Addr) (c N : Nat) (l : List En) (en : l.length = N) (ha : ReadE W oa l) (hl : N ≤ 100000) :
    Calls Try.prog 27 #[.slice oa N c] W fun e w' => ∃ v, e = .returned (.tuple #[v, .int .i64 (encE l)]) ∧ OwnN 47 .u32 w' W.heap.size v (encX l) ∧ Below W.heap.size W w' := by
  have HMay := Lib.hid (ref_may13 W oa c N l en ha (by omega))
  have HA := Lib.hid ha
  have HN := Lib.hid en
  clear ha en
  by_cases hm' : ¬ MayE l
  · have hm := hm'
    have HM := Lib.hid hm
    have HMay := Lib.hid (show Calls _ _ _ _ _ from (show mayB l = false from decide_eq_false hm) ▸ HMay.out)
    clear hm hm'
    go_enter Try.func27, Try.ntmps27
    go_wp2_with fail
    refine HMay.out.mono ?_; rintro e w1 ⟨rfl, hb⟩
    go_wp2_with fail
    go_ret2
    exact ⟨_, by rw [show encE l = 1 from if_neg HM.out]; rfl, by rw [show encX l = [] from if_neg HM.out]; exact OwnN.nil _ _ _ _, hb⟩
  have hm : MayE l := Classical.not_not.1 hm'
  have HM := Lib.hid hm
  have h64 : N ≤ 64 := by have := hm.1; have := HN.out; omega
  have HMay := Lib.hid (show Calls _ _ _ _ _ from (show mayB l = true from decide_eq_true hm) ▸ HMay.out)
  obtain ⟨i0, e0, e1, e2, e3⟩ := info_parts info_u32
  have HI := Lib.hid (And.intro e0 (And.intro e1 (And.intro e2 e3)))
  clear hm hm' e0 e1 e2 e3
  go_enter Try.func27, Try.ntmps27
  go_wp2_with fail
  refine HMay.out.mono ?_; rintro e w1 ⟨rfl, hb⟩
  go_wp2_with fail
  have HR0 := Lib.hid (show RE W (.slice (some ⟨w1.heap.size, 0, none⟩) 0 0) (.slice (some ⟨w1.heap.size + 1, 0, none⟩) 0 0) [] [] ((w1.alloc (.cells #[] 47)).alloc (.cells #[] 5)) from by
    have h1 := OwnN.new 47 .u32 w1 W.heap.size hb.size
    have h2 := OwnN.new 5 .u8 (w1.alloc (.cells #[] 47)) W.heap.size (by simp; have := hb.size; omega)
    rw [World.size_alloc] at h2
    exact ⟨h1.below below_one, h2, low_more hb below_al2⟩)
  generalize (w1.alloc (.cells #[] 47)).alloc (.cells #[] 5) = w2 at HR0 ⊢
  generalize w1.heap.size = q1 at HR0 ⊢
  clear hb
  go_loopw [4, 5, 17] (fun sv bv iv wr => ∃ i : Nat, i ≤ N ∧ iv = .int .i64 (i : Int) ∧ RE W sv bv (headsN l ((i + 3) / 4)) (bytesTo l i) wr) (fun _ _ iv _ => N - (intOf iv).toNat)
  case atStart => exact ⟨0, by omega, rfl, HR0.out⟩
  case round =>
    obtain ⟨i, hi, rfl, hre⟩ := hrel
    have HRE := Lib.hid hre
    clear hre
    by_cases hlt : i < N
    · have hlt1 : (i : Int) < (N : Int) := by omega
      have hbl := bytesTo_len HM.out i (by have := HN.out; omega)
      have hel := entB_len HM.out (i := i) (by have := HN.out; omega)
      have HEnt := Lib.hid (fun (w : World) (h : ReadE w oa l) => ref_entry13 w oa c N i l HN.out h HM.out hlt)
      have HNb := Lib.hid (show bytesTo l (i + 1) = bytesTo l i ++ entB (aheadD l i) (enAt l i) from rfl)
      obtain ⟨Z, hZ⟩ : ∃ Z, entB (aheadD l i) (enAt l i) = Z := ⟨_, rfl⟩
      rw [hZ] at hel HEnt HNb
      obtain ⟨zl, hzl⟩ : ∃ zl, Z.length = zl := ⟨_, rfl⟩
      have HZl := Lib.hid hzl
      have HL := Lib.hid (show (bytesTo l i).length + zl ≤ 1000000 by omega)
      obtain ⟨r, hr⟩ : ∃ r, i % 4 = r := ⟨_, rfl⟩
      have r1 : (i : Int) % 4 = (r : Int) := by omega
      have r2 : (i : Int).tmod 4 = (r : Int) := by rw [Int.tmod_eq_emod_of_nonneg (by omega)]; exact r1
      by_cases hr0 : r = 0
      · have r3 : ((r : Int) == 0) = true := by rw [hr0]; rfl
        obtain ⟨k, hk⟩ : ∃ k, i = 4 * k := ⟨i / 4, by omega⟩
        obtain ⟨p, hp⟩ : ∃ p, i + 4 = p := ⟨_, rfl⟩
        have p1 : (i : Int) + 4 = (p : Int) := by omega
        have p2 : IntKind.i64.wrap ((i : Int) + 4) = (p : Int) := by rw [p1]; exact IntWalk.i64_in _ (by omega)
        have p3 : IntKind.i64.wrap (p : Int) = (p : Int) := IntWalk.i64_in _ (by omega)
        have hln := HN.out
        obtain ⟨la, hla⟩ : ∃ la, lastI l k = la := ⟨_, rfl⟩
        have hlaN : la < N := by rw [← hla]; unfold lastI; omega
        obtain ⟨g, o, hoa, cd, _⟩ := HA.out la _ (enAt_lt (by omega))
        subst hoa
        obtain ⟨d, hd⟩ : ∃ d, (enAt l la).1 = d := ⟨_, rfl⟩
        rw [hd] at cd
        have hdb := may_doc HM.out (i := la) (by omega)
        rw [hd] at hdb
        obtain ⟨nb, hnb⟩ : ∃ nb, (bytesTo l i).length = nb := ⟨_, rfl⟩
        have hX := headAt_eq HM.out (k := k) (by omega)
        rw [hla, hd, ← hk, hnb] at hX
        obtain ⟨X, hXX⟩ : ∃ X, headAt l k = X := ⟨_, rfl⟩
        rw [hXX] at hX
        have HHd := Lib.hid (show headsN l ((i + 1 + 3) / 4) = headsN l ((i + 3) / 4) ++ [X] by rw [show (i + 1 + 3) / 4 = (i + 3) / 4 + 1 by omega, headsN_snoc, show (i + 3) / 4 = k by omega, hXX])
        have HLast := Lib.hid (fun j (h1 : i ≤ j) (h2 : j ≤ p) (h3 : j ≤ N) (h4 : ¬ (j < N ∧ j < p)) => (hla.symm.trans (lastI_min HN.out hk j h1 (by omega) h3 (by omega)) : la = j - 1))
        obtain ⟨na, hna⟩ : ∃ na, (headsN l ((i + 3) / 4)).length = na := ⟨_, rfl⟩
        have hnab : na ≤ 20 := by rw [← hna, headsN_length]; omega
        obtain ⟨vb1, zb, hvb⟩ := HRE.out.b.slice nb hnb
        subst hvb
        have HNa := Lib.hid hna
        have HCd := Lib.hid cd
        have v1 : 65536 * d + (nb : Int) = (X : Int) := by omega
        obtain ⟨D, hD⟩ : ∃ D : Nat, 65536 * d = (D : Int) := Int.eq_ofNat_of_zero_le (by omega)
        have v2 : IntKind.i64.wrap (65536 * d) = (D : Int) := by rw [hD]; exact IntWalk.i64_in _ (by omega)
        have v3 : (D : Int) + (nb : Int) = (X : Int) := by omega
        have v4 : IntKind.i64.wrap ((D : Int) + (nb : Int)) = (X : Int) := by rw [v3]; exact IntWalk.i64_in _ (by omega)
        have v5 : IntKind.u32.wrap (X : Int) = (X : Int) := IntWalk.u32_in _ (by omega)
        have v6 : IntKind.i64.wrap (X : Int) = (X : Int) := IntWalk.i64_in _ (by omega)
        have v7 : IntKind.i64.wrap (D : Int) = (D : Int) := IntWalk.i64_in _ (by omega)
        have hip : i < p ∧ p ≤ 68 := by omega
        clear hbl hel hZ hzl hr hr0 hk hp hln hla hd hdb hnb hX hXX hna cd v1
        go_wp2_with fail
        go_loopw [7, 8] (fun lv jv wx => ∃ (j t : Nat), lv = .int .i64 (t : Int) ∧ jv = .int .i64 (j : Int) ∧ i ≤ j ∧ j ≤ p ∧ j ≤ N ∧ Hid (t = if j = i then i else j - 1) ∧ wx = wr) (fun _ jv _ => N - (intOf jv).toNat)
        case atStart => exact ⟨i, i, rfl, rfl, by omega, by omega, by omega, Lib.hid (by rw [if_pos rfl]), rfl⟩
        case round =>
          obtain ⟨j, t, rfl, rfl, j1, j2, j3, HT, hw⟩ := hrel
          subst hw
          by_cases hjN : j < N
          · have jj1 : (j : Int) < (N : Int) := by omega
            by_cases hjp : j < p
            · have jj2 : (j : Int) < (p : Int) := by omega
              go_wp2_with fail
              go_roundw
              case rel => exact ⟨j + 1, j, rfl, by go_num, by omega, by omega, by omega, Lib.hid (by rw [if_neg (by omega)]; rfl), trivial⟩
              case measure => simp [intOf]; omega
            · have jj2 : ¬ (j : Int) < (p : Int) := by omega
              have htl : t = la := by rw [HT.out, if_neg (by omega)]; exact (HLast.out j j1 j2 j3 (by omega)).symm
              have HTl := Lib.hid htl
              have cd := below_cell HCd.out HRE.out.low
              have HRA := Lib.hid (HRE.out.below (below_one (w := wr) (A := .cells #[.int .u32 (X : Int)] 47)))
              subst htl
              go_wp2_with (at_builtin; refine wpList_append_own _ rfl (.tmp 38) (.tmp 49) 26 rfl W.heap.size 47 i0 _ 1 4 Try.underlying26 HI.out.1 HI.out.2.1 HI.out.2.2.1 HI.out.2.2.2 rfl (by decide) _ na (numC .u32 (headsN l ((i + 3) / 4))) rfl (HNa.out ▸ HRA.out.s) ⟨_, 0, none⟩ 1 1 [.int .u32 (X : Int)] rfl rfl one_cell (by simp [Value.oneCell']) (by unfold maxLen; omega) (by omega) HRA.out.low.size ?_; intro v5 w5 ho hg _; have HR5 := Lib.hid (HRA.out.head HNa.out ho hg); clear ho hg)
              refine (HEnt.out _ (HA.out.below HR5.out.low)).mono ?_; rintro e w3 ⟨v3, rfl, ho1, hb1⟩
              obtain ⟨q2, z2, rfl, x1, _, x2, hv1⟩ := ho1.reads_of zl HZl.out
              have HR3 := Lib.hid (HR5.out.below hb1)
              have HV3 := Lib.hid hv1
              clear ho1 hb1 hv1
              go_wp2_with (at_builtin; refine append_u8 (W := W) rfl (.tmp 51) (.tmp 54) rfl _ (bytesTo l i) Z rfl HR3.out.low HR3.out.b q2 z2 zl HZl.out rfl HV3.out x2 x1 HL.out ?_; intro v4 w4 ho hg2; have HR4 := Lib.hid (show RE W v5 v4 (headsN l ((i + 3) / 4) ++ [X]) (bytesTo l i ++ Z) w4 from ⟨row_grown HR3.out.b hg2 HR3.out.s (by decide), ho.1, ho.2⟩); clear ho hg2)
              go_roundw
              case rel => exact ⟨i + 1, by omega, by go_num, by rw [HHd.out, HNb.out]; exact HR4.out⟩
              case measure => simp [intOf]; omega
          · have jj1 : ¬ (j : Int) < (N : Int) := by omega
            have htl : t = la := by rw [HT.out, if_neg (by omega)]; exact (HLast.out j j1 j2 j3 (by omega)).symm
            have HTl := Lib.hid htl
            have cd := below_cell HCd.out HRE.out.low
            have HRA := Lib.hid (HRE.out.below (below_one (w := wr) (A := .cells #[.int .u32 (X : Int)] 47)))
            subst htl
            go_wp2_with (at_builtin; refine wpList_append_own _ rfl (.tmp 38) (.tmp 49) 26 rfl W.heap.size 47 i0 _ 1 4 Try.underlying26 HI.out.1 HI.out.2.1 HI.out.2.2.1 HI.out.2.2.2 rfl (by decide) _ na (numC .u32 (headsN l ((i + 3) / 4))) rfl (HNa.out ▸ HRA.out.s) ⟨_, 0, none⟩ 1 1 [.int .u32 (X : Int)] rfl rfl one_cell (by simp [Value.oneCell']) (by unfold maxLen; omega) (by omega) HRA.out.low.size ?_; intro v5 w5 ho hg _; have HR5 := Lib.hid (HRA.out.head HNa.out ho hg); clear ho hg)
            refine (HEnt.out _ (HA.out.below HR5.out.low)).mono ?_; rintro e w3 ⟨v3, rfl, ho1, hb1⟩
            obtain ⟨q2, z2, rfl, x1, _, x2, hv1⟩ := ho1.reads_of zl HZl.out
            have HR3 := Lib.hid (HR5.out.below hb1)
            have HV3 := Lib.hid hv1
            clear ho1 hb1 hv1
            go_wp2_with (at_builtin; refine append_u8 (W := W) rfl (.tmp 51) (.tmp 54) rfl _ (bytesTo l i) Z rfl HR3.out.low HR3.out.b q2 z2 zl HZl.out rfl HV3.out x2 x1 HL.out ?_; intro v4 w4 ho hg2; have HR4 := Lib.hid (show RE W v5 v4 (headsN l ((i + 3) / 4) ++ [X]) (bytesTo l i ++ Z) w4 from ⟨row_grown HR3.out.b hg2 HR3.out.s (by decide), ho.1, ho.2⟩); clear ho hg2)
            go_roundw
            case rel => exact ⟨i + 1, by omega, by go_num, by rw [HHd.out, HNb.out]; exact HR4.out⟩
            case measure => simp [intOf]; omega
      · have r3 : ((r : Int) == 0) = false := beq_eq_false_iff_ne.2 (by omega)
        have HHd := Lib.hid (show headsN l ((i + 1 + 3) / 4) = headsN l ((i + 3) / 4) by rw [show (i + 1 + 3) / 4 = (i + 3) / 4 by omega])
        clear hbl hel hZ hzl hr hr0
        go_wp2_with fail
        refine (HEnt.out _ (HA.out.below HRE.out.low)).mono ?_; rintro e w3 ⟨v3, rfl, ho1, hb1⟩
        obtain ⟨q2, z2, rfl, x1, _, x2, hv1⟩ := ho1.reads_of zl HZl.out
        have HR3 := Lib.hid (HRE.out.below hb1)
        have HV3 := Lib.hid hv1
        clear ho1 hb1 hv1
        go_wp2_with (at_builtin; refine append_u8 (W := W) rfl (.tmp 51) (.tmp 54) rfl _ (bytesTo l i) Z rfl HR3.out.low HR3.out.b q2 z2 zl HZl.out rfl HV3.out x2 x1 HL.out ?_; intro v4 w4 ho hg2; have HR4 := Lib.hid (show RE W _ v4 (headsN l ((i + 3) / 4)) (bytesTo l i ++ Z) w4 from ⟨row_grown HR3.out.b hg2 HR3.out.s (by decide), ho.1, ho.2⟩); clear ho hg2)
        go_roundw
        case rel => exact ⟨i + 1, by omega, by go_num, by rw [HHd.out, HNb.out]; exact HR4.out⟩
        case measure => simp [intOf]; omega
    · obtain rfl : i = N := by omega
      have hM := HM.out
      have hbl := bytesTo_len hM l.length (Nat.le_refl _)
      have hNl := HN.out
      have hre := HRE.out
      rw [← hNl] at hre
      obtain ⟨S, hS⟩ : ∃ S, S = byteText (bytesTo l l.length) := ⟨_, rfl⟩
      have hSb : bytesL S = bytesTo l l.length := by rw [hS]; exact bytesL_byteText _ (bytesTo_byte hM _ (Nat.le_refl _))
      have hSs : S.size ≤ 1000000 := by rw [← bytesL_length, hSb]; omega
      have HConv := Lib.hid (fun (w : World) (base : Nat) (v : Value) (h : OwnN 5 .u8 w base v (bytesTo l l.length)) => (bytes_string (show BytesIn w base v (bytesTo l l.length) from h) (bytesTo_byte hM _ (Nat.le_refl _))))
      have HCells := Lib.hid (fun w => ref_cells w S hSs)
      rw [hSb] at HCells
      rw [← hS] at HConv
      have hZl := cellsN_length (bytesTo l l.length)
      have HOut := Lib.hid (show encX l = ([i] ++ headsN l ((l.length + 3) / 4)) ++ cellsN (bytesTo l l.length) by rw [show encX l = encN l from if_pos hM]; unfold encN; rw [hNl]; rfl)
      obtain ⟨na, hna⟩ : ∃ na, (headsN l ((l.length + 3) / 4)).length = na := ⟨_, rfl⟩
      have hnab : na ≤ 20 := by rw [← hna, headsN_length]; omega
      obtain ⟨B, hB⟩ : ∃ B, bytesTo l l.length = B := ⟨_, rfl⟩
      rw [hB] at hre hbl hZl HOut HConv HCells
      obtain ⟨A, hA⟩ : ∃ A, headsN l ((l.length + 3) / 4) = A := ⟨_, rfl⟩
      rw [hA] at hre hna HOut
      obtain ⟨Z, hZ⟩ : ∃ Z, cellsN B = Z := ⟨_, rfl⟩
      rw [hZ] at hZl HOut HCells
      obtain ⟨zl, hzl⟩ : ∃ zl, Z.length = zl := ⟨_, rfl⟩
      have hzb : zl ≤ 20000 := by omega
      have HNum := Lib.hid (And.intro hna hzl)
      obtain ⟨oc, cc, hv, y1, _, y2, hrd⟩ := hre.s.reads_of na hna
      have HRd := Lib.hid hrd
      have HRe := Lib.hid hre
      have s4 : IntKind.u32.wrap (i : Int) = (i : Int) := IntWalk.u32_in _ (by omega)
      have HOwn1 := Lib.hid (show OwnN 47 .u32 (wr.alloc (.cells #[.int .u32 (i : Int)] 47)) W.heap.size (.slice (some ⟨wr.heap.size, 0, none⟩) 1 1) [i] from World.ownsRow_lit (base := W.heap.size) (e := 47) (size := 1) wr #[.int .u32 (i : Int)] 1 hre.low.size (by decide) (by simp))
      have HRe1 := Lib.hid (hre.below (below_one (w := wr) (A := .cells #[.int .u32 (i : Int)] 47)))
      subst hv
      clear hM hbl hNl hS hSb hSs hZl hna hB hA hZ hzl hre hrd HRE HRe
      go_wp2_with (at_builtin; refine append_u32 (W := W) rfl (.tmp 61) (.tmp 62) rfl _ [i] A rfl HRe1.out.low HOwn1.out oc cc na HNum.out.1 rfl (HRd.out.below below_one) y2 y1 (by simp; omega) ?_; intro v5 w5 ho hg; have HO5 := Lib.hid ho; have HB5 := Lib.hid (row_grown HOwn1.out hg HRe1.out.b (by decide)); have hcv := HConv.out w5 _ _ HB5.out; clear ho hg)
      refine (HCells.out w5).mono ?_; rintro e w6 ⟨v6, rfl, ho6, hb6⟩
      obtain ⟨o6, c6, rfl, z1, _, z2, hrd6⟩ := ho6.reads_of zl HNum.out.2
      have HO6 := Lib.hid (HO5.out.1.below hb6)
      have HW6 := Lib.hid (low_more HO5.out.2 hb6)
      have HRd6 := Lib.hid hrd6
      have HLn := Lib.hid (show ([i] ++ A).length + zl ≤ 1000000 by have := HNum.out.1; simp; omega)
      clear ho6 hb6 hrd6 hcv
      go_wp2_with (at_builtin; refine append_u32 (W := W) rfl (.tmp 64) (.tmp 67) rfl _ ([i] ++ A) Z rfl HW6.out HO6.out o6 c6 zl HNum.out.2 rfl HRd6.out z2 z1 HLn.out ?_; intro v7 w7 ho hg; have HO7 := Lib.hid ho; clear ho hg)
      go_ret2
      exact ⟨_, by rw [show encE l = 0 from if_pos HM.out]; rfl, by rw [HOut.out]; exact HO7.out.1, HO7.out.2⟩
end Go.Proofs.Ytpmhkmakkeckkaa
