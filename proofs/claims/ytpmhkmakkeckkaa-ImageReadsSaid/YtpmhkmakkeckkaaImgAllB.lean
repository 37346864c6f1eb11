/-
  The reference of layer 14: Make, Size. Over the program's own text.
  What the machine's reach tells of a part of an argument.
  Rows of entries that come in: no row in them is greater than a machine has room for. Over the program's own text.
  Rows of lists, and a segment's rows, that come in: no part of them is greater than a machine has room for. Over the program's own text.
  Layer 14's laws: the law's own bound and example. Over the program's own text.
-/
import Derived.Test.YtpmhkmakkeckkaaImgRefB
import Derived.Test.YtpmhkmakkeckkaaImgAllA
import Derived.Test.YtpmhkmakkeckkaaArgs
import Derived.ChangeSlices
import Derived.ChangeMaps5
import Derived.SizedLaws
import Derived.Test.YtpmhkmakkeckkaaEnts
import Derived.Test.YtpmhkmakkeckkaaFrame
import Derived.Test.YtpmhkmakkeckkaaLists
namespace Go.Proofs.Ytpmhkmakkeckkaa
open Go.RowKit

set_option maxRecDepth 100000 in
set_option maxHeartbeats 4000000 in
theorem ref_make14 (W : World) (at_ : Int) (oF : Option Addr) (cF n : Nat) (F : List Nat) (oL : Option Addr) (cL t : Nat) (L : List Li) (hF : F.length = 4 * n) (hr : ReadN .u32 W oF F) (en : L.length = t) (hL : ReadLi W oL L)
    (hS : ∀ i, i ≤ t → okAll n (L.take i) → (bodyI (L.take i)).length ≤ 200000) (hE : ∀ l ∈ L, l.ents.length ≤ 100000 ∧ l.key.size ≤ reachBytes) :
    Calls Try.prog 11 #[.int .i64 at_, .slice oF n cF, .slice oL t cL] W fun e w' => ∃ v, e = .returned (.tuple #[v, .int .i64 (mkE at_ n L)]) ∧ OwnN 47 .u32 w' W.heap.size v (mkX at_ n F L) ∧ Below W.heap.size W w' := by
  have HMay := Lib.hid (ref_may14 W oF cF n oL cL t L en hL (fun l h => ⟨by have := (hE l h).1; omega, (hE l h).2⟩))
  by_cases h4 : MayI n L
  case neg =>
    have HNo := Lib.hid (show ¬ okMk at_ n L from fun h => h4 h.1)
    have HK := Lib.hid (show mayIB n L = false from decide_eq_false h4)
    rw [HK.out] at HMay
    clear hr hL hS hE h4
    go_enter Try.func11, Try.ntmps11
    go_wp2_with fail
    refine HMay.out.mono ?_; rintro e w2 ⟨rfl, hb⟩
    have HB := Lib.hid hb
    clear hb
    go_wp2_with fail
    go_ret2
    exact ⟨.slice none 0 0, by rw [show mkE at_ n L = 1 from if_neg HNo.out]; rfl, by rw [show mkX at_ n F L = [] from if_neg HNo.out]; exact OwnN.nil _ _ _ _, HB.out⟩
  have HK := Lib.hid (show mayIB n L = true from decide_eq_true h4)
  rw [HK.out] at HMay
  by_cases h1 : at_ < 0
  case pos =>
    have HNo := Lib.hid (show ¬ okMk at_ n L from fun h => by have := h.2; omega)
    have h1b : decide (at_ < 0) = true := decide_eq_true h1
    clear hr hL hS hE h4
    go_enter Try.func11, Try.ntmps11
    go_wp2_with fail
    refine HMay.out.mono ?_; rintro e w2 ⟨rfl, hb⟩
    have HB := Lib.hid hb
    clear hb
    go_wp2_with fail
    go_ret2
    exact ⟨.slice none 0 0, by rw [show mkE at_ n L = 1 from if_neg HNo.out]; rfl, by rw [show mkX at_ n F L = [] from if_neg HNo.out]; exact OwnN.nil _ _ _ _, HB.out⟩
  have h1b : decide (at_ < 0) = false := decide_eq_false h1
  by_cases h2 : 65536 < at_
  case pos =>
    have HNo := Lib.hid (show ¬ okMk at_ n L from fun h => by have := h.2; omega)
    have h2b : decide (65536 < at_) = true := decide_eq_true h2
    clear hr hL hS hE h4
    go_enter Try.func11, Try.ntmps11
    go_wp2_with fail
    refine HMay.out.mono ?_; rintro e w2 ⟨rfl, hb⟩
    have HB := Lib.hid hb
    clear hb
    go_wp2_with fail
    go_ret2
    exact ⟨.slice none 0 0, by rw [show mkE at_ n L = 1 from if_neg HNo.out]; rfl, by rw [show mkX at_ n F L = [] from if_neg HNo.out]; exact OwnN.nil _ _ _ _, HB.out⟩
  have h2b : decide (65536 < at_) = false := decide_eq_false h2
  have HYes := Lib.hid (show okMk at_ n L from ⟨h4, by omega, by omega⟩)
  have HOkAll := Lib.hid h4.2.2.2
  have h64 : n ≤ 64 := h4.1
  have ht256 : t ≤ 256 := by have := h4.2.1; omega
  have HL := Lib.hid hL
  have HR := Lib.hid hr
  have HN := Lib.hid en
  have HS := Lib.hid hS
  have HE := Lib.hid hE
  have HFl := Lib.hid hF
  have HEnc := Lib.hid ref_encode13
  obtain ⟨at0, hat0⟩ : ∃ a : Nat, at_ = (a : Int) := Int.eq_ofNat_of_zero_le (by omega)
  subst hat0
  have hat0b : at0 ≤ 65536 := by omega
  obtain ⟨n1, hn1⟩ : ∃ n1, n + 1 = n1 := ⟨_, rfl⟩
  obtain ⟨a2, ha2⟩ : ∃ a2, at0 + 2 = a2 := ⟨_, rfl⟩
  obtain ⟨n4, hn4⟩ : ∃ n4, 4 * n = n4 := ⟨_, rfl⟩
  obtain ⟨a3, ha3⟩ : ∃ a3, a2 + n4 = a3 := ⟨_, rfl⟩
  obtain ⟨t2, ht2⟩ : ∃ t2, 2 * t = t2 := ⟨_, rfl⟩
  obtain ⟨b0, hb0⟩ : ∃ b0, a3 + t2 = b0 := ⟨_, rfl⟩
  have HBase := Lib.hid (show baseI at0 n t = b0 by unfold baseI; omega)
  have p1 : (n : Int) + 1 = (n1 : Int) := by omega
  have p2 : IntKind.i64.wrap ((n : Int) + 1) = (n1 : Int) := by rw [p1]; exact IntWalk.i64_in _ (by omega)
  have p3 : IntKind.u32.wrap (n1 : Int) = (n1 : Int) := IntWalk.u32_in _ (by omega)
  have p4 : IntKind.u32.wrap (t : Int) = (t : Int) := IntWalk.u32_in _ (by omega)
  have p5 : IntKind.i64.wrap (n1 : Int) = (n1 : Int) := IntWalk.i64_in _ (by omega)
  have q1 : (at0 : Int) + 2 = (a2 : Int) := by omega
  have q2 : IntKind.i64.wrap ((at0 : Int) + 2) = (a2 : Int) := by rw [q1]; exact IntWalk.i64_in _ (by omega)
  have q3 : 4 * (n : Int) = (n4 : Int) := by omega
  have q4 : IntKind.i64.wrap (4 * (n : Int)) = (n4 : Int) := by rw [q3]; exact IntWalk.i64_in _ (by omega)
  have q5 : (a2 : Int) + (n4 : Int) = (a3 : Int) := by omega
  have q6 : IntKind.i64.wrap ((a2 : Int) + (n4 : Int)) = (a3 : Int) := by rw [q5]; exact IntWalk.i64_in _ (by omega)
  have q7 : 2 * (t : Int) = (t2 : Int) := by omega
  have q8 : IntKind.i64.wrap (2 * (t : Int)) = (t2 : Int) := by rw [q7]; exact IntWalk.i64_in _ (by omega)
  have q9 : (a3 : Int) + (t2 : Int) = (b0 : Int) := by omega
  have q10 : IntKind.i64.wrap ((a3 : Int) + (t2 : Int)) = (b0 : Int) := by rw [q9]; exact IntWalk.i64_in _ (by omega)
  have r1 : IntKind.i64.wrap (a2 : Int) = (a2 : Int) := IntWalk.i64_in _ (by omega)
  have r2 : IntKind.i64.wrap (n4 : Int) = (n4 : Int) := IntWalk.i64_in _ (by omega)
  have r3 : IntKind.i64.wrap (a3 : Int) = (a3 : Int) := IntWalk.i64_in _ (by omega)
  have r4 : IntKind.i64.wrap (t2 : Int) = (t2 : Int) := IntWalk.i64_in _ (by omega)
  have r5 : IntKind.i64.wrap (b0 : Int) = (b0 : Int) := IntWalk.i64_in _ (by omega)
  have HNum := Lib.hid (show n1 = n + 1 ∧ b0 ≤ 70000 by omega)
  obtain ⟨i4, e40, e41, e42, e43⟩ := info_parts info_u32
  have HI4 := Lib.hid (And.intro e40 (And.intro e41 (And.intro e42 e43)))
  clear hr hL hS hE h4 hn1 ha2 hn4 ha3 ht2 hb0 en hF h1 h2 e40 e41 e42 e43
  go_enter Try.func11, Try.ntmps11
  go_wp2_with fail
  refine HMay.out.mono ?_; rintro e w2 ⟨rfl, hb⟩
  have HO := Lib.hid (show OwnN 47 .u32 (w2.alloc (.cells #[.int .u32 (n1 : Int), .int .u32 (t : Int)] 47)) W.heap.size (.slice (some ⟨w2.heap.size, 0, none⟩) 2 2) [n1, t] from World.ownsRow_lit (base := W.heap.size) (e := 47) (size := 1) w2 #[.int .u32 (n1 : Int), .int .u32 (t : Int)] 2 hb.size (by decide) (by simp))
  have HB2 := Lib.hid (low_new (o := .cells #[.int .u32 (n1 : Int), .int .u32 (t : Int)] 47) hb)
  clear hb
  go_wp2_with fail
  go_loopw [8, 37] (fun cv iv wr => ∃ i : Nat, i ≤ n ∧ iv = .int .i64 (i : Int) ∧ OwnN 47 .u32 wr W.heap.size cv (n1 :: t :: F.take (4 * i)) ∧ Below W.heap.size W wr) (fun _ iv _ => n - (intOf iv).toNat)
  case atStart => exact ⟨0, by omega, rfl, HO.out, HB2.out⟩
  case round =>
    obtain ⟨ix, hi, rfl, hown, hlow⟩ := hrel
    have HOw := Lib.hid hown
    have HLw := Lib.hid hlow
    by_cases hlt : ix < n
    · have hlt1 : (ix : Int) < (n : Int) := by omega
      obtain ⟨g, oo, xa, xb, xc, xd, hoF, ⟨f0, f1, f2, f3⟩, c0, c1, c2, c3⟩ := row_cells HFl.out HR.out hlt
      subst hoF
      have HC := Lib.hid (And.intro (below_cell c0 hlow) (And.intro (below_cell c1 hlow) (And.intro (below_cell c2 hlow) (below_cell c3 hlow))))
      have HC0 := Lib.hid (And.intro c0 (And.intro c1 (And.intro c2 c3)))
      obtain ⟨_, _, _, _, g0, g1, g2, g3, f4⟩ := take4 HFl.out hlt
      rw [f0] at g0; injection g0 with g0
      rw [f1] at g1; injection g1 with g1
      rw [f2] at g2; injection g2 with g2
      rw [f3] at g3; injection g3 with g3
      rw [← g0, ← g1, ← g2, ← g3] at f4
      obtain ⟨na, hna⟩ : ∃ na, (n1 :: t :: F.take (4 * ix)).length = na := ⟨_, rfl⟩
      have HNa := Lib.hid hna
      have hnab : na ≤ 300 := by rw [← hna, List.length_cons, List.length_cons, List.length_take]; omega
      obtain ⟨oc, cc, rfl⟩ := hown.slice na hna
      have HT := Lib.hid (show n1 :: t :: F.take (4 * (ix + 1)) = (n1 :: t :: F.take (4 * ix)) ++ [xa, xb, xc, xd] by rw [f4]; rfl)
      obtain ⟨A, hA⟩ : ∃ A, n1 :: t :: F.take (4 * ix) = A := ⟨_, rfl⟩
      rw [hA] at HOw HNa HT
      have HRw := Lib.hid (show wr.ownsRow W.heap.size 47 1 (.slice oc na cc) na (numC .u32 A) from HNa.out ▸ HOw.out)
      clear f0 f1 f2 f3 f4 g0 g1 g2 g3 hna hown hlow hA c0 c1 c2 c3
      go_wp2_with fail
      refine wp_region_late (fun (p : Nat × Value × Value) jz => [.slice oc na cc, .slice (some ⟨g, oo, none⟩) n cF, .int .i64 (ix : Int), .pointer (some ⟨g, oo + ix * 4, none⟩), .pointer (some ⟨g, oo + ix * 4, none⟩), .int .u32 (xa : Int), .slice (some ⟨g, oo, none⟩) n cF, .int .i64 (ix : Int), .pointer (some ⟨g, oo + ix * 4, none⟩), .pointer (some ⟨g, oo + ix * 4 + 1, none⟩), .int .u32 (xb : Int), .slice (some ⟨g, oo, none⟩) n cF, .int .i64 (ix : Int), .pointer (some ⟨g, oo + ix * 4, none⟩), .pointer (some ⟨g, oo + ix * 4 + 2, none⟩), .int .u32 (xc : Int), .slice (some ⟨g, oo, none⟩) n cF, .int .i64 (ix : Int), .pointer (some ⟨g, oo + ix * 4, none⟩), .pointer (some ⟨g, oo + ix * 4 + 3, none⟩), .int .u32 (xd : Int), .slice (some ⟨p.1, 0, none⟩) 4 4, p.2.1, p.2.2].getD jz undef)
        (fun p l wx => RowLate W 47 1 na 4 (.slice oc na cc) (numC .u32 A) [.int .u32 (xa : Int), .int .u32 (xb : Int), .int .u32 (xc : Int), .int .u32 (xd : Int)] (l 0) (l 21) (l 22) (l 23) p.1 p.2.1 p.2.2 wx ∧ (l 22 = true → ∃ g9 c9, p.2.1 = .slice (some ⟨g9, 0, none⟩) (na + 4) c9))
        _ (by kernel_rfl) (fun i j => i == 0 && j == 23) (by kernel_rfl) (fun q => by simp only [putTo, dstOf, Act.put, List.size_toArray, List.length_cons, List.length_nil, List.getElem?_toArray, Nat.reduceAdd, Option.bind_some, List.getElem?_cons_zero, List.getElem?_cons_succ, List.setIfInBounds_toArray, List.set_cons_zero, List.set_cons_succ, List.getD_cons_zero, List.getD_cons_succ]; exact rfl) (0, undef, (.slice oc na cc)) ?_ ?_ ?_ ?_ ?_
      · exact ⟨RowLate.start HLw.out.drew (owned_below HRw.out (Below.refl _ _).drew), fun h => (by cases h)⟩
      · intro l hc i' j' hL hj
        obtain ⟨rfl, rfl⟩ : i' = 0 ∧ j' = 23 := by simpa using hL
        exact hc 22 _ rfl (hc 23 _ rfl hj ⟨22, .data⟩ (by simp) rfl) ⟨0, .data⟩ (by simp) rfl
      · intro q l wx hR i' j' d hL hd hj
        obtain ⟨rfl, rfl⟩ : i' = 0 ∧ j' = 23 := by simpa using hL
        obtain rfl : 8 = d := Option.some.inj hd
        have hcur := hR.1.cur0 hj
        show some (.slice oc na cc) = some q.2.2
        rw [hcur]
      · intro i o ho p l wx hR hl he K hK
        rcases i with _ | _ | _ | _ | _ | _ | _ | _ | _ | _ | _ | _ | _ | _ | _ | _ | _ | _ | _ | _ | _ | _ | _ | _ | i
        · obtain rfl : _ = o := Option.some.inj ho
          have hld := hR.1.loaded hl
          have hcur := hld.2
          have HR := Lib.hid (And.intro hld.1 hR.2)
          clear hR hld
          obtain ⟨pb, pv, pc⟩ := p
          dsimp only at hcur
          subst hcur
          go_simp
          exact hK (pb, pv, _) wx (fun _ _ => rfl) HR.out
        · obtain rfl : _ = o := Option.some.inj ho
          have HR := Lib.hid hR
          clear hR
          go_simp
          exact hK p wx (fun _ _ => rfl) HR.out
        · obtain rfl : _ = o := Option.some.inj ho
          have HR := Lib.hid hR
          clear hR
          go_simp
          exact hK p wx (fun _ _ => rfl) HR.out
        · obtain rfl : _ = o := Option.some.inj ho
          have HR := Lib.hid hR
          clear hR
          go_simp
          exact hK p wx (fun _ _ => rfl) HR.out
        · obtain rfl : _ = o := Option.some.inj ho
          have HR := Lib.hid hR
          clear hR
          go_simp
          exact hK p wx (fun _ _ => rfl) HR.out
        · obtain rfl : _ = o := Option.some.inj ho
          have q := below_cell HC0.out.1 hR.1.low
          have HR := Lib.hid hR
          clear hR
          go_simp
          exact hK p wx (fun _ _ => rfl) HR.out
        · obtain rfl : _ = o := Option.some.inj ho
          have HR := Lib.hid hR
          clear hR
          go_simp
          exact hK p wx (fun _ _ => rfl) HR.out
        · obtain rfl : _ = o := Option.some.inj ho
          have HR := Lib.hid hR
          clear hR
          go_simp
          exact hK p wx (fun _ _ => rfl) HR.out
        · obtain rfl : _ = o := Option.some.inj ho
          have HR := Lib.hid hR
          clear hR
          go_simp
          exact hK p wx (fun _ _ => rfl) HR.out
        · obtain rfl : _ = o := Option.some.inj ho
          have HR := Lib.hid hR
          clear hR
          go_simp
          exact hK p wx (fun _ _ => rfl) HR.out
        · obtain rfl : _ = o := Option.some.inj ho
          have q := below_cell HC0.out.2.1 hR.1.low
          have HR := Lib.hid hR
          clear hR
          go_simp
          exact hK p wx (fun _ _ => rfl) HR.out
        · obtain rfl : _ = o := Option.some.inj ho
          have HR := Lib.hid hR
          clear hR
          go_simp
          exact hK p wx (fun _ _ => rfl) HR.out
        · obtain rfl : _ = o := Option.some.inj ho
          have HR := Lib.hid hR
          clear hR
          go_simp
          exact hK p wx (fun _ _ => rfl) HR.out
        · obtain rfl : _ = o := Option.some.inj ho
          have HR := Lib.hid hR
          clear hR
          go_simp
          exact hK p wx (fun _ _ => rfl) HR.out
        · obtain rfl : _ = o := Option.some.inj ho
          have HR := Lib.hid hR
          clear hR
          go_simp
          exact hK p wx (fun _ _ => rfl) HR.out
        · obtain rfl : _ = o := Option.some.inj ho
          have q := below_cell HC0.out.2.2.1 hR.1.low
          have HR := Lib.hid hR
          clear hR
          go_simp
          exact hK p wx (fun _ _ => rfl) HR.out
        · obtain rfl : _ = o := Option.some.inj ho
          have HR := Lib.hid hR
          clear hR
          go_simp
          exact hK p wx (fun _ _ => rfl) HR.out
        · obtain rfl : _ = o := Option.some.inj ho
          have HR := Lib.hid hR
          clear hR
          go_simp
          exact hK p wx (fun _ _ => rfl) HR.out
        · obtain rfl : _ = o := Option.some.inj ho
          have HR := Lib.hid hR
          clear hR
          go_simp
          exact hK p wx (fun _ _ => rfl) HR.out
        · obtain rfl : _ = o := Option.some.inj ho
          have HR := Lib.hid hR
          clear hR
          go_simp
          exact hK p wx (fun _ _ => rfl) HR.out
        · obtain rfl : _ = o := Option.some.inj ho
          have q := below_cell HC0.out.2.2.2 hR.1.low
          have HR := Lib.hid hR
          clear hR
          go_simp
          exact hK p wx (fun _ _ => rfl) HR.out
        · obtain rfl : _ = o := Option.some.inj ho
          have HR := Lib.hid hR
          clear hR
          have h8 : l 22 = false := by
            cases h : l 22 with
            | false => rfl
            | true => exact absurd (HR.out.1.o87 h) (by rw [hl]; decide)
          have HM := Lib.hid (HR.out.1.made hl _ rfl)
          go_simp
          refine hK (wx.heap.size, p.2) _ (fun j hj => ?_) ⟨HM.out, HR.out.2⟩
          rcases j with _ | _ | _ | _ | _ | _ | _ | _ | _ | _ | _ | _ | _ | _ | _ | _ | _ | _ | _ | _ | _ | _ | _ | _ | j
          all_goals first | rfl | (rw [hl] at hj; cases hj) | (rw [h8] at hj; cases hj)
        · obtain rfl : _ = o := Option.some.inj ho
          have h7 : l 21 = true := he ⟨21, .data⟩ (by simp) rfl
          have h0 : l 0 = true := he ⟨0, .data⟩ (by simp) rfl
          have hlit := (hR.1.lit h7).resolve_right (by rw [hl]; decide)
          have hcells : ∀ (j : Nat) (u : Value), ([.int .u32 (xa : Int), .int .u32 (xb : Int), .int .u32 (xc : Int), .int .u32 (xd : Int)] : List Value)[j]? = some u → wx.cell? ((⟨p.1, 0, none⟩ : Addr).add j) = some u := fun j u hj => by
            rw [Addr.add_lit, cell_at hlit]
            simpa using hj
          have HR := Lib.hid hR
          clear hR
          refine wp_append_own wx (.tmp 40) (.tmp 61) 26 rfl W.heap.size 47 i4 _ 1 4 Try.underlying26 HI4.out.1 HI4.out.2.1 HI4.out.2.2.1 HI4.out.2.2.2 rfl (by decide) _ na (numC .u32 A) rfl (HR.out.1.own hl) ⟨p.1, 0, none⟩ 4 4 [.int .u32 (xa : Int), .int .u32 (xb : Int), .int .u32 (xc : Int), .int .u32 (xd : Int)] rfl rfl hcells (by simp [Value.oneCell']) (by unfold maxLen; omega) (by omega) HR.out.1.low.size ?_
          intro v' w' ho hg _
          obtain ⟨gq, cq, hq⟩ := slice_of (show 0 < na + 4 by omega) ho
          have h9 := HR.out.1.not9 hl
          refine hK (p.1, v', p.2.2) w' (fun j hj => ?_) ⟨HR.out.1.put h0 h7 hl ho hg, fun _ => ⟨gq, cq, hq⟩⟩
          rcases j with _ | _ | _ | _ | _ | _ | _ | _ | _ | _ | _ | _ | _ | _ | _ | _ | _ | _ | _ | _ | _ | _ | _ | _ | j
          all_goals first | rfl | (rw [hl] at hj; cases hj) | (rw [h9] at hj; cases hj)
        · obtain rfl : _ = o := Option.some.inj ho
          have h8 : l 22 = true := he ⟨22, .data⟩ (by simp) rfl
          obtain ⟨g9, c9, hq⟩ := hR.2 h8
          have HS := Lib.hid (hR.1.set h8)
          have HR := Lib.hid hR.2
          clear hR h8
          obtain ⟨pb, pv, pc⟩ := p
          dsimp only at hq HS
          subst hq
          go_simp
          refine hK (pb, _, .slice (some ⟨g9, 0, none⟩) (na + 4) c9) wx (fun j hj => ?_) ⟨HS.out, HR.out⟩
          rcases j with _ | _ | _ | _ | _ | _ | _ | _ | _ | _ | _ | _ | _ | _ | _ | _ | _ | _ | _ | _ | _ | _ | _ | _ | j
          all_goals first | rfl | (rw [hl] at hj; cases hj)
        · simp at ho
      · intro p l wx hl hR
        have HO5 := Lib.hid (hR.1.own2 (hl 22 (by decide)))
        have HB5 := Lib.hid hR.1.low
        have hcur := hR.1.cur1 (hl 23 (by decide))
        obtain ⟨g9, c9, hq⟩ := hR.2 (hl 22 (by decide))
        clear hR hl
        obtain ⟨pb, pv, pc⟩ := p
        dsimp only at hcur hq HO5
        subst hcur hq
        have HO6 := Lib.hid (show OwnN 47 .u32 wx W.heap.size (.slice (some ⟨g9, 0, none⟩) (na + 4) c9) (A ++ [xa, xb, xc, xd]) from by
          unfold OwnN
          rw [List.length_append, HNa.out, numC_append]
          exact HO5.out)
        go_wp2_with fail
        go_roundw
        case rel => exact ⟨ix + 1, by omega, by go_num, by rw [HT.out]; exact HO6.out, HB5.out⟩
        case measure => simp [intOf]; omega
    · obtain rfl : ix = n := by omega
      have HT := Lib.hid (show n1 :: t :: F.take (4 * ix) = n1 :: t :: F by rw [List.take_of_length_le (by have := HFl.out; omega)])
      obtain ⟨A0, hA0⟩ : ∃ A, n1 :: t :: F = A := ⟨_, rfl⟩
      have HA0 := Lib.hid hA0
      rw [HT.out, hA0] at HOw
      have hA0l : A0.length = 2 + 4 * ix := by rw [← hA0, List.length_cons, List.length_cons, HFl.out]; omega
      have HA0l := Lib.hid hA0l
      obtain ⟨m0, hm0⟩ : ∃ m0, A0.length = m0 := ⟨_, rfl⟩
      obtain ⟨oc0, cc0, rfl⟩ := HOw.out.slice m0 hm0
      have HP := Lib.hid (show P32 W (.slice oc0 m0 cc0) (.slice (some ⟨wr.heap.size, 0, none⟩) 0 0) (A0 ++ headsI b0 (L.take 0)) (bodyI (L.take 0)) (wr.alloc (.cells #[] 47)) from ⟨by rw [List.take_zero, headsI, List.append_nil]; exact HOw.out.below below_one, OwnN.new _ _ _ _ HLw.out.size, .inr (.inr fun e => by
        have := (World.ownsRow.lt HOw.out wr.heap.size (by rw [e]; rfl)).2
        omega), low_new HLw.out⟩)
      clear hown hlow HT hA0 hA0l hm0
      go_wp2_with fail
      go_loopw [8, 10, 77] (fun cv bv jv wr => ∃ j : Nat, j ≤ t ∧ jv = .int .i64 (j : Int) ∧ P32 W cv bv (A0 ++ headsI b0 (L.take j)) (bodyI (L.take j)) wr) (fun _ _ jv _ => t - (intOf jv).toNat)
      case atStart => exact ⟨0, by omega, rfl, HP.out⟩
      case round =>
        obtain ⟨j, hj, rfl, hp⟩ := hrel
        have HP := Lib.hid hp
        have HOk := Lib.hid (show okAll ix (L.take j) from fun s hs => by
          have h1 := HOkAll.out s (by rw [List.length_take] at hs; omega)
          unfold liAt at h1 ⊢
          rw [List.getD_eq_getElem?_getD] at h1 ⊢
          rw [List.getElem?_take, if_pos (by rw [List.length_take] at hs; omega)]
          exact h1)
        by_cases hjt : j < t
        · have hjt1 : (j : Int) < (t : Int) := by omega
          obtain ⟨l, hl⟩ : ∃ l, L[j]? = some l := ⟨_, List.getElem?_eq_getElem (by rw [HN.out]; exact hjt)⟩
          obtain ⟨g, o, hoL, c0, c1, p, c2, pa, pc, rfl, r1, r2, r3, r4⟩ := HL.out j l hl
          subst hoL
          have hokl := okAll_at HOkAll.out hl
          have HCe := Lib.hid c2
          have c1 := below_cell c1 hp.low
          obtain ⟨kk, rr, es⟩ := l
          dsimp only at c0 c1 c2 r1 r4
          obtain ⟨m, hm⟩ : ∃ m, es.length = m := ⟨_, rfl⟩
          rw [hm] at r1 c2
          have hmb : m ≤ 100000 := by have := (HE.out _ (List.mem_of_getElem? hl)).1; dsimp only at this; omega
          have HEn := Lib.hid (fun (w : World) (h : ReadE w pa es) => HEnc.out w pa pc m es hm h hmb)
          have hme : MayE es := hokl.2.2.2.1
          rw [show encE es = 0 from if_pos hme, show encX es = encN es from if_pos hme] at HEn
          have hzp := encN_pos es
          have hzb := encN_lenI hme
          obtain ⟨Z, hZ⟩ : ∃ Z, encN es = Z := ⟨_, rfl⟩
          rw [hZ] at HEn hzp hzb
          obtain ⟨zl, hzl⟩ : ∃ zl, Z.length = zl := ⟨_, rfl⟩
          rw [hzl] at hzp hzb
          have HZ := Lib.hid (And.intro hZ hzl)
          have HRe := Lib.hid r4
          have HC2 := Lib.hid c2
          have HLj := Lib.hid hl
          have HOk2 := Lib.hid (okAll_take HOk.out hl hokl)
          obtain ⟨rn, hrn⟩ : ∃ r : Nat, rr = (r : Int) := Int.eq_ofNat_of_zero_le (by have := hokl.1; dsimp only at this; omega)
          have hrb : rn ≤ 65535 := by have := hokl.2.1; dsimp only at this; omega
          subst hrn
          have x1 : IntKind.u32.wrap (rn : Int) = (rn : Int) := IntWalk.u32_in _ (by omega)
          have hbd := HS.out (j + 1) (by omega) HOk2.out
          rw [li_take HLj.out, bodyI_snoc] at hbd
          dsimp only at hbd
          rw [HZ.out.1, List.length_append, HZ.out.2] at hbd
          obtain ⟨nb, hnb⟩ : ∃ nb, (bodyI (L.take j)).length = nb := ⟨_, rfl⟩
          rw [hnb] at hbd
          obtain ⟨na, hna⟩ : ∃ na, (A0 ++ headsI b0 (L.take j)).length = na := ⟨_, rfl⟩
          have hnab : na ≤ 800 := by rw [← hna, List.length_append, headsI_length, HA0l.out, List.length_take]; omega
          obtain ⟨x, hx⟩ : ∃ x, b0 + nb = x := ⟨_, rfl⟩
          have x2 : (b0 : Int) + (nb : Int) = (x : Int) := by omega
          have hxb : x ≤ 300000 := by have := HNum.out.2; omega
          have x3 : IntKind.i64.wrap ((b0 : Int) + (nb : Int)) = (x : Int) := by rw [x2]; exact IntWalk.i64_in _ (by omega)
          have x4 : IntKind.u32.wrap (x : Int) = (x : Int) := IntWalk.u32_in _ (by omega)
          have x5 : IntKind.i64.wrap (x : Int) = (x : Int) := IntWalk.i64_in _ (by omega)
          have HHd := Lib.hid (show A0 ++ headsI b0 (L.take (j + 1)) = (A0 ++ headsI b0 (L.take j)) ++ [rn, x] by rw [li_take HLj.out, headsI_snoc, hnb, hx, List.append_assoc]; rfl)
          have HBd := Lib.hid (show bodyI (L.take (j + 1)) = bodyI (L.take j) ++ Z by rw [li_take HLj.out, bodyI_snoc]; dsimp only; rw [HZ.out.1])
          obtain ⟨A, hA⟩ : ∃ A, A0 ++ headsI b0 (L.take j) = A := ⟨_, rfl⟩
          obtain ⟨B, hB⟩ : ∃ B, bodyI (L.take j) = B := ⟨_, rfl⟩
          rw [hA] at hna HHd HP
          rw [hB] at hnb HBd HP
          obtain ⟨oc, cc, rfl⟩ := HP.out.a.slice na hna
          obtain ⟨ob, cb, rfl⟩ := HP.out.b.slice nb hnb
          have HNa := Lib.hid (And.intro hna hnb)
          have hbd2 : nb + zl ≤ 200000 := hbd
          have HP6 := Lib.hid (HP.out.below (below_one (w := wr) (A := .cells #[.int .u32 (rn : Int), .int .u32 (x : Int)] 47)))
          have HR6 := Lib.hid (readN_new .u32 wr [rn, x] 47)
          clear hl r4 hm hp c0 c2 hokl hme hZ hzl hx hA hB hna hnb hbd r1 r2 r3
          go_wp2_with (at_builtin; refine append_pair (W := W) rfl (.tmp 80) (.tmp 92) rfl _ _ A B HP6.out rfl na HNa.out.1 _ 2 2 [rn, x] rfl rfl HR6.out (by omega) (by omega) ?_; intro g7 cap7 w7 hp7 hg7; have HP7 := Lib.hid hp7; clear hp7 hg7; clear c1; have c2 := below_cell HC2.out HP7.out.low)
          refine (HEn.out _ (HRe.out.below HP7.out.low)).mono ?_; rintro e w5 ⟨v5, rfl, ho5, hb5⟩
          have HP8 := Lib.hid (HP7.out.below hb5)
          obtain ⟨oz, cz, rfl, z1, _, z3, hz5⟩ := ho5.reads_of zl HZ.out.2
          obtain ⟨gz, oz2, hoz, _⟩ := hz5 0 _ (List.getElem?_eq_getElem (by rw [HZ.out.2]; exact hzp))
          subst hoz
          have HR5 := Lib.hid hz5
          clear ho5 hb5 hz5 c2
          go_wp2_with (at_builtin; refine append_pair (W := W) rfl (.tmp 103) (.tmp 104) rfl _ _ B _ HP8.out.swap rfl nb HNa.out.2 _ _ zl Z HZ.out.2 rfl HR5.out (by omega) (by omega) ?_; intro g8 cap8 w8 hp8 hg8; have HP9 := Lib.hid hp8.swap; clear hp8 hg8)
          go_roundw
          case rel => exact ⟨j + 1, by omega, by go_num, by rw [HHd.out, HBd.out]; exact HP9.out⟩
          case measure => simp [intOf]; omega
        · obtain rfl : j = t := by omega
          have hbd := HS.out j (Nat.le_refl _) HOk.out
          have htk : L.take j = L := List.take_of_length_le (by have := HN.out; omega)
          rw [htk] at HP hbd
          have HImg := Lib.hid (show mkX (at0 : Int) ix F L = (A0 ++ headsI b0 L) ++ bodyI L from by
            unfold mkX
            rw [if_pos HYes.out]
            unfold imgN
            rw [show ((at0 : Nat) : Int).toNat = at0 by omega, HN.out, HBase.out, ← HA0.out, ← HNum.out.1, List.append_assoc]
            rfl)
          obtain ⟨nb, hnb⟩ : ∃ nb, (bodyI L).length = nb := ⟨_, rfl⟩
          obtain ⟨na, hna⟩ : ∃ na, (A0 ++ headsI b0 L).length = na := ⟨_, rfl⟩
          have hnab : na ≤ 800 := by rw [← hna, List.length_append, headsI_length, HA0l.out]; have := HN.out; omega
          obtain ⟨A, hA⟩ : ∃ A, A0 ++ headsI b0 L = A := ⟨_, rfl⟩
          obtain ⟨B, hB⟩ : ∃ B, bodyI L = B := ⟨_, rfl⟩
          rw [hA] at hna HImg HP
          rw [hB] at hnb HImg HP hbd
          rw [hnb] at hbd
          obtain ⟨oc, cc, rfl⟩ := HP.out.a.slice na hna
          obtain ⟨ob, cb, hbv, y1, _, y2, hrd⟩ := HP.out.b.reads_of nb hnb
          subst hbv
          have HNa := Lib.hid (And.intro hna hnb)
          have HRd := Lib.hid hrd
          clear hp htk hna hnb hA hB hrd
          go_wp2_with (at_builtin; refine append_u32 (W := W) rfl (.tmp 107) (.tmp 108) rfl _ A B rfl HP.out.low HP.out.a ob cb nb HNa.out.2 rfl HRd.out y2 y1 (by rw [HNa.out.1]; omega) ?_; intro v7 w7 ho hg; have HO7 := Lib.hid ho; clear ho hg)
          go_ret2
          exact ⟨_, by rw [show mkE (at0 : Int) ix L = 0 from if_pos HYes.out]; rfl, by rw [HImg.out]; exact HO7.out.1, HO7.out.2⟩
set_option maxRecDepth 100000 in
set_option maxHeartbeats 1000000 in
theorem ref_size14 (W : World) (oF : Option Addr) (cF n : Nat) (F : List Nat) (oL : Option Addr) (cL t : Nat) (L : List Li) (hF : F.length = 4 * n) (hr : ReadN .u32 W oF F) (en : L.length = t) (hL : ReadLi W oL L)
    (hS : ∀ i, i ≤ t → okAll n (L.take i) → (bodyI (L.take i)).length ≤ 200000) (hE : ∀ l ∈ L, l.ents.length ≤ 100000 ∧ l.key.size ≤ reachBytes) (N : Nat) (hN : (mkX 0 n F L).length = N) :
    Calls Try.prog 14 #[.slice oF n cF, .slice oL t cL] W fun e w' => e = .returned (.int .i64 (N : Int)) ∧ Below W.heap.size W w' := by
  have HM := Lib.hid (ref_make14 W 0 oF cF n F oL cL t L hF hr en hL hS hE)
  have HN := Lib.hid hN
  clear hr hL hS hE hF en hN
  go_enter Try.func14, Try.ntmps14
  go_wp2_with fail
  refine HM.out.mono ?_; rintro e w1 ⟨v, rfl, ho, hb⟩
  obtain ⟨ob, cb, rfl, _, _, _, _⟩ := ho.reads_of N HN.out
  have HB := Lib.hid hb
  clear ho hb
  go_wp2_with fail
  go_ret
  exact ⟨rfl, HB.out⟩
end Go.Proofs.Ytpmhkmakkeckkaa

namespace Go.Proofs.Ytpmhkmakkeckkaa
open Go.ChangeShapes Go.WideShapes Go.ChangeAt Go.RowKit Go.Deep

set_option maxRecDepth 100000 in
theorem sz_at {H : Type} {P : Program} {ts : List TypeId} {ds : List (DataW H)} (j : Nat) (h : (DataW.weightsEach P ts ds).all (· ≤ reachBytes) = true) {t : TypeId} {d : DataW H} (ht : ts[j]? = some t) (hd : ds[j]? = some d) : ∀ n ∈ d.weights P t, n ≤ reachBytes := by
  intro n hn
  have := List.all_eq_true.1 h n (DataW.weights_mem_each ht hd n hn)
  simpa using this
set_option maxRecDepth 100000 in
theorem mem_weightsAll {H : Type} {P : Program} {e : TypeId} : ∀ {l : List (DataW H)} {i : Nat} {d : DataW H}, l[i]? = some d → ∀ n ∈ d.weights P e, n ∈ DataW.weightsAll P e l
  | d0 :: l, 0, d, hd, n, hn => by
    simp only [List.getElem?_cons_zero, Option.some.injEq] at hd
    subst hd
    simp only [DataW.weightsAll, List.mem_append]
    exact Or.inl hn
  | d0 :: l, i + 1, d, hd, n, hn => by
    simp only [List.getElem?_cons_succ] at hd
    simp only [DataW.weightsAll, List.mem_append]
    exact Or.inr (mem_weightsAll hd n hn)
  | [], _, _, hd, _, _ => by simp at hd
end Go.Proofs.Ytpmhkmakkeckkaa

namespace Go.Proofs.Ytpmhkmakkeckkaa
open Go.ChangeShapes Go.WideShapes Go.ChangeAt Go.RowKit Go.Deep

set_option maxRecDepth 100000 in
theorem trod_places_r {H : Type} {enc : TypeId × Value → H} {W : World} {fuel : Nat} {c : Value} {x : DataW H × List MemPlace} (hf : DataW.trod enc Try.prog W 0 (fun _ => true) true fuel 50 [c] = some x) (hs : ∀ n ∈ x.1.weights Try.prog 50, n ≤ reachBytes) :
    ∃ l : List Int, RdP W c l ∧ (∀ x ∈ l, In64 x) ∧ l.length ≤ reachBytes := by
  rcases open_ints Try.underlying50 Try.underlying3 (by kernel_rfl) hf with ⟨hcs, _⟩ | ⟨a', len', cap', zs, hcs, _, hl, hm, hz, hxx, hcell, hwf⟩
  · simp only [List.cons.injEq, and_true] at hcs
    subst hcs
    exact ⟨[], ⟨none, 0, rfl, by simp, by simp [maxLen], fun _ => rfl, ReadZ.nil _ _⟩, by simp, by simp⟩
  · simp only [List.cons.injEq, and_true] at hcs
    subst hcs
    simp only [if_true] at hz
    have hlen : (zs.take len').length = len' := by simp; omega
    refine ⟨zs.take len', ⟨some a', cap', by rw [hlen], by omega, hm, (by intro e; cases e), fun j x hj => ?_⟩, fun x hx => wf_i64 (hwf x (List.mem_of_mem_take hx)), ?_⟩
    · have hjl : j < len' := by have := (List.getElem?_eq_some_iff.1 hj).1; omega
      have h1 := hcell j (by omega)
      have hz2 := hj
      rw [List.getElem?_take, if_pos hjl] at hz2
      have hg : zs.getD j 0 = x := by simp [hz2]
      rw [hg] at h1
      obtain ⟨g, o, ha⟩ : ∃ g o, a' = ⟨g, o, none⟩ := by
        have h0 := hcell 0 (by omega)
        rw [show a'.add 0 = a' by simp [Addr.add]] at h0
        exact cell_plain h0
      subst ha
      refine ⟨g, o, rfl, ?_⟩
      rw [Addr.add_lit] at h1
      exact h1
    · have hu : Try.prog.underlying 50 = some (.slice 3) := Try.underlying50
      have h8 : Try.prog.bytesOf 3 = 8 := by kernel_rfl
      have := hs (zs.length * 8) (by
        rw [hxx]
        unfold DataW.weights
        rw [hu]
        refine List.mem_cons.2 (.inl ?_)
        rw [h8]
        simp [lits]
        omega)
      omega
set_option maxRecDepth 100000 in
theorem open_ents_r {H : Type} {enc : TypeId × Value → H} {W : World} {v : Value} {d : DataW H} {p : List MemPlace} {base : Nat}
    (hs : ∀ n ∈ d.weights Try.prog 42, n ≤ reachBytes) (hv : Value.okWide Try.prog W .any base 42 v) (h : DataW.Trod enc Try.prog W 0 (fun _ => true) true 42 v d p) :
    ∃ ao l cap, v = .slice ao (List.length l) cap ∧ ReadE W ao l ∧ l.length ≤ cap ∧ cap ≤ maxLen ∧ (ao = none → cap = 0) ∧ ∀ e ∈ l, (In64 e.1 ∧ ∀ x ∈ e.2, In64 x) ∧ e.2.length ≤ reachBytes := by
  obtain ⟨a, len, cap, rfl⟩ := okWide_slice Try.underlying42 hv
  obtain ⟨fuel, hf⟩ := h
  rcases open_slice Try.underlying42 hf with ⟨hcs, _⟩ | ⟨a', len', cap', m, n, D, Pl, hcs, _, hl, hm, hmm, hdd, hi⟩
  · simp only [Value.cells, List.cons.injEq, and_true, Value.slice.injEq] at hcs
    obtain ⟨rfl, rfl, rfl⟩ := hcs
    exact ⟨none, [], 0, rfl, ReadE.nil _ _, by simp, by simp [maxLen], fun _ => rfl, by simp⟩
  · simp only [Value.cells, List.cons.injEq, and_true, Value.slice.injEq] at hcs
    obtain ⟨rfl, rfl, rfl⟩ := hcs
    simp only [if_true] at hmm
    subst hmm
    rw [cells_ent] at hi
    have hus : Try.prog.underlying 42 = some (.slice 52) := Try.underlying42
    have hue := Try.underlying52
    obtain ⟨E, hE⟩ := choose_lt (α := En) (n := len) (p := fun i x => ∃ b off, (some a' : Option Addr) = some ⟨b, off, none⟩ ∧ W.cell? ⟨b, off + i * 2, none⟩ = some (.int .i64 x.1) ∧
      (∃ q, W.cell? ⟨b, off + i * 2 + 1, none⟩ = some q ∧ RdP W q x.2) ∧ (In64 x.1 ∧ ∀ y ∈ x.2, In64 y) ∧ x.2.length ≤ reachBytes) (fun i him => by
        obtain ⟨cs, hc, ht⟩ := hi i (by omega)
        obtain ⟨ys, n', _, hDi, hlen, hyl, hg⟩ := DataW.trod_struct Try.underlying52 ht
        obtain ⟨_, hcl, hat⟩ := World.cells?_some hc
        match cs, hcl with
        | [c0, c1], _ =>
          have g0 := hg 0 _ rfl
          have g1 := hg 1 _ rfl
          match ys, hyl with
          | [y0, y1], _ =>
            obtain ⟨x0, e0, _, wf0⟩ := DataW.trod_int Try.underlying3 (show DataW.trod enc Try.prog W 0 (fun _ => true) true n' 3 [c0] = some y0 from g0)
            obtain ⟨x1, hx1, hx2, hx3⟩ := trod_places_r (show DataW.trod enc Try.prog W 0 (fun _ => true) true n' 50 [c1] = some y1 from g1) (fun k hk => hs k (by
              rw [show d = _ from congrArg Prod.fst hdd]
              unfold DataW.weights
              rw [hus]
              refine List.mem_cons_of_mem _ (List.mem_append_left _ (mem_weightsAll (i := i) (d := D i) (by rw [List.getElem?_map, List.getElem?_range him]; rfl) _ ?_))
              rw [show D i = _ from congrArg Prod.fst hDi]
              unfold DataW.weights
              rw [hue]
              exact DataW.weights_mem_each (j := 1) rfl rfl k hk))
            simp only [List.cons.injEq, and_true] at e0
            subst e0
            have k0 := hat 0 (by omega)
            have k1 := hat 1 (by omega)
            simp only [List.getElem?_cons_zero, List.getElem?_cons_succ] at k0 k1
            obtain ⟨b, off, sp⟩ := a'
            have hs1 : sp = none := by
              obtain ⟨cs0, hc0, _⟩ := hi 0 (by omega)
              obtain ⟨_, hl0, hat0⟩ := World.cells?_some hc0
              have h00 := hat0 0 (by omega)
              rw [Nat.zero_mul, Addr.add_zero', Addr.add_zero', List.getElem?_eq_getElem (by omega)] at h00
              exact plain_of_cell h00
            subst hs1
            simp only [Addr.add_lit] at k0 k1
            exact ⟨(x0, x1), b, off, rfl, by simpa using k0, ⟨_, k1, hx1⟩, ⟨wf_i64 wf0, hx2⟩, hx3⟩)
    have hlen : ((List.range len).map E).length = len := by simp
    refine ⟨some a', (List.range len).map E, _, by rw [hlen], fun j e hj => ?_, by omega, by omega, (by intro e; cases e), fun e he => ?_⟩
    · rw [List.getElem?_map] at hj
      obtain ⟨i, hi1, rfl⟩ := Option.map_eq_some_iff.1 hj
      obtain ⟨hi2, hi3⟩ := List.getElem?_eq_some_iff.1 hi1
      rw [List.getElem_range] at hi3
      subst hi3
      obtain ⟨b, off, h1, h2, h3, _⟩ := hE j (by simpa using hi2)
      exact ⟨b, off, h1, h2, h3⟩
    · obtain ⟨i, hi1, rfl⟩ := List.mem_map.1 he
      obtain ⟨_, _, _, _, _, h4⟩ := hE i (List.mem_range.1 hi1)
      exact h4
end Go.Proofs.Ytpmhkmakkeckkaa

namespace Go.Proofs.Ytpmhkmakkeckkaa
open Go.ChangeShapes Go.WideShapes Go.ChangeAt Go.RowKit Go.Deep

def EnIn (l : List En) : Prop := ∀ e ∈ l, (In64 e.1 ∧ ∀ x ∈ e.2, In64 x) ∧ e.2.length ≤ reachBytes
set_option maxRecDepth 100000 in
theorem trod_ents_r {H : Type} {enc : TypeId × Value → H} {W : World} {fuel : Nat} {c : Value} {x : DataW H × List MemPlace} (hf : DataW.trod enc Try.prog W 0 (fun _ => true) true fuel 42 [c] = some x) (hs : ∀ n ∈ x.1.weights Try.prog 42, n ≤ reachBytes) :
    ∃ l : List En, RdE W c l ∧ EnIn l := by
  rcases open_slice Try.underlying42 hf with ⟨hcs, _⟩ | ⟨a', len, cap, m, n, D, Pl, hcs, _, hl, hm, hmm, hdd, hi⟩
  · simp only [List.cons.injEq, and_true] at hcs
    subst hcs
    exact ⟨[], ⟨none, 0, rfl, by simp, by simp [maxLen], fun _ => rfl, ReadE.nil _ _⟩, by simp [EnIn]⟩
  · simp only [List.cons.injEq, and_true] at hcs
    subst hcs
    simp only [if_true] at hmm
    subst hmm
    rw [cells_ent] at hi
    have hus : Try.prog.underlying 42 = some (.slice 52) := Try.underlying42
    have hue := Try.underlying52
    obtain ⟨E, hE⟩ := choose_lt (α := En) (n := len) (p := fun i x => ∃ b off, (some a' : Option Addr) = some ⟨b, off, none⟩ ∧ W.cell? ⟨b, off + i * 2, none⟩ = some (.int .i64 x.1) ∧
      (∃ q, W.cell? ⟨b, off + i * 2 + 1, none⟩ = some q ∧ RdP W q x.2) ∧ (In64 x.1 ∧ ∀ y ∈ x.2, In64 y) ∧ x.2.length ≤ reachBytes) (fun i him => by
        obtain ⟨cs, hc, ht⟩ := hi i (by omega)
        obtain ⟨ys, n', _, hDi, hlen, hyl, hg⟩ := DataW.trod_struct Try.underlying52 ht
        obtain ⟨_, hcl, hat⟩ := World.cells?_some hc
        match cs, hcl with
        | [c0, c1], _ =>
          have g0 := hg 0 _ rfl
          have g1 := hg 1 _ rfl
          match ys, hyl with
          | [y0, y1], _ =>
            obtain ⟨x0, e0, _, wf0⟩ := DataW.trod_int Try.underlying3 (show DataW.trod enc Try.prog W 0 (fun _ => true) true n' 3 [c0] = some y0 from g0)
            obtain ⟨x1, hx1, hx2, hx3⟩ := trod_places_r (show DataW.trod enc Try.prog W 0 (fun _ => true) true n' 50 [c1] = some y1 from g1) (fun k hk => hs k (by
              rw [show x.1 = _ from congrArg Prod.fst hdd]
              unfold DataW.weights
              rw [hus]
              refine List.mem_cons_of_mem _ (List.mem_append_left _ (mem_weightsAll (i := i) (d := D i) (by rw [List.getElem?_map, List.getElem?_range him]; rfl) _ ?_))
              rw [show D i = _ from congrArg Prod.fst hDi]
              unfold DataW.weights
              rw [hue]
              exact DataW.weights_mem_each (j := 1) rfl rfl k hk))
            simp only [List.cons.injEq, and_true] at e0
            subst e0
            have k0 := hat 0 (by omega)
            have k1 := hat 1 (by omega)
            simp only [List.getElem?_cons_zero, List.getElem?_cons_succ] at k0 k1
            obtain ⟨b, off, sp⟩ := a'
            have hs1 : sp = none := by
              obtain ⟨cs0, hc0, _⟩ := hi 0 (by omega)
              obtain ⟨_, hl0, hat0⟩ := World.cells?_some hc0
              have h00 := hat0 0 (by omega)
              rw [Nat.zero_mul, Addr.add_zero', Addr.add_zero', List.getElem?_eq_getElem (by omega)] at h00
              exact plain_of_cell h00
            subst hs1
            simp only [Addr.add_lit] at k0 k1
            exact ⟨(x0, x1), b, off, rfl, by simpa using k0, ⟨_, k1, hx1⟩, ⟨wf_i64 wf0, hx2⟩, hx3⟩)
    have hlen : ((List.range len).map E).length = len := by simp
    refine ⟨(List.range len).map E, ⟨some a', _, by rw [hlen], by omega, by omega, (by intro e; cases e), fun j e hj => ?_⟩, fun e he => ?_⟩
    · rw [List.getElem?_map] at hj
      obtain ⟨i, hi1, rfl⟩ := Option.map_eq_some_iff.1 hj
      obtain ⟨hi2, hi3⟩ := List.getElem?_eq_some_iff.1 hi1
      rw [List.getElem_range] at hi3
      subst hi3
      obtain ⟨b, off, h1, h2, h3, _⟩ := hE j (by simpa using hi2)
      exact ⟨b, off, h1, h2, h3⟩
    · obtain ⟨i, hi1, rfl⟩ := List.mem_map.1 he
      obtain ⟨_, _, _, _, _, h4⟩ := hE i (List.mem_range.1 hi1)
      exact h4
def LiIn (l : Li) : Prop := In64 l.record ∧ l.key.size ≤ reachBytes ∧ EnIn l.ents
set_option maxRecDepth 100000 in
theorem open_lists_r {H : Type} {enc : TypeId × Value → H} {W : World} {v : Value} {d : DataW H} {p : List MemPlace} {base : Nat}
    (hs : ∀ n ∈ d.weights Try.prog 23, n ≤ reachBytes) (hv : Value.okWide Try.prog W .any base 23 v) (h : DataW.Trod enc Try.prog W 0 (fun _ => true) true 23 v d p) :
    ∃ ao L cap, v = .slice ao (List.length L) cap ∧ ReadLi W ao L ∧ L.length ≤ cap ∧ cap ≤ maxLen ∧ (ao = none → cap = 0) ∧ ∀ l ∈ L, LiIn l := by
  obtain ⟨a, len, cap, rfl⟩ := okWide_slice Try.underlying23 hv
  obtain ⟨fuel, hf⟩ := h
  rcases open_slice Try.underlying23 hf with ⟨hcs, _⟩ | ⟨a', len', cap', m, n, D, Pl, hcs, _, hl, hm, hmm, hdd, hi⟩
  · simp only [Value.cells, List.cons.injEq, and_true, Value.slice.injEq] at hcs
    obtain ⟨rfl, rfl, rfl⟩ := hcs
    exact ⟨none, [], 0, rfl, ReadLi.nil _ _, by simp, by simp [maxLen], fun _ => rfl, by simp⟩
  · simp only [Value.cells, List.cons.injEq, and_true, Value.slice.injEq] at hcs
    obtain ⟨rfl, rfl, rfl⟩ := hcs
    simp only [if_true] at hmm
    subst hmm
    rw [cells_list] at hi
    have hus : Try.prog.underlying 23 = some (.slice 44) := Try.underlying23
    have hue := Try.underlying44
    obtain ⟨E, hE⟩ := choose_lt (α := Li) (n := len) (p := fun i x => ∃ b off, (some a' : Option Addr) = some ⟨b, off, none⟩ ∧ W.cell? ⟨b, off + i * 3, none⟩ = some (.string x.key) ∧ W.cell? ⟨b, off + i * 3 + 1, none⟩ = some (.int .i64 x.record) ∧
      (∃ q, W.cell? ⟨b, off + i * 3 + 2, none⟩ = some q ∧ RdE W q x.ents) ∧ LiIn x) (fun i him => by
        obtain ⟨cs, hc, ht⟩ := hi i (by omega)
        obtain ⟨ys, n', _, hDi, hlen, hyl, hg⟩ := DataW.trod_struct Try.underlying44 ht
        obtain ⟨_, hcl, hat⟩ := World.cells?_some hc
        match cs, hcl with
        | [c0, c1, c2], _ =>
          have g0 := hg 0 _ rfl
          have g1 := hg 1 _ rfl
          have g2 := hg 2 _ rfl
          match ys, hyl with
          | [y0, y1, y2], _ =>
            have hw : ∀ (j : Nat) (t : TypeId) (y : DataW H × List MemPlace), ([9, 3, 42] : List TypeId)[j]? = some t → [y0, y1, y2][j]? = some y → ∀ k ∈ y.1.weights Try.prog t, k ≤ reachBytes := by
              intro j t y ht hy k hk
              refine hs k ?_
              rw [show d = _ from congrArg Prod.fst hdd]
              unfold DataW.weights
              rw [hus]
              refine List.mem_cons_of_mem _ (List.mem_append_left _ (mem_weightsAll (i := i) (d := D i) (by rw [List.getElem?_map, List.getElem?_range him]; rfl) _ ?_))
              rw [show D i = _ from congrArg Prod.fst hDi]
              unfold DataW.weights
              rw [hue]
              refine DataW.weights_mem_each (j := j) ht ?_ k hk
              match j, hy with
              | 0, hy => cases hy; rfl
              | 1, hy => cases hy; rfl
              | 2, hy => cases hy; rfl
              | j + 3, hy => simp at hy
            obtain ⟨s, e0, he0, _⟩ := DataW.trod_string Try.underlying9 (show DataW.trod enc Try.prog W 0 (fun _ => true) true n' 9 [c0] = some y0 from g0)
            obtain ⟨x1, e1, _, wf1⟩ := DataW.trod_int Try.underlying3 (show DataW.trod enc Try.prog W 0 (fun _ => true) true n' 3 [c1] = some y1 from g1)
            obtain ⟨x2, hx2, hx3⟩ := trod_ents_r (show DataW.trod enc Try.prog W 0 (fun _ => true) true n' 42 [c2] = some y2 from g2) (hw 2 _ y2 rfl rfl)
            have hss : s.size ≤ reachBytes := hw 0 _ y0 rfl rfl s.size (by rw [he0]; simp [DataW.weights])
            simp only [List.cons.injEq, and_true] at e0 e1
            subst e0 e1
            have k0 := hat 0 (by omega)
            have k1 := hat 1 (by omega)
            have k2 := hat 2 (by omega)
            simp only [List.getElem?_cons_zero, List.getElem?_cons_succ] at k0 k1 k2
            obtain ⟨b, off, sp⟩ := a'
            have hs1 : sp = none := by
              obtain ⟨cs0, hc0, _⟩ := hi 0 (by omega)
              obtain ⟨_, hl0, hat0⟩ := World.cells?_some hc0
              have h00 := hat0 0 (by omega)
              rw [Nat.zero_mul, Addr.add_zero', Addr.add_zero', List.getElem?_eq_getElem (by omega)] at h00
              exact plain_of_cell h00
            subst hs1
            simp only [Addr.add_lit] at k0 k1 k2
            exact ⟨⟨s, x1, x2⟩, b, off, rfl, by simpa using k0, k1, ⟨_, k2, hx2⟩, wf_i64 wf1, hss, hx3⟩)
    have hlen : ((List.range len).map E).length = len := by simp
    refine ⟨some a', (List.range len).map E, _, by rw [hlen], fun j e hj => ?_, by omega, by omega, (by intro e; cases e), fun e he => ?_⟩
    · rw [List.getElem?_map] at hj
      obtain ⟨i, hi1, rfl⟩ := Option.map_eq_some_iff.1 hj
      obtain ⟨hi2, hi3⟩ := List.getElem?_eq_some_iff.1 hi1
      rw [List.getElem_range] at hi3
      subst hi3
      obtain ⟨b, off, h1, h2, h3, h4, _⟩ := hE j (by simpa using hi2)
      exact ⟨b, off, h1, h2, h3, h4⟩
    · obtain ⟨i, hi1, rfl⟩ := List.mem_map.1 he
      obtain ⟨_, _, _, _, _, _, h4⟩ := hE i (List.mem_range.1 hi1)
      exact h4
set_option maxRecDepth 100000 in
theorem wf_u32 {x : Int} (h : (Lit.int .u32 x).wf = true) : 0 ≤ x ∧ x < 4294967296 := by
  simp [Lit.wf, IntKind.min, IntKind.max, IntKind.bits, IntKind.signed] at h
  omega
set_option maxRecDepth 100000 in
theorem open_rows {H : Type} {enc : TypeId × Value → H} {W : World} {v : Value} {d : DataW H} {p : List MemPlace} {base : Nat}
    (hv : Value.okWide Try.prog W .any base 22 v) (h : DataW.Trod enc Try.prog W 0 (fun _ => true) true 22 v d p) :
    ∃ ao N F cap, v = .slice ao N cap ∧ List.length F = 4 * N ∧ ReadN .u32 W ao F ∧ N ≤ cap ∧ cap ≤ maxLen ∧ (ao = none → cap = 0) ∧ ∀ x ∈ F, x < 4294967296 := by
  obtain ⟨a, len, cap, rfl⟩ := okWide_slice Try.underlying22 hv
  obtain ⟨fuel, hf⟩ := h
  rcases open_slice Try.underlying22 hf with ⟨hcs, _⟩ | ⟨a', len', cap', m, n, D, Pl, hcs, _, hl, hm, hmm, hdd, hi⟩
  · simp only [Value.cells, List.cons.injEq, and_true, Value.slice.injEq] at hcs
    obtain ⟨rfl, rfl, rfl⟩ := hcs
    exact ⟨none, 0, [], 0, rfl, rfl, ReadN.nil _ _ _, by simp, by simp [maxLen], fun _ => rfl, by simp⟩
  · simp only [Value.cells, List.cons.injEq, and_true, Value.slice.injEq] at hcs
    obtain ⟨rfl, rfl, rfl⟩ := hcs
    simp only [if_true] at hmm
    subst hmm
    rw [cells_row] at hi
    obtain ⟨E, hE⟩ := choose_lt (α := List Nat) (n := len) (p := fun i x => x.length = 4 ∧ (∀ y ∈ x, y < 4294967296) ∧ ∃ b off, (some a' : Option Addr) = some ⟨b, off, none⟩ ∧ ∀ k y : Nat, x[k]? = some y → W.cell? ⟨b, off + (i * 4 + k), none⟩ = some (.int .u32 (y : Int))) (fun i him => by
        obtain ⟨cs, hc, ht⟩ := hi i (by omega)
        obtain ⟨ys, n', _, hDi, hlen, hyl, hg⟩ := DataW.trod_struct Try.underlying54 ht
        obtain ⟨_, hcl, hat⟩ := World.cells?_some hc
        match cs, hcl with
        | [c0, c1, c2, c3], _ =>
          have g0 := hg 0 _ rfl
          have g1 := hg 1 _ rfl
          have g2 := hg 2 _ rfl
          have g3 := hg 3 _ rfl
          match ys, hyl with
          | [y0, y1, y2, y3], _ =>
            obtain ⟨x0, e0, _, wf0⟩ := DataW.trod_int Try.underlying47 (show DataW.trod enc Try.prog W 0 (fun _ => true) true n' 47 [c0] = some y0 from g0)
            obtain ⟨x1, e1, _, wf1⟩ := DataW.trod_int Try.underlying47 (show DataW.trod enc Try.prog W 0 (fun _ => true) true n' 47 [c1] = some y1 from g1)
            obtain ⟨x2, e2, _, wf2⟩ := DataW.trod_int Try.underlying47 (show DataW.trod enc Try.prog W 0 (fun _ => true) true n' 47 [c2] = some y2 from g2)
            obtain ⟨x3, e3, _, wf3⟩ := DataW.trod_int Try.underlying47 (show DataW.trod enc Try.prog W 0 (fun _ => true) true n' 47 [c3] = some y3 from g3)
            have wf0 := wf_u32 wf0
            have wf1 := wf_u32 wf1
            have wf2 := wf_u32 wf2
            have wf3 := wf_u32 wf3
            simp only [List.cons.injEq, and_true] at e0 e1 e2 e3
            subst e0 e1 e2 e3
            have k0 := hat 0 (by omega)
            have k1 := hat 1 (by omega)
            have k2 := hat 2 (by omega)
            have k3 := hat 3 (by omega)
            simp only [List.getElem?_cons_zero, List.getElem?_cons_succ] at k0 k1 k2 k3
            obtain ⟨b, off, sp⟩ := a'
            have hs1 : sp = none := by
              obtain ⟨cs0, hc0, _⟩ := hi 0 (by omega)
              obtain ⟨_, hl0, hat0⟩ := World.cells?_some hc0
              have h00 := hat0 0 (by omega)
              rw [Nat.zero_mul, Addr.add_zero', Addr.add_zero', List.getElem?_eq_getElem (by omega)] at h00
              exact plain_of_cell h00
            subst hs1
            simp only [Addr.add_lit] at k0 k1 k2 k3
            refine ⟨[x0.toNat, x1.toNat, x2.toNat, x3.toNat], rfl, ?_, b, off, rfl, ?_⟩
            · intro y hy
              simp only [List.mem_cons, List.not_mem_nil, or_false] at hy
              rcases hy with rfl | rfl | rfl | rfl <;> omega
            · intro k y hk
              match k, hk with
              | 0, hk => cases hk; rw [Int.toNat_of_nonneg wf0.1]; simpa using k0
              | 1, hk => cases hk; rw [Int.toNat_of_nonneg wf1.1]; simpa [Nat.add_assoc] using k1
              | 2, hk => cases hk; rw [Int.toNat_of_nonneg wf2.1]; simpa [Nat.add_assoc] using k2
              | 3, hk => cases hk; rw [Int.toNat_of_nonneg wf3.1]; simpa [Nat.add_assoc] using k3
              | k + 4, hk => simp at hk)
    have hlen : ∀ n, n ≤ len → ((List.range n).flatMap E).length = 4 * n := by
      intro n
      induction n with
      | zero => simp
      | succ n ih =>
        intro hn
        rw [List.range_succ, List.flatMap_append, List.length_append, ih (by omega)]
        have := (hE n (by omega)).1
        simp [this]
        omega
    have hget : ∀ n, n ≤ len → ∀ j y : Nat, ((List.range n).flatMap E)[j]? = some y → y < 4294967296 ∧ ∃ b off, (some a' : Option Addr) = some ⟨b, off, none⟩ ∧ W.cell? ⟨b, off + j, none⟩ = some (.int .u32 (y : Int)) := by
      intro n
      induction n with
      | zero => intro _ j y hj; simp at hj
      | succ n ih =>
        intro hn j y hj
        rw [List.range_succ, List.flatMap_append] at hj
        by_cases hjn : j < 4 * n
        · rw [List.getElem?_append_left (by rw [hlen n (by omega)]; exact hjn)] at hj
          exact ih (by omega) j y hj
        · rw [List.getElem?_append_right (by rw [hlen n (by omega)]; omega), hlen n (by omega)] at hj
          simp only [List.flatMap_cons, List.flatMap_nil, List.append_nil] at hj
          obtain ⟨_, h2, b, off, h3, h4⟩ := hE n (by omega)
          refine ⟨h2 y (List.mem_of_getElem? hj), b, off, h3, ?_⟩
          have := h4 _ y hj
          rwa [show n * 4 + (j - 4 * n) = j by omega] at this
    refine ⟨some a', len, (List.range len).flatMap E, _, rfl, hlen len (Nat.le_refl _), fun j y hj => ?_, by omega, by omega, (by intro e; cases e), fun y hy => ?_⟩
    · obtain ⟨_, b, off, h1, h2⟩ := hget len (Nat.le_refl _) j y hj
      exact ⟨b, off, h1, h2⟩
    · obtain ⟨j, hj⟩ := List.getElem?_of_mem hy
      exact (hget len (Nat.le_refl _) j y hj).1
end Go.Proofs.Ytpmhkmakkeckkaa

namespace Go.Proofs.Ytpmhkmakkeckkaa
open Go.RowKit

def sumE : List En → Nat
  | [] => 0
  | e :: l => 1 + e.2.length + sumE l
def sumLi : List Li → Nat
  | [] => 0
  | l :: r => 1 + l.key.size + sumE l.ents + sumLi r
set_option maxRecDepth 100000 in
theorem sumE_append : ∀ (l m : List En), sumE (l ++ m) = sumE l + sumE m
  | [], m => by simp [sumE]
  | e :: l, m => by simp only [List.cons_append, sumE, sumE_append l m]; omega
set_option maxRecDepth 100000 in
theorem sumLi_append : ∀ (l m : List Li), sumLi (l ++ m) = sumLi l + sumLi m
  | [], m => by simp [sumLi]
  | e :: l, m => by simp only [List.cons_append, sumLi, sumLi_append l m]; omega
set_option maxRecDepth 100000 in
theorem sumLi_take (L : List Li) (n : Nat) : sumLi (L.take n) ≤ sumLi L := by
  have := sumLi_append (L.take n) (L.drop n)
  rw [List.take_append_drop] at this
  omega
set_option maxRecDepth 100000 in
theorem sumE_mem : ∀ {l : List En} {e : En}, e ∈ l → e.2.length ≤ sumE l
  | x :: l, e, h => by
    simp only [sumE]
    rcases List.mem_cons.1 h with rfl | h
    · omega
    · have := sumE_mem h
      omega
set_option maxRecDepth 100000 in
theorem sumLi_mem : ∀ {L : List Li} {l : Li}, l ∈ L → sumE l.ents ≤ sumLi L
  | x :: L, l, h => by
    simp only [sumLi]
    rcases List.mem_cons.1 h with rfl | h
    · omega
    · have := sumLi_mem h
      omega
set_option maxRecDepth 100000 in
theorem sumE_len : ∀ (l : List En), l.length ≤ sumE l
  | [] => by simp [sumE]
  | e :: l => by
    have := sumE_len l
    simp only [sumE, List.length_cons]
    omega
set_option maxRecDepth 100000 in
theorem entB_sum {l : List En} (h : MayE l) {i : Nat} (hi : i < l.length) : (entB (aheadD l i) (enAt l i)).length ≤ 6 + 3 * (enAt l i).2.length := by
  have hd := may_doc h hi
  have ha := may_ahead h hi
  obtain ⟨_, h1, h2, h3⟩ := h.2 i hi
  have := posB_len (enAt l i).2 0 (by omega) (by omega) (okP_mem h3)
  have := put_len3 (n := ((enAt l i).1 - aheadD l i).toNat) (by omega)
  have := put_len3 (n := (enAt l i).2.length) (by omega)
  unfold entB
  rw [List.length_append, List.length_append]
  omega
set_option maxRecDepth 100000 in
theorem bytesTo_sum {l : List En} (h : MayE l) : ∀ n, n ≤ l.length → (bytesTo l n).length ≤ 6 * sumE (l.take n)
  | 0, _ => by simp [bytesTo]
  | n + 1, hn => by
    have h1 := bytesTo_sum h n (by omega)
    have h2 := entB_sum h (i := n) (by omega)
    rw [take_snoc_en (by omega), sumE_append]
    simp only [bytesTo, List.length_append, sumE]
    omega
set_option maxRecDepth 100000 in
theorem encN_sum {l : List En} (h : MayE l) : (encN l).length ≤ 3 + 2 * sumE l := by
  have h1 := bytesTo_sum h l.length (Nat.le_refl _)
  rw [List.take_length] at h1
  have h2 := encN_length l
  have h3 := sumE_len l
  omega
set_option maxRecDepth 100000 in
theorem bodyI_sum {n : Nat} : ∀ {L : List Li}, okAll n L → (bodyI L).length ≤ 3 * sumLi L
  | [], _ => by simp [bodyI]
  | l :: r, h => by
    have h0 := h 0 (by simp)
    simp only [liAt, List.getD_cons_zero] at h0
    have h1 := encN_sum h0.2.2.2.1
    have h2 := bodyI_sum (L := r) (fun i hi => h (i + 1) (by simpa using hi))
    simp only [bodyI, List.length_append, sumLi]
    omega
def SmallI (n : Nat) (L : List Li) : Prop := n ≤ 200 ∧ L.length ≤ 400 ∧ sumLi L ≤ 16384 ∧ ∀ l ∈ L, l.ents.length ≤ 100
set_option maxRecDepth 100000 in
theorem small_body {n m : Nat} {L : List Li} (h : SmallI n L) (i : Nat) (hk : okAll m (L.take i)) : (bodyI (L.take i)).length ≤ 60000 := by
  have h1 := bodyI_sum hk
  have h2 := sumLi_take L i
  have := h.2.2.1
  omega
set_option maxRecDepth 100000 in
theorem small_ents {n : Nat} {L : List Li} (h : SmallI n L) : ∀ l ∈ L, l.ents.length ≤ 100 ∧ ∀ e ∈ l.ents, e.2.length ≤ 16384 := fun l hl => ⟨h.2.2.2 l hl, fun e he => by
  have h1 := sumE_mem he
  have h2 := sumLi_mem hl
  have := h.2.2.1
  omega⟩
set_option maxRecDepth 100000 in
theorem mkX_small {at_ : Int} {n : Nat} {F : List Nat} {L : List Li} (hF : F.length = 4 * n) (h : SmallI n L) : (mkX at_ n F L).length ≤ 61000 := by
  unfold mkX
  split
  · rename_i hk
    have h1 := small_body h L.length (m := n) (by rw [List.take_length]; exact hk.1.2.2.2)
    rw [List.take_length] at h1
    have := hk.1.1
    have := hk.1.2.1
    rw [imgN_length _ _ _ _ hF]
    omega
  · simp
def GreatDone (W : World) (n : Nat) (L : List Li) (e : Ending) (w' : World) : Prop := ∃ b : Bool, e = .returned (.bool b) ∧ (b = false → SmallI n L) ∧ Below W.heap.size W w'
set_option maxRecDepth 100000 in
theorem GreatDone.yes {W w' : World} {n : Nat} {L : List Li} {e : Ending} (he : e = .returned (.bool true)) (hb : Below W.heap.size W w') : GreatDone W n L e w' := ⟨true, he, fun h => (by cases h), hb⟩

set_option maxRecDepth 100000 in
set_option maxHeartbeats 4000000 in
theorem great14 (W : World) (oF : Option Addr) (cF n : Nat) (oL : Option Addr) (cL tt : Nat) (L : List Li) (en : L.length = tt) (hL : ReadLi W oL L) (hI : ∀ l ∈ L, LiIn l) :
    Calls Try.prog 8 #[.slice oF n cF, .slice oL tt cL] W fun e w' => GreatDone W n L e w' := by
  by_cases h1 : 200 < n
  · have g1 : decide ((200 : Int) < (n : Int)) = true := decide_eq_true (by omega)
    clear hL hI en h1
    go_enter Try.func8, Try.ntmps8
    go_wp2_with fail
    go_ret
    exact GreatDone.yes rfl (Below.refl _ _)
  have g1 : decide ((200 : Int) < (n : Int)) = false := decide_eq_false (by omega)
  by_cases h2 : 400 < tt
  · have g2 : decide ((400 : Int) < (tt : Int)) = true := decide_eq_true (by omega)
    clear hL hI en h2
    go_enter Try.func8, Try.ntmps8
    go_wp2_with fail
    go_ret
    exact GreatDone.yes rfl (Below.refl _ _)
  have g2 : decide ((400 : Int) < (tt : Int)) = false := decide_eq_false (by omega)
  have HL := Lib.hid hL
  have HI := Lib.hid hI
  have HN := Lib.hid en
  have H12 := Lib.hid (And.intro h1 h2)
  have httb : tt ≤ 400 := by omega
  clear hL hI en h1 h2
  go_enter Try.func8, Try.ntmps8
  go_wp2_with fail
  go_loopw [5, 20] (fun sv iv wr => ∃ i s : Nat, i ≤ tt ∧ iv = .int .i64 (i : Int) ∧ sv = .int .i64 (s : Int) ∧ s ≤ 16384 ∧ Hid (sumLi (L.take i) = s ∧ ∀ j l, j < i → L[j]? = some l → l.ents.length ≤ 100) ∧ Below W.heap.size W wr) (fun _ iv _ => tt - (intOf iv).toNat)
  case atStart => exact ⟨0, 0, by omega, rfl, rfl, by omega, Lib.hid ⟨rfl, fun j l hj => absurd hj (by omega)⟩, Below.refl _ _⟩
  case round =>
    obtain ⟨i, s, hi, rfl, rfl, hs, HS, hlow⟩ := hrel
    have HW := Lib.hid hlow
    by_cases hlt : i < tt
    · have hlt1 : (i : Int) < (tt : Int) := by omega
      obtain ⟨x, hx⟩ : ∃ x, L[i]? = some x := ⟨_, List.getElem?_eq_getElem (by rw [HN.out]; exact hlt)⟩
      obtain ⟨g, oo, hoL, c0, c1, p, c2, pa, pc, rfl, r1, r2, r3, r4⟩ := HL.out i x hx
      subst hoL
      have c0 := below_cell c0 hlow
      have c1 := below_cell c1 hlow
      have c2 := below_cell c2 hlow
      obtain ⟨_, hkz, hen⟩ := HI.out x (List.mem_of_getElem? hx)
      obtain ⟨kk, rr, es⟩ := x
      dsimp only at c0 c1 c2 r4 hkz hen
      obtain ⟨m, hm⟩ : ∃ m, es.length = m := ⟨_, rfl⟩
      rw [hm] at c2
      have HM := Lib.hid hm
      have HRe := Lib.hid r4
      have HEn := Lib.hid hen
      obtain ⟨kz, hkk⟩ : ∃ kz, kk.size = kz := ⟨_, rfl⟩
      have hkb : kz ≤ 281474976710656 := by unfold reachBytes at hkz; omega
      obtain ⟨k1, hk1⟩ : ∃ k1, 1 + kz = k1 := ⟨_, rfl⟩
      obtain ⟨t, ht⟩ : ∃ t, s + k1 = t := ⟨_, rfl⟩
      have z0 : ((kk.size : Nat) : Int) = (kz : Int) := by rw [hkk]
      have z1 : 1 + (kz : Int) = (k1 : Int) := by omega
      have z2 : IntKind.i64.wrap (1 + (kz : Int)) = (k1 : Int) := by rw [z1]; exact IntWalk.i64_in _ (by omega)
      have z3 : (s : Int) + (k1 : Int) = (t : Int) := by omega
      have z4 : IntKind.i64.wrap ((s : Int) + (k1 : Int)) = (t : Int) := by rw [z3]; exact IntWalk.i64_in _ (by omega)
      have z5 : IntKind.i64.wrap (k1 : Int) = (k1 : Int) := IntWalk.i64_in _ (by omega)
      have z6 : IntKind.i64.wrap (t : Int) = (t : Int) := IntWalk.i64_in _ (by omega)
      have z7 : goInt kk.size = .int .i64 (kz : Int) := by rw [hkk]; rfl
      have HSn := Lib.hid (show ∀ u, t + sumE es = u → sumLi (L.take (i + 1)) = u from fun u hu => by
        rw [li_take hx, sumLi_append, HS.out.1]
        simp only [sumLi]
        omega)
      have HEs := Lib.hid (show m ≤ 100 → ∀ j l, j < i + 1 → L[j]? = some l → l.ents.length ≤ 100 from fun h j l hj hl => by
        by_cases hji : j < i
        · exact HS.out.2 j l hji hl
        · obtain rfl : j = i := by omega
          rw [hx] at hl
          injection hl with hl
          subst hl
          dsimp only
          rw [HM.out]; exact h)
      have HWa := Lib.hid (low_new (o := .cells #[.string kk, .int .i64 rr, .slice pa m pc] 44) hlow)
      have hks := hkk
      clear hx r4 hm hkz hen hlow r1 r2 r3 hk1 ht hkk
      by_cases hb1 : 16384 < t
      · have g3 : decide ((16384 : Int) < (t : Int)) = true := decide_eq_true (by omega)
        have g3n : decide (16384 < t) = true := decide_eq_true hb1
        clear hb1
        go_wp2_with fail
        go_ret
        exact GreatDone.yes rfl HWa.out
      have g3 : decide ((16384 : Int) < (t : Int)) = false := decide_eq_false (by omega)
      have g3n : decide (16384 < t) = false := decide_eq_false hb1
      by_cases hb2 : 100 < m
      · have g4 : decide ((100 : Int) < (m : Int)) = true := decide_eq_true (by omega)
        have g4n : decide (100 < m) = true := decide_eq_true hb2
        clear hb2 hb1
        go_wp2_with fail
        go_ret
        exact GreatDone.yes rfl HWa.out
      have g4 : decide ((100 : Int) < (m : Int)) = false := decide_eq_false (by omega)
      have g4n : decide (100 < m) = false := decide_eq_false hb2
      have htb : t ≤ 16384 := by omega
      have hmb : m ≤ 100 := by omega
      clear hb1 hb2
      go_wp2_with fail
      go_loopw [5, 41] (fun sv kv wr => ∃ k u : Nat, k ≤ m ∧ kv = .int .i64 (k : Int) ∧ sv = .int .i64 (u : Int) ∧ u ≤ 16384 ∧ Hid (t + sumE (es.take k) = u) ∧ Below W.heap.size W wr) (fun _ kv _ => m - (intOf kv).toNat)
      case atStart => exact ⟨0, t, by omega, rfl, rfl, htb, Lib.hid rfl, HWa.out⟩
      case round =>
        obtain ⟨k, u, hk, rfl, rfl, hu, HU, hw2⟩ := hrel
        have HW2 := Lib.hid hw2
        by_cases hkm : k < m
        · have hkm1 : (k : Int) < (m : Int) := by omega
          obtain ⟨e, he⟩ : ∃ e, es[k]? = some e := ⟨_, List.getElem?_eq_getElem (by rw [HM.out]; exact hkm)⟩
          obtain ⟨gp, op, hpa, d0, p, d1, qa, qc, rfl, p1, p2, p3, p4⟩ := HRe.out k e he
          subst hpa
          obtain ⟨q, hq⟩ : ∃ q, e.2.length = q := ⟨_, rfl⟩
          rw [hq] at d1
          have d0 := below_cell d0 hw2
          have d1 := below_cell d1 hw2
          have hqb : q ≤ 281474976710656 := by have h1 := (HEn.out e (List.mem_of_getElem? he)).2; rw [hq] at h1; unfold reachBytes at h1; omega
          obtain ⟨q1, hq1⟩ : ∃ q1, 1 + q = q1 := ⟨_, rfl⟩
          obtain ⟨v, hv⟩ : ∃ v, u + q1 = v := ⟨_, rfl⟩
          have y1 : 1 + (q : Int) = (q1 : Int) := by omega
          have y2 : IntKind.i64.wrap (1 + (q : Int)) = (q1 : Int) := by rw [y1]; exact IntWalk.i64_in _ (by omega)
          have y3 : (u : Int) + (q1 : Int) = (v : Int) := by omega
          have y4 : IntKind.i64.wrap ((u : Int) + (q1 : Int)) = (v : Int) := by rw [y3]; exact IntWalk.i64_in _ (by omega)
          have y5 : IntKind.i64.wrap (q1 : Int) = (q1 : Int) := IntWalk.i64_in _ (by omega)
          have y6 : IntKind.i64.wrap (v : Int) = (v : Int) := IntWalk.i64_in _ (by omega)
          have HV := Lib.hid (show t + sumE (es.take (k + 1)) = v by
            rw [List.take_add_one, he, sumE_append]
            simp only [Option.toList, sumE]
            have := HU.out
            omega)
          clear he hq hq1 hv hw2 p1 p2 p3 p4
          by_cases hb3 : 16384 < v
          · have g5 : decide ((16384 : Int) < (v : Int)) = true := decide_eq_true (by omega)
            have g5n : decide (16384 < v) = true := decide_eq_true hb3
            clear hb3
            go_wp2_with fail
            go_ret
            exact GreatDone.yes rfl (low_new HW2.out)
          · have g5 : decide ((16384 : Int) < (v : Int)) = false := decide_eq_false (by omega)
            have g5n : decide (16384 < v) = false := decide_eq_false hb3
            have hvb : v ≤ 16384 := by omega
            clear hb3
            go_wp2_with fail
            go_roundw
            case rel => exact ⟨k + 1, v, by omega, by go_num, rfl, hvb, HV, low_new HW2.out⟩
            case measure => simp [intOf]; omega
        · obtain rfl : k = m := by omega
          have HU2 := Lib.hid (HSn.out u (by have := HU.out; rwa [List.take_of_length_le (by rw [HM.out]; exact Nat.le_refl _)] at this))
          have HE2 := Lib.hid (HEs.out hmb)
          clear hw2
          go_wp2_with fail
          go_roundw
          case rel => exact ⟨i + 1, u, by omega, by go_num, rfl, hu, Lib.hid ⟨HU2.out, HE2.out⟩, HW2.out⟩
          case measure => simp [intOf]; omega
    · obtain rfl : i = tt := by omega
      have HSm := Lib.hid (show SmallI n L from ⟨by have := H12.out; omega, by have := H12.out; have := HN.out; omega, by
        have := HS.out.1
        rw [List.take_of_length_le (by rw [HN.out]; exact Nat.le_refl _)] at this
        omega, fun l hl => by
        obtain ⟨j, hj⟩ := List.getElem?_of_mem hl
        exact HS.out.2 j l (by have := (List.getElem?_eq_some_iff.1 hj).1; rw [HN.out] at this; exact this) hj⟩)
      clear hlow
      go_wp2_with fail
      go_ret
      exact ⟨false, rfl, fun _ => HSm.out, HW.out⟩

/-! ### The chapter's examples -/
def exL : List Li := [⟨ByteArray.empty, 5, [(0, [1])]⟩]
set_option maxRecDepth 100000 in
set_option maxHeartbeats 4000000 in
theorem fixed14 (w : World) : Calls Try.prog 9 #[] w fun e w' => e = .returned (.bool true) ∧ Below w.heap.size w w' := by
  have HE1 := Lib.hid (show mkE 10 1 [] = 0 ∧ mkX 10 1 [1, 7, 2, 0] [] = [2, 0, 1, 7, 2, 0] by decide +kernel)
  have HE2 := Lib.hid (show mkE 10 1 exL = 0 ∧ mkX 10 1 [1, 7, 2, 0] exL = [2, 1, 1, 7, 2, 0, 5, 18, 1, 0, 65792] by decide +kernel)
  have H1 := Lib.hid (fun (w : World) (oF : Option Addr) (h : ReadN .u32 w oF [1, 7, 2, 0]) => lands_make w 10 oF 1 1 [1, 7, 2, 0] none 0 0 [] rfl h rfl (ReadLi.nil _ _) (fun i _ _ => by simp [bodyI]) (by simp) (by decide))
  have H2 := Lib.hid (fun (w : World) (oF oL : Option Addr) (h : ReadN .u32 w oF [1, 7, 2, 0]) (hL : ReadLi w oL exL) => lands_make w 10 oF 1 1 [1, 7, 2, 0] oL 1 1 exL rfl h rfl hL (fun i _ hk => by
    have h1 := bodyI_sum hk
    have h2 := sumLi_take exL i
    have h3 : sumLi exL = 3 := by decide +kernel
    omega) (by simp [exL]) (by decide))
  rw [HE1.out.1, HE1.out.2] at H1
  rw [HE2.out.1, HE2.out.2] at H2
  go_enter Try.func9, Try.ntmps9
  have HR := Lib.hid (readN_new .u32 w [1, 7, 2, 0] 54)
  go_wp2_with fail
  refine (H1.out _ _ HR.out).mono ?_; rintro e w1 ⟨v1, rfl, ho1, hb1⟩
  obtain ⟨oa, ca, rfl, _, _, _, hra⟩ := ho1.reads_of 6 rfl
  have HRa := Lib.hid hra
  have HRw := Lib.hid (HR.out.below hb1)
  have HB1 := Lib.hid (low_more (low_new (o := .cells #[.int .u32 1, .int .u32 7, .int .u32 2, .int .u32 0] 54) (Below.refl w.heap.size w)) hb1)
  clear ho1 hb1 hra
  have HC := Lib.hid (show ReadLi (((w1.alloc (.cells #[.int .i64 1] 3)).alloc (.cells #[.int .i64 0, .slice (some ⟨w1.heap.size, 0, none⟩) 1 1] 52)).alloc (.cells #[.string ByteArray.empty, .int .i64 5, .slice (some ⟨w1.heap.size + 1, 0, none⟩) 1 1] 44)) (some ⟨w1.heap.size + 1 + 1, 0, none⟩) exL from by
    have k1 := heap3_0 w1 (.cells #[.int .i64 1] 3) (.cells #[.int .i64 0, .slice (some ⟨w1.heap.size, 0, none⟩) 1 1] 52) (.cells #[.string ByteArray.empty, .int .i64 5, .slice (some ⟨w1.heap.size + 1, 0, none⟩) 1 1] 44)
    have k2 := heap3_1 w1 (.cells #[.int .i64 1] 3) (.cells #[.int .i64 0, .slice (some ⟨w1.heap.size, 0, none⟩) 1 1] 52) (.cells #[.string ByteArray.empty, .int .i64 5, .slice (some ⟨w1.heap.size + 1, 0, none⟩) 1 1] 44)
    have k3 := heap3_2 w1 (.cells #[.int .i64 1] 3) (.cells #[.int .i64 0, .slice (some ⟨w1.heap.size, 0, none⟩) 1 1] 52) (.cells #[.string ByteArray.empty, .int .i64 5, .slice (some ⟨w1.heap.size + 1, 0, none⟩) 1 1] 44)
    intro j l hj
    match j, hj with
    | 0, hj =>
      cases hj
      refine ⟨_, 0, rfl, cell_at k3 0, cell_at k3 1, _, cell_at k3 2, _, 1, rfl, by simp, by simp [maxLen], (by intro e; cases e), ?_⟩
      intro j e hj
      match j, hj with
      | 0, hj =>
        cases hj
        refine ⟨_, 0, rfl, cell_at k2 0, _, cell_at k2 1, _, 1, rfl, by simp, by simp [maxLen], (by intro e; cases e), ?_⟩
        intro j x hj
        match j, hj with
        | 0, hj => cases hj; exact ⟨_, 0, rfl, cell_at k1 0⟩
        | j + 1, hj => simp at hj
      | j + 1, hj => simp at hj
    | j + 1, hj => simp [exL] at hj)
  go_wp2_with fail
  refine (H2.out _ _ _ (HRw.out.below below_al3) HC.out).mono ?_; rintro e w2 ⟨v2, rfl, ho2, hb2⟩
  obtain ⟨ob, cb, rfl, _, _, _, hrb⟩ := ho2.reads_of 11 rfl
  have HRb := Lib.hid hrb
  have HRa2 := Lib.hid ((HRa.out.below below_al3).below hb2)
  have HB2 := Lib.hid (low_more (low_more HB1.out below_al3) hb2)
  clear ho2 hb2 hrb
  go_wp2_with fail
  refine (same32_eq _ oa (some ⟨w2.heap.size, 0, none⟩) ca 6 6 [2, 0, 1, 7, 2, 0] rfl (HRa2.out.alloc _) (readN_new .u32 w2 [2, 0, 1, 7, 2, 0] _) (by decide)).mono ?_; rintro e w3 ⟨rfl, hb⟩
  have HRb3 := Lib.hid ((HRb.out.alloc (.cells #[.int .u32 2, .int .u32 0, .int .u32 1, .int .u32 7, .int .u32 2, .int .u32 0] 47)).below hb)
  have HB3 := Lib.hid (low_more (low_new HB2.out) hb); clear hb
  go_wp2_with fail
  refine (same32_eq _ ob (some ⟨w3.heap.size, 0, none⟩) cb 11 11 [2, 1, 1, 7, 2, 0, 5, 18, 1, 0, 65792] rfl (HRb3.out.alloc _) (readN_new .u32 w3 [2, 1, 1, 7, 2, 0, 5, 18, 1, 0, 65792] _) (by decide)).mono ?_; rintro e w4 ⟨rfl, hb⟩
  have HB4 := Lib.hid (low_more (low_new HB3.out) hb); clear hb
  go_wp2_with fail
  go_ret
  exact ⟨rfl, HB4.out⟩
end Go.Proofs.Ytpmhkmakkeckkaa
