/-
  Laws of layer 8, given what the program's functions keep. Over the program's own text.
-/
import Derived.Test.YtdfcbkjhcnbheaaVlqKept
import Derived.Laws.AppendOwnNone
namespace Go.Proofs.Ytdfcbkjhcnbheaa
open Go.RowKit

section
variable (K : KeptVlq) (W : World)
include K
set_option maxRecDepth 100000 in
set_option maxHeartbeats 4000000 in
theorem puts_all (m : Int) (oa oz : Option Addr) (c cz : Nat) (A Z : List Nat) (hA : ReadN .u8 W oa A) (hZ : ReadN .u8 W oz Z) (m0 : 0 ≤ m) (m1 : m ≤ 4294967295) (hca : A.length ≤ c) (hcz : Z.length ≤ cz) (hA0 : oa = none → c = 0) (hZ0 : oz = none → cz = 0) (hxA : ∀ x ∈ A, x < 256) (hxZ : ∀ x ∈ Z, x < 256) : Calls Try.prog 3 #[.int .u32 m, .slice oa A.length c, .slice oz Z.length cz] W fun e w' => e = .returned (.bool true) ∧ Below W.heap.size W w' := by
  have HF := Lib.hid (fixed_any K)
  obtain ⟨n, hn⟩ : ∃ n, A.length = n := ⟨_, rfl⟩
  obtain ⟨nz, hnz⟩ : ∃ nz, Z.length = nz := ⟨_, rfl⟩
  rw [hn, hnz]
  rw [hn] at hca
  rw [hnz] at hcz
  obtain ⟨x, rfl⟩ := Int.eq_ofNat_of_zero_le m0
  by_cases hlen : (500 : Int) < (n : Int)
  · clear K
    go_enter Try.func3, Try.ntmps3
    go_wp2_with fail
    refine (HF.out _).mono ?_; rintro e w1 ⟨rfl, hb⟩
    have HB := Lib.hid (hb); clear hb
    go_wp2_with fail
    go_ret
    exact ⟨rfl, HB.out⟩
  by_cases hlen2 : (500 : Int) < (nz : Int)
  · clear K
    go_enter Try.func3, Try.ntmps3
    go_wp2_with fail
    refine (HF.out _).mono ?_; rintro e w1 ⟨rfl, hb⟩
    have HB := Lib.hid (hb); clear hb
    go_wp2_with fail
    go_ret
    exact ⟨rfl, HB.out⟩
  have hxx : x < 4294967296 := by omega
  have hget := get_put x Z hxx
  have hpl := put_len 4 x
  have hpb := putN_byte hxx
  obtain ⟨P, hP⟩ : ∃ P, putN x = P := ⟨_, rfl⟩
  obtain ⟨p, hp⟩ : ∃ p, P.length = p := ⟨_, rfl⟩
  rw [show putF 4 x = P from hP, hp] at hpl
  rw [hP] at hget hpb
  rw [hp] at hget
  have hgA : getA (A ++ P ++ Z) (n : Int) = (x, (n : Int) + (p : Int), 0) := by
    have h := getA_in (L := A ++ P ++ Z) (a := n) (by simp; omega) (q := (x, p, 0)) (by rw [List.append_assoc, ← hn, List.drop_left]; exact hget)
    rw [h, if_pos rfl]
  have hxall : ∀ b ∈ A ++ P ++ Z, b < 256 := by
    intro b hb
    rcases List.mem_append.1 hb with hb | hb
    · rcases List.mem_append.1 hb with hb | hb
      · exact hxA b hb
      · exact hpb b hb
    · exact hxZ b hb
  have A1 := Lib.hid (K.put_of x P p hxx hP hp)
  have A2 := Lib.hid (K.get_of (A ++ P ++ Z) (n + p + nz) (n : Int) x ((n : Int) + (p : Int)) 0 (by rw [List.length_append, List.length_append, hn, hp, hnz]) (by omega) hxall (by omega) (by omega) hgA)
  have A3 := Lib.hid (ref_put_of x P p hxx hP hp)
  have HLn := Lib.hid (And.intro hn (And.intro hp hnz))
  have HA := Lib.hid hA
  have HZ := Lib.hid hZ
  have hA1 := hca
  have hZ1 := hcz
  obtain ⟨hp1, hp5⟩ := hpl
  clear K hget hpb hP hp hgA hxall hn hnz hA hZ hxA hxZ hca hcz
  go_enter Try.func3, Try.ntmps3
  go_wp2_with fail
  refine (A1.out _).mono ?_; rintro e w1 ⟨ob, d, rfl, hc1, hc2, hc0, hr, hb⟩
  have HA := Lib.hid (HA.out.below hb); have HZ := Lib.hid (HZ.out.below hb); have HB := Lib.hid (hb); have HR := Lib.hid hr; clear hr; clear hb
  have HW1 := Lib.hid (below_one (w := w1) (A := .cells #[] 5))
  have HO0 := Lib.hid (OwnN.new 5 .u8 w1 w1.heap.size (Nat.le_refl _))
  go_wp2_with (first
    | (at_builtin; refine append_u8 (W := w1) rfl (.tmp 23) (.tmp 24) rfl _ [] A rfl HW1.out HO0.out oa c n HLn.out.1 rfl (HA.out.alloc _) hA0 hA1 (by simp; omega) ?_; intro v1 x1 ho _; have HO1 := Lib.hid ho; clear ho)
    | (at_builtin; refine append_u8 (W := w1) rfl (.tmp 25) (.tmp 26) rfl _ ([] ++ A) P rfl HO1.out.2 HO1.out.1 ob d p HLn.out.2.1 rfl (HR.out.below HO1.out.2) hc0 hc1 (by rw [List.nil_append, HLn.out.1]; omega) ?_; intro v2 x2 ho _; have HO2 := Lib.hid ho; clear ho)
    | (at_builtin; refine append_u8 (W := w1) rfl (.tmp 27) (.tmp 28) rfl _ ([] ++ A ++ P) Z rfl HO2.out.2 HO2.out.1 oz cz nz HLn.out.2.2 rfl (HZ.out.below HO2.out.2) hZ0 hZ1 (by rw [List.nil_append, List.length_append, HLn.out.1, HLn.out.2.1]; omega) ?_; intro v3 x3 ho _; have HO3 := Lib.hid ho; clear ho; obtain ⟨oq, cq, hv, hq1, hq2, _, hqr⟩ := HO3.out.1.reads_of (n + p + nz) (by rw [List.nil_append, List.length_append, List.length_append, HLn.out.1, HLn.out.2.1, HLn.out.2.2]); subst hv; rw [List.nil_append] at hqr; have HQ := Lib.hid hqr; have HB := Lib.hid (low_more HB.out HO3.out.2); have HR := Lib.hid (HR.out.below HO3.out.2); clear hqr)
    | fail)
  refine (A2.out _ _ _ HQ.out hq1 hq2).mono ?_; rintro e w4 ⟨rfl, hb⟩
  have HR := Lib.hid (HR.out.below hb); have HB := Lib.hid (low_more HB.out hb); clear hb
  go_wp2_with fail
  refine (HF.out _).mono ?_; rintro e w2 ⟨rfl, hb⟩
  have HR := Lib.hid (HR.out.below hb); have HB := Lib.hid (low_more HB.out hb); clear hb
  go_wp2_with fail
  refine (A3.out _).mono ?_; rintro e w3 ⟨oe, ce, rfl, _, _, _, hr, hb⟩
  have HR := Lib.hid (HR.out.below hb); have HB := Lib.hid (low_more HB.out hb); have HR2 := Lib.hid hr; clear hr; clear hb
  go_wp2_with fail
  refine (same8_at _ ob oe d ce p p P P HLn.out.2.1 HLn.out.2.1 HR.out HR2.out (by omega)).mono ?_; rintro e w4 ⟨rfl, hb⟩
  have HB := Lib.hid (low_more HB.out hb); clear hb
  rw [show decide (P = P) = true by simp]
  go_wp2_with fail
  go_ret
  exact ⟨rfl, HB.out⟩

set_option maxRecDepth 100000 in
set_option maxHeartbeats 4000000 in
theorem gets_all (oa : Option Addr) (c : Nat) (L : List Nat) (z : Int) (hR : ReadN .u8 W oa L) (hx : ∀ x ∈ L, x < 256) (z0 : -9223372036854775808 ≤ z) (z1 : z ≤ 9223372036854775807) : Calls Try.prog 4 #[.slice oa L.length c, .int .i64 z] W fun e w' => e = .returned (.bool true) ∧ Below W.heap.size W w' := by
  have HF := Lib.hid (fixed_any K)
  obtain ⟨n, hn⟩ : ∃ n, L.length = n := ⟨_, rfl⟩
  rw [hn]
  by_cases hlen : (1000 : Int) < (n : Int)
  · clear K
    go_enter Try.func4, Try.ntmps4
    go_wp2_with fail
    refine (HF.out _).mono ?_; rintro e w1 ⟨rfl, hb⟩
    have HB := Lib.hid (hb); clear hb
    go_wp2_with fail
    go_ret
    exact ⟨rfl, HB.out⟩
  · obtain ⟨g1, g2, g3, hg⟩ : ∃ g1 g2 g3, getA L z = (g1, g2, g3) := ⟨_, _, _, rfl⟩
    have HLn := Lib.hid hn
    have HR := Lib.hid hR
    have A1 := Lib.hid (fun w h => copy8_at w oa c n L hn (by omega) h)
    have A2 := Lib.hid (K.get_of L n z g1 g2 g3 hn (by omega) hx z0 z1 hg)
    have A3 := Lib.hid (fun w h => ref_get w oa c n L z hn h (by omega) hx z0 z1)
    rw [hg] at A3
    clear K hn hR hx hg
    go_enter Try.func4, Try.ntmps4
    go_wp2_with fail
    refine (A1.out _ HR.out).mono ?_; rintro e w1 ⟨rfl, hr, hb⟩
    have HR := Lib.hid (HR.out.below hb); have HB := Lib.hid (hb); have HR2 := Lib.hid hr; clear hr; clear hb
    go_wp2_with fail
    refine (A2.out _ _ n HR2.out (Nat.le_refl _) (by unfold maxLen; omega)).mono ?_; rintro e w2 ⟨rfl, hb⟩
    have HR := Lib.hid (HR.out.below hb); have HR2 := Lib.hid (HR2.out.below hb); have HB := Lib.hid (low_more HB.out hb); clear hb
    go_wp2_with fail
    refine (A3.out _ HR.out).mono ?_; rintro e w3 ⟨rfl, hw⟩; subst hw
    go_wp2_with fail
    refine (HF.out _).mono ?_; rintro e w3 ⟨rfl, hb⟩
    have HR := Lib.hid (HR.out.below hb); have HR2 := Lib.hid (HR2.out.below hb); have HB := Lib.hid (low_more HB.out hb); clear hb
    go_wp2_with fail
    refine (same8_at _ _ oa n c n n L L HLn.out HLn.out HR2.out HR.out (by omega)).mono ?_; rintro e w4 ⟨rfl, hb⟩
    have HB := Lib.hid (low_more HB.out hb); clear hb
    rw [show decide (L = L) = true by simp]
    go_wp2_with fail
    go_ret
    exact ⟨rfl, HB.out⟩

set_option maxRecDepth 100000 in
set_option maxHeartbeats 4000000 in
theorem all_all (oa oq : Option Addr) (c cq : Nat) (A M : List Nat) (hR : ReadN .u8 W oa A) (hQ : ReadN .u32 W oq M) (hca : A.length ≤ c) (hm : c ≤ maxLen) (hxA : ∀ x ∈ A, x < 256) (hxM : ∀ x ∈ M, x < 4294967296) : Calls Try.prog 6 #[.slice oa A.length c, .slice oq M.length cq] W fun e w' => e = .returned (.bool true) ∧ Below W.heap.size W w' := by
  have HF := Lib.hid (fixed_any K)
  obtain ⟨n, hn⟩ : ∃ n, A.length = n := ⟨_, rfl⟩
  obtain ⟨m, hmm⟩ : ∃ m, M.length = m := ⟨_, rfl⟩
  rw [hn, hmm]
  rw [hn] at hca
  by_cases hlen : (1000 : Int) < (n : Int)
  · clear K
    go_enter Try.func6, Try.ntmps6
    go_wp2_with fail
    refine (HF.out _).mono ?_; rintro e w1 ⟨rfl, hb⟩
    have HB := Lib.hid (hb); clear hb
    go_wp2_with fail
    go_ret
    exact ⟨rfl, HB.out⟩
  by_cases hlen2 : (200 : Int) < (m : Int)
  · clear K
    go_enter Try.func6, Try.ntmps6
    go_wp2_with fail
    refine (HF.out _).mono ?_; rintro e w1 ⟨rfl, hb⟩
    have HB := Lib.hid (hb); clear hb
    go_wp2_with fail
    go_ret
    exact ⟨rfl, HB.out⟩
  obtain ⟨X, e, hX⟩ : ∃ X e, allR A = (X, e) := ⟨_, _, rfl⟩
  obtain ⟨k, hk⟩ : ∃ k, X.length = k := ⟨_, rfl⟩
  obtain ⟨np, hnp⟩ : ∃ np, (putsN M).length = np := ⟨_, rfl⟩
  have hkn : k ≤ 1000000 := by
    have := allF_len A.length A
    rw [show allF A.length A = (X, e) from hX] at this
    simp only at this
    omega
  have hnp2 : np ≤ 1000000 := by have := putsN_len M; omega
  have A1 := Lib.hid (K.all_of A n X k e hn (by omega) hxA hX hk)
  have A2 := Lib.hid (ref_all_of A n X k e hn (by omega) hxA hX hk)
  have A3 := Lib.hid (K.all_of (putsN M) np M m 0 hnp hnp2 (putsN_byte hxM) (all_puts M hxM) hmm)
  have HPut := Lib.hid (fun n P p h1 h2 h3 => K.put_of n P p h1 h2 h3)
  have HLn := Lib.hid (And.intro hn (And.intro hmm (And.intro hnp hk)))
  have HR := Lib.hid hR
  have HQ := Lib.hid hQ
  have HMx := Lib.hid hxM
  have HK := Lib.hid hkn
  have hc := hca
  clear K hn hmm hnp hk hX hR hQ hxA hxM hca hkn
  go_enter Try.func6, Try.ntmps6
  go_wp2_with fail
  refine (A1.out _ _ _ HR.out hc hm).mono ?_; rintro e w1 ⟨o1, d1, rfl, hr, hb⟩
  have HR := Lib.hid (HR.out.below hb); have HQ := Lib.hid (HQ.out.below hb); have HB := Lib.hid (hb); have HX := Lib.hid hr; clear hr; clear hb
  go_wp2_with fail
  refine (A2.out _ oa c HR.out).mono ?_; rintro e w2 ⟨o2, d2, rfl, hr, hb⟩
  have HR := Lib.hid (HR.out.below hb); have HQ := Lib.hid (HQ.out.below hb); have HX := Lib.hid (HX.out.below hb); have HB := Lib.hid (low_more HB.out hb); have HY := Lib.hid hr; clear hr; clear hb
  go_wp2_with fail
  go_loopw [9, 35] (fun v iv wr => ∃ i : Nat, i ≤ m ∧ iv = .int .i64 (i : Int) ∧ OwnN 5 .u8 wr w2.heap.size v (putsN (M.take i)) ∧ Below w2.heap.size w2 wr) (fun _ iv _ => m - (intOf iv).toNat)
  case atStart => exact ⟨0, by omega, rfl, OwnN.nil _ _ _ _, Below.refl _ _⟩
  case round =>
    obtain ⟨i, hi, rfl, hown, hlow⟩ := hrel
    have HO := Lib.hid hown
    have HW := Lib.hid hlow
    clear hown hlow
    by_cases hlt : i < m
    · obtain ⟨y, hy⟩ : ∃ y, M[i]? = some y := ⟨_, List.getElem?_eq_getElem (by have := HLn.out.2.1; omega)⟩
      obtain ⟨gq, oq2, rfl, hcell⟩ := HQ.out.below HW.out i y hy
      have hlt1 : (i : Int) < (m : Int) := by omega
      have hyb := HMx.out y (List.mem_of_getElem? hy)
      have HT := Lib.hid (show putsN (M.take (i + 1)) = putsN (M.take i) ++ putN y by rw [List.take_add_one, hy]; exact putsN_snoc _ _)
      have hpl := put_len 4 y
      obtain ⟨P, hP⟩ : ∃ P, putN y = P := ⟨_, rfl⟩
      obtain ⟨p, hp⟩ : ∃ p, P.length = p := ⟨_, rfl⟩
      rw [show putF 4 y = P from hP, hp] at hpl
      rw [hP] at HT
      have A5 := Lib.hid (HPut.out y P p hyb hP hp)
      have HLen := Lib.hid (show (putsN (M.take i)).length + p ≤ 1000000 from by have := putsN_len (M.take i); rw [List.length_take] at this; omega)
      have HPl := Lib.hid hp
      clear hy hP hp hpl
      go_wp2_with (first
        | (go_at_call 9; refine (A5.out _).mono ?_; rintro e w3 ⟨ob, d, rfl, hc1, hc2, hc0, hr, hb⟩; have HP := Lib.hid hr; have HO3 := Lib.hid (HO.out.below hb); have HW3 := Lib.hid (low_more HW.out hb); clear hr hb)
        | (at_builtin; refine append_u8 (W := w2) rfl (.tmp 39) (.tmp 41) rfl _ (putsN (M.take i)) P rfl HW3.out HO3.out ob d p HPl.out rfl HP.out hc0 hc1 HLen.out ?_; intro v' w5 ho _; have HO5 := Lib.hid ho; clear ho)
        | fail)
      go_roundw
      case rel => exact ⟨i + 1, by omega, by go_num, by rw [HT.out]; exact HO5.out.1, HO5.out.2⟩
      case measure => simp [intOf]; omega
    · obtain rfl : i = m := by omega
      rw [List.take_of_length_le (by have := HLn.out.2.1; omega)] at HO
      obtain ⟨o3, d3, rfl, hd1, hd2, _, hr⟩ := HO.out.reads_of np HLn.out.2.2.1
      have HP := Lib.hid hr
      have HX := Lib.hid (HX.out.below HW.out)
      have HY := Lib.hid (HY.out.below HW.out)
      have HQ := Lib.hid (HQ.out.below HW.out)
      have HB := Lib.hid (low_more HB.out HW.out)
      have hlt1 : ¬ (i : Int) < (i : Int) := by omega
      clear hr
      go_wp2_with fail
      refine (A3.out _ _ _ HP.out hd1 hd2).mono ?_; rintro e w1 ⟨o4, d4, rfl, hr, hb⟩
      have HX := Lib.hid (HX.out.below hb); have HY := Lib.hid (HY.out.below hb); have HQ := Lib.hid (HQ.out.below hb); have HB := Lib.hid (low_more HB.out hb); have HV := Lib.hid hr; clear hr; clear hb
      go_wp2_with fail
      refine (HF.out _).mono ?_; rintro e w2 ⟨rfl, hb⟩
      have HX := Lib.hid (HX.out.below hb); have HY := Lib.hid (HY.out.below hb); have HQ := Lib.hid (HQ.out.below hb); have HV := Lib.hid (HV.out.below hb); have HB := Lib.hid (low_more HB.out hb); clear hb
      go_wp2_with fail
      refine (same32_at _ o1 o2 d1 d2 k k X X HLn.out.2.2.2 HLn.out.2.2.2 HX.out HY.out HK.out).mono ?_; rintro e w3 ⟨rfl, hb⟩
      have HQ := Lib.hid (HQ.out.below hb); have HV := Lib.hid (HV.out.below hb); have HB := Lib.hid (low_more HB.out hb); clear hb
      rw [show decide (X = X) = true by simp]
      go_wp2_with fail
      refine (same32_at _ o4 oq d4 cq i i M M HLn.out.2.1 HLn.out.2.1 HV.out HQ.out (by omega)).mono ?_; rintro e w4 ⟨rfl, hb⟩
      have HB := Lib.hid (low_more HB.out hb); clear hb
      rw [show decide (M = M) = true by simp]
      go_wp2_with fail
      go_ret
      exact ⟨rfl, HB.out⟩

end
end Go.Proofs.Ytdfcbkjhcnbheaa
