/-
  The reference of layer 8: a number's bytes, the number at a place, all of them. Over the program's own text.
-/
import Derived.Test.YtpmhkmakkeckkaaVlqPure
import Derived.Test.YtpmhkmakkeckkaaSame8
import Derived.Test.YtpmhkmakkeckkaaSame32
namespace Go.Proofs.Ytpmhkmakkeckkaa
open Go.RowKit

set_option maxRecDepth 100000 in
set_option maxHeartbeats 2000000 in
theorem ref_put (W : World) (n : Nat) (hn : n < 4294967296) : Calls Try.prog 52 #[.int .u32 (n : Int)] W fun e w' => ∃ v, e = .returned v ∧ OwnN 5 .u8 w' W.heap.size v (putN n) ∧ Below W.heap.size W w' := by
  obtain ⟨i0, hi, hz0, hz1, hz2⟩ := info_parts info_u8
  have HI := Lib.hid (And.intro hi (And.intro hz0 (And.intro hz1 hz2)))
  clear hi hz0 hz1 hz2
  go_enter Try.func52, Try.ntmps52
  go_wp2_with fail
  go_loopw [0, 3] (fun nv v wr => ∃ (f m : Nat) (M : List Nat), nv = .int .u32 (m : Int) ∧ Hid (f ≤ 4 ∧ m < lim f ∧ M.length ≤ 4 - f ∧ M ++ putF f m = putN n) ∧ m < 4294967296 ∧ OwnN 5 .u8 wr W.heap.size v M ∧ Below W.heap.size W wr) (fun nv _ _ => (intOf nv).toNat)
  case atStart => exact ⟨4, n, [], rfl, Lib.hid ⟨Nat.le_refl _, hn, by simp, rfl⟩, hn, OwnN.new _ _ W _ (Nat.le_refl _), below_one⟩
  case round =>
    obtain ⟨f, m, M, rfl, HR, hm, hown, hlow⟩ := hrel
    have HO := Lib.hid hown
    have HW := Lib.hid hlow
    clear hown hlow
    by_cases hlt : 127 < m
    · have hlt1 : (127 : Int) < (m : Int) := by omega
      have hf : ∃ g, f = g + 1 := by
        obtain ⟨_, h2, _⟩ := HR.out
        cases f with
        | zero => simp only [lim] at h2; omega
        | succ g => exact ⟨g, rfl⟩
      obtain ⟨g, rfl⟩ := hf
      obtain ⟨r0, hr0⟩ : ∃ r0, r0 = m % 128 := ⟨_, rfl⟩
      obtain ⟨r, hr⟩ : ∃ r, r = r0 + 128 := ⟨_, rfl⟩
      obtain ⟨q, hq⟩ : ∃ q, q = m / 128 := ⟨_, rfl⟩
      have HN := Lib.hid (show g ≤ 4 ∧ q < lim g ∧ (M ++ [r]).length ≤ 4 - g ∧ (M ++ [r]) ++ putF g q = putN n from by
        obtain ⟨h1, h2, h3, h4⟩ := HR.out
        simp only [lim] at h2
        refine ⟨by omega, by omega, by simp; omega, ?_⟩
        rw [← h4]
        conv => rhs; unfold putF
        rw [if_neg (by omega), hr, hr0, hq]
        simp)
      have HLen := Lib.hid (show M.length ≤ 4 from by have := HR.out; omega)
      have hy0 : (0 : Int) ≤ (m : Int) := by omega
      have hr1 : (m : Int) % 128 = (r0 : Int) := by omega
      have hq1 : (m : Int) / 128 = (q : Int) := by omega
      have hr2 : (m : Int).tmod 128 = (r0 : Int) := by rw [Int.tmod_eq_emod_of_nonneg hy0]; exact hr1
      have hq2 : (m : Int).tdiv 128 = (q : Int) := by rw [Int.tdiv_eq_ediv_of_nonneg hy0]; exact hq1
      have hr3 : IntKind.u32.wrap (r0 : Int) = (r0 : Int) := IntWalk.u32_in _ (by omega)
      have hr5 : (r0 : Int) + 128 = (r : Int) := by omega
      have hr4 : IntKind.u32.wrap (r : Int) = (r : Int) := IntWalk.u32_in _ (by omega)
      have hr6 : IntKind.u8.wrap (r : Int) = (r : Int) := IntWalk.u8_in _ (by omega)
      have hq4 : IntKind.u32.wrap (q : Int) = (q : Int) := IntWalk.u32_in _ (by omega)
      have hqm : q < m := by omega
      clear hr hr0 hq
      go_wp2_with (at_builtin; refine wpList_append_own _ rfl (.tmp 7) (.tmp 12) 46 rfl W.heap.size 5 i0 _ 1 1 Try.underlying46 HI.out.1 HI.out.2.1 HI.out.2.2.1 HI.out.2.2.2 rfl (by decide) _ M.length (numC .u8 M) rfl (World.ownsRow.alloc HO.out _) ⟨_, 0, none⟩ 1 1 [.int .u8 r] rfl rfl one_cell (by simp [Value.oneCell']) (by have := HLen.out; unfold maxLen; omega) (by have := HLen.out; omega) (by have := HW.out.size; simp; omega) ?_; intro v' w5 ho hg _; have HO5 := Lib.hid (OwnN.more (m := [r]) HW.out HO.out ho hg); clear ho hg)
      go_roundw
      case rel => exact ⟨g, q, M ++ [r], rfl, HN, by omega, HO5.out.1, HO5.out.2⟩
      case measure => simp [intOf]; omega
    · have hlt1 : ¬ (127 : Int) < (m : Int) := by omega
      have hr3 : IntKind.u8.wrap (m : Int) = (m : Int) := IntWalk.u8_in _ (by omega)
      have HN := Lib.hid (show M ++ [m] = putN n from by
        obtain ⟨h1, h2, h3, h4⟩ := HR.out
        rw [← h4]
        cases f with
        | zero => rfl
        | succ f => unfold putF; rw [if_pos (by omega)])
      have HLen := Lib.hid (show M.length ≤ 4 from by have := HR.out; omega)
      go_wp2_with (at_builtin; refine wpList_append_own _ rfl (.tmp 16) (.tmp 19) 46 rfl W.heap.size 5 i0 _ 1 1 Try.underlying46 HI.out.1 HI.out.2.1 HI.out.2.2.1 HI.out.2.2.2 rfl (by decide) _ M.length (numC .u8 M) rfl (World.ownsRow.alloc HO.out _) ⟨_, 0, none⟩ 1 1 [.int .u8 m] rfl rfl one_cell (by simp [Value.oneCell']) (by have := HLen.out; unfold maxLen; omega) (by have := HLen.out; omega) (by have := HW.out.size; simp; omega) ?_; intro v' w5 ho hg _; have HO5 := Lib.hid (OwnN.more (m := [m]) HW.out HO.out ho hg); clear ho hg)
      go_ret
      exact ⟨_, rfl, by rw [← HN.out]; exact HO5.out.1, HO5.out.2⟩

set_option maxRecDepth 100000 in
set_option maxHeartbeats 4000000 in
theorem ref_get (W : World) (oa : Option Addr) (c N : Nat) (L : List Nat) (z : Int) (en : L.length = N) (ha : ReadN .u8 W oa L) (hl : N ≤ 1000000) (hx : ∀ x ∈ L, x < 256) (h0 : -9223372036854775808 ≤ z) (h1 : z ≤ 9223372036854775807) :
    Calls Try.prog 45 #[.slice oa N c, .int .i64 z] W fun e w' => e = .returned (.tuple #[.int .u32 ((getA L z).1 : Int), .int .i64 (getA L z).2.1, .int .i64 ((getA L z).2.2 : Int)]) ∧ w' = W := by
  by_cases hz : z < 0
  · have hA := getA_out (L := L) (.inl hz)
    rw [hA]
    clear hA ha hx
    go_enter Try.func45, Try.ntmps45
    go_wp2_with fail
    go_ret3
    exact ⟨rfl, rfl⟩
  by_cases hz2 : (N : Int) < z
  · have hA := getA_out (L := L) (a := z) (.inr (by omega))
    rw [hA]
    clear hA ha hx
    go_enter Try.func45, Try.ntmps45
    go_wp2_with fail
    go_ret3
    exact ⟨rfl, rfl⟩
  obtain ⟨a, rfl⟩ := Int.eq_ofNat_of_zero_le (by omega : 0 ≤ z)
  have haN : a ≤ N := by omega
  have HA := Lib.hid ha
  have HX := Lib.hid hx
  have HEn := Lib.hid en
  have HG := Lib.hid (fun q hq => getA_in (L := L) (a := a) (by omega) (q := q) hq)
  have hlim : ¬ (N : Int) < (a : Int) := hz2
  have HM := Lib.hid (show ∀ j, (L.drop a)[j]? = L[a + j]? from fun j => by rw [List.getElem?_drop])
  clear ha hx en hz hz2 h0 h1
  go_enter Try.func45, Try.ntmps45
  go_wp2_with fail
  go_loopw [7] (fun kv wr => ∃ k : Nat, k ≤ 5 ∧ a + k ≤ N ∧ kv = .int .i64 (k : Int) ∧ Hid (ConT (L.drop a) k) ∧ wr = W) (fun kv _ => 5 - (intOf kv).toNat)
  case atStart => exact ⟨0, by omega, by omega, rfl, Lib.hid fun j hj => by omega, rfl⟩
  case round =>
    obtain ⟨k, hk, hak, rfl, HC, hw⟩ := hrel
    have hw' := hw.symm
    subst hw'
    obtain ⟨p, hp⟩ : ∃ p, p = a + k := ⟨_, rfl⟩
    have hs1 : (a : Int) + (k : Int) = (p : Int) := by omega
    have hs2 : IntKind.i64.wrap ((a : Int) + (k : Int)) = (p : Int) := by rw [hs1]; exact IntWalk.i64_in _ (by omega)
    have HP := Lib.hid hp
    have hpN : p ≤ N := by omega
    clear hp
    by_cases hk5 : k = 5
    · have hk5' : ¬ (k : Int) < 5 := by omega
      have hk5b : ((k : Int) == 5) = true := beq_iff_eq.2 (by omega)
      obtain ⟨x, hx, hx2⟩ := HC.out 4 (by omega)
      have hg := HG.out _ (get_big (fun j hj => HC.out j (by omega)) hx (by omega))
      rw [if_neg (by simp)] at hg
      have HGG := Lib.hid hg
      clear hg hx hk5
      by_cases hin : (p : Int) < (N : Int)
      · go_wp2_with fail
        go_ret3
        exact ⟨by rw [HGG.out]; rfl, rfl⟩
      · go_wp2_with fail
        go_ret3
        exact ⟨by rw [HGG.out]; rfl, rfl⟩
    have hk5' : (k : Int) < 5 := by omega
    have hk5b : ((k : Int) == 5) = false := beq_eq_false_iff_ne.2 (by omega)
    by_cases hk4 : k = 4
    · have HK4 := Lib.hid hk4
      have hk4b : ((k : Int) == 4) = true := beq_iff_eq.2 (by omega)
      clear hk5 hk4
      by_cases hend : p = N
      · have hin : ¬ (p : Int) < (N : Int) := by omega
        have hpe : (p : Int) = (N : Int) := by omega
        have hpe2 : ((p : Int) == (N : Int)) = true := beq_iff_eq.2 hpe
        clear hpe
        have hg := HG.out _ (get_end HC.out (by omega) (by rw [List.length_drop]; have := HEn.out; have := HP.out; omega))
        rw [if_neg (by simp)] at hg
        have HGG := Lib.hid hg
        clear hg
        go_wp2_with fail
        go_ret3
        exact ⟨by rw [HGG.out]; rfl, rfl⟩
      · have hin : (p : Int) < (N : Int) := by omega
        obtain ⟨x, hx⟩ : ∃ x, L[p]? = some x := ⟨_, List.getElem?_eq_getElem (by have := HEn.out; omega)⟩
        obtain ⟨g, o, rfl, hcell⟩ := HA.out p x hx
        have hxb := HX.out x (List.mem_of_getElem? hx)
        have hMx : (L.drop a)[k]? = some x := by rw [HM.out, ← HP.out]; exact hx
        have HMx := Lib.hid hMx
        have hpne : ((p : Int) == (N : Int)) = false := beq_eq_false_iff_ne.2 (by omega)
        clear hx hMx
        by_cases hx7 : 127 < x
        · have hx7' : (127 : Int) < (x : Int) := by omega
          go_wp2_with fail
          go_roundw
          case rel =>
            refine ⟨k + 1, by omega, by have := HP.out; omega, by go_num, Lib.hid fun j hj => ?_, trivial⟩
            by_cases hjk : j < k
            · exact HC.out j hjk
            · obtain rfl : j = k := by omega
              exact ⟨x, HMx.out, hx7⟩
          case measure => simp [intOf]; omega
        have hx7' : ¬ (127 : Int) < (x : Int) := by omega
        by_cases hb4 : 15 < x
        · have hx15 : (15 : Int) < (x : Int) := by omega
          have hg := HG.out _ (get_big (by rw [← HK4.out]; exact HC.out) (by rw [← HK4.out]; exact HMx.out) hb4)
          rw [if_neg (by simp)] at hg
          have HGG := Lib.hid hg
          clear hg
          go_wp2_with fail
          go_ret3
          exact ⟨by rw [HGG.out]; rfl, rfl⟩
        have hx15 : ¬ (15 : Int) < (x : Int) := by omega
        by_cases hk0 : 0 < k
        · have hk0' : (0 : Int) < (k : Int) := by omega
          by_cases hx0 : x = 0
          · have hg := HG.out _ (get_zero HC.out (by omega) hk0 (by rw [← hx0]; exact HMx.out))
            rw [if_neg (by simp)] at hg
            have HGG := Lib.hid hg
            have hxb0 : ((x : Int) == 0) = true := beq_iff_eq.2 (by omega)
            clear hg hx0
            go_wp2_with fail
            go_ret3
            exact ⟨by rw [HGG.out]; rfl, rfl⟩
          · have hxb0 : ((x : Int) == 0) = false := beq_eq_false_iff_ne.2 (by omega)
            have hok := get_ok HC.out (by omega) HMx.out (by omega) (by omega) (by omega)
            have hbd := (get_only5 hok fun b hb => HX.out b (List.mem_of_mem_drop hb)).2.2.2
            have hg := HG.out _ hok
            rw [if_pos rfl] at hg
            simp only at hg
            obtain ⟨nv, hnv⟩ : ∃ nv, nv = valP k (L.drop a) x := ⟨_, rfl⟩
            obtain ⟨p1, hp1⟩ : ∃ p1, p1 = p + 1 := ⟨_, rfl⟩
            have hs3 : (p : Int) + 1 = (p1 : Int) := by omega
            have hs4 : IntKind.i64.wrap (p1 : Int) = (p1 : Int) := IntWalk.i64_in _ (by omega)
            rw [← hnv] at hbd hg
            rw [show (a : Int) + ((k + 1 : Nat) : Int) = (p1 : Int) by have := HP.out; omega] at hg
            have HGG := Lib.hid hg
            have HNV := Lib.hid hnv
            have hw0 : IntKind.u64.wrap (x : Int) = (x : Int) := IntWalk.u64_in _ (by omega)
            clear hg hok hnv hp1
            go_wp2_with fail
            go_loopw [8, 9] (fun nw iv wr => ∃ t : Nat, t ≤ k ∧ iv = .int .i64 ((t : Int) - 1) ∧ nw = .int .u64 (valP (k - t) ((L.drop a).drop t) x : Nat) ∧ wr = W) (fun _ iv _ => (intOf iv + 1).toNat)
            case atStart => exact ⟨k, Nat.le_refl _, rfl, by rw [Nat.sub_self]; rfl, rfl⟩
            case round =>
              obtain ⟨t, ht, rfl, rfl, hw⟩ := hrel
              have hw' := hw.symm
              subst hw'
              rcases t with _ | t
              · rw [Nat.sub_zero, List.drop_zero, ← HNV.out, show (((0 : Nat) : Int) - 1) = -1 by omega]
                have hw9 : IntKind.u32.wrap (nv : Int) = (nv : Int) := IntWalk.u32_in _ (by omega)
                go_wp2_with fail
                go_ret3
                exact ⟨by rw [HGG.out]; rfl, rfl⟩
              · obtain ⟨y, hy, hy2⟩ := HC.out t (by omega)
                have hst := valP_step (k - (t + 1)) x hy
                rw [show k - (t + 1) + 1 = k - t by omega] at hst
                have hlt := valP_lt (k - (t + 1)) ((L.drop a).drop (t + 1)) x (by omega) fun b hb => HX.out b (List.mem_of_mem_drop (List.mem_of_mem_drop hb))
                have hlt2 : (128 : Nat) ^ (k - (t + 1) + 1) ≤ 128 ^ 4 := Nat.pow_le_pow_right (by omega) (by omega)
                rw [show (128 : Nat) ^ 4 = 268435456 by decide] at hlt2
                rw [HM.out] at hy
                obtain ⟨p2, hp2⟩ : ∃ p2, p2 = a + t := ⟨_, rfl⟩
                rw [← hp2] at hy
                obtain ⟨g2, o2, he2, hcell2⟩ := HA.out p2 y hy
                injection he2 with he2
                injection he2 with he3 he4
                subst he3 he4
                have hyb := HX.out y (List.mem_of_getElem? hy)
                have hu1 : (a : Int) + (t : Int) = (p2 : Int) := by omega
                have hu2 : IntKind.i64.wrap ((a : Int) + (t : Int)) = (p2 : Int) := by rw [hu1]; exact IntWalk.i64_in _ (by omega)
                have hp2N : (p2 : Int) < (N : Int) := by have := HP.out; omega
                rw [show (((t + 1 : Nat) : Int) - 1) = (t : Int) by omega]
                generalize valP (k - (t + 1)) ((L.drop a).drop (t + 1)) x = h at hst hlt
                obtain ⟨b2, hb2⟩ : ∃ b2, b2 = 128 * h := ⟨_, rfl⟩
                obtain ⟨b3, hb3⟩ : ∃ b3, b3 = b2 + y := ⟨_, rfl⟩
                obtain ⟨b4, hb4⟩ : ∃ b4, b4 = b3 - 128 := ⟨_, rfl⟩
                have hv1 : IntKind.u64.wrap ((h : Int) * 128) = (b2 : Int) := by rw [IntWalk.u64_in _ (by omega)]; omega
                have hv2 : IntKind.u64.wrap (y : Int) = (y : Int) := IntWalk.u64_in _ (by omega)
                have hv3 : IntKind.u64.wrap ((b2 : Int) + (y : Int)) = (b3 : Int) := by rw [IntWalk.u64_in _ (by omega)]; omega
                have hv4 : IntKind.u64.wrap ((b3 : Int) - 128) = (b4 : Int) := by rw [IntWalk.u64_in _ (by omega)]; omega
                have HST := Lib.hid (show valP (k - t) ((L.drop a).drop t) x = b4 by rw [hst]; omega)
                clear hst hlt hlt2 hb2 hb3 hb4 hp2 hy hy2 hyb
                go_wp2_with fail
                go_roundw
                case rel => exact ⟨t, by omega, by go_num, by rw [HST.out], trivial⟩
                case measure => simp [intOf]
        · have hk0' : ¬ (0 : Int) < (k : Int) := by omega
          have hok := get_ok HC.out (by omega) HMx.out (by omega) (by omega) (by omega)
          have hbd := (get_only5 hok fun b hb => HX.out b (List.mem_of_mem_drop hb)).2.2.2
          have hg := HG.out _ hok
          rw [if_pos rfl] at hg
          simp only at hg
          obtain ⟨nv, hnv⟩ : ∃ nv, nv = valP k (L.drop a) x := ⟨_, rfl⟩
          obtain ⟨p1, hp1⟩ : ∃ p1, p1 = p + 1 := ⟨_, rfl⟩
          have hs3 : (p : Int) + 1 = (p1 : Int) := by omega
          have hs4 : IntKind.i64.wrap (p1 : Int) = (p1 : Int) := IntWalk.i64_in _ (by omega)
          rw [← hnv] at hbd hg
          rw [show (a : Int) + ((k + 1 : Nat) : Int) = (p1 : Int) by have := HP.out; omega] at hg
          have HGG := Lib.hid hg
          have HNV := Lib.hid hnv
          have hw0 : IntKind.u64.wrap (x : Int) = (x : Int) := IntWalk.u64_in _ (by omega)
          clear hg hok hnv hp1
          go_wp2_with fail
          go_loopw [8, 9] (fun nw iv wr => ∃ t : Nat, t ≤ k ∧ iv = .int .i64 ((t : Int) - 1) ∧ nw = .int .u64 (valP (k - t) ((L.drop a).drop t) x : Nat) ∧ wr = W) (fun _ iv _ => (intOf iv + 1).toNat)
          case atStart => exact ⟨k, Nat.le_refl _, rfl, by rw [Nat.sub_self]; rfl, rfl⟩
          case round =>
            obtain ⟨t, ht, rfl, rfl, hw⟩ := hrel
            have hw' := hw.symm
            subst hw'
            rcases t with _ | t
            · rw [Nat.sub_zero, List.drop_zero, ← HNV.out, show (((0 : Nat) : Int) - 1) = -1 by omega]
              have hw9 : IntKind.u32.wrap (nv : Int) = (nv : Int) := IntWalk.u32_in _ (by omega)
              go_wp2_with fail
              go_ret3
              exact ⟨by rw [HGG.out]; rfl, rfl⟩
            · obtain ⟨y, hy, hy2⟩ := HC.out t (by omega)
              have hst := valP_step (k - (t + 1)) x hy
              rw [show k - (t + 1) + 1 = k - t by omega] at hst
              have hlt := valP_lt (k - (t + 1)) ((L.drop a).drop (t + 1)) x (by omega) fun b hb => HX.out b (List.mem_of_mem_drop (List.mem_of_mem_drop hb))
              have hlt2 : (128 : Nat) ^ (k - (t + 1) + 1) ≤ 128 ^ 4 := Nat.pow_le_pow_right (by omega) (by omega)
              rw [show (128 : Nat) ^ 4 = 268435456 by decide] at hlt2
              rw [HM.out] at hy
              obtain ⟨p2, hp2⟩ : ∃ p2, p2 = a + t := ⟨_, rfl⟩
              rw [← hp2] at hy
              obtain ⟨g2, o2, he2, hcell2⟩ := HA.out p2 y hy
              injection he2 with he2
              injection he2 with he3 he4
              subst he3 he4
              have hyb := HX.out y (List.mem_of_getElem? hy)
              have hu1 : (a : Int) + (t : Int) = (p2 : Int) := by omega
              have hu2 : IntKind.i64.wrap ((a : Int) + (t : Int)) = (p2 : Int) := by rw [hu1]; exact IntWalk.i64_in _ (by omega)
              have hp2N : (p2 : Int) < (N : Int) := by have := HP.out; omega
              rw [show (((t + 1 : Nat) : Int) - 1) = (t : Int) by omega]
              generalize valP (k - (t + 1)) ((L.drop a).drop (t + 1)) x = h at hst hlt
              obtain ⟨b2, hb2⟩ : ∃ b2, b2 = 128 * h := ⟨_, rfl⟩
              obtain ⟨b3, hb3⟩ : ∃ b3, b3 = b2 + y := ⟨_, rfl⟩
              obtain ⟨b4, hb4⟩ : ∃ b4, b4 = b3 - 128 := ⟨_, rfl⟩
              have hv1 : IntKind.u64.wrap ((h : Int) * 128) = (b2 : Int) := by rw [IntWalk.u64_in _ (by omega)]; omega
              have hv2 : IntKind.u64.wrap (y : Int) = (y : Int) := IntWalk.u64_in _ (by omega)
              have hv3 : IntKind.u64.wrap ((b2 : Int) + (y : Int)) = (b3 : Int) := by rw [IntWalk.u64_in _ (by omega)]; omega
              have hv4 : IntKind.u64.wrap ((b3 : Int) - 128) = (b4 : Int) := by rw [IntWalk.u64_in _ (by omega)]; omega
              have HST := Lib.hid (show valP (k - t) ((L.drop a).drop t) x = b4 by rw [hst]; omega)
              clear hst hlt hlt2 hb2 hb3 hb4 hp2 hy hy2 hyb
              go_wp2_with fail
              go_roundw
              case rel => exact ⟨t, by omega, by go_num, by rw [HST.out], trivial⟩
              case measure => simp [intOf]
    · have HK4 := Lib.hid hk4
      have hk4b : ((k : Int) == 4) = false := beq_eq_false_iff_ne.2 (by omega)
      clear hk5 hk4
      by_cases hend : p = N
      · have hin : ¬ (p : Int) < (N : Int) := by omega
        have hpe : (p : Int) = (N : Int) := by omega
        have hpe2 : ((p : Int) == (N : Int)) = true := beq_iff_eq.2 hpe
        clear hpe
        have hg := HG.out _ (get_end HC.out (by omega) (by rw [List.length_drop]; have := HEn.out; have := HP.out; omega))
        rw [if_neg (by simp)] at hg
        have HGG := Lib.hid hg
        clear hg
        go_wp2_with fail
        go_ret3
        exact ⟨by rw [HGG.out]; rfl, rfl⟩
      · have hin : (p : Int) < (N : Int) := by omega
        obtain ⟨x, hx⟩ : ∃ x, L[p]? = some x := ⟨_, List.getElem?_eq_getElem (by have := HEn.out; omega)⟩
        obtain ⟨g, o, rfl, hcell⟩ := HA.out p x hx
        have hxb := HX.out x (List.mem_of_getElem? hx)
        have hMx : (L.drop a)[k]? = some x := by rw [HM.out, ← HP.out]; exact hx
        have HMx := Lib.hid hMx
        have hpne : ((p : Int) == (N : Int)) = false := beq_eq_false_iff_ne.2 (by omega)
        clear hx hMx
        by_cases hx7 : 127 < x
        · have hx7' : (127 : Int) < (x : Int) := by omega
          go_wp2_with fail
          go_roundw
          case rel =>
            refine ⟨k + 1, by omega, by have := HP.out; omega, by go_num, Lib.hid fun j hj => ?_, trivial⟩
            by_cases hjk : j < k
            · exact HC.out j hjk
            · obtain rfl : j = k := by omega
              exact ⟨x, HMx.out, hx7⟩
          case measure => simp [intOf]; omega
        have hx7' : ¬ (127 : Int) < (x : Int) := by omega
        by_cases hk0 : 0 < k
        · have hk0' : (0 : Int) < (k : Int) := by omega
          by_cases hx0 : x = 0
          · have hg := HG.out _ (get_zero HC.out (by omega) hk0 (by rw [← hx0]; exact HMx.out))
            rw [if_neg (by simp)] at hg
            have HGG := Lib.hid hg
            have hxb0 : ((x : Int) == 0) = true := beq_iff_eq.2 (by omega)
            clear hg hx0
            go_wp2_with fail
            go_ret3
            exact ⟨by rw [HGG.out]; rfl, rfl⟩
          · have hxb0 : ((x : Int) == 0) = false := beq_eq_false_iff_ne.2 (by omega)
            have hok := get_ok HC.out (by omega) HMx.out (by omega) (by have := HK4.out; omega) (by omega)
            have hbd := (get_only5 hok fun b hb => HX.out b (List.mem_of_mem_drop hb)).2.2.2
            have hg := HG.out _ hok
            rw [if_pos rfl] at hg
            simp only at hg
            obtain ⟨nv, hnv⟩ : ∃ nv, nv = valP k (L.drop a) x := ⟨_, rfl⟩
            obtain ⟨p1, hp1⟩ : ∃ p1, p1 = p + 1 := ⟨_, rfl⟩
            have hs3 : (p : Int) + 1 = (p1 : Int) := by omega
            have hs4 : IntKind.i64.wrap (p1 : Int) = (p1 : Int) := IntWalk.i64_in _ (by omega)
            rw [← hnv] at hbd hg
            rw [show (a : Int) + ((k + 1 : Nat) : Int) = (p1 : Int) by have := HP.out; omega] at hg
            have HGG := Lib.hid hg
            have HNV := Lib.hid hnv
            have hw0 : IntKind.u64.wrap (x : Int) = (x : Int) := IntWalk.u64_in _ (by omega)
            clear hg hok hnv hp1
            go_wp2_with fail
            go_loopw [8, 9] (fun nw iv wr => ∃ t : Nat, t ≤ k ∧ iv = .int .i64 ((t : Int) - 1) ∧ nw = .int .u64 (valP (k - t) ((L.drop a).drop t) x : Nat) ∧ wr = W) (fun _ iv _ => (intOf iv + 1).toNat)
            case atStart => exact ⟨k, Nat.le_refl _, rfl, by rw [Nat.sub_self]; rfl, rfl⟩
            case round =>
              obtain ⟨t, ht, rfl, rfl, hw⟩ := hrel
              have hw' := hw.symm
              subst hw'
              rcases t with _ | t
              · rw [Nat.sub_zero, List.drop_zero, ← HNV.out, show (((0 : Nat) : Int) - 1) = -1 by omega]
                have hw9 : IntKind.u32.wrap (nv : Int) = (nv : Int) := IntWalk.u32_in _ (by omega)
                go_wp2_with fail
                go_ret3
                exact ⟨by rw [HGG.out]; rfl, rfl⟩
              · obtain ⟨y, hy, hy2⟩ := HC.out t (by omega)
                have hst := valP_step (k - (t + 1)) x hy
                rw [show k - (t + 1) + 1 = k - t by omega] at hst
                have hlt := valP_lt (k - (t + 1)) ((L.drop a).drop (t + 1)) x (by omega) fun b hb => HX.out b (List.mem_of_mem_drop (List.mem_of_mem_drop hb))
                have hlt2 : (128 : Nat) ^ (k - (t + 1) + 1) ≤ 128 ^ 4 := Nat.pow_le_pow_right (by omega) (by omega)
                rw [show (128 : Nat) ^ 4 = 268435456 by decide] at hlt2
                rw [HM.out] at hy
                obtain ⟨p2, hp2⟩ : ∃ p2, p2 = a + t := ⟨_, rfl⟩
                rw [← hp2] at hy
                obtain ⟨g2, o2, he2, hcell2⟩ := HA.out p2 y hy
                injection he2 with he2
                injection he2 with he3 he4
                subst he3 he4
                have hyb := HX.out y (List.mem_of_getElem? hy)
                have hu1 : (a : Int) + (t : Int) = (p2 : Int) := by omega
                have hu2 : IntKind.i64.wrap ((a : Int) + (t : Int)) = (p2 : Int) := by rw [hu1]; exact IntWalk.i64_in _ (by omega)
                have hp2N : (p2 : Int) < (N : Int) := by have := HP.out; omega
                rw [show (((t + 1 : Nat) : Int) - 1) = (t : Int) by omega]
                generalize valP (k - (t + 1)) ((L.drop a).drop (t + 1)) x = h at hst hlt
                obtain ⟨b2, hb2⟩ : ∃ b2, b2 = 128 * h := ⟨_, rfl⟩
                obtain ⟨b3, hb3⟩ : ∃ b3, b3 = b2 + y := ⟨_, rfl⟩
                obtain ⟨b4, hb4⟩ : ∃ b4, b4 = b3 - 128 := ⟨_, rfl⟩
                have hv1 : IntKind.u64.wrap ((h : Int) * 128) = (b2 : Int) := by rw [IntWalk.u64_in _ (by omega)]; omega
                have hv2 : IntKind.u64.wrap (y : Int) = (y : Int) := IntWalk.u64_in _ (by omega)
                have hv3 : IntKind.u64.wrap ((b2 : Int) + (y : Int)) = (b3 : Int) := by rw [IntWalk.u64_in _ (by omega)]; omega
                have hv4 : IntKind.u64.wrap ((b3 : Int) - 128) = (b4 : Int) := by rw [IntWalk.u64_in _ (by omega)]; omega
                have HST := Lib.hid (show valP (k - t) ((L.drop a).drop t) x = b4 by rw [hst]; omega)
                clear hst hlt hlt2 hb2 hb3 hb4 hp2 hy hy2 hyb
                go_wp2_with fail
                go_roundw
                case rel => exact ⟨t, by omega, by go_num, by rw [HST.out], trivial⟩
                case measure => simp [intOf]
        · have hk0' : ¬ (0 : Int) < (k : Int) := by omega
          have hok := get_ok HC.out (by omega) HMx.out (by omega) (by have := HK4.out; omega) (by omega)
          have hbd := (get_only5 hok fun b hb => HX.out b (List.mem_of_mem_drop hb)).2.2.2
          have hg := HG.out _ hok
          rw [if_pos rfl] at hg
          simp only at hg
          obtain ⟨nv, hnv⟩ : ∃ nv, nv = valP k (L.drop a) x := ⟨_, rfl⟩
          obtain ⟨p1, hp1⟩ : ∃ p1, p1 = p + 1 := ⟨_, rfl⟩
          have hs3 : (p : Int) + 1 = (p1 : Int) := by omega
          have hs4 : IntKind.i64.wrap (p1 : Int) = (p1 : Int) := IntWalk.i64_in _ (by omega)
          rw [← hnv] at hbd hg
          rw [show (a : Int) + ((k + 1 : Nat) : Int) = (p1 : Int) by have := HP.out; omega] at hg
          have HGG := Lib.hid hg
          have HNV := Lib.hid hnv
          have hw0 : IntKind.u64.wrap (x : Int) = (x : Int) := IntWalk.u64_in _ (by omega)
          clear hg hok hnv hp1
          go_wp2_with fail
          go_loopw [8, 9] (fun nw iv wr => ∃ t : Nat, t ≤ k ∧ iv = .int .i64 ((t : Int) - 1) ∧ nw = .int .u64 (valP (k - t) ((L.drop a).drop t) x : Nat) ∧ wr = W) (fun _ iv _ => (intOf iv + 1).toNat)
          case atStart => exact ⟨k, Nat.le_refl _, rfl, by rw [Nat.sub_self]; rfl, rfl⟩
          case round =>
            obtain ⟨t, ht, rfl, rfl, hw⟩ := hrel
            have hw' := hw.symm
            subst hw'
            rcases t with _ | t
            · rw [Nat.sub_zero, List.drop_zero, ← HNV.out, show (((0 : Nat) : Int) - 1) = -1 by omega]
              have hw9 : IntKind.u32.wrap (nv : Int) = (nv : Int) := IntWalk.u32_in _ (by omega)
              go_wp2_with fail
              go_ret3
              exact ⟨by rw [HGG.out]; rfl, rfl⟩
            · obtain ⟨y, hy, hy2⟩ := HC.out t (by omega)
              have hst := valP_step (k - (t + 1)) x hy
              rw [show k - (t + 1) + 1 = k - t by omega] at hst
              have hlt := valP_lt (k - (t + 1)) ((L.drop a).drop (t + 1)) x (by omega) fun b hb => HX.out b (List.mem_of_mem_drop (List.mem_of_mem_drop hb))
              have hlt2 : (128 : Nat) ^ (k - (t + 1) + 1) ≤ 128 ^ 4 := Nat.pow_le_pow_right (by omega) (by omega)
              rw [show (128 : Nat) ^ 4 = 268435456 by decide] at hlt2
              rw [HM.out] at hy
              obtain ⟨p2, hp2⟩ : ∃ p2, p2 = a + t := ⟨_, rfl⟩
              rw [← hp2] at hy
              obtain ⟨g2, o2, he2, hcell2⟩ := HA.out p2 y hy
              injection he2 with he2
              injection he2 with he3 he4
              subst he3 he4
              have hyb := HX.out y (List.mem_of_getElem? hy)
              have hu1 : (a : Int) + (t : Int) = (p2 : Int) := by omega
              have hu2 : IntKind.i64.wrap ((a : Int) + (t : Int)) = (p2 : Int) := by rw [hu1]; exact IntWalk.i64_in _ (by omega)
              have hp2N : (p2 : Int) < (N : Int) := by have := HP.out; omega
              rw [show (((t + 1 : Nat) : Int) - 1) = (t : Int) by omega]
              generalize valP (k - (t + 1)) ((L.drop a).drop (t + 1)) x = h at hst hlt
              obtain ⟨b2, hb2⟩ : ∃ b2, b2 = 128 * h := ⟨_, rfl⟩
              obtain ⟨b3, hb3⟩ : ∃ b3, b3 = b2 + y := ⟨_, rfl⟩
              obtain ⟨b4, hb4⟩ : ∃ b4, b4 = b3 - 128 := ⟨_, rfl⟩
              have hv1 : IntKind.u64.wrap ((h : Int) * 128) = (b2 : Int) := by rw [IntWalk.u64_in _ (by omega)]; omega
              have hv2 : IntKind.u64.wrap (y : Int) = (y : Int) := IntWalk.u64_in _ (by omega)
              have hv3 : IntKind.u64.wrap ((b2 : Int) + (y : Int)) = (b3 : Int) := by rw [IntWalk.u64_in _ (by omega)]; omega
              have hv4 : IntKind.u64.wrap ((b3 : Int) - 128) = (b4 : Int) := by rw [IntWalk.u64_in _ (by omega)]; omega
              have HST := Lib.hid (show valP (k - t) ((L.drop a).drop t) x = b4 by rw [hst]; omega)
              clear hst hlt hlt2 hb2 hb3 hb4 hp2 hy hy2 hyb
              go_wp2_with fail
              go_roundw
              case rel => exact ⟨t, by omega, by go_num, by rw [HST.out], trivial⟩
              case measure => simp [intOf]
end Go.Proofs.Ytpmhkmakkeckkaa
