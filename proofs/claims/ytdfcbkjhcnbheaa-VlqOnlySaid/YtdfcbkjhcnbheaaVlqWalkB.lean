/-
  Laws of layer 8, given what the program's functions keep. Over the program's own text.
-/
import Derived.Test.YtdfcbkjhcnbheaaVlqKept
import Derived.Test.YtdfcbkjhcnbheaaRegion
namespace Go.Proofs.Ytdfcbkjhcnbheaa
open Go.RowKit

section
variable (K : KeptVlq) (W : World)
include K
set_option maxRecDepth 100000 in
set_option maxHeartbeats 4000000 in
theorem only_all (oa : Option Addr) (c : Nat) (L : List Nat) (z : Int) (hR : ReadN .u8 W oa L) (hca : L.length ≤ c) (hm : c ≤ maxLen) (hx : ∀ x ∈ L, x < 256) (z0 : -9223372036854775808 ≤ z) (z1 : z ≤ 9223372036854775807) : Calls Try.prog 5 #[.slice oa L.length c, .int .i64 z] W fun e w' => e = .returned (.bool true) ∧ Below W.heap.size W w' := by
  have HF := Lib.hid (fixed_any K)
  obtain ⟨N, hN⟩ : ∃ N, L.length = N := ⟨_, rfl⟩
  rw [hN]
  rw [hN] at hca
  by_cases hlen : (1000 : Int) < (N : Int)
  · clear K
    go_enter Try.func5, Try.ntmps5
    go_wp2_with fail
    refine (HF.out _).mono ?_; rintro e w1 ⟨rfl, hb⟩
    have HB := Lib.hid (hb); clear hb
    go_wp2_with fail
    go_ret
    exact ⟨rfl, HB.out⟩
  have HR := Lib.hid hR
  obtain ⟨n, b, e, hg⟩ : ∃ n b e, getA L z = (n, b, e) := ⟨_, _, _, rfl⟩
  have A1 := Lib.hid (K.get_of L N z n b e hN (by omega) hx z0 z1 hg)
  by_cases he : e = 0
  · subst he
    obtain ⟨a, k, rfl, haN, hgr, hb⟩ := getA_ok (L := L) (z := z) (by rw [hg])
    rw [hg] at hgr hb
    simp only at hgr hb
    obtain ⟨h1, h2, h3, h4⟩ := get_only5 hgr fun y hy => hx y (List.mem_of_mem_drop hy)
    rw [List.length_drop] at h3
    obtain ⟨y, hy⟩ : ∃ y, L[a]? = some y := ⟨_, List.getElem?_eq_getElem (by omega)⟩
    obtain ⟨g, o, rfl, _⟩ := hR a y hy
    obtain ⟨P, hP⟩ : ∃ P, putN n = P := ⟨_, rfl⟩
    have hPl : P.length = k := by rw [← hP, h1, List.length_take, List.length_drop]; omega
    have A2 := Lib.hid (K.put_of n P k h4 hP hPl)
    have HRP := Lib.hid (show ReadN .u8 W (some ⟨g, o + a, none⟩) P from by
      intro j w hj
      have hjk : j < k := by have := (List.getElem?_eq_some_iff.1 hj).1; omega
      rw [← hP, h1, List.getElem?_take, if_pos hjk, List.getElem?_drop] at hj
      obtain ⟨g', o', he', hc'⟩ := hR (a + j) w hj
      injection he' with he'
      injection he' with he1 he2
      subst he1 he2
      exact ⟨_, _, rfl, by rw [show o + a + j = o + (a + j) by omega]; exact hc'⟩)
    have HLn := Lib.hid (And.intro hN hPl)
    have hk5 : k ≤ 1000 := by omega
    have q1 : (a : Int) < b := by omega
    have q2 : b ≤ (N : Int) := by omega
    have q3 : b ≤ (c : Int) := by omega
    have q4 : (a : Int) ≤ b := by omega
    have q5 : ¬ (c = a) := by omega
    have q6 : b.toNat = a + k := by omega
    have q7 : a ≤ c := by omega
    have q8 : (b - (a : Int)).toNat = k := by omega
    have q9 : b.toNat - a = k := by omega
    have q10 : 0 ≤ b := by omega
    clear K hN hP hPl h1 h2 h3 hgr hg hR hx hy hb
    go_enter Try.func5, Try.ntmps5
    go_wp2_with fail
    refine (A1.out _ _ _ HR.out hca hm).mono ?_; rintro e w1 ⟨rfl, hb⟩
    have HRP := Lib.hid (HRP.out.below hb); have HB := Lib.hid (hb); clear hb
    go_wp2_with fail
    refine wp_region_by (fun (s : Option Addr × Nat) j => [.bool true, .bool true, .int .i64 b, .int .i64 (a : Int), .bool true, .bool true, .bool true, .int .i64 b, .slice (some ⟨g, o, none⟩) N c, .int .i64 (N : Int), .bool true, .bool true, .bool true, .int .u32 (n : Int), .slice s.1 k s.2, .slice (some ⟨g, o, none⟩) N c, .int .i64 (a : Int), .int .i64 b, .slice (some ⟨g, o + a, none⟩) k (c - a), .bool true, .bool true, .bool true].getD j undef)
      (fun s l wx => Below W.heap.size W wx ∧ ReadN .u8 wx (some ⟨g, o + a, none⟩) P ∧ (l 14 = true → ReadN .u8 wx s.1 P))
      (by kernel_rfl) (by kernel_rfl) (fun s => by simp only [putTo, dstOf, Act.put, List.size_toArray, List.length_cons, List.length_nil, List.getElem?_toArray, Nat.reduceAdd, Option.bind_some, List.getElem?_cons_zero, List.getElem?_cons_succ, List.setIfInBounds_toArray, List.set_cons_zero, List.set_cons_succ, List.getD_cons_zero, List.getD_cons_succ]; exact rfl) (none, 0) ?_ ?_ ?_
    · exact ⟨HB.out.drew, HRP.out.drewN 1, fun h => by cases h⟩
    · intro i o ho s l wx hR hl he K hK
      rcases i with _ | _ | _ | _ | _ | _ | _ | _ | _ | _ | _ | _ | _ | _ | _ | _ | _ | _ | _ | _ | _ | _ | i
      · obtain rfl : _ = o := Option.some.inj ho
        go_simp
        refine (HF.out _).mono ?_; rintro e w2 ⟨rfl, hb2⟩
        exact hK s w2 (fun _ _ => rfl) ⟨low_more hR.1 hb2, hR.2.1.below hb2, fun h => (hR.2.2 h).below hb2⟩
      · obtain rfl : _ = o := Option.some.inj ho
        go_simp
        exact hK s wx (fun _ _ => rfl) hR
      · obtain rfl : _ = o := Option.some.inj ho
        go_simp
        exact hK s wx (fun _ _ => rfl) hR
      · obtain rfl : _ = o := Option.some.inj ho
        go_simp
        exact hK s wx (fun _ _ => rfl) hR
      · obtain rfl : _ = o := Option.some.inj ho
        go_simp
        exact hK s wx (fun _ _ => rfl) hR
      · obtain rfl : _ = o := Option.some.inj ho
        go_simp
        exact hK s wx (fun _ _ => rfl) hR
      · obtain rfl : _ = o := Option.some.inj ho
        go_simp
        exact hK s wx (fun _ _ => rfl) hR
      · obtain rfl : _ = o := Option.some.inj ho
        go_simp
        exact hK s wx (fun _ _ => rfl) hR
      · obtain rfl : _ = o := Option.some.inj ho
        go_simp
        exact hK s wx (fun _ _ => rfl) hR
      · obtain rfl : _ = o := Option.some.inj ho
        go_simp
        exact hK s wx (fun _ _ => rfl) hR
      · obtain rfl : _ = o := Option.some.inj ho
        go_simp
        exact hK s wx (fun _ _ => rfl) hR
      · obtain rfl : _ = o := Option.some.inj ho
        go_simp
        exact hK s wx (fun _ _ => rfl) hR
      · obtain rfl : _ = o := Option.some.inj ho
        go_simp
        exact hK s wx (fun _ _ => rfl) hR
      · obtain rfl : _ = o := Option.some.inj ho
        go_simp
        exact hK s wx (fun _ _ => rfl) hR
      · obtain rfl : _ = o := Option.some.inj ho
        go_simp
        refine (A2.out _).mono ?_; rintro e w2 ⟨oc, cc, rfl, _, _, _, hr2, hb2⟩
        refine hK (oc, cc) w2 (fun j hj => ?_) ⟨low_more hR.1 hb2, hR.2.1.below hb2, fun _ => hr2⟩
        rcases j with _ | _ | _ | _ | _ | _ | _ | _ | _ | _ | _ | _ | _ | _ | _ | j
        all_goals first | rfl | (rw [hl] at hj; cases hj)
      · obtain rfl : _ = o := Option.some.inj ho
        go_simp
        exact hK s wx (fun _ _ => rfl) hR
      · obtain rfl : _ = o := Option.some.inj ho
        go_simp
        exact hK s wx (fun _ _ => rfl) hR
      · obtain rfl : _ = o := Option.some.inj ho
        go_simp
        exact hK s wx (fun _ _ => rfl) hR
      · obtain rfl : _ = o := Option.some.inj ho
        go_simp
        exact hK s wx (fun _ _ => rfl) hR
      · obtain rfl : _ = o := Option.some.inj ho
        have h14 := he ⟨14, .data⟩ (by simp) rfl
        go_simp
        refine (same8_at _ _ _ _ _ k k P P HLn.out.2 HLn.out.2 (hR.2.2 h14) hR.2.1 (by omega)).mono ?_; rintro e w2 ⟨rfl, hb2⟩
        rw [show decide (P = P) = true by simp]
        exact hK s w2 (fun _ _ => rfl) ⟨low_more hR.1 hb2, hR.2.1.below hb2, fun h => (hR.2.2 h).below hb2⟩
      · obtain rfl : _ = o := Option.some.inj ho
        go_simp
        exact hK s wx (fun _ _ => rfl) hR
      · obtain rfl : _ = o := Option.some.inj ho
        go_simp
        exact hK s wx (fun _ _ => rfl) hR
      · simp at ho
    · intro s l wx hl hR
      have hB := hR.1
      clear hR
      go_wp2_with fail
      go_ret
      exact ⟨rfl, hB⟩
  · have hz := getA_err (L := L) (z := z) (by rw [hg]; exact he)
    rw [hg] at hz
    obtain ⟨rfl, rfl⟩ := hz
    have he1 : ((e : Int) != 0) = true := bne_iff_ne.2 (by omega)
    clear K hN hg hR hx he
    go_enter Try.func5, Try.ntmps5
    go_wp2_with fail
    refine (A1.out _ _ _ HR.out hca hm).mono ?_; rintro e w1 ⟨rfl, hb⟩
    have HB := Lib.hid (hb); clear hb
    go_wp2_with fail
    refine (HF.out _).mono ?_; rintro e w2 ⟨rfl, hb⟩
    have HB := Lib.hid (low_more HB.out hb); clear hb
    go_wp2_with fail
    go_ret
    exact ⟨rfl, HB.out⟩

end
end Go.Proofs.Ytdfcbkjhcnbheaa
