/-
  The law TableVersions' 'change': one act. Over the program's own text.
-/
import Derived.Test.YtgponhdmhgdalaaTableSeen
import Derived.Test.YtgponhdmhgdalaaTableFixed
namespace Go.Proofs.Ytgponhdmhgdalaa
open Go.RowKit

/-- Behind one act: nothing is another, or a version more, and what the older ones see stays. -/
structure Changed (W : World) (mb cb : Nat) (cs : List Int) (N n : Nat) (v : Int) (n' : Nat) (v' : Int) (w' : World) : Prop where
  mod : Mod (fun k => k = mb ∨ k = cb) W w'
  tm : ∃ cs', TM mb cb cs' (N + 100) w' ∧ ((v' = v ∧ n' = n ∧ cs' = cs) ∨ (v' = v + 1 ∧ Vers cs' n' v' ∧ ∀ k : Int, k ≤ v → seenZ cs' 0 16 k = seenZ cs 0 16 k))
theorem mod_own {W W3 w' : World} {mb cb : Nat} {S : Nat → Prop} (hB : Below W.heap.size W W3) (hmod : Mod (Own S mb cb) W3 w') (hS : ∀ k, S k → W.heap.size ≤ k) : Mod (fun k => k = mb ∨ k = cb) W w' :=
  (Below.mod hB (fun k => k = mb ∨ k = cb) fun k hk hk' => by omega).then hmod (by
    rintro k hk (e | e | e)
    · have := hS k e; omega
    · exact .inl e
    · exact .inr e)
set_option maxRecDepth 100000 in
set_option maxHeartbeats 3000000 in
theorem change_at {rowP : Int → Int → Pr R4} {seenP : Int → Int → Int → Pr (List Sn)} {findP : Int → Int → Int → Pr Int} (K : KeptTable rowP seenP findP) {mb cb : Nat} {cs : List Int} {N n : Nat} {v : Int} {W : World} (h : TM mb cb cs N W) (hN : N ≤ 80000000) (hV : Vers cs n v) (hv0 : 0 ≤ v) (hv1 : v ≤ 900) (kl : Bool) (ai id ln : Int) (ha0 : 0 ≤ ai) (ha1 : ai ≤ 255) (hi : U id) (hl : U ln) :
    Calls Try.prog 7 #[.pointer (some ⟨mb, 0, none⟩), .agg #[.bool kl, .int .u8 ai, .int .u32 id, .int .u32 ln], .int .i64 (n : Int), .int .u32 v] W fun e w' => ∃ n' v', e = .returned (.tuple #[.int .i64 (n' : Nat), .int .u32 v']) ∧ Changed W mb cb cs N n v n' v' w' := by
  obtain ⟨hmb, hcb⟩ := h.lt
  have hn16 := hV.n16
  have hlen := hV.len
  obtain ⟨W3, hW3⟩ : ∃ W3, W3 = ((W.alloc (.cells #[.bool kl, .int .u8 ai, .int .u32 id, .int .u32 ln] 31)).alloc (.cells #[.int .i64 (n : Int)] 3)).alloc (.cells #[.int .u32 v] 28) := ⟨_, rfl⟩
  have hB : Below W.heap.size W W3 := by rw [hW3]; exact below_al3
  have ga : W3.heap[W.heap.size]? = some (.cells #[.bool kl, .int .u8 ai, .int .u32 id, .int .u32 ln] 31 (0, 0)) := by rw [hW3]; exact heap3_0 _ _ _ _
  have gn : W3.heap[W.heap.size + 1]? = some (.cells #[.int .i64 (n : Int)] 3 (0, 0)) := by rw [hW3]; exact heap3_1 _ _ _ _
  have gv : W3.heap[W.heap.size + 1 + 1]? = some (.cells #[.int .u32 v] 28 (0, 0)) := by rw [hW3]; exact heap3_2 _ _ _ _
  have hz : W.heap.size + 1 + 1 < W3.heap.size := lt_of_heap gv
  have h3 := h.below hB
  have HK := Lib.hid K
  have HV := Lib.hid hV
  have HI := Lib.hid (And.intro hi hl)
  have HB := Lib.hid hB
  have HT := Lib.hid h3
  have HG := Lib.hid (And.intro ga (And.intro gn gv))
  have s1 : IntKind.i64.wrap ai = ai := IntWalk.i64_in _ (by omega)
  have s2 : IntKind.i64.wrap ((n : Int) + 1) = ((n + 1 : Nat) : Int) := by rw [IntWalk.i64_in _ (by omega)]; omega
  have s3 : IntKind.u32.wrap (v + 1) = v + 1 := IntWalk.u32_in _ (by omega)
  clear h K hV hi hl hB h3 ga gn gv
  cases kl with
  | true =>
    rcases Nat.eq_zero_or_pos n with hn0 | hn0
    · have c_n : W3.cell? ⟨W.heap.size + 1, 0, none⟩ = some (.int .i64 (n : Int)) := cell_at HG.out.2.1 0
      have c_v : W3.cell? ⟨W.heap.size + 1 + 1, 0, none⟩ = some (.int .u32 v) := cell_at HG.out.2.2 0
      have hn1 : ¬ 0 < n := by omega
      clear HI s1 s2 s3 HG hn0
      go_enter Try.func7, Try.ntmps7
      go_wp2_with fail
      rw [← hW3]
      have HW3 := Lib.hid hW3
      clear hW3
      go_quiet (fail)
      rename Nat => m1
      go_wp2_with fail
      refine bodyPost_ret (v := .tuple #[.int .i64 (n : Int), .int .u32 v]) (by simp [results, Try.results7, go_sem]) rfl ⟨n, v, rfl, ?_, ?_⟩
      · exact (Below.mod HB.out (fun k => k = mb ∨ k = cb) fun k hk hk' => by omega).drewN m1
      · exact ⟨cs, (HT.out.below (below_drawn (Below.refl _ _) m1)).more _ (by omega), .inl ⟨rfl, rfl, rfl⟩⟩
    · obtain ⟨d, hd⟩ : ∃ d : Nat, ai % (n : Int) = (d : Int) := ⟨(ai % (n : Int)).toNat, by have := Int.emod_nonneg ai (show (n : Int) ≠ 0 by omega); omega⟩
      have hdn : d < n := by have := Int.emod_lt_of_pos ai (show (0 : Int) < (n : Int) by omega); omega
      have e1 : ai.tmod (n : Int) = (d : Int) := by rw [Int.tmod_eq_emod_of_nonneg ha0]; exact hd
      have e2 : IntKind.i64.wrap (d : Int) = (d : Int) := IntWalk.i64_in _ (by omega)
      have e3 : ((n : Int) == 0) = false := by simpa using (show n ≠ 0 by omega)
      have e4 : (n : Int) ≠ 0 := by omega
      clear hd
      obtain ⟨W5, hW5⟩ : ∃ W5, W5 = (W3.alloc (.cells #[.int .i64 (d : Int)] 3)).alloc (.cells #[.int .u32 0, .int .u32 0, .int .u32 0, .int .u32 0] 52) := ⟨_, rfl⟩
      have hB5 : Below W3.heap.size W3 W5 := by rw [hW5]; exact below_al2
      have gd : W5.heap[W3.heap.size]? = some (.cells #[.int .i64 (d : Int)] 3 (0, 0)) := by rw [hW5]; exact heap2_0 _ _ _
      have gx : W5.heap[W3.heap.size + 1]? = some (.cells (rowC ⟨0, 0, 0, 0⟩) 52 (0, 0)) := by rw [hW5]; exact heap2_1 _ _ _
      have hz5 : W3.heap.size + 1 < W5.heap.size := lt_of_heap gx
      have hz3 : W3.heap.size = W.heap.size + 3 := by rw [hW3]; simp
      obtain ⟨m, hm, hdo⟩ := HK.out.rowD cs 0 d (by omega) (by omega)
      have hK := (HT.out.below hB5).whole (by omega) hdo (fun rb hrb => Ca_clo HK.out (d := (d : Int)) (by omega) (by omega) W3.heap.size (W3.heap.size + 1) rb mb cb 200000000 (by omega) (by omega) (by omega)) ⟨gd, ⟨_, gx⟩⟩ (fun k hk => by
        unfold CaS at hk
        omega) (by omega)
      obtain ⟨tm, htm⟩ : ∃ tm, tm = cellZ cs (0 + 4 * (d : Int) + 3) := ⟨_, rfl⟩
      rw [← htm] at hK
      have gv5 := (hB5.block _ hz).trans HG.out.2.2
      have gn5 := (hB5.block _ (show W.heap.size + 1 < W3.heap.size by omega)).trans HG.out.2.1
      have HK1 := Lib.hid hK
      have HM := Lib.hid hm
      have HB5 := Lib.hid (low_more HB.out hB5)
      have HG5 := Lib.hid (And.intro gv5 gn5)
      have HTM := Lib.hid htm
      clear hK hdo hm hB5 gd gx gv5 gn5 htm HG HT HB
      have HZ3 := Lib.hid hz3
      clear hz3
      go_enter Try.func7, Try.ntmps7
      go_wp2_with fail
      rw [← hW3]
      clear hW3
      try go_wp2_with fail
      rw [← hW5, show W.heap.size + 1 + 1 + 1 = W3.heap.size by have := HZ3.out; omega]
      clear hW5
      have hz3 := HZ3.out
      refine HK1.out.mono ?_; rintro e w6 ⟨rfl, hT6, hI6, hQ6, hmod6⟩
      have k_t : w6.cell? ⟨W3.heap.size + 1, 3, none⟩ = some (.int .u32 tm) := cell_at hQ6.x 3
      have hs6 : ∀ k, Own (CaS W3.heap.size (W3.heap.size + 1)) mb cb k → ¬ (W.heap.size ≤ k ∧ k < W3.heap.size) := by
        rintro k (e | e | e) <;> first | (unfold CaS at e; omega) | omega
      have q_v := (hmod6.block _ (show W.heap.size + 1 + 1 < W5.heap.size by omega) (fun e => hs6 _ e (by omega))).trans HG5.out.1
      have q_n := (hmod6.block _ (show W.heap.size + 1 < W5.heap.size by omega) (fun e => hs6 _ e (by omega))).trans HG5.out.2
      have hM6 : Mod (fun k => k = mb ∨ k = cb) W w6 := mod_own HB5.out hmod6 (by intro k hk; unfold CaS at hk; omega)
      have c_v : w6.cell? ⟨W.heap.size + 1 + 1, 0, none⟩ = some (.int .u32 v) := cell_at q_v 0
      have c_n : w6.cell? ⟨W.heap.size + 1, 0, none⟩ = some (.int .i64 (n : Int)) := cell_at q_n 0
      have HQ6 := Lib.hid (And.intro q_v q_n)
      have HT6 := Lib.hid (And.intro hT6 (And.intro hM6 hI6))
      have hz6 : W5.heap.size ≤ w6.heap.size := hmod6.size
      clear HK1 hT6 hI6 hQ6 hmod6 hs6 q_v q_n hM6 HG5 HB5 hz3
      by_cases h0 : tm = 0
      · have b1 : (tm == 0) = true := by simpa using h0
        have hz3 := HZ3.out
        have hkl := HV.out.kill hdn (by have := HTM.out; rw [Int.zero_add] at this; omega)
        have hkd := kill_does (cs := cs) (b := 0) (d := d) (v := v + 1) (by omega) (by omega) ⟨by omega, by omega⟩
        obtain ⟨hT6, hM6, hI6⟩ := HT6.out
        have hK := hT6.whole (by have := HM.out; omega) hkd (fun rb hrb => Cb_clo HK.out (d := (d : Int)) (v := v) (by omega) (by omega) hv0 (by omega) W3.heap.size (W.heap.size + 1 + 1) rb mb cb 200000000 (by omega)) ⟨hI6.d, HQ6.out.1⟩ (fun k hk => by
          unfold CbS at hk
          omega) (by omega)
        have HK1 := Lib.hid hK
        have HKL := Lib.hid hkl
        have HM6 := Lib.hid hM6
        clear hK hkl hkd hT6 hM6 hI6 HT6 h0 HTM hz3
        go_wp2_with fail
        refine HK1.out.mono ?_; rintro e w7 ⟨rfl, hT7, hI7, _, hmod7⟩
        have hz3 := HZ3.out
        have q_n := (hmod7.block _ (show W.heap.size + 1 < w6.heap.size by omega) (by rintro (e | e | e); unfold CbS at e; omega; omega; omega)).trans HQ6.out.2
        have hM7 : Mod (fun k => k = mb ∨ k = cb) W w7 := HM6.out.then hmod7 (by
          rintro k hk (e | e | e)
          · unfold CbS at e; omega
          · exact .inl e
          · exact .inr e)
        have c_v : w7.cell? ⟨W.heap.size + 1 + 1, 0, none⟩ = some (.int .u32 v) := cell_at hI7.v 0
        have c_n : w7.cell? ⟨W.heap.size + 1, 0, none⟩ = some (.int .i64 (n : Int)) := cell_at q_n 0
        have HT7 := Lib.hid (And.intro hT7 hM7)
        clear HK1 hT7 hI7 hmod7 q_n hM7 HQ6 k_t hz3
        go_wp2_with fail
        go_quiet (fail)
        rename Nat => m1
        go_wp2_with fail
        obtain ⟨hT7, hM7⟩ := HT7.out
        refine bodyPost_ret (v := .tuple #[.int .i64 (n : Int), .int .u32 (v + 1)]) (by simp [results, Try.results7, go_sem]) rfl ⟨n, v + 1, rfl, hM7.drewN m1, ?_⟩
        exact ⟨_, (hT7.below (below_drawn (Below.refl _ _) m1)).more _ (by have := HM.out; omega), .inr ⟨rfl, HKL.out⟩⟩
      · have b1 : (tm == 0) = false := by simpa using h0
        clear h0 HTM
        go_wp2_with fail
        go_quiet (fail)
        rename Nat => m1
        go_wp2_with fail
        obtain ⟨hT6, hM6, _⟩ := HT6.out
        refine bodyPost_ret (v := .tuple #[.int .i64 (n : Int), .int .u32 v]) (by simp [results, Try.results7, go_sem]) rfl ⟨n, v, rfl, hM6.drewN m1, ?_⟩
        exact ⟨cs, (hT6.below (below_drawn (Below.refl _ _) m1)).more _ (by have := HM.out; omega), .inl ⟨rfl, rfl, rfl⟩⟩
  | false =>
    by_cases hn0 : n = 16
    · have c_n : W3.cell? ⟨W.heap.size + 1, 0, none⟩ = some (.int .i64 (n : Int)) := cell_at HG.out.2.1 0
      have c_v : W3.cell? ⟨W.heap.size + 1 + 1, 0, none⟩ = some (.int .u32 v) := cell_at HG.out.2.2 0
      have b1 : ((n : Int) == 16) = true := by simp; omega
      clear HI s1 s2 s3 HG hn0
      go_enter Try.func7, Try.ntmps7
      go_wp2_with fail
      rw [← hW3]
      have HW3 := Lib.hid hW3
      clear hW3
      go_quiet (fail)
      rename Nat => m1
      go_wp2_with fail
      refine bodyPost_ret (v := .tuple #[.int .i64 (n : Int), .int .u32 v]) (by simp [results, Try.results7, go_sem]) rfl ⟨n, v, rfl, ?_, ?_⟩
      · exact (Below.mod HB.out (fun k => k = mb ∨ k = cb) fun k hk hk' => by omega).drewN m1
      · exact ⟨cs, (HT.out.below (below_drawn (Below.refl _ _) m1)).more _ (by omega), .inl ⟨rfl, rfl, rfl⟩⟩
    · have b1 : ((n : Int) == 16) = false := by simp; omega
      have hly := HV.out.lay (by omega) hv0 id ln
      have hld := lay_does (cs := cs) (b := 0) (d := n) (id := id) (l := ln) (v := v + 1) (by omega) (by omega) HI.out.1 HI.out.2 ⟨by omega, by omega⟩
      have hK := HT.out.whole (by omega) hld (fun rb hrb => Cc_clo HK.out (n := (n : Int)) (kl := false) (ai := ai) (id := id) (ln := ln) (v := v) (by omega) (by omega) HI.out.1 HI.out.2 hv0 (by omega) (W.heap.size + 1) W.heap.size (W.heap.size + 1 + 1) rb mb cb 200000000 (by omega)) ⟨HG.out.2.1, HG.out.1, HG.out.2.2⟩ (fun k hk => by
        unfold CcS at hk
        omega) (by omega)
      have HK1 := Lib.hid hK
      have HLY := Lib.hid hly
      clear hK hly hld HG HT HI hn0
      go_enter Try.func7, Try.ntmps7
      go_wp2_with fail
      rw [← hW3]
      clear hW3
      refine HK1.out.mono ?_; rintro e w7 ⟨rfl, hT7, hI7, _, hmod7⟩
      have hM7 : Mod (fun k => k = mb ∨ k = cb) W w7 := mod_own HB.out hmod7 (by intro k hk; unfold CcS at hk; omega)
      have c_v : w7.cell? ⟨W.heap.size + 1 + 1, 0, none⟩ = some (.int .u32 v) := cell_at hI7.v 0
      have c_n : w7.cell? ⟨W.heap.size + 1, 0, none⟩ = some (.int .i64 (n : Int)) := cell_at hI7.n 0
      have HT7 := Lib.hid (And.intro hT7 hM7)
      clear HK1 hT7 hI7 hmod7 hM7
      go_wp2_with fail
      go_quiet (fail)
      rename Nat => m1
      go_wp2_with fail
      obtain ⟨hT7, hM7⟩ := HT7.out
      refine bodyPost_ret (v := .tuple #[.int .i64 ((n + 1 : Nat) : Int), .int .u32 (v + 1)]) (by simp [results, Try.results7, go_sem]) rfl ⟨n + 1, v + 1, rfl, hM7.drewN m1, ?_⟩
      exact ⟨_, (hT7.below (below_drawn (Below.refl _ _) m1)).more _ (by omega), .inr ⟨rfl, HLY.out⟩⟩
end Go.Proofs.Ytgponhdmhgdalaa
