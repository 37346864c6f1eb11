/-
  The laws' own 'put' and 'walk': a word is added, at once; the words up to a tail, at once. Over the program's own text.
-/
import Derived.Test.YtiabmbkmahlhkaaPostKept
import Derived.Test.YtiabmbkmahlhkaaRegion
namespace Go.Proofs.Ytiabmbkmahlhkaa
open Go.RowKit

theorem heap_below {w : World} {o : Obj} {k : Nat} {x : Obj} (h : w.heap[k]? = some x) : (w.alloc o).heap[k]? = some x := (Below.heap_alloc _ _ _ (lt_of_heap h)).trans h
theorem heap_top {w : World} (o : Obj) {k : Nat} (h : k = w.heap.size) : (w.alloc o).heap[k]? = some o := by subst h; exact heap_alloc_new w o
/-- The variables of a put, just made. -/
def putW (W : World) (B S : Nat → Int) (C T L : Int) (U0 : Nat → Int) (t v : Int) : World := ((((((((W.alloc (.cells (planC B S C T L) 29)).alloc (.cells (six U0) 27)).alloc (.cells #[.int .i64 t] 3)).alloc (.cells #[.int .u32 v] 41)).alloc (.cells #[.int .i64 0, .int .i64 0, .int .i64 0, .int .i64 0, .int .i64 0, .int .i64 0] 27)).alloc (.cells #[.int .i64 0] 3)).alloc (.cells #[.int .i64 0, .int .i64 0, .int .i64 0, .int .i64 0, .int .i64 0, .int .i64 0] 27)).alloc (.cells #[.int .i64 0] 34))
theorem putW_i (W : World) (B S : Nat → Int) (C T L : Int) (U0 : Nat → Int) (t v : Int) : PutI W.heap.size B S C T L U0 t v (putW W B S C T L U0 t v) ∧ Below W.heap.size W (putW W B S C T L U0 t v) ∧ (putW W B S C T L U0 t v).heap.size = W.heap.size + 8 := by
  unfold putW
  have hs : ∀ (w : World) (o : Obj), (w.alloc o).heap.size = w.heap.size + 1 := by simp
  refine ⟨⟨?_, ?_, ?_, ?_, ⟨fun _ => 0, ?_⟩, ⟨0, ?_⟩, ⟨fun _ => 0, ?_⟩, ⟨0, ?_⟩⟩, ?_, ?_⟩
  · exact heap_below (heap_below (heap_below (heap_below (heap_below (heap_below (heap_below (heap_top _ rfl)))))))
  · exact heap_below (heap_below (heap_below (heap_below (heap_below (heap_below (heap_top _ (by simp)))))))
  · exact heap_below (heap_below (heap_below (heap_below (heap_below (heap_top _ (by simp))))))
  · exact heap_below (heap_below (heap_below (heap_below (heap_top _ (by simp)))))
  · exact heap_below (heap_below (heap_below (heap_top _ (by simp))))
  · exact heap_below (heap_below (heap_top _ (by simp)))
  · exact heap_below (heap_top _ (by simp))
  · exact heap_top _ (by simp)
  · exact (((((((((Below.refl _ _).alloc (Nat.le_refl _) _).alloc (by simp) _).alloc (by simp; omega) _).alloc (by simp; omega) _).alloc (by simp; omega) _).alloc (by simp; omega) _).alloc (by simp; omega) _).alloc (by simp; omega) _)
  · simp

set_option maxRecDepth 100000 in
set_option maxHeartbeats 2000000 in
theorem put_at {walkP : (Nat → Int) → (Nat → Int) → Int → Int → Pr (List Nat)} (K : KeptPost walkP) {W : World} {mb cb : Nat} {cs cs' : List Int} {l s : Int} {B S U0 : Nat → Int} {C T L t v : Int} {x : PutR} {n : Nat} (hm : MemAt W mb cb cs l s) (l0 : 0 ≤ l) (s0 : 0 ≤ s) (hls : l + s ≤ 100000000) (hcu : ∀ y ∈ cs, U y)
    (hd : Does (putP B S U0 t v) cs n x cs') (hn : n ≤ 2) (hL : Laid B S C) (hU : ∀ k, k < 6 → 0 ≤ U0 k ∧ U0 k ≤ S k) (h0 : -9223372036854775808 ≤ t) (h1 : t ≤ 9223372036854775807) (v0 : 0 ≤ v) (v1 : v ≤ 4294967295) :
    Calls Try.prog 9 #[.pointer (some ⟨mb, 0, none⟩), .agg (planC B S C T L), .agg (six U0), .int .i64 t, .int .u32 v] W fun e w' => e = .returned (.tuple #[.int .i64 x.1, .agg (six x.2.1), .int .i64 x.2.2]) ∧ (∃ l' s', MemAt w' mb cb cs' l' s' ∧ 0 ≤ l' ∧ 0 ≤ s' ∧ l' + s' ≤ l + s + n) ∧ (∀ y ∈ cs', U y) ∧ Mod (fun k => k = mb ∨ k = cb) W w' := by
  obtain ⟨hI, hB, hz⟩ := putW_i W B S C T L U0 t v
  have hmb := lt_of_heap hm.rec_
  have hcb := lt_of_heap hm.row
  have HK := Lib.hid (whole_at (B := 200000000) (hm.below hB) l0 s0 hcu hd (fun rb hrb => put_clo K (T := T) (L := L) hL hU h0 h1 v0 v1 W.heap.size rb mb cb 200000000 (by omega) (by omega)) hI (fun k hk => ⟨by have := hk.2; omega, by have := hk.1; omega, by have := hk.1; omega⟩) (by omega) (by omega) (by omega))
  have HW := Lib.hid hB
  clear hL hU h0 h1 v0 v1 K hm hI hd hcu l0 s0 hls hB
  go_enter Try.func9, Try.ntmps9
  go_wp2_with fail
  have e : ((((((((W.alloc (.cells (planC B S C T L) 29)).alloc (.cells (six U0) 27)).alloc (.cells #[.int .i64 t] 3)).alloc (.cells #[.int .u32 v] 41)).alloc (.cells #[.int .i64 0, .int .i64 0, .int .i64 0, .int .i64 0, .int .i64 0, .int .i64 0] 27)).alloc (.cells #[.int .i64 0] 3)).alloc (.cells #[.int .i64 0, .int .i64 0, .int .i64 0, .int .i64 0, .int .i64 0, .int .i64 0] 27)).alloc (.cells #[.int .i64 0] 34)) = putW W B S C T L U0 t v := rfl
  rw [e]
  clear e
  refine HK.out.mono ?_
  clear HK
  rintro e w2 ⟨rfl, ⟨l', s', hm2, a0, a1, a2⟩, hcu2, hI2, hQ2, hmod⟩
  obtain ⟨Vz, z4⟩ := hI2.z
  have HQ := Lib.hid hQ2
  have HZ := Lib.hid z4
  have HM := Lib.hid (And.intro hm2 (And.intro a0 (And.intro a1 a2)))
  have HCU := Lib.hid hcu2
  have HMod := Lib.hid hmod
  clear hI2 hQ2 hmod hm2 a0 a1 a2 hcu2 z4
  go_wp2_with fail
  refine wp_region_by (fun (_ : Unit) j => [.int .i64 x.1, .agg (six x.2.1), .int .i64 x.2.2, .int .i64 x.1, undef, .int .i64 x.2.2].getD j undef)
    (fun _ l wx => PutQ W.heap.size x wx ∧ (∃ V, wx.heap[W.heap.size + 4]? = some (.cells (six V) 27 (0, 0))) ∧ (l 4 = true → wx.heap[W.heap.size + 4]? = some (.cells (six x.2.1) 27 (0, 0))) ∧ Mod (fun k => k = W.heap.size + 4) w2 wx)
    (by kernel_rfl) (by kernel_rfl) (fun q => by simp only [putTo, dstOf, Act.put, List.size_toArray, List.length_cons, List.length_nil, List.getElem?_toArray, Nat.reduceAdd, Option.bind_some, List.getElem?_cons_zero, List.getElem?_cons_succ, List.setIfInBounds_toArray, List.set_cons_zero, List.set_cons_succ, List.getD_cons_zero, List.getD_cons_succ]; exact rfl) () ?_ ?_ ?_
  · exact ⟨⟨HQ.out.t, HQ.out.u, HQ.out.e⟩, ⟨Vz, HZ.out⟩, (fun h => by cases h), (Mod.refl _ _).drew⟩
  · intro i o ho q l wx hR hl he K hK
    rcases i with _ | _ | _ | _ | _ | _ | i
    · obtain rfl : _ = o := Option.some.inj ho
      have c1 : wx.cell? ⟨W.heap.size + 1 + 1 + 1 + 1 + 1, 0, none⟩ = some (.int .i64 x.1) := cell_at hR.1.t 0
      go_simp
      exact hK () wx (fun _ _ => rfl) hR
    · obtain rfl : _ = o := Option.some.inj ho
      refine wp_load_row 27 (.tmp 14) rfl (W.heap.size + 6) rfl 27 (six x.2.1) (0, 0) _ hR.1.u Try.underlying27 rfl (six_info _) ?_
      exact hK () wx (fun _ _ => rfl) hR
    · obtain rfl : _ = o := Option.some.inj ho
      have c1 : wx.cell? ⟨W.heap.size + 1 + 1 + 1 + 1 + 1 + 1 + 1, 0, none⟩ = some (.int .i64 x.2.2) := cell_at hR.1.e 0
      go_simp
      exact hK () wx (fun _ _ => rfl) hR
    · obtain rfl : _ = o := Option.some.inj ho
      go_simp
      exact hK () wx (fun _ _ => rfl) hR
    · obtain rfl : _ = o := Option.some.inj ho
      obtain ⟨V, hV⟩ := hR.2.1
      refine wp_store_row 27 (.tmp 11) (.tmp 21) rfl (W.heap.size + 4) (six x.2.1) rfl rfl 27 (six V) hV (six_info _) (six_both _ _) (six_one _) ?_
      have hs := setRow_heap wx (W.heap.size + 4) _ (six x.2.1) _ _ hV
      refine hK () _ (fun _ _ => rfl) ⟨⟨(setRow_other _ _ _ _ (by omega)).trans hR.1.t, (setRow_other _ _ _ _ (by omega)).trans hR.1.u, (setRow_other _ _ _ _ (by omega)).trans hR.1.e⟩, ⟨_, hs⟩, fun _ => hs, hR.2.2.2.setRow (.inr rfl) _⟩
    · obtain rfl : _ = o := Option.some.inj ho
      go_simp
      exact hK () wx (fun _ _ => rfl) hR
    · simp at ho
  · intro q l wx hl hR
    have H4 : Hid (wx.heap[W.heap.size + 1 + 1 + 1 + 1]? = some (.cells (six x.2.1) 27 (0, 0))) := Lib.hid (hR.2.2.1 (hl 4 (by decide)))
    have HMX := Lib.hid hR.2.2.2
    clear hR hl
    go_wp2_with fail
    have hmx := HMX.out
    have h4 := H4.out
    refine bodyPost_ret (v := .tuple #[.int .i64 x.1, .agg (six x.2.1), .int .i64 x.2.2]) (results_tmp_cell_tmp rfl _ _ (W.heap.size + 1 + 1 + 1 + 1) _ _ (0, 0) _ _ _ rfl rfl rfl h4 Try.underlying27 rfl (six_info _)) rfl ⟨rfl, ?_, HCU.out, ?_⟩
    · obtain ⟨hm2, a0, a1, a2⟩ := HM.out
      exact ⟨l', s', hm2.mod hmx (by omega) (by omega), a0, a1, a2⟩
    · have h2 : Mod (fun k => k = mb ∨ k = cb) W w2 := (Below.mod HW.out (fun k => k = mb ∨ k = cb) fun k hk hk' => by omega).then HMod.out (by
        rintro k hk (e | e | e)
        · have := e.1; omega
        · exact .inl e
        · exact .inr e)
      exact h2.then hmx fun k hk e => by omega

/-! ### A walk -/
def walkW (W : World) (B S : Nat → Int) (C T L t : Int) : World := (((W.alloc (.cells (planC B S C T L) 29)).alloc (.cells #[.int .i64 t] 3)).alloc (.cells #[.slice none 0 0] 37))
theorem walkW_i (W : World) (B S : Nat → Int) (C T L t : Int) : WalkI W.heap.size (W.heap.size + 1) (W.heap.size + 2) B S C T L t (walkW W B S C T L t) ∧ Below W.heap.size W (walkW W B S C T L t) ∧ (walkW W B S C T L t).heap.size = W.heap.size + 3 := by
  unfold walkW
  refine ⟨⟨?_, ?_, ⟨.slice none 0 0, ?_⟩⟩, ?_, ?_⟩
  · exact heap_below (heap_below (heap_top _ rfl))
  · exact heap_below (heap_top _ (by simp))
  · exact heap_top _ (by simp)
  · exact ((((Below.refl _ _).alloc (Nat.le_refl _) _).alloc (by simp) _).alloc (by simp; omega) _)
  · simp
set_option maxRecDepth 100000 in
set_option maxHeartbeats 2000000 in
theorem walk_at {walkP : (Nat → Int) → (Nat → Int) → Int → Int → Pr (List Nat)} (K : KeptPost walkP) {W : World} {mb cb : Nat} {cs : List Int} {l s : Int} {B S : Nat → Int} {C T L t : Int} {D : Int → Prop} {ws : List Nat} (hm : MemAt W mb cb cs l s) (l0 : 0 ≤ l) (s0 : 0 ≤ s) (hls : l + s ≤ 100000000) (hcu : ∀ y ∈ cs, U y)
    (hL : Laid B S C) (hC : (cs.length : Int) = C) (hc : Chain B S cs D t ws) :
    Calls Try.prog 10 #[.pointer (some ⟨mb, 0, none⟩), .agg (planC B S C T L), .int .i64 t] W fun e w' => ∃ oa c, e = .returned (.slice oa ws.length c) ∧ ws.length ≤ c ∧ c ≤ maxLen ∧ (oa = none → c = 0) ∧ ReadN .u32 w' oa ws ∧ (∀ ad, oa = some ad → W.heap.size ≤ ad.block) ∧ (∃ l' s', MemAt w' mb cb cs l' s' ∧ 0 ≤ l' ∧ 0 ≤ s' ∧ l' + s' ≤ l + s + 2 * ws.length) ∧ Mod (fun k => k = mb ∨ k = cb) W w' := by
  obtain ⟨hI, hB, hz⟩ := walkW_i W B S C T L t
  have hmb := lt_of_heap hm.rec_
  have hcb := lt_of_heap hm.row
  have hlen := hc.len hL
  have hc1 := hL.c1
  have htC : t ≤ 65536 := by
    by_cases hw : ws = []
    · subst hw
      cases hc
      omega
    · have := hlen.2.2 hw
      omega
  have hwl : (ws.length : Int) ≤ 65536 := by omega
  obtain ⟨m, hmn, hd⟩ := (K.walks B S C cs D t ws hL hc).does (show cs.length = C.toNat by omega) (fun a _ _ => rfl)
  have HK := Lib.hid (whole_at (B := 200000000) (hm.below hB) l0 s0 hcu hd (fun rb hrb => walk_clo K (T := T) (L := L) hL (by omega) (by omega) W.heap.size (W.heap.size + 1) (W.heap.size + 2) W.heap.size rb mb cb 200000000 (by omega) (by omega) (by omega)) hI (fun k hk => ⟨by omega, by omega, by omega⟩) (by omega) (by omega) (by omega))
  have HW := Lib.hid hB
  have HMN := Lib.hid hmn
  clear hL K hm hI hd hcu l0 s0 hls hB hc hlen hmn hwl htC hC hc1
  go_enter Try.func10, Try.ntmps10
  go_wp2_with fail
  have e : (((W.alloc (.cells (planC B S C T L) 29)).alloc (.cells #[.int .i64 t] 3)).alloc (.cells #[.slice none 0 0] 37)) = walkW W B S C T L t := rfl
  rw [e]
  clear e
  refine HK.out.mono ?_
  clear HK
  rintro e w2 ⟨rfl, ⟨l', s', hm2, a0, a1, a2⟩, _, hI2, hQ2, hmod⟩
  obtain ⟨oa, c, q1, q2, q3, q4, q5, q6⟩ := hQ2
  have e5 : w2.cell? ⟨W.heap.size + 1 + 1, 0, none⟩ = some (.slice oa ws.length c) := cell_at q1 0
  have HQ := Lib.hid (And.intro q2 (And.intro q3 (And.intro q4 (And.intro q5 q6))))
  have HM := Lib.hid (And.intro hm2 (And.intro a0 (And.intro a1 a2)))
  have HMod := Lib.hid hmod
  clear hI2 hmod hm2 a0 a1 a2 q1 q2 q3 q4 q5 q6
  go_wp2_with fail
  go_ret
  obtain ⟨q2, q3, q4, q5, q6⟩ := HQ.out
  obtain ⟨hm2, a0, a1, a2⟩ := HM.out
  have h3 := HMN.out
  refine ⟨oa, c, rfl, q2, q3, q4, q5, q6, ⟨l', s', hm2, a0, a1, by omega⟩, ?_⟩
  exact (Below.mod HW.out (fun k => k = mb ∨ k = cb) fun k hk hk' => by omega).then HMod.out (by
      rintro k hk (e | e | e)
      · omega
      · exact .inl e
      · exact .inr e)
end Go.Proofs.Ytiabmbkmahlhkaa
