/-
  The laws of layer 13 about whole blocks. Over the program's own text.
-/
import Derived.Test.YtecbkobliknpiaaBlkLawB
import Derived.Test.YtecbkobliknpiaaRegionC
namespace Go.Proofs.Ytecbkobliknpiaa
open Go.RowKit

theorem part_at {l : List En} {a n i : Nat} (h : i < n) (h2 : a + i < l.length) : enAt ((l.drop a).take n) i = enAt l (a + i) :=
  enAt_some (by rw [List.getElem?_take, if_pos h, List.getElem?_drop, enAt_lt h2])
theorem may_part {l : List En} (h : MayE l) (a n : Nat) : MayE ((l.drop a).take n) := by
  have hlen : ((l.drop a).take n).length = min n (l.length - a) := by simp
  refine ⟨by have := h.1; omega, fun i hi => ?_⟩
  have h0 := h.2 (a + i) (by omega)
  have e0 := part_at (l := l) (a := a) (n := n) (i := i) (by omega) (by omega)
  unfold okE okP at h0 ⊢
  simp only [doc_map] at h0 ⊢
  rw [e0]
  refine ⟨⟨h0.1.1, h0.1.2.1, fun hi0 => ?_⟩, h0.2⟩
  rw [part_at (by omega) (by omega), show a + (i - 1) = a + i - 1 by omega]
  exact h0.1.2.2 (by omega)
theorem take_at {l : List En} {n i : Nat} (h : i < n) : enAt (l.take n) i = enAt l i := by
  unfold enAt
  rw [List.getD_eq_getElem?_getD, List.getD_eq_getElem?_getD, List.getElem?_take, if_pos h]
theorem may_take {l : List En} (h : MayE l) (n : Nat) : MayE (l.take n) := by
  have := may_part h 0 n
  rwa [List.drop_zero] at this
theorem enc_get {l : List En} {k : Nat} (h : 4 * k < l.length) : (encN l)[1 + k]? = some (headAt l k) := by
  unfold encN
  rw [show 1 + k = k + 1 by omega, List.getElem?_cons_succ, List.getElem?_append_left (by rw [headsN_length]; omega)]
  exact headsN_get (by omega)
theorem bytesTo_take {l : List En} (n : Nat) : ∀ m, m ≤ n → bytesTo (l.take n) m = bytesTo l m
  | 0, _ => rfl
  | m + 1, h => by
    have e : aheadD (l.take n) m = aheadD l m := by
      unfold aheadD
      split
      · rfl
      · rw [take_at (by omega)]
    rw [bytesTo, bytesTo, bytesTo_take n m (by omega), e, take_at (by omega)]
theorem head_take {l : List En} {n k : Nat} (h : 4 * (k + 1) ≤ n) (hn : n ≤ l.length) : headAt (l.take n) k = headAt l k := by
  have h1 : lastI (l.take n) k = 4 * k + 3 := by unfold lastI; rw [List.length_take]; omega
  have h2 : lastI l k = 4 * k + 3 := by unfold lastI; omega
  unfold headAt
  rw [h1, h2, take_at (by omega), bytesTo_take n _ (by omega)]
theorem enc_grow {l : List En} {n : Nat} (hn : n + 1 = l.length) : (encN (l.take n)).length ≤ (encN l).length := by
  have h1 := bytesTo_take (l := l) n n (Nat.le_refl _)
  have h2 := bytesTo_mono l n l.length (by omega)
  have hl : (l.take n).length = n := by simp; omega
  rw [encN_length, encN_length, hl, h1]
  omega
theorem head_last {l : List En} (hM : MayE l) {q : Nat} (h : 4 * q < l.length) {D : Nat} (hD : (enAt l (lastI l q)).1 = (D : Int)) : headAt l q / 2 ^ 16 = D ∧ headAt l q < 4294967296 ∧ D ≤ 65535 := by
  have h1 := headAt_eq hM h
  have h2 := may_doc hM (i := lastI l q) (by unfold lastI; omega)
  rw [hD] at h1 h2
  have h3 : (2 : Nat) ^ 16 = 65536 := by decide
  rw [h3]
  omega
theorem head_first {l : List En} {D : Nat} (hD : (enAt l (lastI l 0)).1 = (D : Int)) : headAt l 0 = D * 2 ^ 16 := by
  unfold headAt
  rw [hD]
  simp [bytesTo]
  omega
theorem shl16 (b x : Nat) (hx : b * 2 ^ 16 = x) (hx2 : x < 4294967296) : Op.shift .shl .u32 (b : Int) .u64 16 = pure (.int .u32 (x : Int)) := by
  rw [shift_shl .u32 .u64 _ _ (by omega) (by decide)]
  rw [show ((16 : Int)).toNat = 16 from rfl, show ((b : Int) * 2 ^ 16) = (x : Int) by rw [← hx]; simp, IntWalk.u32_in _ (by omega)]
theorem shr16 (x q : Nat) (hq : x / 2 ^ 16 = q) : Op.shift .shr .u32 (x : Int) .u64 16 = pure (.int .u32 (q : Int)) := by
  rw [shift_shr .u32 .u64 _ _ (by omega) (by decide)]
  rw [show ((16 : Int)).toNat = 16 from rfl, ← hq]
  simp

/-! ### A piece of a row of entries -/
theorem slice_ents {W : World} {oa : Option Addr} {l : List En} (n c a m b : Nat) (hn : l.length = n) (hb : a + m = b) (hbn : b ≤ n) (h0 : 0 < m) (hc : n ≤ c) (h : ReadE W oa l) :
    ∃ ob d, (∀ w : World, (Instr.slice 22 (.slice oa n c) (some (.int .i64 (a : Int))) (some (.int .i64 (b : Int))) none).run Try.prog w = .ok (.slice ob m d) w) ∧ m ≤ d ∧ ReadE W ob ((l.drop a).take m) := by
  refine ⟨if c = a then oa else oa.map (·.add (a * 2)), c - a, fun w => ?_, by omega, ?_⟩
  · rw [run_slice_lh w 22 oa n c under_ents .i64 .i64 (a : Int) (b : Int) (by omega) (by omega) (by omega), elem_ents, size_ent]
    have e : ((a : Int)).toNat = a := by omega
    have e2 : ((b : Int)).toNat = b := by omega
    have e3 : b - a = m := by omega
    simp [Result.andThen, sliced, e, e2, e3]
  · have hl : a < l.length := by omega
    obtain ⟨g, o, rfl, _⟩ := h a _ (enAt_lt hl)
    rw [if_neg (by omega), Option.map_some, Addr.add_lit]
    exact (h.skip a).cut m
theorem slice_ents_to {W : World} {oa : Option Addr} {l : List En} (n c b : Nat) (hbn : b ≤ n) (hc : n ≤ c) (h : ReadE W oa l) :
    ∃ ob d, (∀ w : World, (Instr.slice 22 (.slice oa n c) none (some (.int .i64 (b : Int))) none).run Try.prog w = .ok (.slice ob b d) w) ∧ b ≤ d ∧ ReadE W ob (l.take b) := by
  refine ⟨if c = 0 then oa else oa.map (·.add (0 * 2)), c - 0, fun w => ?_, by omega, ?_⟩
  · rw [run_slice_h w 22 oa n c under_ents .i64 (b : Int) (by omega) (by omega), elem_ents, size_ent]
    have e2 : ((b : Int)).toNat = b := by omega
    simp [Result.andThen, sliced, e2]
  · intro j e hj
    obtain ⟨g, o, rfl, h1⟩ := h.cut b j e hj
    refine ⟨g, o, ?_, h1⟩
    split
    · rfl
    · simp [Addr.add]

set_option maxRecDepth 100000 in
set_option maxHeartbeats 2000000 in
theorem skips13 (W : World) (oa : Option Addr) (c N : Nat) (l : List En) (en : l.length = N) (ha : ReadE W oa l) (hc : N ≤ c) (hr : ∀ e ∈ l, e.2.length ≤ reachBytes) (k0 : Int) (k00 : 0 ≤ k0) (k01 : k0 ≤ 255) : Calls Try.prog 6 #[.slice oa N c, .int .u8 k0] W fun e w' => e = .returned (.bool true) ∧ Below W.heap.size W w' := by
  have HG := Lib.hid (great13 W oa c N l en ha hr)
  have HF := Lib.hid fixed13
  have HA := Lib.hid ha
  have HN := Lib.hid en
  cases hg : greatB l with
  | true =>
    rw [hg] at HG
    clear ha hr en hg
    go_enter Try.func6, Try.ntmps6
    go_wp2_with fail
    refine HG.out.mono ?_; rintro e w1 ⟨rfl, hb⟩
    have HB := Lib.hid hb; clear hb
    go_wp2_with fail
    refine (HF.out _).mono ?_; rintro e w9 ⟨rfl, hb⟩
    have HB := Lib.hid (low_more HB.out hb); clear hb
    go_wp2_with fail
    go_ret
    exact ⟨rfl, HB.out⟩
  | false =>
    obtain ⟨h1, h2⟩ := great_no hg
    rw [hg] at HG
    have HMy := Lib.hid (fun (w : World) (hw : ReadE w oa l) => ref_may13 w oa c N l en hw (by omega))
    have hNb : N ≤ 100 := by omega
    by_cases hM : MayE l
    · rw [show mayB l = true from decide_eq_true hM] at HMy
      obtain ⟨q, hq⟩ : ∃ q : Nat, k0 % 16 = (q : Int) := ⟨(k0 % 16).toNat, by omega⟩
      have hq16 : q < 16 := by omega
      obtain ⟨a, haq⟩ : ∃ a, q * 4 = a := ⟨_, rfl⟩
      have f0 : IntKind.i64.wrap k0 = k0 := IntWalk.i64_in _ (by omega)
      have f1 : k0.tmod 16 = (q : Int) := by rw [Int.tmod_eq_emod_of_nonneg (by omega)]; exact hq
      have f2 : IntKind.i64.wrap (q : Int) = (q : Int) := IntWalk.i64_in _ (by omega)
      have f3 : (q : Int) * 4 = (a : Int) := by omega
      have f4 : IntKind.i64.wrap (a : Int) = (a : Int) := IntWalk.i64_in _ (by omega)
      by_cases hle : N ≤ a
      · have hlei : (N : Int) ≤ (a : Int) := by omega
        clear ha hr en hg h1 h2 hM haq hle
        go_enter Try.func6, Try.ntmps6
        go_wp2_with fail
        refine HG.out.mono ?_; rintro e w1 ⟨rfl, hb⟩
        have HB := Lib.hid hb; clear hb
        go_wp2_with fail
        refine (HMy.out _ (HA.out.below HB.out)).mono ?_; rintro e w2 ⟨rfl, hb⟩
        have HB := Lib.hid (low_more HB.out hb); clear hb
        go_wp2_with fail
        refine (HF.out _).mono ?_; rintro e w9 ⟨rfl, hb⟩
        have HB := Lib.hid (low_more HB.out hb); clear hb
        go_wp2_with fail
        go_ret
        exact ⟨rfl, HB.out⟩
      · have hlei : ¬ (N : Int) ≤ (a : Int) := by omega
        obtain ⟨b, hb⟩ : ∃ b, min (a + 4) N = b := ⟨_, rfl⟩
        obtain ⟨m, hm⟩ : ∃ m, b - a = m := ⟨_, rfl⟩
        obtain ⟨b1, hb1⟩ : ∃ b1, b1 + 1 = b := ⟨b - 1, by omega⟩
        obtain ⟨a4, ha4⟩ : ∃ a4, a + 4 = a4 := ⟨_, rfl⟩
        obtain ⟨q1, hq1⟩ : ∃ q1, 1 + q = q1 := ⟨_, rfl⟩
        obtain ⟨q2, hq2⟩ : ∃ q2, 2 + q = q2 := ⟨_, rfl⟩
        have hm4 : 1 ≤ m ∧ m ≤ 4 := by omega
        have f5 : (a : Int) + 4 = (a4 : Int) := by omega
        have f6 : IntKind.i64.wrap (a4 : Int) = (a4 : Int) := IntWalk.i64_in _ (by omega)
        have hkn : (if (N : Int) < (a4 : Int) then (N : Int) else (a4 : Int)) = (b : Int) := by split <;> omega
        have f7 : ∀ (ts : Array TypeId) (t : TypeId) (w : World), (Builtin.min_ ts t #[.int .i64 (a4 : Int), .int .i64 (N : Int)]).run Try.prog w = .ok (.int .i64 (b : Int)) w := fun ts t w => by rw [run_min_int2, hkn]
        have f8 : (a : Int) / 4 = (q : Int) := by omega
        have f9 : (a : Int).tdiv 4 = (q : Int) := by rw [Int.tdiv_eq_ediv_of_nonneg (by omega)]; exact f8
        have f10 : 2 + (q : Int) = (q2 : Int) := by omega
        have f11 : IntKind.i64.wrap (q2 : Int) = (q2 : Int) := IntWalk.i64_in _ (by omega)
        have f12 : 1 + (q : Int) = (q1 : Int) := by omega
        have f13 : IntKind.i64.wrap (q1 : Int) = (q1 : Int) := IntWalk.i64_in _ (by omega)
        have f14 : (b : Int) - 1 = (b1 : Int) := by omega
        have f15 : IntKind.i64.wrap (b1 : Int) = (b1 : Int) := IntWalk.i64_in _ (by omega)
        obtain ⟨ob, db, hsl, hdb, hrb⟩ := slice_ents N c a m b en (by omega) (by omega) (by omega) hc ha
        have hPl : ((l.drop a).take m).length = m := by simp; omega
        have hMP := may_part hM a m
        obtain ⟨nc, hnc⟩ : ∃ n, (encN l).length = n := ⟨_, rfl⟩
        obtain ⟨nd, hnd⟩ : ∃ n, (encN ((l.drop a).take m)).length = n := ⟨_, rfl⟩
        have A1 := Lib.hid (enc_of en (by omega) (if_pos hM) (if_pos hM) hnc)
        have A2 := Lib.hid (enc_of hPl (by omega) (if_pos hMP) (if_pos hMP) hnd)
        have hncq : q2 ≤ nc ∧ nc ≤ 12500 := by have h8 := encN_length l; have h9 := encN_len hM; rw [hnc] at h8 h9; omega
        have hndq : 2 ≤ nd ∧ nd ≤ 12500 := by have h8 := encN_length ((l.drop a).take m); have h9 := encN_len hMP; rw [hnd, hPl] at h8; rw [hnd] at h9; omega
        have hl1 : lastI l q = b1 := by unfold lastI; omega
        have hl2 : lastI ((l.drop a).take m) 0 = b1 - a := by unfold lastI; rw [hPl]; omega
        have hdoc := may_doc hM (i := b1) (by omega)
        obtain ⟨D, hD⟩ : ∃ D : Nat, (enAt l b1).1 = (D : Int) := ⟨(enAt l b1).1.toNat, by omega⟩
        obtain ⟨x, hx⟩ : ∃ x, headAt l q = x := ⟨_, rfl⟩
        obtain ⟨y, hy⟩ : ∃ y, headAt ((l.drop a).take m) 0 = y := ⟨_, rfl⟩
        have hxx := head_last hM (q := q) (by omega) (by rw [hl1]; exact hD)
        have hyy := head_first (l := (l.drop a).take m) (D := D) (by rw [hl2, part_at (by omega) (by omega), show a + (b1 - a) = b1 by omega]; exact hD)
        rw [hx] at hxx
        rw [hy] at hyy
        have h65 : (2 : Nat) ^ 16 = 65536 := by decide
        have g1 := shr16 x D hxx.1
        have g2 := shl16 D y hyy.symm (by rw [hyy, h65]; omega)
        have g3 : IntKind.u32.wrap (D : Int) = (D : Int) := IntWalk.u32_in _ (by omega)
        have HX := Lib.hid (show (encN l)[q1]? = some x by rw [← hq1, enc_get (by omega), hx])
        have HY := Lib.hid (show (encN ((l.drop a).take m))[1]? = some y by rw [show 1 = 1 + 0 from rfl, enc_get (by omega), hy])
        obtain ⟨g, o, rfl, cd, _⟩ := ha b1 _ (enAt_lt (by omega))
        rw [hD] at cd
        have HRb := Lib.hid hrb
        have HDb := Lib.hid hdb
        have HCd := Lib.hid cd
        have t1 : ¬ (nc : Int) < (q2 : Int) := by omega
        have t2 : ¬ (nd : Int) < 2 := by omega
        have t3 : q1 < nc := by omega
        have t4 : 1 < nd := by omega
        have t5 : b1 < N := by omega
        have t6 : (1 : Int) < (nd : Int) := by omega
        clear ha hr en hg h1 h2 hM haq hle hb hm ha4 hq1 hq2 hm4 hkn hdb hrb hPl hMP hnc hnd hncq hndq hl1 hl2 hdoc hD hx hy hxx hyy h65 cd hb1
        go_enter Try.func6, Try.ntmps6
        go_wp2_with fail
        refine HG.out.mono ?_; rintro e w1 ⟨rfl, hb⟩
        have HB := Lib.hid hb; clear hb
        go_wp2_with fail
        refine (HMy.out _ (HA.out.below HB.out)).mono ?_; rintro e w2 ⟨rfl, hb⟩
        have HB := Lib.hid (low_more HB.out hb); clear hb
        go_wp2_with fail
        refine (A1.out _ _ c (HA.out.below HB.out) hc).mono ?_; rintro e w3 ⟨oc0, dc, rfl, _, _, hre, hb⟩
        obtain ⟨gc, oc, rfl, cx⟩ := hre _ _ HX.out
        have HCx := Lib.hid cx
        have HB := Lib.hid (low_more HB.out hb); clear hre hb cx
        go_wp2_with fail
        refine (A2.out _ ob db (HRb.out.below HB.out) HDb.out).mono ?_; rintro e w4 ⟨od0, dd, rfl, _, _, hre, hb⟩
        obtain ⟨gd, od, rfl, cy⟩ := hre _ _ HY.out
        have HCx := Lib.hid (below_cell HCx.out hb)
        have HCy := Lib.hid cy
        have HB := Lib.hid (low_more HB.out hb); clear hre hb cy
        go_upto_region 11 with fail
        clear t1 t2 hlei
        generalize Value.bool (decide (nc < q2) || decide ((nd : Int) < 2)) = kb1
        generalize Value.bool (decide (nc < q2)) = kb2
        generalize Value.bool (decide ((nd : Int) < 2)) = kb3
        obtain ⟨wd, hwd⟩ : ∃ wd, wd = w4.drew := ⟨_, rfl⟩
        have HCell := Lib.hid (show wd.cell? ⟨gc, oc + q1, none⟩ = some (.int .u32 (x : Int)) ∧ wd.cell? ⟨g, o + b1 * 2, none⟩ = some (.int .i64 (D : Int)) ∧ wd.cell? ⟨gd, od + 1, none⟩ = some (.int .u32 (y : Int)) from by rw [hwd]; exact ⟨HCx.out, below_cell HCd.out HB.out.drew, HCy.out⟩)
        have HB := Lib.hid (show Below W.heap.size W wd by rw [hwd]; exact HB.out.drew)
        have Hwd := Lib.hid hwd
        clear hwd
        refine wp_region_cl (fun (p : Unit) jz => [.bool true, .bool true, .slice (some ⟨gc, oc, none⟩) nc dc, .int .i64 (a : Int), .int .i64 (q : Int), .int .i64 (q1 : Int), .pointer (some ⟨gc, oc + q1, none⟩), .int .u32 (x : Int), .int .u32 (D : Int), .slice (some ⟨g, o, none⟩) N c, .int .i64 (b : Int), .int .i64 (b1 : Int), .pointer (some ⟨g, o + b1 * 2, none⟩), .pointer (some ⟨g, o + b1 * 2, none⟩), .int .i64 (D : Int), .int .u32 (D : Int), .bool true, .bool true, .bool true, .slice (some ⟨gd, od, none⟩) nd dd, .pointer (some ⟨gd, od + 1, none⟩), .int .u32 (y : Int), .slice (some ⟨g, o, none⟩) N c, .int .i64 (b : Int), .int .i64 (b1 : Int), .pointer (some ⟨g, o + b1 * 2, none⟩), .pointer (some ⟨g, o + b1 * 2, none⟩), .int .i64 (D : Int), .int .u32 (D : Int), .int .u32 (y : Int), .bool true, .bool true, .bool true].getD jz undef)
          (fun p l_ wx => Below wd.heap.size wd wx)
          (by kernel_rfl) (by kernel_rfl) (fun q => by simp only [putTo, dstOf, Act.put, List.size_toArray, List.length_cons, List.length_nil, List.getElem?_toArray, Nat.reduceAdd, Option.bind_some, List.getElem?_cons_zero, List.getElem?_cons_succ, List.setIfInBounds_toArray, List.set_cons_zero, List.set_cons_succ, List.getD_cons_zero, List.getD_cons_succ]; exact rfl) () ?_ ?_ ?_
        · rw [Hwd.out]; exact Below.refl _ _
        · intro i9 o9 ho p l_ wx hR hl he hcl K hK
          rcases i9 with _ | _ | _ | _ | _ | _ | _ | _ | _ | _ | _ | _ | _ | _ | _ | _ | _ | _ | _ | _ | _ | _ | _ | _ | _ | _ | _ | _ | _ | _ | _ | _ | _ | i9
          · obtain rfl : _ = o9 := Option.some.inj ho
            go_simp
            refine (HF.out wx).mono ?_
            rintro e9 w9 ⟨rfl, hb9⟩
            exact hK () w9 (fun _ _ => rfl) (hR.trans (hb9.mono hR.size))
          · obtain rfl : _ = o9 := Option.some.inj ho
            go_simp
            exact hK () wx (fun _ _ => rfl) hR
          · obtain rfl : _ = o9 := Option.some.inj ho
            go_simp
            exact hK () wx (fun _ _ => rfl) hR
          · obtain rfl : _ = o9 := Option.some.inj ho
            go_simp
            exact hK () wx (fun _ _ => rfl) hR
          · obtain rfl : _ = o9 := Option.some.inj ho
            go_simp
            exact hK () wx (fun _ _ => rfl) hR
          · obtain rfl : _ = o9 := Option.some.inj ho
            go_simp
            exact hK () wx (fun _ _ => rfl) hR
          · obtain rfl : _ = o9 := Option.some.inj ho
            go_simp
            exact hK () wx (fun _ _ => rfl) hR
          · obtain rfl : _ = o9 := Option.some.inj ho
            have q9 := below_cell HCell.out.1 hR
            go_simp
            exact hK () wx (fun _ _ => rfl) hR
          · obtain rfl : _ = o9 := Option.some.inj ho
            go_simp
            exact hK () wx (fun _ _ => rfl) hR
          · obtain rfl : _ = o9 := Option.some.inj ho
            go_simp
            exact hK () wx (fun _ _ => rfl) hR
          · obtain rfl : _ = o9 := Option.some.inj ho
            go_simp
            exact hK () wx (fun _ _ => rfl) hR
          · obtain rfl : _ = o9 := Option.some.inj ho
            go_simp
            exact hK () wx (fun _ _ => rfl) hR
          · obtain rfl : _ = o9 := Option.some.inj ho
            go_simp
            exact hK () wx (fun _ _ => rfl) hR
          · obtain rfl : _ = o9 := Option.some.inj ho
            go_simp
            exact hK () wx (fun _ _ => rfl) hR
          · obtain rfl : _ = o9 := Option.some.inj ho
            have q9 := below_cell HCell.out.2.1 hR
            go_simp
            exact hK () wx (fun _ _ => rfl) hR
          · obtain rfl : _ = o9 := Option.some.inj ho
            go_simp
            exact hK () wx (fun _ _ => rfl) hR
          · obtain rfl : _ = o9 := Option.some.inj ho
            go_simp
            exact hK () wx (fun _ _ => rfl) hR
          · obtain rfl : _ = o9 := Option.some.inj ho
            go_simp
            exact hK () wx (fun _ _ => rfl) hR
          · obtain rfl : _ = o9 := Option.some.inj ho
            go_simp
            exact hK () wx (fun _ _ => rfl) hR
          · obtain rfl : _ = o9 := Option.some.inj ho
            go_simp
            exact hK () wx (fun _ _ => rfl) hR
          · obtain rfl : _ = o9 := Option.some.inj ho
            go_simp
            exact hK () wx (fun _ _ => rfl) hR
          · obtain rfl : _ = o9 := Option.some.inj ho
            have q9 := below_cell HCell.out.2.2 hR
            go_simp
            exact hK () wx (fun _ _ => rfl) hR
          · obtain rfl : _ = o9 := Option.some.inj ho
            go_simp
            exact hK () wx (fun _ _ => rfl) hR
          · obtain rfl : _ = o9 := Option.some.inj ho
            go_simp
            exact hK () wx (fun _ _ => rfl) hR
          · obtain rfl : _ = o9 := Option.some.inj ho
            go_simp
            exact hK () wx (fun _ _ => rfl) hR
          · obtain rfl : _ = o9 := Option.some.inj ho
            go_simp
            exact hK () wx (fun _ _ => rfl) hR
          · obtain rfl : _ = o9 := Option.some.inj ho
            go_simp
            exact hK () wx (fun _ _ => rfl) hR
          · obtain rfl : _ = o9 := Option.some.inj ho
            have q9 := below_cell HCell.out.2.1 hR
            go_simp
            exact hK () wx (fun _ _ => rfl) hR
          · obtain rfl : _ = o9 := Option.some.inj ho
            go_simp
            exact hK () wx (fun _ _ => rfl) hR
          · obtain rfl : _ = o9 := Option.some.inj ho
            go_simp
            exact hK () wx (fun _ _ => rfl) hR
          · obtain rfl : _ = o9 := Option.some.inj ho
            go_simp
            exact hK () wx (fun _ _ => rfl) hR
          · obtain rfl : _ = o9 := Option.some.inj ho
            go_simp
            exact hK () wx (fun _ _ => rfl) hR
          · obtain rfl : _ = o9 := Option.some.inj ho
            go_simp
            exact hK () wx (fun _ _ => rfl) hR
          · simp at ho
        · intro p l_ wx hl hR
          have HB9 := Lib.hid (low_more HB.out hR)
          clear hR hl
          go_wp2_with fail
          go_ret
          exact ⟨rfl, HB9.out⟩
    · rw [show mayB l = false from decide_eq_false hM] at HMy
      clear ha hr en hg h1 h2 hM
      go_enter Try.func6, Try.ntmps6
      go_wp2_with fail
      refine HG.out.mono ?_; rintro e w1 ⟨rfl, hb⟩
      have HB := Lib.hid hb; clear hb
      go_wp2_with fail
      refine (HMy.out _ (HA.out.below HB.out)).mono ?_; rintro e w2 ⟨rfl, hb⟩
      have HB := Lib.hid (low_more HB.out hb); clear hb
      go_wp2_with fail
      refine (HF.out _).mono ?_; rintro e w9 ⟨rfl, hb⟩
      have HB := Lib.hid (low_more HB.out hb); clear hb
      go_wp2_with fail
      go_ret
      exact ⟨rfl, HB.out⟩

set_option maxRecDepth 100000 in
set_option maxHeartbeats 2000000 in
theorem grows13 (W : World) (oa : Option Addr) (c N : Nat) (l : List En) (en : l.length = N) (ha : ReadE W oa l) (hc : N ≤ c) (hr : ∀ e ∈ l, e.2.length ≤ reachBytes) : Calls Try.prog 7 #[.slice oa N c] W fun e w' => e = .returned (.bool true) ∧ Below W.heap.size W w' := by
  have HG := Lib.hid (great13 W oa c N l en ha hr)
  have HF := Lib.hid fixed13
  have HA := Lib.hid ha
  have HN := Lib.hid en
  cases hg : greatB l with
  | true =>
    rw [hg] at HG
    clear ha hr en hg
    go_enter Try.func7, Try.ntmps7
    go_wp2_with fail
    refine HG.out.mono ?_; rintro e w1 ⟨rfl, hb⟩
    have HB := Lib.hid hb; clear hb
    go_wp2_with fail
    refine (HF.out _).mono ?_; rintro e w9 ⟨rfl, hb⟩
    have HB := Lib.hid (low_more HB.out hb); clear hb
    go_wp2_with fail
    go_ret
    exact ⟨rfl, HB.out⟩
  | false =>
    obtain ⟨h1, h2⟩ := great_no hg
    rw [hg] at HG
    have HMy := Lib.hid (fun (w : World) (hw : ReadE w oa l) => ref_may13 w oa c N l en hw (by omega))
    have hNb : N ≤ 100 := by omega
    by_cases hM : MayE l
    · rw [show mayB l = true from decide_eq_true hM] at HMy
      by_cases hle : N < 2
      · have hlei : (N : Int) < 2 := by omega
        clear ha hr en hg h1 h2 hM hle
        go_enter Try.func7, Try.ntmps7
        go_wp2_with fail
        refine HG.out.mono ?_; rintro e w1 ⟨rfl, hb⟩
        have HB := Lib.hid hb; clear hb
        go_wp2_with fail
        refine (HMy.out _ (HA.out.below HB.out)).mono ?_; rintro e w2 ⟨rfl, hb⟩
        have HB := Lib.hid (low_more HB.out hb); clear hb
        go_wp2_with fail
        refine (HF.out _).mono ?_; rintro e w9 ⟨rfl, hb⟩
        have HB := Lib.hid (low_more HB.out hb); clear hb
        go_wp2_with fail
        go_ret
        exact ⟨rfl, HB.out⟩
      · have hlei : ¬ (N : Int) < 2 := by omega
        obtain ⟨n, hn⟩ : ∃ n, n + 1 = N := ⟨N - 1, by omega⟩
        obtain ⟨k, hk⟩ : ∃ k, n / 4 = k := ⟨_, rfl⟩
        have f1 : (N : Int) - 1 = (n : Int) := by omega
        have f2 : IntKind.i64.wrap (n : Int) = (n : Int) := IntWalk.i64_in _ (by omega)
        have f8 : (n : Int) / 4 = (k : Int) := by omega
        have f9 : (n : Int).tdiv 4 = (k : Int) := by rw [Int.tdiv_eq_ediv_of_nonneg (by omega)]; exact f8
        have f10 : IntKind.i64.wrap (k : Int) = (k : Int) := IntWalk.i64_in _ (by omega)
        obtain ⟨ob, db, hsl, hdb, hrb⟩ := slice_ents_to N c n (by omega) hc ha
        have hPl : (l.take n).length = n := by simp; omega
        have hMP := may_take hM n
        obtain ⟨nc, hnc⟩ : ∃ x, (encN (l.take n)).length = x := ⟨_, rfl⟩
        obtain ⟨nd, hnd⟩ : ∃ x, (encN l).length = x := ⟨_, rfl⟩
        have A1 := Lib.hid (enc_of hPl (by omega) (if_pos hMP) (if_pos hMP) hnc)
        have A2 := Lib.hid (enc_of en (by omega) (if_pos hM) (if_pos hM) hnd)
        have hgr := enc_grow (l := l) (n := n) (by omega)
        rw [hnc, hnd] at hgr
        have hnck : k + 1 ≤ nc := by have h8 := encN_length (l.take n); rw [hnc, hPl] at h8; omega
        have hndk : nd ≤ 12500 := by have h9 := encN_len hM; rw [hnd] at h9; exact h9
        have HHead := Lib.hid (show ∀ i, i < k → ∃ x, (encN (l.take n))[1 + i]? = some x ∧ (encN l)[1 + i]? = some x from fun i hi =>
          ⟨headAt l i, by rw [enc_get (by rw [hPl]; omega), head_take (by omega) (by omega)], enc_get (by omega)⟩)
        have HRb := Lib.hid hrb
        have HDb := Lib.hid hdb
        have t9 : (nc : Int) ≤ (nd : Int) := by omega
        clear ha hr en hg h1 h2 hM hle hn hk hdb hrb hPl hMP hnc hnd
        go_enter Try.func7, Try.ntmps7
        go_wp2_with fail
        refine HG.out.mono ?_; rintro e w1 ⟨rfl, hb⟩
        have HB := Lib.hid hb; clear hb
        go_wp2_with fail
        refine (HMy.out _ (HA.out.below HB.out)).mono ?_; rintro e w2 ⟨rfl, hb⟩
        have HB := Lib.hid (low_more HB.out hb); clear hb
        go_wp2_with fail
        refine (A1.out _ ob db (HRb.out.below HB.out) HDb.out).mono ?_; rintro e w3 ⟨oc, dc, rfl, _, _, hre, hb⟩
        have HC := Lib.hid hre
        have HB := Lib.hid (low_more HB.out hb); clear hre hb
        go_wp2_with fail
        refine (A2.out _ oa c (HA.out.below HB.out) hc).mono ?_; rintro e w4 ⟨od, dd, rfl, _, _, hre, hb⟩
        have HC := Lib.hid (HC.out.below hb)
        have HD := Lib.hid hre
        have HB := Lib.hid (low_more HB.out hb); clear hre hb
        go_wp2_with fail
        go_loopw [45] (fun iv wr => ∃ i : Nat, i ≤ k ∧ iv = .int .i64 (i : Int) ∧ ∃ t, wr = w4.drewN t) (fun iv _ => k - (intOf iv).toNat)
        case atStart => exact ⟨0, by omega, rfl, 0, rfl⟩
        case round =>
          obtain ⟨i, hi, rfl, t, rfl⟩ := hrel
          by_cases hlt : i < k
          · have hlt1 : (i : Int) < (k : Int) := by omega
            obtain ⟨x, hx1, hx2⟩ := HHead.out i hlt
            obtain ⟨gc, oc, hoc, cx⟩ := HC.out _ _ hx1
            obtain ⟨gd, od, hod, cy⟩ := HD.out _ _ hx2
            subst hoc hod
            obtain ⟨i1, hi1⟩ : ∃ i1, 1 + i = i1 := ⟨_, rfl⟩
            rw [hi1] at cx cy
            have z1 : 1 + (i : Int) = (i1 : Int) := by omega
            have z2 : IntKind.i64.wrap (i1 : Int) = (i1 : Int) := IntWalk.i64_in _ (by omega)
            have z3 : decide ((nc : Int) ≤ (i1 : Int)) = false := decide_eq_false (by omega)
            have z4 : decide ((nd : Int) ≤ (i1 : Int)) = false := decide_eq_false (by omega)
            have z3n : decide (nc ≤ i1) = false := decide_eq_false (by omega)
            have z4n : decide (nd ≤ i1) = false := decide_eq_false (by omega)
            have z5 : (i1 : Int) < (nc : Int) := by omega
            have z6 : (i1 : Int) < (nd : Int) := by omega
            have z7 : i1 < nc := by omega
            have z8 : i1 < nd := by omega
            have z9 : ((x : Int) != (x : Int)) = false := by simp
            clear hx1 hx2 hi1
            go_wp2_with fail
            go_big_quiet (fail)
            go_wp2_with fail
            go_roundw
            case rel => exact ⟨i + 1, by omega, by go_num, _, rfl⟩
            case measure => simp [intOf]; omega
          · obtain rfl : i = k := by omega
            have HB := Lib.hid (below_drawn HB.out t)
            clear hlt hi
            go_wp2_with fail
            refine (HF.out _).mono ?_; rintro e w9 ⟨rfl, hb⟩
            have HB := Lib.hid (low_more HB.out hb); clear hb
            go_wp2_with fail
            go_ret
            exact ⟨rfl, HB.out⟩
    · rw [show mayB l = false from decide_eq_false hM] at HMy
      clear ha hr en hg h1 h2 hM
      go_enter Try.func7, Try.ntmps7
      go_wp2_with fail
      refine HG.out.mono ?_; rintro e w1 ⟨rfl, hb⟩
      have HB := Lib.hid hb; clear hb
      go_wp2_with fail
      refine (HMy.out _ (HA.out.below HB.out)).mono ?_; rintro e w2 ⟨rfl, hb⟩
      have HB := Lib.hid (low_more HB.out hb); clear hb
      go_wp2_with fail
      refine (HF.out _).mono ?_; rintro e w9 ⟨rfl, hb⟩
      have HB := Lib.hid (low_more HB.out hb); clear hb
      go_wp2_with fail
      go_ret
      exact ⟨rfl, HB.out⟩

end Go.Proofs.Ytecbkobliknpiaa
