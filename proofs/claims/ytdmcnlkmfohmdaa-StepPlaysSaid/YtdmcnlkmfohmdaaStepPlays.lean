/-
  Whatever programs go on by turns, each is as far, and the memory is, as the reference says: for every memory up to 256 cells, every list of lists of instructions and every row of turns, the law StepPlays returns true and leaves its arguments alone.
-/
import Derived.Test.YtdmcnlkmfohmdaaStepPlaysE
import Derived.Test.YtdmcnlkmfohmdaaFrame
namespace Go.Proofs.Ytdmcnlkmfohmdaa.stepPlays
open Go.ChangeShapes Go.WideShapes Go.ChangeAt Go.RowKit Go.Deep

/-- Behind i turns. -/
def Turns (W w : World) (mb cb ub vb n kk : Nat) (rb : Nat → Nat) (E : Nat → Nat → Ins) (i : Nat) (v9 : Value) : Prop :=
  ∃ (gb : Nat) (go : Nat → Option Nat) (st : Nat → St) (p : Nat → PS) (cs : List Int) (l s : Int), v9 = .slice (some ⟨gb, 0, none⟩) kk kk ∧ Core W w mb cb gb ub vb n kk rb go st p cs cs l s ∧
    (∀ j, j < n → Link (E j) (p j) (st j)) ∧ (∀ j, j < n → InsAt W (· < W.heap.size) (p j).ao (p j).len (E j) ∧ (p j).len ≤ 60) ∧ (∀ j, j < n → ((st j).on cs l s).start.Ok (i + 1))
theorem Turns.low {W w : World} {mb cb ub vb n kk i : Nat} {rb : Nat → Nat} {E : Nat → Nat → Ins} {v9 : Value} (h : Turns W w mb cb ub vb n kk rb E i v9) : Below W.heap.size W w := by
  obtain ⟨gb, go, st, p, cs, l, s, _, h, _⟩ := h
  exact h.low
theorem start_turns {W w : World} {mb cb gb ub vb n kk len : Nat} {rb : Nat → Nat} {A : Nat → Lst} {ao : Option Addr} {v10 v11 : Value} (h : Grow W w mb cb gb kk n rb (fun j => prog0 (A j)) v10 v11) (hp : PtrsAt w ub n rb) (hub : W.heap.size ≤ ub)
    (hw : WantAt w vb n fun j => prog0 (A j)) (hvb : W.heap.size ≤ vb) (hA : ListsAt W ao len A) (hn : n ≤ len) : Turns W w mb cb ub vb n kk rb (fun j => (A j).E) 0 (.slice (some ⟨gb, 0, none⟩) kk kk) := by
  refine ⟨gb, fun _ => none, fun _ => ⟨[], 0, false, false, false, 0, [], 0, 0⟩, _, List.replicate kk 0, 0, 0, rfl, ⟨h.low, h.mem, fun j hj => ⟨0, h.run j hj⟩, hw, hp, h.row, h.gbcb, fun _ _ => ⟨by simp, by simp⟩, fun i j hi hj hij => ⟨h.apart i j hi hj hij, by simp⟩, ⟨h.ge.1, h.ge.2.1, h.ge.2.2, hub, hvb⟩, fun j hj k hk => ?_⟩, fun j hj => ?_, fun j hj => ?_, fun j hj => ?_⟩
  · rcases hk with hk | hk
    · rw [hk]; exact h.feet j hj
    · cases hk
  · exact ⟨rfl, rfl, rfl, fun _ => ⟨rfl, rfl, .here _ _⟩, u_zero, Nat.zero_le _⟩
  · obtain ⟨b, off, _, _, _, hI, _⟩ := hA.cell j (by omega)
    exact ⟨hI.cut 60, by simp [prog0]; omega⟩
  · exact new_ok_st

set_option maxRecDepth 100000 in
set_option maxHeartbeats 8000000 in
theorem walk_all (n : Int) (ao : Option Addr) (len cap : Nat) (A : Nat → Lst) (aot : Option Addr) (lent capt : Nat) (T : Nat → Int) (w : World) (hn0 : 0 ≤ n) (hn1 : n ≤ 255) (hA : ListsAt w ao len A) (hl : len ≤ maxLen) (hT : TurnsAt w aot lent T) (hlt : lent ≤ maxLen) :
    Calls Try.prog 3 #[.int .u8 n, .slice ao len cap, .slice aot lent capt] w fun e w' => e = .returned (.bool true) ∧ Below w.heap.size w w' := by
  obtain ⟨kk, hkk⟩ : ∃ kk : Nat, (kk : Int) = 1 + n := ⟨(1 + n).toNat, by omega⟩
  have hmk : ∀ w : World, (Instr.makeSlice 29 (.int .i64 (1 + n)) (.int .i64 (1 + n))).run Try.prog w = .ok (.slice (some ⟨w.heap.size, 0, none⟩) kk kk) (w.alloc (.cells (Array.replicate kk (Value.int .u32 0)) 36)) := by rw [← hkk]; exact run_make_u32 kk (by omega)
  have HLI := Lib.hid hA
  have HTI := Lib.hid hT
  have HK := Lib.hid (show (1 + n).toNat = kk ∧ kk ≤ 256 by omega)
  unfold maxLen at hl hlt
  clear hA hT hkk
  go_enter Try.func3, Try.ntmps3
  go_wp2_with fail
  refine (new_int w (1 + n) (by omega) (by omega)).mono ?_; rintro e w1 ⟨rfl, hm1, hb1⟩
  rw [HK.out.1] at hm1
  obtain ⟨mb, hmb⟩ : ∃ mb, mb = w.heap.size + 1 := ⟨_, rfl⟩
  obtain ⟨cb, hcb⟩ : ∃ cb, cb = w.heap.size := ⟨_, rfl⟩
  rw [← hmb] at hm1 ⊢
  rw [← hcb] at hm1
  have HM := Lib.hid hm1
  have HB := Lib.hid hb1
  have HC := Lib.hid (show w.heap.size ≤ mb ∧ w.heap.size ≤ cb by omega)
  clear hm1 hb1 hmb hcb
  go_wp2_with fail
  refine (fixed_any w1).mono ?_; rintro e w3 ⟨rfl, hb3⟩
  have HM := Lib.hid (HM.out.below hb3)
  have HB := Lib.hid (HB.out.trans (hb3.mono HB.out.size))
  clear hb3
  go_upto_region 5 with fail
  obtain ⟨wx, hwx⟩ : ∃ wx, wx = w3.alloc (.cells (Array.replicate kk (Value.int .u32 0)) 36) := ⟨_, rfl⟩
  rw [show w3.alloc (.cells (Array.replicate kk (Value.int .u32 0)) 36) = wx from hwx.symm]
  have hbx : Below w3.heap.size w3 wx := by rw [hwx]; exact below_one
  have hrow : RowAt wx w3.heap.size (List.replicate kk 0) kk := ⟨by rw [hwx]; simpa using heap_alloc_new w3 (.cells (Array.replicate kk (Value.int .u32 0)) 36), by simp, fun x hx => by simp at hx; rw [hx.2]; exact u_zero⟩
  have hG0 : Grow w wx mb cb w3.heap.size kk 0 (fun _ => 0) (fun j => prog0 (A j)) (.slice none 0 0) (.slice none 0 0) :=
    ⟨HB.out.trans (hbx.mono HB.out.size), HM.out.below hbx, fun j hj => by omega, World.ownsRow_nil _ _ _ _, World.ownsRow_nil _ _ _ _, hrow, fun e => by have := lt_of_heap HM.out.row; omega, fun a b ha => by omega, ⟨HC.out.1, HC.out.2, HB.out.size⟩, fun j hj => by omega⟩
  have HG0 := Lib.hid hG0
  obtain ⟨gb, hgb⟩ : ∃ gb, gb = w3.heap.size := ⟨_, rfl⟩
  rw [← hgb] at HG0 ⊢
  clear hbx hwx hrow hgb hG0 hmk HM HB HC
  obtain ⟨i33, hi33, hz33, hs33, hy33⟩ := info_parts info_ptr
  obtain ⟨i38, hi38, hz38, hs38, hy38⟩ := info_parts info_prog
  have HI33 := Lib.hid (And.intro hi33 (And.intro hz33 (And.intro hs33 hy33)))
  have HI38 := Lib.hid (And.intro hi38 (And.intro hz38 (And.intro hs38 hy38)))
  clear hi33 hz33 hs33 hy33 hi38 hz38 hs38 hy38
  go_upto_block 0 with fail
  go_cut [10, 11] (fun v10 v11 wx => Ready w wx mb cb gb kk len A v10 v11)
  case first =>
    go_wp2_with fail
    go_loopw [10, 11, 36] (fun v10 v11 idx wr => ∃ (i : Nat) (rb : Nat → Nat), i ≤ 4 ∧ i ≤ len ∧ idx = .int .i64 i ∧ Grow w wr mb cb gb kk i rb (fun j => prog0 (A j)) v10 v11) (fun _ _ idx _ => len - (intOf idx).toNat)
    case atStart => exact ⟨0, _, by omega, by omega, rfl, HG0.out⟩
    case round =>
      clear HG0
      rename_i v10 v11 v36
      obtain ⟨i, rb, hi4, hil, rfl, hG⟩ := hrel
      have HG := Lib.hid hG
      have HGO := Lib.hid hG
      by_cases hgo : i < len
      · obtain ⟨b, off, rfl, hb, hcell, hI, hc1, hc2⟩ := HLI.out.cell i hgo
        have hcell := (hG.low.cell (p := ⟨b, off + i, none⟩) hb).trans hcell
        obtain ⟨x, hx⟩ : ∃ x, x = A i := ⟨_, rfl⟩
        rw [← hx] at hcell hI hc1 hc2
        have HX := Lib.hid (And.intro hx (And.intro hc1 hc2))
        have hgo1 : (i : Int) < (len : Int) := by omega
        clear hG hx hI hc1 hc2 hb
        by_cases h4 : i = 4
        · have h41 : (4 : Int) ≤ (i : Int) := by omega
          clear h4
          go_wp2_with fail
          go_meet
          exact HG.out.ready hi4 hil
        · have h41 : ¬ (4 : Int) ≤ (i : Int) := by omega
          have h4n : i < 4 := by omega
          clear h4
          go_wp2_with fail
          refine (new_run wr mb).mono ?_; rintro e w4 ⟨rfl, hr, hb4⟩
          have HG := Lib.hid (HG.out.below hb4)
          have hrW : w.heap.size ≤ wr.heap.size := HGO.out.low.size
          have hrn : ∀ j, j < i → rb j ≠ wr.heap.size := fun j hj e => by have := lt_of_heap (HGO.out.run j hj).rec_; omega
          obtain ⟨r, hrr⟩ : ∃ r, r = wr.heap.size := ⟨_, rfl⟩
          rw [← hrr] at hr hrW hrn ⊢
          have HR := Lib.hid (And.intro hr (And.intro hrW hrn))
          clear hr hb4 hrW hrn hrr
          go_upto_region 12 with (at_builtin; refine wpList_append_own _ rfl (.tmp 43) (.tmp 46) 30 rfl w.heap.size 33 i33 _ 1 8 Try.underlying30 HI33.out.1 HI33.out.2.1 HI33.out.2.2.1 HI33.out.2.2.2 rfl (by decide) _ i (ptrCells i rb) rfl (HG.out.ptr.alloc _) ⟨w4.heap.size, 0, none⟩ 1 1 [.pointer (some ⟨r, 0, none⟩)] rfl rfl (new_row_cells w4 _ _) (by simp [Value.oneCell']) (by unfold maxLen; omega) (by omega) (by have := HG.out.low.size; simp; omega) ?_; intro v' w5 ho hg _; have HO5 := Lib.hid (And.intro ho hg); clear ho hg)
          obtain ⟨h1, h2, h3, h4, h5, h6, h7, h8⟩ := (HG.out.below below_one).more1 (RunAt.below HR.out.1 below_one) HR.out.2.1 HR.out.2.2 HO5.out.1 HO5.out.2
          have HQ := Lib.hid (And.intro h1 (And.intro h2 (And.intro h3 (And.intro h4 (And.intro h5 (And.intro h6 (And.intro h7 h8)))))))
          have HGC := Lib.hid (And.intro HG.out.gbcb HG.out.ge)
          clear h1 h2 h3 h4 h5 h6 h7 h8 HO5 HR HG hcell
          go_wp2_with (first
            | (go_at_call 11; refine (cut_any _ _ _ _ HX.out.2.1 HX.out.2.2).mono ?_; rintro e w' ⟨rfl, rfl⟩)
            | (at_builtin; refine wpList_append_own _ rfl (.tmp 48) (.tmp 52) 31 rfl w.heap.size 38 i38 _ 6 56 Try.underlying31 HI38.out.1 HI38.out.2.1 HI38.out.2.2.1 HI38.out.2.2.2 rfl (by decide) _ i (wantCells i fun j => prog0 (A j)) rfl (HQ.out.2.2.2.2.1.alloc _) ⟨w5.heap.size, 0, none⟩ 1 1 (progC (prog0 x)).toList rfl rfl (new_row_cells w5 _ _) (by simp [progC, Value.oneCell']) (by unfold maxLen; omega) (by omega) (by have := HQ.out.1.size; simp; omega) ?_; intro v'' w6 ho hg _; have HO6 := Lib.hid (And.intro ho hg); clear ho hg))
          go_roundw
          case rel =>
            have hx := HX.out.1
            exact ⟨i + 1, upd rb i r, by omega, by omega, by go_num, grow_more2' HQ.out HGC.out (by rw [← hx]; exact HO6.out.1) HO6.out.2⟩
          case measure => simp [intOf]; omega
      · go_wp2_with fail
        go_meet
        exact hG.ready hi4 hil
  case rest =>
    obtain ⟨nn, rb, ao1, cu, ao2, cv, hn4, hnl, rfl, rfl, hG⟩ := hcut
    have HG := Lib.hid hG
    clear HG0 hG
    by_cases hz : nn = 0
    · subst hz
      go_wp2_with fail
      go_ret
      exact ⟨rfl, HG.out.low⟩
    · obtain ⟨ub, cu', e1, hub, hptr⟩ := ptrs_of_owns HG.out.ptr (by omega)
      obtain ⟨vb, cv', e2, hvb, hwant⟩ := want_of_owns HG.out.want (by omega)
      simp only [Value.slice.injEq, true_and] at e1 e2
      obtain ⟨rfl, rfl⟩ := e1
      obtain ⟨rfl, rfl⟩ := e2
      have hR0 : Turns w wc mb cb ub vb nn kk rb (fun j => (A j).E) 0 (.slice (some ⟨gb, 0, none⟩) kk kk) := start_turns HG.out hptr hub hwant hvb HLI.out hnl
      have HR0 := Lib.hid hR0
      have hz2 : ((nn : Int) == 0) = false := by simp; omega
      have hz3 : 1 ≤ nn := by omega
      clear hR0 hptr hub hwant hvb hz
      go_wp2_with fail
      go_loopw [9, 60] (fun v9 idx wr => ∃ i : Nat, i ≤ lent ∧ i ≤ 251 ∧ idx = .int .i64 i ∧ Turns w wr mb cb ub vb nn kk rb (fun j => (A j).E) i v9) (fun _ idx _ => lent - (intOf idx).toNat)
      case atStart => exact ⟨0, by omega, by omega, rfl, HR0.out⟩
      case round =>
        clear HR0
        obtain ⟨i, hi, hi2, rfl, hTn⟩ := hrel
        have HLOW := Lib.hid hTn.low
        obtain ⟨gb, go, st, p, cs, l, s, rfl, hC, hL, hI, hO⟩ := hTn
        have HC := Lib.hid hC
        have HL := Lib.hid hL
        have HIN := Lib.hid hI
        have HO := Lib.hid hO
        clear hC hL hI hO
        by_cases hgo : i < lent
        · obtain ⟨tb, toff, rfl, htb, htc, ht0, ht1⟩ := HTI.out.cell i hgo
          have htc := (HLOW.out.cell (p := ⟨tb, toff + i, none⟩) htb).trans htc
          obtain ⟨tv, htv⟩ : ∃ tv, tv = T i := ⟨_, rfl⟩
          rw [← htv] at htc ht0 ht1
          have hgo1 : (i : Int) < (lent : Int) := by omega
          clear htv htb
          by_cases h250 : i ≤ 250
          · have h251 : ¬ (250 : Int) < (i : Int) := by omega
            have hnn1 : (1 : Int) ≤ (nn : Int) := by omega
            obtain ⟨k, hk⟩ : ∃ k : Nat, (k : Int) = tv % (nn : Int) := ⟨(tv % (nn : Int)).toNat, by have := Int.emod_nonneg tv (show (nn : Int) ≠ 0 by omega); omega⟩
            have hkn : k < nn := by have := Int.emod_lt_of_pos tv (show 0 < (nn : Int) by omega); omega
            go_upto_region 21 with fail
            rw [← hk]
            clear hk htc
            obtain ⟨pk, hpk⟩ : ∃ pk, pk = p k := ⟨_, rfl⟩
            obtain ⟨Ek, hEk⟩ : ∃ Ek, Ek = (A k).E := ⟨_, rfl⟩
            have hLk : Link Ek pk (st k) := by rw [hEk, hpk]; exact HL.out k hkn
            have hIk : InsAt w (· < w.heap.size) pk.ao pk.len Ek ∧ pk.len ≤ 60 := by rw [hEk, hpk]; exact HIN.out k hkn
            have hmade : pk.made < 1000000 := by
              rw [hLk.made]
              have h := (HO.out k hkn).log_le
              simp [St.start, St.on] at h
              omega
            obtain ⟨cur, hv1, hv2⟩ := HC.out.want
            have d0 : wr.cell? ⟨vb, k * 6, none⟩ = some (.slice pk.ao pk.len pk.cap) := by rw [cell_at hv1, hpk]; exact hv2 k hkn 0 (by omega)
            have d1 : wr.cell? ⟨vb, k * 6 + 1, none⟩ = some (.int .i64 pk.at_) := by rw [cell_at hv1, hpk]; exact hv2 k hkn 1 (by omega)
            have d2 : wr.cell? ⟨vb, k * 6 + 2, none⟩ = some (.int .u32 pk.last) := by rw [cell_at hv1, hpk]; exact hv2 k hkn 2 (by omega)
            have d3 : wr.cell? ⟨vb, k * 6 + 3, none⟩ = some (.bool pk.over) := by rw [cell_at hv1, hpk]; exact hv2 k hkn 3 (by omega)
            have d4 : wr.cell? ⟨vb, k * 6 + 4, none⟩ = some (.int .i64 pk.err) := by rw [cell_at hv1, hpk]; exact hv2 k hkn 4 (by omega)
            have d5 : wr.cell? ⟨vb, k * 6 + 5, none⟩ = some (.int .i64 pk.made) := by rw [cell_at hv1, hpk]; exact hv2 k hkn 5 (by omega)
            obtain ⟨pn, hpn⟩ : ∃ pn, pn = (pk.step Ek cs).1 := ⟨_, rfl⟩
            obtain ⟨cn, hcn⟩ : ∃ cn, cn = (pk.step Ek cs).2 := ⟨_, rfl⟩
            have hst : Calls Try.prog 12 #[.agg #[.slice pk.ao pk.len pk.cap, .int .i64 pk.at_, .int .u32 pk.last, .bool pk.over, .int .i64 pk.err, .int .i64 pk.made], .slice (some ⟨gb, 0, none⟩) kk kk] wr fun e w' => ∃ gb', e = .returned (.tuple #[.agg #[.slice pn.ao pn.len pn.cap, .int .i64 pn.at_, .int .u32 pn.last, .bool pn.over, .int .i64 pn.err, .int .i64 pn.made], .slice (some ⟨gb', 0, none⟩) kk kk]) ∧ RowAt w' gb' cn kk ∧ (gb' = gb ∨ wr.heap.size ≤ gb') ∧ Below wr.heap.size wr w' := by
              rw [hpn, hcn]
              exact rstep_any pk cs kk gb (hIk.1.below HLOW.out) hLk.u hIk.2 hLk.at_le hmade (by have := HK.out.2; omega) HC.out.row
            have HST := Lib.hid hst
            have HLK := Lib.hid hLk
            have HIK := Lib.hid hIk
            have HPN := Lib.hid (And.intro hpk (And.intro hEk (And.intro hpn hcn)))
            have hkn1 : (k : Int) < (nn : Int) := by omega
            clear hst hLk hIk hpk hEk hpn hcn hv1 hv2 hmade
            go_wp2_with fail
            refine HST.out.mono ?_; rintro e w2 ⟨gb', rfl, hrow, hgb', hb2⟩
            have HC2 := Lib.hid (HC.out.below hb2)
            have HCR := Lib.hid (HC.out.newrow hb2 hrow hgb')
            have HRN := Lib.hid (And.intro hrow hgb')
            have HSZ := Lib.hid hb2.size
            obtain ⟨cur, hv1, hv2⟩ := HC2.out.want
            obtain ⟨o0, o1, o2, o3, o4, o5, od⟩ := want_cells hv1 (hv2 k hkn)
            have f0 := free_at hv1 (k * 6)
            have f1 := free_at hv1 (k * 6 + 1)
            have f2 := free_at hv1 (k * 6 + 2)
            have f3 := free_at hv1 (k * 6 + 3)
            have f4 := free_at hv1 (k * 6 + 4)
            have f5 := free_at hv1 (k * 6 + 5)
            obtain ⟨q0, q1, q2, q3, q4, q5⟩ := od
            clear hrow hgb' hb2 hv1 hv2 d0 d1 d2 d3 d4 d5 HST
            go_upto_region 22 with fail
            obtain ⟨w3, hw3⟩ : ∃ w3, w3 = (((((w2.setCell ⟨vb, k * 6, none⟩ (.slice pn.ao pn.len pn.cap)).setCell ⟨vb, k * 6 + 1, none⟩ (.int .i64 pn.at_)).setCell ⟨vb, k * 6 + 2, none⟩ (.int .u32 pn.last)).setCell ⟨vb, k * 6 + 3, none⟩ (.bool pn.over)).setCell ⟨vb, k * 6 + 4, none⟩ (.int .i64 pn.err)).setCell ⟨vb, k * 6 + 5, none⟩ (.int .i64 pn.made) := ⟨_, rfl⟩
            rw [show (((((w2.setCell ⟨vb, k * 6, none⟩ (.slice pn.ao pn.len pn.cap)).setCell ⟨vb, k * 6 + 1, none⟩ (.int .i64 pn.at_)).setCell ⟨vb, k * 6 + 2, none⟩ (.int .u32 pn.last)).setCell ⟨vb, k * 6 + 3, none⟩ (.bool pn.over)).setCell ⟨vb, k * 6 + 4, none⟩ (.int .i64 pn.err)).setCell ⟨vb, k * 6 + 5, none⟩ (.int .i64 pn.made) = w3 from hw3.symm]
            obtain ⟨ST, hST⟩ : ∃ ST, ST = ((st k).on cs l s).step Ek pk.len := ⟨_, rfl⟩
            have hlk : Link Ek pn ST ∧ cn = ST.cs ∧ pn.ao = pk.ao ∧ pn.len = pk.len ∧ pn.cap = pk.cap := by
              rw [HPN.out.2.2.1, HPN.out.2.2.2, hST]
              have hcu : ∀ x ∈ ((st k).on cs l s).cs, U x := HC.out.row.u
              exact Link.step (st := (st k).on cs l s) ⟨HLK.out.over, HLK.out.err, HLK.out.made, HLK.out.run, HLK.out.u, HLK.out.at_le⟩ hcu
            have hSO : ST.start.Ok (i + 1 + 1) := by rw [hST]; exact step_ok HIK.out.1.v_u pk.len (HO.out k hkn)
            obtain ⟨CB, hCB⟩ : ∃ CB : World → Prop, CB = fun wx => Core w wx mb cb gb' ub vb nn kk rb go st (upd p k pn) cs cn l s := ⟨_, rfl⟩
            obtain ⟨CA, hCA⟩ : ∃ CA : Option Nat → World → Prop, CA = fun g wx => Core w wx mb cb gb' ub vb nn kk rb (upd go k g) (upd st k ST) (upd p k pn) ST.cs cn ST.l ST.s := ⟨_, rfl⟩
            obtain ⟨LB, hLB⟩ : ∃ LB : Nat → World → Prop, LB = fun lb wx => wx.heap[lb]? = some (.cells #[.slice pn.ao pn.len pn.cap] 32 (0, 0)) := ⟨_, rfl⟩
            obtain ⟨QB, hQB⟩ : ∃ QB : Nat → World → Prop, QB = fun q wx => wx.heap[q]? = some (.cells (cn.map (Value.int .u32)).toArray 36 (0, 0)) := ⟨_, rfl⟩
            have hB0 : CB w3 := by
              rw [hCB]
              exact HCR.out.put hkn pn hw3
            have hCBd : ∀ a, CB a → CB a.drew := by rw [hCB]; exact fun a h => h.drew
            have hCBb : ∀ a b, CB a → Below a.heap.size a b → CB b := by rw [hCB]; exact fun a b h hb => h.below hb
            have hCAb : ∀ g a b, CA g a → Below a.heap.size a b → CA g b := by rw [hCA]; exact fun g a b h hb => h.below hb
            have hLBb : ∀ g a b, LB g a → Below a.heap.size a b → LB g b := by rw [hLB]; exact fun g a b h hb => (hb.block _ (lt_of_heap h)).trans h
            have hQBb : ∀ g a b, QB g a → Below a.heap.size a b → QB g b := by rw [hQB]; exact fun g a b h hb => (hb.block _ (lt_of_heap h)).trans h
            have hcm : ∀ s l wx, Reg CB CA LB QB s l wx → Cmn ub vb k (rb k) pn wx := fun s l wx hR => hR.any (fun h => by rw [hCB] at h; exact h.cmn hkn) (fun g h => by rw [hCA] at h; exact h.cmn hkn)
            have kPR : ∀ wx : World, Calls Try.prog 14 #[.slice pn.ao pn.len pn.cap] wx fun e w' => ∃ lb, e = .returned (progV lb) ∧ LB lb w' ∧ Below wx.heap.size wx w' := by rw [hLB]; exact fun wx => program_heap wx pn.ao pn.len pn.cap
            have kST : ∀ (wx : World) (lb : Nat), CB wx → LB lb wx → Calls Try.prog 13 #[.pointer (some ⟨rb k, 0, none⟩), progV lb] wx fun e w' => e = .returned (.bool pn.over) ∧ ∃ g, CA g w' := by
              rw [hCB, hLB, hCA, hlk.1.over, hST, hlk.2.2.1, hlk.2.2.2.1, hlk.2.2.2.2]
              intro wx lb h1 h2
              refine (h1.step hkn HIK.out.1 (by have := HIK.out.2; omega) h2 (B := i + 1) (by omega) (HO.out k hkn)).mono ?_
              rintro e w' ⟨he, g, hc, _⟩
              exact ⟨he, g, hc⟩
            have kOV : ∀ (wx : World) (g : Option Nat), CA g wx → Calls Try.prog 15 #[.pointer (some ⟨rb k, 0, none⟩)] wx fun e w' => e = .returned (.bool pn.over) ∧ wx = w' := by
              rw [hCA, hlk.1.over]
              intro wx g h
              obtain ⟨_, hr⟩ := h.run k hkn
              rw [upd_same, upd_same] at hr
              exact over_at hr
            have kER : ∀ (wx : World) (g : Option Nat), CA g wx → Calls Try.prog 16 #[.pointer (some ⟨rb k, 0, none⟩)] wx fun e w' => e = .returned (.int .i64 pn.err) ∧ wx = w' := by
              rw [hCA, hlk.1.err]
              intro wx g h
              obtain ⟨_, hr⟩ := h.run k hkn
              rw [upd_same, upd_same] at hr
              exact err_at hr
            have kCN : ∀ (wx : World) (g : Option Nat), CA g wx → Calls Try.prog 17 #[.pointer (some ⟨rb k, 0, none⟩)] wx fun e w' => e = .returned (.int .i64 pn.made) ∧ wx = w' := by
              rw [hCA, hlk.1.made]
              intro wx g h
              obtain ⟨_, hr⟩ := h.run k hkn
              rw [upd_same, upd_same] at hr
              exact count_at hr
            have kCE : ∀ (wx : World) (g : Option Nat), CA g wx → Calls Try.prog 19 #[.pointer (some ⟨mb, 0, none⟩)] wx fun e w' => ∃ q, e = .returned (.slice (some ⟨q, 0, none⟩) kk kk) ∧ QB q w' ∧ Below wx.heap.size wx w' := by
              rw [hCA, hQB, hlk.2.1]
              intro wx g h
              have hlen := HRN.out.1.len
              rw [hlk.2.1] at hlen
              refine (cells_at h.mem (by have := HK.out.2; omega)).mono ?_
              rintro e w' ⟨he, h1, h2⟩
              exact ⟨_, by rw [he, hlen], h1, h2⟩
            have kSA : ∀ (wx : World) (g : Option Nat) (q : Nat), CA g wx → QB q wx → Calls Try.prog 18 #[.slice (some ⟨q, 0, none⟩) kk kk, .slice (some ⟨gb', 0, none⟩) kk kk] wx fun e w' => e = .returned (.bool true) ∧ Below wx.heap.size wx w' := by
              rw [hCA, hQB]
              intro wx g q h1 h2
              exact same_eq wx q gb' kk cn _ _ h1.row.len.symm (by have := HK.out.2; omega) h2 h1.row.row
            have kFIN : ∀ (wx : World) (g : Option Nat), CA g wx → Turns w wx mb cb ub vb nn kk rb (fun j => (A j).E) (i + 1) (.slice (some ⟨gb', 0, none⟩) kk kk) := by
              rw [hCA]
              intro wx g h
              refine ⟨gb', upd go k g, upd st k ST, upd p k pn, ST.cs, ST.l, ST.s, rfl, by rw [← hlk.2.1] at h ⊢; exact h, fun j hj => ?_, fun j hj => ?_, fun j hj => ?_⟩
              · by_cases e : j = k
                · subst e; rw [upd_same, upd_same]; show Link (A j).E pn ST; rw [← HPN.out.2.1]; exact hlk.1
                · rw [upd_other _ _ e, upd_other _ _ e]; exact HL.out j hj
              · by_cases e : j = k
                · subst e; rw [upd_same]; show InsAt w (· < w.heap.size) pn.ao pn.len (A j).E ∧ pn.len ≤ 60; rw [← HPN.out.2.1, hlk.2.2.1, hlk.2.2.2.1]; exact HIK.out
                · rw [upd_other _ _ e]; exact HIN.out j hj
              · by_cases e : j = k
                · subst e; rw [upd_same]; exact hSO
                · rw [upd_other _ _ e]; exact on_ok (HO.out j hj) hSO
            have KB := Lib.hid (And.intro hCBb (And.intro hCAb (And.intro hLBb hQBb)))
            have KCM := Lib.hid hcm
            have KPR := Lib.hid kPR
            have KST := Lib.hid kST
            have KOV := Lib.hid kOV
            have KER := Lib.hid kER
            have KCN := Lib.hid kCN
            have KCE := Lib.hid kCE
            have KSA := Lib.hid kSA
            have KFIN := Lib.hid kFIN
            have hR0 : Reg CB CA LB QB (0, none, 0) (fun _ => false) w3.drew := ⟨fun _ => ⟨hCBd _ hB0, fun e => by cases e⟩, (fun e => by cases e), (fun e => by cases e), (fun _ _ e => by cases e), (fun e => by cases e)⟩
            clear hw3 hST hlk hSO hCB hCA hLB hQB hB0 hCBb hCAb hLBb hQBb hcm kPR kST kOV kER kCN kCE kSA kFIN hCBd o0 o1 o2 o3 o4 o5 q0 q1 q2 q3 q4 q5 f0 f1 f2 f3 f4 f5
            refine wp_region_by (fun (s : Nat × Option Nat × Nat) j => [.slice (some ⟨ub, 0, none⟩) nn cu, .int .i64 k, .pointer (some ⟨ub, k, none⟩), .pointer (some ⟨rb k, 0, none⟩), .slice (some ⟨vb, 0, none⟩) nn cv, .int .i64 k, .pointer (some ⟨vb, k * 6, none⟩), .pointer (some ⟨vb, k * 6, none⟩), .slice pn.ao pn.len pn.cap, progV s.1, .bool pn.over, .slice (some ⟨vb, 0, none⟩) nn cv, .int .i64 k, .pointer (some ⟨vb, k * 6, none⟩), .pointer (some ⟨vb, k * 6 + 3, none⟩), .bool pn.over, .bool false, .bool false, .slice (some ⟨ub, 0, none⟩) nn cu, .int .i64 k, .pointer (some ⟨ub, k, none⟩), .pointer (some ⟨rb k, 0, none⟩), .bool pn.over, .slice (some ⟨vb, 0, none⟩) nn cv, .int .i64 k, .pointer (some ⟨vb, k * 6, none⟩), .pointer (some ⟨vb, k * 6 + 3, none⟩), .bool pn.over, .bool false, .bool false, .bool false, .slice (some ⟨ub, 0, none⟩) nn cu, .int .i64 k, .pointer (some ⟨ub, k, none⟩), .pointer (some ⟨rb k, 0, none⟩), .int .i64 pn.err, .slice (some ⟨vb, 0, none⟩) nn cv, .int .i64 k, .pointer (some ⟨vb, k * 6, none⟩), .pointer (some ⟨vb, k * 6 + 4, none⟩), .int .i64 pn.err, .bool false, .bool false, .bool false, .slice (some ⟨ub, 0, none⟩) nn cu, .int .i64 k, .pointer (some ⟨ub, k, none⟩), .pointer (some ⟨rb k, 0, none⟩), .int .i64 pn.made, .slice (some ⟨vb, 0, none⟩) nn cv, .int .i64 k, .pointer (some ⟨vb, k * 6, none⟩), .pointer (some ⟨vb, k * 6 + 5, none⟩), .int .i64 pn.made, .bool false, .bool false, .bool false, .pointer (some ⟨mb, 0, none⟩), .slice (some ⟨s.2.2, 0, none⟩) kk kk, .slice (some ⟨gb', 0, none⟩) kk kk, .bool true, .bool false, .bool false].getD j undef) (Reg CB CA LB QB) (by kernel_rfl) (by kernel_rfl)
              (fun s => by simp only [putTo, dstOf, Act.put, List.size_toArray, List.length_cons, List.length_nil, List.getElem?_toArray, Nat.reduceAdd, Option.bind_some, List.getElem?_cons_zero, List.getElem?_cons_succ, List.setIfInBounds_toArray, List.set_cons_zero, List.set_cons_succ, List.getD_cons_zero, List.getD_cons_succ]; exact rfl) (0, none, 0) hR0 ?_ ?_
            · intro j o ho s l wx hR hl he K hK
              rcases j with _ | _ | _ | _ | _ | _ | _ | _ | _ | _ | _ | _ | _ | _ | _ | _ | _ | _ | _ | _ | _ | _ | _ | _ | _ | _ | _ | _ | _ | _ | _ | _ | _ | _ | _ | _ | _ | _ | _ | _ | _ | _ | _ | _ | _ | _ | _ | _ | _ | _ | _ | _ | _ | _ | _ | _ | _ | _ | _ | _ | _ | _ | _ | j
              · obtain rfl : _ = o := Option.some.inj ho
                go_simp
                exact hK s wx (fun _ _ => rfl) (hR.early (by decide) (by decide) (by decide))
              · obtain rfl : _ = o := Option.some.inj ho
                go_simp
                exact hK s wx (fun _ _ => rfl) (hR.early (by decide) (by decide) (by decide))
              · obtain rfl : _ = o := Option.some.inj ho
                go_simp
                exact hK s wx (fun _ _ => rfl) (hR.early (by decide) (by decide) (by decide))
              · obtain rfl : _ = o := Option.some.inj ho
                have hc := (KCM.out _ _ _ hR).u
                go_simp
                exact hK s wx (fun _ _ => rfl) (hR.early (by decide) (by decide) (by decide))
              · obtain rfl : _ = o := Option.some.inj ho
                go_simp
                exact hK s wx (fun _ _ => rfl) (hR.early (by decide) (by decide) (by decide))
              · obtain rfl : _ = o := Option.some.inj ho
                go_simp
                exact hK s wx (fun _ _ => rfl) (hR.early (by decide) (by decide) (by decide))
              · obtain rfl : _ = o := Option.some.inj ho
                go_simp
                exact hK s wx (fun _ _ => rfl) (hR.early (by decide) (by decide) (by decide))
              · obtain rfl : _ = o := Option.some.inj ho
                go_simp
                exact hK s wx (fun _ _ => rfl) (hR.early (by decide) (by decide) (by decide))
              · obtain rfl : _ = o := Option.some.inj ho
                have hc := (KCM.out _ _ _ hR).v0
                go_simp
                exact hK s wx (fun _ _ => rfl) (hR.early (by decide) (by decide) (by decide))
              · obtain rfl : _ = o := Option.some.inj ho
                go_simp
                refine (KPR.out wx).mono ?_; rintro e w4 ⟨lb, rfl, hlb, hb⟩
                refine hK (lb, s.2) w4 (fun j hj => ?_) (hR.made hl hb KB.out.1 hlb)
                rcases j with _ | _ | _ | _ | _ | _ | _ | _ | _ | _ | _ | _ | _ | _ | _ | _ | _ | _ | _ | _ | _ | _ | _ | _ | _ | _ | _ | _ | _ | _ | _ | _ | _ | _ | _ | _ | _ | _ | _ | _ | _ | _ | _ | _ | _ | _ | _ | _ | _ | _ | _ | _ | _ | _ | _ | _ | _ | _ | _ | _ | _ | _ | _ | j
                all_goals first | rfl | (rw [hl] at hj; cases hj)
              · obtain rfl : _ = o := Option.some.inj ho
                have h9 := he ⟨9, .data⟩ (by simp) rfl
                obtain ⟨hcb, hlb⟩ := hR.bef hl
                have hlb := hlb h9
                go_simp
                refine (KST.out wx _ hcb hlb).mono ?_; rintro e w4 ⟨rfl, g, hca⟩
                exact hK (s.1, g, s.2.2) w4 (fun _ _ => rfl) (hR.stepped hl h9 hca)
              · obtain rfl : _ = o := Option.some.inj ho
                go_simp
                exact hK s wx (fun _ _ => rfl) (hR.early (by decide) (by decide) (by decide))
              · obtain rfl : _ = o := Option.some.inj ho
                go_simp
                exact hK s wx (fun _ _ => rfl) (hR.early (by decide) (by decide) (by decide))
              · obtain rfl : _ = o := Option.some.inj ho
                go_simp
                exact hK s wx (fun _ _ => rfl) (hR.early (by decide) (by decide) (by decide))
              · obtain rfl : _ = o := Option.some.inj ho
                go_simp
                exact hK s wx (fun _ _ => rfl) (hR.early (by decide) (by decide) (by decide))
              · obtain rfl : _ = o := Option.some.inj ho
                have hc := (KCM.out _ _ _ hR).v3
                go_simp
                exact hK s wx (fun _ _ => rfl) (hR.early (by decide) (by decide) (by decide))
              · obtain rfl : _ = o := Option.some.inj ho
                have h10 := he ⟨10, .data⟩ (by simp) rfl
                go_simp
                exact hK s wx (fun _ _ => rfl) (hR.late h10 (by decide))
              · obtain rfl : _ = o := Option.some.inj ho
                have h10 := hR.chain 16 (by decide) (he ⟨16, .data⟩ (by simp) rfl)
                go_simp
                exact hK s wx (fun _ _ => rfl) (hR.late h10 (by decide))
              · obtain rfl : _ = o := Option.some.inj ho
                have h10 := hR.chain 17 (by decide) (he ⟨17, .guard⟩ (by simp) rfl)
                go_simp
                exact hK s wx (fun _ _ => rfl) (hR.late h10 (by decide))
              · obtain rfl : _ = o := Option.some.inj ho
                have h10 := hR.chain 17 (by decide) (he ⟨17, .guard⟩ (by simp) rfl)
                go_simp
                exact hK s wx (fun _ _ => rfl) (hR.late h10 (by decide))
              · obtain rfl : _ = o := Option.some.inj ho
                have h10 := hR.chain 17 (by decide) (he ⟨17, .guard⟩ (by simp) rfl)
                go_simp
                exact hK s wx (fun _ _ => rfl) (hR.late h10 (by decide))
              · obtain rfl : _ = o := Option.some.inj ho
                have h10 := hR.chain 17 (by decide) (he ⟨17, .guard⟩ (by simp) rfl)
                have hc := (KCM.out _ _ _ hR).u
                go_simp
                exact hK s wx (fun _ _ => rfl) (hR.late h10 (by decide))
              · obtain rfl : _ = o := Option.some.inj ho
                have h10 := hR.chain 17 (by decide) (he ⟨17, .guard⟩ (by simp) rfl)
                have hca := hR.aft h10
                go_simp
                refine (KOV.out wx _ hca).mono ?_; rintro e w4 ⟨rfl, rfl⟩
                exact hK s wx (fun _ _ => rfl) (hR.late h10 (by decide))
              · obtain rfl : _ = o := Option.some.inj ho
                have h10 := hR.chain 17 (by decide) (he ⟨17, .guard⟩ (by simp) rfl)
                go_simp
                exact hK s wx (fun _ _ => rfl) (hR.late h10 (by decide))
              · obtain rfl : _ = o := Option.some.inj ho
                have h10 := hR.chain 17 (by decide) (he ⟨17, .guard⟩ (by simp) rfl)
                go_simp
                exact hK s wx (fun _ _ => rfl) (hR.late h10 (by decide))
              · obtain rfl : _ = o := Option.some.inj ho
                have h10 := hR.chain 17 (by decide) (he ⟨17, .guard⟩ (by simp) rfl)
                go_simp
                exact hK s wx (fun _ _ => rfl) (hR.late h10 (by decide))
              · obtain rfl : _ = o := Option.some.inj ho
                have h10 := hR.chain 17 (by decide) (he ⟨17, .guard⟩ (by simp) rfl)
                go_simp
                exact hK s wx (fun _ _ => rfl) (hR.late h10 (by decide))
              · obtain rfl : _ = o := Option.some.inj ho
                have h10 := hR.chain 17 (by decide) (he ⟨17, .guard⟩ (by simp) rfl)
                have hc := (KCM.out _ _ _ hR).v3
                go_simp
                exact hK s wx (fun _ _ => rfl) (hR.late h10 (by decide))
              · obtain rfl : _ = o := Option.some.inj ho
                have h10 := hR.chain 17 (by decide) (he ⟨17, .guard⟩ (by simp) rfl)
                go_simp
                exact hK s wx (fun _ _ => rfl) (hR.late h10 (by decide))
              · obtain rfl : _ = o := Option.some.inj ho
                have h10 := hR.chain 17 (by decide) (he ⟨17, .data⟩ (by simp) rfl)
                go_simp
                exact hK s wx (fun _ _ => rfl) (hR.late h10 (by decide))
              · obtain rfl : _ = o := Option.some.inj ho
                have h10 := hR.chain 29 (by decide) (he ⟨29, .data⟩ (by simp) rfl)
                go_simp
                exact hK s wx (fun _ _ => rfl) (hR.late h10 (by decide))
              · obtain rfl : _ = o := Option.some.inj ho
                have h10 := hR.chain 30 (by decide) (he ⟨30, .guard⟩ (by simp) rfl)
                go_simp
                exact hK s wx (fun _ _ => rfl) (hR.late h10 (by decide))
              · obtain rfl : _ = o := Option.some.inj ho
                have h10 := hR.chain 30 (by decide) (he ⟨30, .guard⟩ (by simp) rfl)
                go_simp
                exact hK s wx (fun _ _ => rfl) (hR.late h10 (by decide))
              · obtain rfl : _ = o := Option.some.inj ho
                have h10 := hR.chain 30 (by decide) (he ⟨30, .guard⟩ (by simp) rfl)
                go_simp
                exact hK s wx (fun _ _ => rfl) (hR.late h10 (by decide))
              · obtain rfl : _ = o := Option.some.inj ho
                have h10 := hR.chain 30 (by decide) (he ⟨30, .guard⟩ (by simp) rfl)
                have hc := (KCM.out _ _ _ hR).u
                go_simp
                exact hK s wx (fun _ _ => rfl) (hR.late h10 (by decide))
              · obtain rfl : _ = o := Option.some.inj ho
                have h10 := hR.chain 30 (by decide) (he ⟨30, .guard⟩ (by simp) rfl)
                have hca := hR.aft h10
                go_simp
                refine (KER.out wx _ hca).mono ?_; rintro e w4 ⟨rfl, rfl⟩
                exact hK s wx (fun _ _ => rfl) (hR.late h10 (by decide))
              · obtain rfl : _ = o := Option.some.inj ho
                have h10 := hR.chain 30 (by decide) (he ⟨30, .guard⟩ (by simp) rfl)
                go_simp
                exact hK s wx (fun _ _ => rfl) (hR.late h10 (by decide))
              · obtain rfl : _ = o := Option.some.inj ho
                have h10 := hR.chain 30 (by decide) (he ⟨30, .guard⟩ (by simp) rfl)
                go_simp
                exact hK s wx (fun _ _ => rfl) (hR.late h10 (by decide))
              · obtain rfl : _ = o := Option.some.inj ho
                have h10 := hR.chain 30 (by decide) (he ⟨30, .guard⟩ (by simp) rfl)
                go_simp
                exact hK s wx (fun _ _ => rfl) (hR.late h10 (by decide))
              · obtain rfl : _ = o := Option.some.inj ho
                have h10 := hR.chain 30 (by decide) (he ⟨30, .guard⟩ (by simp) rfl)
                go_simp
                exact hK s wx (fun _ _ => rfl) (hR.late h10 (by decide))
              · obtain rfl : _ = o := Option.some.inj ho
                have h10 := hR.chain 30 (by decide) (he ⟨30, .guard⟩ (by simp) rfl)
                have hc := (KCM.out _ _ _ hR).v4
                go_simp
                exact hK s wx (fun _ _ => rfl) (hR.late h10 (by decide))
              · obtain rfl : _ = o := Option.some.inj ho
                have h10 := hR.chain 30 (by decide) (he ⟨30, .guard⟩ (by simp) rfl)
                go_simp
                exact hK s wx (fun _ _ => rfl) (hR.late h10 (by decide))
              · obtain rfl : _ = o := Option.some.inj ho
                have h10 := hR.chain 30 (by decide) (he ⟨30, .data⟩ (by simp) rfl)
                go_simp
                exact hK s wx (fun _ _ => rfl) (hR.late h10 (by decide))
              · obtain rfl : _ = o := Option.some.inj ho
                have h10 := hR.chain 42 (by decide) (he ⟨42, .data⟩ (by simp) rfl)
                go_simp
                exact hK s wx (fun _ _ => rfl) (hR.late h10 (by decide))
              · obtain rfl : _ = o := Option.some.inj ho
                have h10 := hR.chain 43 (by decide) (he ⟨43, .guard⟩ (by simp) rfl)
                go_simp
                exact hK s wx (fun _ _ => rfl) (hR.late h10 (by decide))
              · obtain rfl : _ = o := Option.some.inj ho
                have h10 := hR.chain 43 (by decide) (he ⟨43, .guard⟩ (by simp) rfl)
                go_simp
                exact hK s wx (fun _ _ => rfl) (hR.late h10 (by decide))
              · obtain rfl : _ = o := Option.some.inj ho
                have h10 := hR.chain 43 (by decide) (he ⟨43, .guard⟩ (by simp) rfl)
                go_simp
                exact hK s wx (fun _ _ => rfl) (hR.late h10 (by decide))
              · obtain rfl : _ = o := Option.some.inj ho
                have h10 := hR.chain 43 (by decide) (he ⟨43, .guard⟩ (by simp) rfl)
                have hc := (KCM.out _ _ _ hR).u
                go_simp
                exact hK s wx (fun _ _ => rfl) (hR.late h10 (by decide))
              · obtain rfl : _ = o := Option.some.inj ho
                have h10 := hR.chain 43 (by decide) (he ⟨43, .guard⟩ (by simp) rfl)
                have hca := hR.aft h10
                go_simp
                refine (KCN.out wx _ hca).mono ?_; rintro e w4 ⟨rfl, rfl⟩
                exact hK s wx (fun _ _ => rfl) (hR.late h10 (by decide))
              · obtain rfl : _ = o := Option.some.inj ho
                have h10 := hR.chain 43 (by decide) (he ⟨43, .guard⟩ (by simp) rfl)
                go_simp
                exact hK s wx (fun _ _ => rfl) (hR.late h10 (by decide))
              · obtain rfl : _ = o := Option.some.inj ho
                have h10 := hR.chain 43 (by decide) (he ⟨43, .guard⟩ (by simp) rfl)
                go_simp
                exact hK s wx (fun _ _ => rfl) (hR.late h10 (by decide))
              · obtain rfl : _ = o := Option.some.inj ho
                have h10 := hR.chain 43 (by decide) (he ⟨43, .guard⟩ (by simp) rfl)
                go_simp
                exact hK s wx (fun _ _ => rfl) (hR.late h10 (by decide))
              · obtain rfl : _ = o := Option.some.inj ho
                have h10 := hR.chain 43 (by decide) (he ⟨43, .guard⟩ (by simp) rfl)
                go_simp
                exact hK s wx (fun _ _ => rfl) (hR.late h10 (by decide))
              · obtain rfl : _ = o := Option.some.inj ho
                have h10 := hR.chain 43 (by decide) (he ⟨43, .guard⟩ (by simp) rfl)
                have hc := (KCM.out _ _ _ hR).v5
                go_simp
                exact hK s wx (fun _ _ => rfl) (hR.late h10 (by decide))
              · obtain rfl : _ = o := Option.some.inj ho
                have h10 := hR.chain 43 (by decide) (he ⟨43, .guard⟩ (by simp) rfl)
                go_simp
                exact hK s wx (fun _ _ => rfl) (hR.late h10 (by decide))
              · obtain rfl : _ = o := Option.some.inj ho
                have h10 := hR.chain 43 (by decide) (he ⟨43, .data⟩ (by simp) rfl)
                go_simp
                exact hK s wx (fun _ _ => rfl) (hR.late h10 (by decide))
              · obtain rfl : _ = o := Option.some.inj ho
                have h10 := hR.chain 55 (by decide) (he ⟨55, .data⟩ (by simp) rfl)
                go_simp
                exact hK s wx (fun _ _ => rfl) (hR.late h10 (by decide))
              · obtain rfl : _ = o := Option.some.inj ho
                have h10 := hR.chain 56 (by decide) (he ⟨56, .guard⟩ (by simp) rfl)
                go_simp
                exact hK s wx (fun _ _ => rfl) (hR.late h10 (by decide))
              · obtain rfl : _ = o := Option.some.inj ho
                have h10 := hR.chain 56 (by decide) (he ⟨56, .guard⟩ (by simp) rfl)
                have hca := hR.aft h10
                go_simp
                refine (KCE.out wx _ hca).mono ?_; rintro e w4 ⟨q, rfl, hq, hb⟩
                refine hK (s.1, s.2.1, q) w4 (fun j hj => ?_) (hR.copied h10 hb KB.out.2.1 hq)
                rcases j with _ | _ | _ | _ | _ | _ | _ | _ | _ | _ | _ | _ | _ | _ | _ | _ | _ | _ | _ | _ | _ | _ | _ | _ | _ | _ | _ | _ | _ | _ | _ | _ | _ | _ | _ | _ | _ | _ | _ | _ | _ | _ | _ | _ | _ | _ | _ | _ | _ | _ | _ | _ | _ | _ | _ | _ | _ | _ | _ | _ | _ | _ | _ | j
                all_goals first | rfl | (rw [hl] at hj; cases hj)
              · obtain rfl : _ = o := Option.some.inj ho
                have h10 := hR.chain 56 (by decide) (he ⟨56, .guard⟩ (by simp) rfl)
                go_simp
                exact hK s wx (fun _ _ => rfl) (hR.late h10 (by decide))
              · obtain rfl : _ = o := Option.some.inj ho
                have h10 := hR.chain 56 (by decide) (he ⟨56, .guard⟩ (by simp) rfl)
                have hca := hR.aft h10
                have hqb := hR.cells (he ⟨58, .data⟩ (by simp) rfl)
                go_simp
                refine (KSA.out wx _ _ hca hqb).mono ?_; rintro e w4 ⟨rfl, hb⟩
                exact hK s w4 (fun _ _ => rfl) ((hR.below hb KB.out.1 KB.out.2.1 KB.out.2.2.1 KB.out.2.2.2).late h10 (by decide))
              · obtain rfl : _ = o := Option.some.inj ho
                have h10 := hR.chain 56 (by decide) (he ⟨56, .guard⟩ (by simp) rfl)
                go_simp
                exact hK s wx (fun _ _ => rfl) (hR.late h10 (by decide))
              · obtain rfl : _ = o := Option.some.inj ho
                have h10 := hR.chain 56 (by decide) (he ⟨56, .data⟩ (by simp) rfl)
                go_simp
                exact hK s wx (fun _ _ => rfl) (hR.late h10 (by decide))
              · simp at ho
            · intro s l wx hl hR
              have hfin := KFIN.out wx _ (hR.aft (hl 10 (by decide)))
              have HFIN := Lib.hid hfin
              clear hfin hR hR0
              go_wp2_with fail
              go_roundw
              case rel => exact ⟨i + 1, by omega, by omega, by go_num, HFIN.out⟩
              case measure => simp [intOf]; omega
          · have h251 : (250 : Int) < (i : Int) := by omega
            go_wp2_with fail
            go_ret
            exact ⟨rfl, HLOW.out⟩
        · go_wp2_with fail
          go_ret
          exact ⟨rfl, HLOW.out⟩
set_option linter.unusedVariables false in
theorem walk {H : Type} {enc : TypeId × Value → H} (W : World) (args : Array Value) (ds : List (DataW H)) (hin : ArgsIn enc Try.prog Try.f3.params.toList W args ds) :
    Calls Try.prog 3 args W fun e W' => e = .returned (.bool true) ∧ Below W.heap.size W W' := by
  obtain ⟨⟨p, hA, hlt⟩, ⟨base, hval⟩, hsz⟩ := hin
  rw [Try.params3] at hA hval hsz
  obtain ⟨v0, vs0, d0, ds0, p0, q0, hargs, rfl, rfl, h0, r0⟩ := trodAll_cons hA
  obtain ⟨v1, vs1, d1, ds1, p1, q1, rfl, rfl, rfl, h1, r1⟩ := trodAll_cons r0
  obtain ⟨v2, vs2, d2, ds2, p2, q2, rfl, rfl, rfl, h2, r2⟩ := trodAll_cons r1
  obtain ⟨rfl, rfl, rfl⟩ := trodAll_nil r2
  obtain rfl : args = #[v0, v1, v2] := by cases args; simp_all
  obtain ⟨a0, rfl, rfl, rfl, w0⟩ := open_int Try.underlying5 (hval 0 5 v0 rfl rfl) h0
  obtain ⟨ao1,len1,cap1,A1,rfl,hA1,hl1⟩ := open_lists (hval 1 22 v1 rfl rfl) h1
  obtain ⟨ao2,len2,cap2,T2,rfl,hT2,hl2⟩ := open_turns (hval 2 23 v2 rfl rfl) h2
  exact walk_all a0 ao1 len1 cap1 A1 ao2 len2 cap2 T2 W (u8_lo w0) (u8_hi w0) hA1 hl1 hT2 hl2

set_option maxRecDepth 100000 in
theorem proved : Rows.StepPlaysSaid :=
  OpenClaim.holds_of_wide 3 Try.f3 rfl rfl rfl rfl rfl rfl rfl ⟨rfl, rfl, rfl, rfl, rfl⟩ rfl rfl rfl rfl rfl (by kernel_rfl) Try.func3 (by kernel_rfl)
    (of_decide_eq_true (by kernel_rfl)) (by unfold Func.isWrapper; first | (rw [if_pos (by decide +kernel)]; kernel_rfl) | (rw [if_neg (by decide +kernel)]; exact ⟨rfl, rfl⟩))
    (fun os started H enc _ => law_lifted (s := Rows.stepPlaysSpec) own started (by kernel_rfl) Try.func3 laidOut (by kernel_rfl) (by kernel_rfl) Try.underlying4 rfl
      (ChangeSpec.witness6 (enc := enc) (C := Try.checked) false ⟨#[], #[.int .u8 0, .slice none 0 0, .slice none 0 0], []⟩ 8 (by kernel_rfl) (by kernel_rfl) (by kernel_rfl) (by kernel_rfl))
      (fun ds h => match ds, h with | [_, _, _], _ => rfl) walk)
#print axioms proved
end Go.Proofs.Ytdmcnlkmfohmdaa.stepPlays
