/-
  A program that nobody disturbs leaves the memory as if it had run at once, behind as many steps as it makes accesses: for every memory up to 256 cells and every list of instructions, the law StepAlone returns true and leaves its arguments alone.
-/
import Derived.Test.YtdmcnlkmfohmdaaStepArgs
import Derived.Test.YtdmcnlkmfohmdaaStepPureD
import Derived.Test.YtdmcnlkmfohmdaaMemSame
import Derived.Test.YtdmcnlkmfohmdaaFrame
namespace Go.Proofs.Ytdmcnlkmfohmdaa.stepAlone
open Go.ChangeShapes Go.WideShapes Go.ChangeAt Go.RowKit Go.Deep

def stN (n : Nat) : St := ⟨[], 0, false, false, false, 0, List.replicate n 0, 0, 0⟩
/-- A row of numbers of the law's own. -/
structure RowAt (w : World) (gb : Nat) (cs : List Int) (kk : Nat) : Prop where
  row : w.heap[gb]? = some (.cells (cs.map (Value.int .u32)).toArray 36 (0, 0))
  len : cs.length = kk
  u : ∀ x ∈ cs, U x
/-- Behind i instructions of the law's own run. -/
def Rel1 (W : World) (rb mb cb gb kk : Nat) (ao : Option Addr) (len : Nat) (E : Nat → Ins) (last made idx : Value) (wr : World) : Prop :=
  ∃ (i : Nat) (l : Int) (m : Nat) (cs : List Int), i ≤ len ∧ idx = .int .i64 i ∧ last = .int .u32 l ∧ made = .int .i64 m ∧ m ≤ i ∧ U l ∧ RowAt wr gb cs kk ∧ Ctx W wr rb mb cb none (stN kk) (· < W.heap.size) ao len E ∧
    alone E len 0 0 (List.replicate kk 0) = (alone E (len - i) i l cs).map fun p => (p.1 + m, p.2)
/-- Behind it all. -/
def Done (W : World) (rb mb cb gb kk : Nat) (ao : Option Addr) (len : Nat) (E : Nat → Ins) (made : Value) (wr : World) : Prop :=
  ∃ (m : Nat) (cs : List Int), made = .int .i64 m ∧ m ≤ len ∧ RowAt wr gb cs kk ∧ Ctx W wr rb mb cb none (stN kk) (· < W.heap.size) ao len E ∧ alone E len 0 0 (List.replicate kk 0) = some (m, cs)

/-- Behind k steps, the run not being over. -/
def Rel2 (W : World) (rb mb cb gb kk : Nat) (cs : List Int) (ao : Option Addr) (len : Nat) (E : Nat → Ins) (made k : Nat) (wr : World) : Prop :=
  ∃ (st : St) (go : Option Nat), RowAt wr gb cs kk ∧ Ctx W wr rb mb cb go st (· < W.heap.size) ao len E ∧ ¬ Feet rb mb cb go gb ∧ Und E len made cs k st ∧ st.start.Ok (k + 1)
/-- Behind the last one. -/
def Over (W : World) (rb mb cb gb kk : Nat) (cs : List Int) (ao : Option Addr) (len : Nat) (E : Nat → Ins) (made : Nat) (steps : Value) (wr : World) : Prop :=
  ∃ (st : St) (go : Option Nat) (k : Nat), steps = .int .i64 k ∧ k = max 1 made ∧ RowAt wr gb cs kk ∧ Ctx W wr rb mb cb go st (· < W.heap.size) ao len E ∧ ¬ Feet rb mb cb go gb ∧ st.over = true ∧ st.err = 0 ∧ st.log.length = made ∧ st.cs = cs

theorem RowAt.below {w w' : World} {gb kk : Nat} {cs : List Int} (h : RowAt w gb cs kk) (hb : Below w.heap.size w w') : RowAt w' gb cs kk := ⟨(hb.block _ (lt_of_heap h.row)).trans h.row, h.len, h.u⟩
theorem RowAt.adv {w w' : World} {rb mb cb gb kk : Nat} {go go' : Option Nat} {cs : List Int} (h : RowAt w gb cs kk) (ha : Adv rb mb cb w go w' go') (hn : ¬ Feet rb mb cb go gb) : RowAt w' gb cs kk := ⟨(ha.mod.block _ (lt_of_heap h.row) hn).trans h.row, h.len, h.u⟩

theorem RowAt.set {w : World} {gb kk : Nat} {cs : List Int} (h : RowAt w gb cs kk) (i : Nat) (z : Int) (hz : U z) : RowAt (w.setCell ⟨gb, i, none⟩ (.int .u32 z)) gb (cs.set i z) kk :=
  ⟨row_set h.row i z, by simpa using h.len, fun x hx => (List.mem_or_eq_of_mem_set hx).elim (h.u x) fun e => e ▸ hz⟩
theorem Ctx.row_set {W w : World} {rb mb cb gb : Nat} {go : Option Nat} {st : St} {ao : Option Addr} {len : Nat} {E : Nat → Ins} (h : Ctx W w rb mb cb go st (· < W.heap.size) ao len E) (h1 : ¬ Feet rb mb cb go gb) (h2 : W.heap.size ≤ gb) (i : Nat) (u : Value) :
    Ctx W (w.setCell ⟨gb, i, none⟩ u) rb mb cb go st (· < W.heap.size) ao len E :=
  h.mod (S := fun k => k = gb) (Mod.setCell (S := fun k => k = gb) (Mod.refl _ _) (.inr rfl) u) (fun k hk => hk ▸ h2) (fun k hk e => h1 (e ▸ hk)) (fun k hk e => by have : k = gb := e; omega)

set_option maxRecDepth 100000 in
set_option maxHeartbeats 4000000 in
theorem walk_all (n : Int) (ao : Option Addr) (len cap : Nat) (E : Nat → Ins) (w : World) (hn0 : 0 ≤ n) (hn1 : n ≤ 255) (hI : InsAt w (· < w.heap.size) ao len E) (hc : len ≤ cap) (hm : cap ≤ maxLen) :
    Calls Try.prog 5 #[.int .u8 n, .slice ao len cap] w fun e w' => e = .returned (.bool true) ∧ Below w.heap.size w w' := by
  obtain ⟨kk, hkk⟩ : ∃ kk : Nat, (kk : Int) = 1 + n := ⟨(1 + n).toNat, by omega⟩
  have hmk : ∀ w : World, (Instr.makeSlice 29 (.int .i64 (1 + n)) (.int .i64 (1 + n))).run Try.prog w = .ok (.slice (some ⟨w.heap.size, 0, none⟩) kk kk) (w.alloc (.cells (Array.replicate kk (Value.int .u32 0)) 36)) := by rw [← hkk]; exact run_make_u32 kk (by omega)
  have HU := Lib.hid hI.v_u
  obtain ⟨L, hL⟩ : ∃ L, L = min len 60 := ⟨_, rfl⟩
  have hL60 : L ≤ 60 := by omega
  have HCUT := Lib.hid (show ∀ w : World, Calls Try.prog 11 #[.slice ao len cap] w fun e w' => e = .returned (.slice ao L cap) ∧ w = w' from fun w => by rw [hL]; exact cut_any w ao len cap hc hm)
  have hIL : InsAt w (· < w.heap.size) ao L E := by rw [hL]; exact hI.cut 60
  have HIL := Lib.hid hIL
  clear hL hIL
  have HK := Lib.hid (show (1 + n).toNat = kk ∧ kk ≤ 256 by omega)
  clear hI hc hm hkk
  go_enter Try.func5, Try.ntmps5
  go_wp2_with fail
  refine (new_int w (1 + n) (by omega) (by omega)).mono ?_; rintro e w1 ⟨rfl, hm1, hb1⟩
  rw [HK.out.1] at hm1
  obtain ⟨mb, hmb⟩ : ∃ mb, mb = w.heap.size + 1 := ⟨_, rfl⟩
  obtain ⟨cb, hcb⟩ : ∃ cb, cb = w.heap.size := ⟨_, rfl⟩
  rw [← hmb] at hm1 ⊢
  rw [← hcb] at hm1
  have HM := Lib.hid hm1
  have HB := Lib.hid hb1
  have HC := Lib.hid (And.intro hmb hcb)
  clear hm1 hb1 hmb hcb
  go_wp2_with fail
  refine (new_run w1 mb).mono ?_; rintro e w2 ⟨rfl, hr2, hb2⟩
  have HR := Lib.hid (RM.new HM.out hb2 hr2)
  have HB := Lib.hid (And.intro HB.out.size (HB.out.trans (hb2.mono HB.out.size)))
  obtain ⟨rb, hrb⟩ : ∃ rb, rb = w1.heap.size := ⟨_, rfl⟩
  rw [← hrb] at HR ⊢
  have HRB := Lib.hid hrb
  clear hr2 hb2 hrb HM
  go_wp2_with fail
  refine (fixed_any w2).mono ?_; rintro e w3 ⟨rfl, hb3⟩
  have hR0 : Ctx w w3 rb mb cb none (stN kk) (· < w.heap.size) ao L E := by
    have hw : Below w.heap.size w w3 := HB.out.2.trans (hb3.mono HB.out.2.size)
    have hf : ∀ k, Feet rb mb cb none k → w.heap.size ≤ k := by
      obtain ⟨h1, h2⟩ := HC.out
      have h3 := HRB.out
      have h4 := HB.out.1
      rintro k (e | e | e | e)
      · omega
      · cases e
      · omega
      · omega
    exact ⟨HR.out.below hb3, hw, hf, HIL.out.below hw, fun k hk e => by have := hf k e; omega, fun k hk => Nat.lt_of_lt_of_le hk hw.size⟩
  have HR0 := Lib.hid hR0
  clear hR0 hb3 HR HB HC HRB HIL
  go_upto_region 8 with fail
  obtain ⟨wx, hwx⟩ : ∃ wx, wx = w3.alloc (.cells (Array.replicate kk (Value.int .u32 0)) 36) := ⟨_, rfl⟩
  rw [show w3.alloc (.cells (Array.replicate kk (Value.int .u32 0)) 36) = wx from hwx.symm]
  have hbx : Below w3.heap.size w3 wx := by rw [hwx]; exact below_one
  have hrow : RowAt wx w3.heap.size (List.replicate kk 0) kk := ⟨by rw [hwx]; simpa using heap_alloc_new w3 (.cells (Array.replicate kk (Value.int .u32 0)) 36), by simp, fun x hx => by simp at hx; rw [hx.2]; exact u_zero⟩
  have hgf : ¬ Feet rb mb cb none w3.heap.size := fun e => Nat.lt_irrefl _ (HR0.out.rm.lt _ e)
  have hgw : w.heap.size ≤ w3.heap.size := HR0.out.low.size
  obtain ⟨gb, hgb⟩ : ∃ gb, gb = w3.heap.size := ⟨_, rfl⟩
  have HR0 := Lib.hid (HR0.out.below hbx)
  rw [← hgb] at hrow hgf hgw ⊢
  have HG := Lib.hid (And.intro hgf hgw)
  have HR1 : Hid (Rel1 w rb mb cb gb kk ao L E (.int .u32 0) (.int .i64 ((0 : Nat) : Int)) (.int .i64 ((0 : Nat) : Int)) wx) := Lib.hid ⟨0, 0, 0, _, by omega, rfl, rfl, rfl, by omega, u_zero, hrow, HR0.out, by simp⟩
  clear hbx hwx hrow hgf hgw hgb HR0 hmk
  go_upto_block 0 with (go_at_call 11; refine (HCUT.out _).mono ?_; rintro e w' ⟨rfl, rfl⟩)
  go_cut [10] (fun made wx => Done w rb mb cb gb kk ao L E made wx)
  case first =>
    go_wp2_with fail
    go_loopw [9, 10, 41] (fun last made idx wr => Rel1 w rb mb cb gb kk ao L E last made idx wr) (fun _ _ idx _ => L - (intOf idx).toNat)
    case atStart => exact HR1.out
    case round =>
      clear HR1
      obtain ⟨i, l, m, cs, hi, rfl, rfl, rfl, hmi, hu, hrow, hC, hal⟩ := hrel
      have HA := Lib.hid hal
      have HCX := Lib.hid hC
      have HRW := Lib.hid hrow
      have HUL := Lib.hid hu
      by_cases hlt : i < L
      · obtain ⟨b, off, rfl, _, _, c0, c1, c2⟩ := hC.ins.cell i hlt
        obtain ⟨op, a, v, hx⟩ : ∃ op a v, E i = ⟨op, a, v⟩ := ⟨_, _, _, rfl⟩
        have hv : U v := by have := HU.out i; rw [hx] at this; exact this
        rw [hx] at c0 c1 c2
        have HX := Lib.hid hx
        obtain ⟨nn, hn⟩ : ∃ nn, L - i = nn + 1 := ⟨L - i - 1, by omega⟩
        have HN := Lib.hid (And.intro hn (show L - (i + 1) = nn by omega))
        have HV := Lib.hid hv
        have hu0 := hu.1
        have hu1 := hu.2
        clear hal hC hrow hu hx hn hv
        go_upto_region 11 with fail
        obtain ⟨wx, hwx⟩ : ∃ wx, wx = wr.alloc (.cells #[.int .i64 op, .int .i64 a, .int .u32 v] 51) := ⟨_, rfl⟩
        rw [show wr.alloc (.cells #[.int .i64 op, .int .i64 a, .int .u32 v] 51) = wx from hwx.symm]
        have hbx : Below wr.heap.size wr wx := by rw [hwx]; exact below_one
        have hX : wx.heap[wr.heap.size]? = some (.cells #[.int .i64 op, .int .i64 a, .int .u32 v] 51 (0, 0)) := by rw [hwx]; exact heap_alloc_new wr _
        have HCX := Lib.hid (HCX.out.below hbx)
        have hgx : gb < wr.heap.size := lt_of_heap HRW.out.row
        have HRW := Lib.hid (HRW.out.below hbx)
        obtain ⟨xb, hxb⟩ : ∃ xb, xb = wr.heap.size := ⟨_, rfl⟩
        rw [← hxb] at hX hgx ⊢
        clear hwx hbx hxb c0 c1 c2
        have c0 := cell_at hX 0
        have c1 := cell_at hX 1
        have c2 := cell_at hX 2
        have HXX := Lib.hid hX
        clear hX
        by_cases h4 : op = 4
        · subst h4
          have hna : ¬ (E i).acc := by rw [HX.out]; unfold Ins.acc; simp
          by_cases hodd : l % 2 = 1
          · have ho : (l % 2 == 1) = true := by simpa using hodd
            have he : (E i).ends l := by rw [HX.out]; exact ⟨rfl, hodd⟩
            have HE := Lib.hid he
            clear hodd he hna
            go_wp2_with fail
            go_meet
            refine ⟨m, cs, rfl, by omega, HRW.out, HCX.out, ?_⟩
            rw [HA.out, HN.out.1]
            simp [alone, HE.out]
          · have ho : (l % 2 == 1) = false := by simpa using hodd
            have he : ¬ (E i).ends l := by rw [HX.out]; rintro ⟨_, h⟩; exact hodd h
            have HE := Lib.hid (And.intro he hna)
            clear hodd he hna
            go_wp2_with fail
            go_roundw
            case rel => exact ⟨i + 1, l, m, cs, by omega, by go_num, rfl, rfl, by omega, HUL.out, HRW.out, HCX.out, by rw [HA.out, HN.out.2, HN.out.1]; simp [alone, HE.out.1, HE.out.2]⟩
            case measure => simp [intOf]; omega
        · have e4 : (op == 4) = false := by simpa using h4
          have hne : ¬ (E i).ends l := by rw [HX.out]; rintro ⟨h, _⟩; exact h4 h
          by_cases hacc : 0 ≤ op ∧ op ≤ 3
          · have hac : (E i).acc := by rw [HX.out]; unfold Ins.acc; simp only; omega
            have HE := Lib.hid (And.intro hne hac)
            obtain ⟨ad, had⟩ : ∃ ad, ad = addrOf ⟨op, a, v⟩ l := ⟨_, rfl⟩
            have HAD := Lib.hid (show ∀ w : World, Calls Try.prog 22 #[.agg #[.int .i64 op, .int .i64 a, .int .u32 v], .int .u32 l] w fun e w' => e = .returned (.int .i64 ad) ∧ Below w.heap.size w w' from fun w => by rw [had]; exact addr_any w op a v l HV.out HUL.out)
            have HADE := Lib.hid had
            have hop0 := hacc.1
            have hop3 := hacc.2
            clear hne hac had hacc h4
            by_cases hin : 0 ≤ ad ∧ ad < kk
            · obtain ⟨an, rfl⟩ := Int.eq_ofNat_of_zero_le hin.1
              have hank : an < kk := by omega
              have hank2 : (an : Int) < (kk : Int) := by omega
              clear hin
              have hgb := HG.out.2
              have hz : wx.cell? ⟨gb, an, none⟩ = some (.int .u32 (cs.getD an 0)) := cell_u32 HRW.out.row (by rw [List.getD_eq_getElem?_getD, List.getElem?_eq_getElem (by have := HRW.out.len; omega)]; rfl)
              have hzu : U (cs.getD an 0) := u_getD HRW.out.u an
              obtain ⟨z, hzz⟩ : ∃ z, z = cs.getD an 0 := ⟨_, rfl⟩
              rw [← hzz] at hz hzu
              have HZ := Lib.hid (And.intro hzz hzu)
              have hok : okAt kk (addrOf (E i) l) = true := by rw [HX.out, ← HADE.out]; exact okAt_yes (by omega) (by omega)
              have HOK := Lib.hid hok
              have fg := free_at HRW.out.row an
              clear hzz hzu hok
              obtain rfl | rfl | rfl | rfl : op = 0 ∨ op = 1 ∨ op = 2 ∨ op = 3 := by omega
              · go_wp2_with (go_at_call 22; refine (HAD.out _).mono ?_; rintro e w3 ⟨rfl, hb3⟩; have HCX := Lib.hid (HCX.out.below hb3); have hgl := lt_of_heap HRW.out.row; have HRW := Lib.hid (HRW.out.below hb3); have hz := (hb3.cell (p := ⟨gb, an, none⟩) hgl).trans hz; have fg := free_at HRW.out.row an; have hX3 := (hb3.block _ (lt_of_heap HXX.out)).trans HXX.out; have c0 := cell_at hX3 0; have c1 := cell_at hX3 1; have c2 := cell_at hX3 2; clear hX3 hb3 hgl)
                go_roundw
                case rel =>
                  refine ⟨i + 1, z, m + 1, cs, by omega, by go_num, rfl, by go_num, by omega, HZ.out.2, HRW.out, HCX.out, ?_⟩
                  rw [HA.out, HN.out.2, HN.out.1]
                  have h1 : thenOf cs (E i) l = z := by rw [thenOf, HX.out, ← HADE.out, HZ.out.1]; simp [Ins.after]
                  have h2 : behind cs (E i) l = cs := by rw [behind, HX.out]; simp
                  have h3 : okAt cs.length (addrOf (E i) l) = true := by rw [HRW.out.len]; exact HOK.out
                  simp only [alone, HE.out.1, HE.out.2, h1, h2, h3, if_true, if_false, Option.map_map]
                  exact congrArg (fun f => Option.map f _) (funext fun p => by simp; omega)
                case measure => simp [intOf]; omega
              · go_wp2_with (go_at_call 22; refine (HAD.out _).mono ?_; rintro e w3 ⟨rfl, hb3⟩; have HCX := Lib.hid (HCX.out.below hb3); have hgl := lt_of_heap HRW.out.row; have HRW := Lib.hid (HRW.out.below hb3); have hz := (hb3.cell (p := ⟨gb, an, none⟩) hgl).trans hz; have fg := free_at HRW.out.row an; have hX3 := (hb3.block _ (lt_of_heap HXX.out)).trans HXX.out; have c0 := cell_at hX3 0; have c1 := cell_at hX3 1; have c2 := cell_at hX3 2; clear hX3 hb3 hgl)
                go_roundw
                case rel =>
                  refine ⟨i + 1, l, m + 1, cs.set an v, by omega, by go_num, rfl, by go_num, by omega, HUL.out, HRW.out.set an _ HV.out, Ctx.row_set HCX.out HG.out.1 HG.out.2 _ _, ?_⟩
                  rw [HA.out, HN.out.2, HN.out.1]
                  have h1 : thenOf cs (E i) l = l := by rw [thenOf, HX.out]; simp [Ins.after]
                  have h2 : behind cs (E i) l = cs.set an v := by rw [behind, HX.out, ← HADE.out]; simp [Ins.val]
                  have h3 : okAt cs.length (addrOf (E i) l) = true := by rw [HRW.out.len]; exact HOK.out
                  simp only [alone, HE.out.1, HE.out.2, h1, h2, h3, if_true, if_false, Option.map_map]
                  exact congrArg (fun f => Option.map f _) (funext fun p => by simp; omega)
                case measure => simp [intOf]; omega
              · go_wp2_with (go_at_call 22; refine (HAD.out _).mono ?_; rintro e w3 ⟨rfl, hb3⟩; have HCX := Lib.hid (HCX.out.below hb3); have hgl := lt_of_heap HRW.out.row; have HRW := Lib.hid (HRW.out.below hb3); have hz := (hb3.cell (p := ⟨gb, an, none⟩) hgl).trans hz; have fg := free_at HRW.out.row an; have hX3 := (hb3.block _ (lt_of_heap HXX.out)).trans HXX.out; have c0 := cell_at hX3 0; have c1 := cell_at hX3 1; have c2 := cell_at hX3 2; clear hX3 hb3 hgl)
                go_roundw
                case rel =>
                  refine ⟨i + 1, z, m + 1, cs, by omega, by go_num, rfl, by go_num, by omega, HZ.out.2, HRW.out, HCX.out, ?_⟩
                  rw [HA.out, HN.out.2, HN.out.1]
                  have h1 : thenOf cs (E i) l = z := by rw [thenOf, HX.out, ← HADE.out, HZ.out.1]; simp [Ins.after]
                  have h2 : behind cs (E i) l = cs := by rw [behind, HX.out]; simp
                  have h3 : okAt cs.length (addrOf (E i) l) = true := by rw [HRW.out.len]; exact HOK.out
                  simp only [alone, HE.out.1, HE.out.2, h1, h2, h3, if_true, if_false, Option.map_map]
                  exact congrArg (fun f => Option.map f _) (funext fun p => by simp; omega)
                case measure => simp [intOf]; omega
              · go_wp2_with (go_at_call 22; refine (HAD.out _).mono ?_; rintro e w3 ⟨rfl, hb3⟩; have HCX := Lib.hid (HCX.out.below hb3); have hgl := lt_of_heap HRW.out.row; have HRW := Lib.hid (HRW.out.below hb3); have hz := (hb3.cell (p := ⟨gb, an, none⟩) hgl).trans hz; have fg := free_at HRW.out.row an; have hX3 := (hb3.block _ (lt_of_heap HXX.out)).trans HXX.out; have c0 := cell_at hX3 0; have c1 := cell_at hX3 1; have c2 := cell_at hX3 2; clear hX3 hb3 hgl)
                go_roundw
                case rel =>
                  refine ⟨i + 1, l, m + 1, cs.set an (IntKind.u32.wrap (l + v)), by omega, by go_num, rfl, by go_num, by omega, HUL.out, HRW.out.set an _ (u_wrap _), Ctx.row_set HCX.out HG.out.1 HG.out.2 _ _, ?_⟩
                  rw [HA.out, HN.out.2, HN.out.1]
                  have h1 : thenOf cs (E i) l = l := by rw [thenOf, HX.out]; simp [Ins.after]
                  have h2 : behind cs (E i) l = cs.set an (IntKind.u32.wrap (l + v)) := by rw [behind, HX.out, ← HADE.out]; simp [Ins.val]
                  have h3 : okAt cs.length (addrOf (E i) l) = true := by rw [HRW.out.len]; exact HOK.out
                  simp only [alone, HE.out.1, HE.out.2, h1, h2, h3, if_true, if_false, Option.map_map]
                  exact congrArg (fun f => Option.map f _) (funext fun p => by simp; omega)
                case measure => simp [intOf]; omega
            · have hout : ad < 0 ∨ (kk : Int) ≤ ad := by omega
              clear hin
              rcases hout with hout | hout
              · have hneg : ¬ 0 ≤ ad := by omega
                go_wp2_with (go_at_call 22; refine (HAD.out _).mono ?_; rintro e w3 ⟨rfl, hb3⟩; have HCX := Lib.hid (HCX.out.below hb3); clear hb3)
                go_ret
                exact ⟨rfl, HCX.out.low⟩
              · have hneg : ¬ ad < 0 := by omega
                go_wp2_with (go_at_call 22; refine (HAD.out _).mono ?_; rintro e w3 ⟨rfl, hb3⟩; have HCX := Lib.hid (HCX.out.below hb3); clear hb3)
                go_ret
                exact ⟨rfl, HCX.out.low⟩
          · have hna : ¬ (E i).acc := by rw [HX.out]; unfold Ins.acc; simp only; omega
            have HE := Lib.hid (And.intro hne hna)
            have hout : op < 0 ∨ 3 < op := by omega
            clear hne hna hacc h4
            rcases hout with hout | hout
            all_goals
              first
                | (have hneg : ¬ op < 0 := by omega)
                | skip
              go_wp2_with fail
              go_roundw
              case rel => exact ⟨i + 1, l, m, cs, by omega, by go_num, rfl, rfl, by omega, HUL.out, HRW.out, HCX.out, by rw [HA.out, HN.out.2, HN.out.1]; simp [alone, HE.out.1, HE.out.2]⟩
              case measure => simp [intOf]; omega
      · go_wp2_with fail
        go_meet
        refine ⟨m, cs, rfl, by omega, hrow, hC, ?_⟩
        rw [hal, show L - i = 0 by omega]
        simp [alone]
  case rest =>
    obtain ⟨m, cs, rfl, hmL, hrow, hC, hal⟩ := hcut
    clear HR1
    have HRW := Lib.hid hrow
    have HUN := Lib.hid (show Und E L m cs 0 (stN kk) from Und.start rfl rfl rfl rfl hal)
    have hgb := HG.out.1
    have HR2 : Hid (Rel2 w rb mb cb gb kk cs ao L E m 0 wc) := Lib.hid ⟨stN kk, none, hrow, hC, hgb, Und.start rfl rfl rfl rfl hal, new_ok_st⟩
    clear hrow hC hal hgb
    go_upto_block 3 with fail
    go_cut [14] (fun steps wx => Over w rb mb cb gb kk cs ao L E m steps wx)
    case first =>
      go_wp2_with fail
      go_loopw [14] (fun steps wr => ∃ k : Nat, steps = .int .i64 k ∧ k ≤ L ∧ Rel2 w rb mb cb gb kk cs ao L E m k wr) (fun steps _ => 200 - (intOf steps).toNat)
      case atStart => exact ⟨0, rfl, by omega, HR2.out⟩
      case round =>
        clear HR2
        obtain ⟨k, rfl, hkL, st, go, hrow, hC, hgb, hund, hok⟩ := hrel
        have HRW := Lib.hid hrow
        have HCX := Lib.hid hC
        have HGB := Lib.hid hgb
        have HUN := Lib.hid hund
        have HOK := Lib.hid hok
        have hk200 : (k : Int) < 200 := by omega
        clear hrow hC hgb hund hok
        go_wp2_with (go_at_call 11; refine (HCUT.out _).mono ?_; rintro e w' ⟨rfl, rfl⟩)
        refine (HCX.out.program cap).mono ?_; rintro e w4 ⟨lb, rfl, hC, hL, hb4⟩
        have HCX := Lib.hid hC
        have HLB := Lib.hid hL
        have HRW := Lib.hid (HRW.out.below hb4)
        clear hC hL hb4
        go_wp2_with fail
        refine (HCX.out.step HLB.out (B := k + 1) (by omega) HOK.out (by omega)).mono ?_
        obtain ⟨st', hst'⟩ : ∃ st', st' = st.step E L := ⟨_, rfl⟩
        have HS := Lib.hid (show st'.start.Ok (k + 1 + 1) by rw [hst']; exact step_ok HU.out L HOK.out)
        have hund := HUN.out.step
        rw [← hst'] at hund ⊢
        rintro e w5 ⟨rfl, go5, hC, ha⟩
        have HRW4 := HRW
        have HRW := Lib.hid (HRW.out.adv ha HGB.out)
        have HGB := Lib.hid (ha.apart (lt_of_heap HRW4.out.row) HGB.out)
        have HCX := Lib.hid hC
        clear hC ha hst' HLB HRW4
        rcases hund with ⟨u1, u2, u3, u4, u5⟩ | hund
        · have HQ := Lib.hid (And.intro u1 (And.intro u2 (And.intro u3 (And.intro u4 u5))))
          rw [u1]
          clear u1 u2 u3 u4 u5
          go_wp2_with fail
          go_meet
          exact ⟨st', go5, k + 1, by go_num, HQ.out.2.2.2.2, HRW.out, HCX.out, HGB.out, HQ.out.1, HQ.out.2.1, HQ.out.2.2.1, HQ.out.2.2.2.1⟩
        · have u1 := hund.over
          have HUN := Lib.hid hund
          rw [u1]
          clear u1 hund
          go_wp2_with fail
          go_roundw
          case rel => exact ⟨k + 1, by go_num, HUN.out.le, st', go5, HRW.out, HCX.out, HGB.out, HUN.out, HS.out⟩
          case measure => simp [intOf]; omega
    case rest =>
      obtain ⟨st, go, k, rfl, hk, hrow, hC, hgb, h1, h2, h3, h4⟩ := hcut
      obtain ⟨cp, hrun⟩ := hC.rm.run
      have k1 : Calls Try.prog 15 #[.pointer (some ⟨rb, 0, none⟩)] wc fun e w' => e = .returned (.bool true) ∧ wc = w' := by rw [← h1]; exact over_at hrun
      have k2 : Calls Try.prog 16 #[.pointer (some ⟨rb, 0, none⟩)] wc fun e w' => e = .returned (.int .i64 0) ∧ wc = w' := by rw [← h2]; exact err_at hrun
      have k3 : Calls Try.prog 17 #[.pointer (some ⟨rb, 0, none⟩)] wc fun e w' => e = .returned (.int .i64 m) ∧ wc = w' := by rw [← h3]; exact count_at hrun
      have hmem := hC.rm.mem
      rw [h4] at hmem
      have HK1 := Lib.hid k1
      have HK2 := Lib.hid k2
      have HK3 := Lib.hid k3
      have HMM := Lib.hid hmem
      have HRW := Lib.hid hrow
      have HCX := Lib.hid hC
      have hkm : (k : Int) = max 1 (m : Int) := by omega
      clear h1 h2 h3 h4 k1 k2 k3 hmem hrow hC hrun hgb hkm
      have hcs : cs.length ≤ 256 := by have := HRW.out.len; have := HK.out.2; omega
      have hcl := HRW.out.len
      have HCS := Lib.hid (And.intro hcs hcl)
      clear hcs hcl
      by_cases hm1 : 1 < (m : Int)
      · obtain rfl : k = m := by omega
        clear hk
        go_wp2_with fail
        refine HK1.out.mono ?_; rintro e w' ⟨rfl, rfl⟩
        go_wp2_with fail
        refine HK2.out.mono ?_; rintro e w' ⟨rfl, rfl⟩
        go_wp2_with fail
        refine HK3.out.mono ?_; rintro e w' ⟨rfl, rfl⟩
        go_wp2_with fail
        refine (cells_at HMM.out (by have := HCS.out; omega)).mono ?_; rintro e w8 ⟨rfl, hg1, hb⟩
        have HCX := Lib.hid (HCX.out.below hb)
        have HRW := Lib.hid (HRW.out.below hb)
        obtain ⟨q1, hq1⟩ : ∃ q1, q1 = wc.heap.size := ⟨_, rfl⟩
        rw [← hq1] at hg1 ⊢
        have HG1 := Lib.hid hg1
        clear hg1 hb hq1
        rw [HCS.out.2]
        go_wp2_with fail
        refine (same_eq w8 q1 gb kk cs _ _ HCS.out.2.symm (by have := HCS.out; omega) HG1.out HRW.out.row).mono ?_; rintro e w10 ⟨rfl, hb⟩
        have HCX := Lib.hid (HCX.out.below hb)
        clear hb HG1 HRW
        go_wp2_with fail
        go_ret
        exact ⟨rfl, HCX.out.low⟩
      · obtain rfl : k = 1 := by omega
        clear hk
        have hm2 : (m : Int) ≤ 1 := by omega
        go_wp2_with fail
        refine HK1.out.mono ?_; rintro e w' ⟨rfl, rfl⟩
        go_wp2_with fail
        refine HK2.out.mono ?_; rintro e w' ⟨rfl, rfl⟩
        go_wp2_with fail
        refine HK3.out.mono ?_; rintro e w' ⟨rfl, rfl⟩
        go_wp2_with fail
        refine (cells_at HMM.out (by have := HCS.out; omega)).mono ?_; rintro e w8 ⟨rfl, hg1, hb⟩
        have HCX := Lib.hid (HCX.out.below hb)
        have HRW := Lib.hid (HRW.out.below hb)
        obtain ⟨q1, hq1⟩ : ∃ q1, q1 = wc.heap.size := ⟨_, rfl⟩
        rw [← hq1] at hg1 ⊢
        have HG1 := Lib.hid hg1
        clear hg1 hb hq1
        rw [HCS.out.2]
        go_wp2_with fail
        refine (same_eq w8 q1 gb kk cs _ _ HCS.out.2.symm (by have := HCS.out; omega) HG1.out HRW.out.row).mono ?_; rintro e w10 ⟨rfl, hb⟩
        have HCX := Lib.hid (HCX.out.below hb)
        clear hb HG1 HRW
        go_wp2_with fail
        go_ret
        exact ⟨rfl, HCX.out.low⟩
set_option linter.unusedVariables false in
theorem walk {H : Type} {enc : TypeId × Value → H} (W : World) (args : Array Value) (ds : List (DataW H)) (hin : ArgsIn enc Try.prog Try.f5.params.toList W args ds) :
    Calls Try.prog 5 args W fun e W' => e = .returned (.bool true) ∧ Below W.heap.size W W' := by
  obtain ⟨⟨p, hA, hlt⟩, ⟨base, hval⟩, hsz⟩ := hin
  rw [Try.params5] at hA hval hsz
  obtain ⟨v0, vs0, d0, ds0, p0, q0, hargs, rfl, rfl, h0, r0⟩ := trodAll_cons hA
  obtain ⟨v1, vs1, d1, ds1, p1, q1, rfl, rfl, rfl, h1, r1⟩ := trodAll_cons r0
  obtain ⟨rfl, rfl, rfl⟩ := trodAll_nil r1
  obtain rfl : args = #[v0, v1] := by cases args; simp_all
  obtain ⟨a0, rfl, rfl, rfl, w0⟩ := open_int Try.underlying5 (hval 0 5 v0 rfl rfl) h0
  obtain ⟨ao1,len1,cap1,E1,rfl,hI1,hc1,hm1⟩ := open_ins (hval 1 32 v1 rfl rfl) h1
  exact walk_all a0 ao1 len1 cap1 E1 W (u8_lo w0) (u8_hi w0) hI1 hc1 hm1

set_option maxRecDepth 100000 in
theorem proved : Rows.StepAloneSaid :=
  OpenClaim.holds_of_wide 5 Try.f5 rfl rfl rfl rfl rfl rfl rfl ⟨rfl, rfl, rfl, rfl, rfl⟩ rfl rfl rfl rfl rfl (by kernel_rfl) Try.func5 (by kernel_rfl)
    (of_decide_eq_true (by kernel_rfl)) (by unfold Func.isWrapper; first | (rw [if_pos (by decide +kernel)]; kernel_rfl) | (rw [if_neg (by decide +kernel)]; exact ⟨rfl, rfl⟩))
    (fun os started H enc _ => law_lifted (s := Rows.stepAloneSpec) own started (by kernel_rfl) Try.func5 laidOut (by kernel_rfl) (by kernel_rfl) Try.underlying4 rfl
      (ChangeSpec.witness6 (enc := enc) (C := Try.checked) false ⟨#[], #[.int .u8 0, .slice none 0 0], []⟩ 8 (by kernel_rfl) (by kernel_rfl) (by kernel_rfl) (by kernel_rfl))
      (fun ds h => match ds, h with | [_, _], _ => rfl) walk)
#print axioms proved
end Go.Proofs.Ytdmcnlkmfohmdaa.stepAlone
