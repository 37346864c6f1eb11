/-
  A walk reads what was there up to its tail, whatever is added to this term and to others between its steps: the law's walk. Over the program's own text.
-/
import Derived.Test.YtiabmbkmahlhkaaPostUndB
import Derived.Test.YtiabmbkmahlhkaaPostFixed
namespace Go.Proofs.Ytiabmbkmahlhkaa
open Go.RowKit

/-- What element i of a list of words to add holds. -/
structure OpOf where
  t : Nat
  x : Nat
instance : Inhabited OpOf := ⟨⟨0, 0⟩⟩
/-- The cells of the list's elements, wherever the list lies. -/
structure OpsAt (W : World) (ao : Option Addr) (len : Nat) (E : Nat → OpOf) : Prop where
  short : len ≤ maxLen
  cell : ∀ i, i < len → ∃ b off, ao = some ⟨b, off, none⟩ ∧ b < W.heap.size ∧ W.cell? ⟨b, off + i * 2, none⟩ = some (.int .u8 ((E i).t : Int)) ∧ W.cell? ⟨b, off + i * 2 + 1, none⟩ = some (.int .u32 ((E i).x : Int)) ∧ (E i).t < 256 ∧ (E i).x < 4294967296
theorem OpsAt.below {W w : World} {ao : Option Addr} {len : Nat} {E : Nat → OpOf} (h : OpsAt W ao len E) (hb : Below W.heap.size W w) : OpsAt w ao len E := by
  refine ⟨h.short, fun i hi => ?_⟩
  obtain ⟨b, off, h1, h2, h3, h4, h5, h6⟩ := h.cell i hi
  exact ⟨b, off, h1, Nat.lt_of_lt_of_le h2 hb.size, below_cell h3 hb, below_cell h4 hb, h5, h6⟩

/-- Behind so many words. -/
def Ahead (W : World) (bm bp bu bt mb cb : Nat) (B S : Nat → Int) (C T L : Int) (i : Nat) (w : World) : Prop :=
  ∃ tails Us cs D, UB bm bp bu bt mb B S C T L tails Us w ∧ PS B S C mb cb tails Us cs D (2 * i) w ∧ Below W.heap.size W w ∧ ∀ j, j < 8 → ∃ ws, Chain B S cs D (tails j) ws ∧ ws.length ≤ i
theorem Ahead.below {W : World} {bm bp bu bt mb cb : Nat} {B S : Nat → Int} {C T L : Int} {i : Nat} {w w' : World} (h : Ahead W bm bp bu bt mb cb B S C T L i w) (hb : Below w.heap.size w w') : Ahead W bm bp bu bt mb cb B S C T L i w' := by
  obtain ⟨tails, Us, cs, D, h1, h2, h3, h4⟩ := h
  exact ⟨tails, Us, cs, D, h1.below hb, h2.below hb, low_more h3 hb, h4⟩
/-- The blocks are the law's own. -/
def OwnB (W : World) (bm bp bu bt mb cb : Nat) : Prop := W.heap.size ≤ bm ∧ W.heap.size ≤ bp ∧ W.heap.size ≤ bu ∧ W.heap.size ≤ bt ∧ W.heap.size ≤ mb ∧ W.heap.size ≤ cb
theorem Ahead.add {walkP : (Nat → Int) → (Nat → Int) → Int → Int → Pr (List Nat)} (K : KeptPost walkP) {W : World} {bm bp bu bt mb cb : Nat} {B S : Nat → Int} {C T L : Int} (hL : Laid B S C) {i : Nat} {w : World} (h : Ahead W bm bp bu bt mb cb B S C T L i w) (hi : i ≤ 1000) (hO : OwnB W bm bp bu bt mb cb) (xt x : Nat) (hxt : xt < 256) (hx : x < 4294967296) :
    Calls Try.prog 11 #[.agg #[.int .u8 (xt : Int), .int .u32 (x : Int)], .pointer (some ⟨bm, 0, none⟩), .pointer (some ⟨bp, 0, none⟩), .pointer (some ⟨bu, 0, none⟩), .pointer (some ⟨bt, 0, none⟩)] w fun e w' => e = .returned (.tuple #[]) ∧ Ahead W bm bp bu bt mb cb B S C T L (i + 1) w' := by
  obtain ⟨tails, Us, cs, D, h1, h2, h3, h4⟩ := h
  obtain ⟨_, _, b3, b4, b5, b6⟩ := hO
  refine (add_at K hL h1 h2 (by omega) xt x hxt hx).mono ?_
  rintro e w' ⟨rfl, hm, tails', Us', hub, cs', D', hps, _, _, hch⟩
  refine ⟨rfl, tails', Us', cs', D', hub, hps, h3.trans (hm.below h3.size fun k hk e => by omega), fun j hj => ?_⟩
  obtain ⟨ws, c1, c2⟩ := h4 j hj
  obtain ⟨ws', c3, c4⟩ := hch j ws c1
  exact ⟨ws', c3, by omega⟩

set_option maxRecDepth 100000 in
set_option maxHeartbeats 4000000 in
theorem und_walk {walkP : (Nat → Int) → (Nat → Int) → Int → Int → Pr (List Nat)} (K : KeptPost walkP) (W : World) (d t0 : Int) (s0 : Nat → Int) (bk rm : Int) (kf bf : Nat) (ao1 ao2 ao3 : Option Addr) (n1 n2 n3 c1 c2 c3 : Nat) (E1 E2 : Nat → OpOf) (hE1 : OpsAt W ao1 n1 E1) (hE2 : OpsAt W ao2 n2 E2) (L3 : List Nat) (e3 : L3.length = n3) (hE3 : ReadN .u8 W ao3 L3) (h3 : ∀ y ∈ L3, y < 256) (hm3 : n3 ≤ maxLen) :
    Calls Try.prog 4 #[.agg (confC d t0 s0 bk rm kf bf), .slice ao1 n1 c1, .slice ao2 n2 c2, .slice ao3 n3 c3] W fun e w' => e = .returned (.bool true) ∧ Below W.heap.size W w' := by
  obtain ⟨B, S, C, T, L, ok, hok, hplan⟩ := plan_at d t0 s0 bk rm kf bf
  have HP := Lib.hid hplan
  have HFx := Lib.hid (fixed_any K)
  have HK := Lib.hid K
  have s1 := hE1.short
  have s2 := hE2.short
  have HE1 := Lib.hid hE1
  have HE2 := Lib.hid hE2
  have HE3 := Lib.hid (And.intro e3 (And.intro hE3 h3))
  unfold maxLen at s1 s2 hm3
  clear hplan K hE1 hE2 e3 hE3 h3
  go_enter Try.func4, Try.ntmps4
  go_wp2_with (refine wpList_load_row rfl 25 (.tmp 4) rfl W.heap.size rfl 25 (confC d t0 s0 bk rm kf bf) (0, 0) _ (heap_alloc_new W _) Try.underlying25 rfl (by kernel_rfl) ?_)
  refine (HP.out _).mono ?_; rintro e w1 ⟨rfl, hb1⟩
  have hB1 : Below W.heap.size W w1 := low_more below_one hb1
  have hz1 : W.heap.size < w1.heap.size := by have := hb1.size; simp at this; omega
  go_upto_region 2 with (first
    | (refine wpList_store_row rfl 29 (.tmp 9) (.tmp 28) rfl w1.heap.size (planC B S C T L) rfl rfl 29 (planC (fun _ => 0) (fun _ => 0) 0 0 0) (heap_alloc_new w1 _) (planC_info _ _ _ _ _) rfl (planC_one _ _ _ _ _) ?_)
    | fail)
  rw [World.setRow_alloc_new]
  obtain ⟨w2, hw2⟩ : ∃ w2, w2 = w1.alloc (.cells (planC B S C T L) 29) := ⟨_, rfl⟩
  rw [← hw2]
  have g2 : w2.heap[w1.heap.size]? = some (.cells (planC B S C T L) 29 (0, 0)) := by rw [hw2]; exact heap_alloc_new _ _
  have hB : Below W.heap.size W w2 := by rw [hw2]; exact hB1.alloc hB1.size _
  obtain ⟨p, hp⟩ : ∃ p, p = w1.heap.size := ⟨_, rfl⟩
  rw [← hp] at g2 hz1 ⊢
  have G2 := Lib.hid g2
  have HB := Lib.hid hB
  clear hw2 hp hb1 hB hB1 HP
  cases ok with
  | false =>
    clear g2
    go_wp2_with fail
    refine (HFx.out _).mono ?_; rintro e w3 ⟨rfl, hb⟩
    have HB := Lib.hid (low_more HB.out hb)
    clear hb
    go_wp2_with fail
    go_ret
    exact ⟨rfl, HB.out⟩
  | true =>
    obtain ⟨hL, hC⟩ := hok rfl
    have HL := Lib.hid hL
    have hCb := hL.bases
    have hC0 : 3 ≤ C := by omega
    have c12 : w2.cell? ⟨p, 12, none⟩ = some (.int .i64 C) := cell_at g2 12
    clear hok hL hCb g2
    go_wp2_with fail
    refine (new_int w2 C (by omega) (by omega)).mono ?_; rintro e w4 ⟨rfl, hm, hb⟩
    obtain ⟨cb, hcb⟩ : ∃ cb, cb = w2.heap.size := ⟨_, rfl⟩
    rw [← hcb] at hm ⊢
    have hcz : p < cb := by have := lt_of_heap G2.out; omega
    have G4 := Lib.hid ((hb.block p (lt_of_heap G2.out)).trans G2.out)
    have HB4 := Lib.hid (low_more HB.out hb)
    have HPS := Lib.hid (PS.new HL.out (by omega) hm)
    have hmz := lt_of_heap hm.rec_
    clear hb hm hcb c12 G2 HB
    go_upto_region 9 with fail
    obtain ⟨bm, hbm⟩ : ∃ bm, bm = w4.heap.size := ⟨_, rfl⟩
    have hF : Ahead W bm p (bm + 2) (bm + 1) (cb + 1) cb B S C T L 0 (((w4.alloc (.cells #[.pointer (some ⟨cb + 1, 0, none⟩)] 33)).alloc (.cells (eight fun _ => 0) 49)).alloc (.cells (six fun _ => 0) 27)) := by
      refine ⟨fun _ => 0, fun _ => 0, _, _, ⟨heap_below (heap_below (heap_top _ hbm)), heap_below (heap_below (heap_below G4.out)), heap_top _ (by simp; omega), heap_below (heap_top _ (by simp; omega))⟩, HPS.out.below below_al3, low_more HB4.out below_al3, fun j _ => ⟨[], .nil, by simp⟩⟩
    have hw : (((w4.alloc (.cells #[.pointer (some ⟨cb + 1, 0, none⟩)] 33)).alloc (.cells #[.int .i64 0, .int .i64 0, .int .i64 0, .int .i64 0, .int .i64 0, .int .i64 0, .int .i64 0, .int .i64 0] 49)).alloc (.cells #[.int .i64 0, .int .i64 0, .int .i64 0, .int .i64 0, .int .i64 0, .int .i64 0] 27)) = (((w4.alloc (.cells #[.pointer (some ⟨cb + 1, 0, none⟩)] 33)).alloc (.cells (eight fun _ => 0) 49)).alloc (.cells (six fun _ => 0) 27)) := rfl
    rw [hw]
    rw [show w4.heap.size = bm from hbm.symm]
    obtain ⟨w5, hw5⟩ : ∃ w5, w5 = (((w4.alloc (.cells #[.pointer (some ⟨cb + 1, 0, none⟩)] 33)).alloc (.cells (eight fun _ => 0) 49)).alloc (.cells (six fun _ => 0) 27)) := ⟨_, rfl⟩
    rw [← hw5] at hF ⊢
    have HOw := Lib.hid (show OwnB W bm p (bm + 2) (bm + 1) (cb + 1) cb from by have := HB4.out.size; exact ⟨by omega, by omega, by omega, by omega, by omega, by omega⟩)
    have HF := Lib.hid hF
    have hbz : cb + 1 < bm := by omega
    clear hw hw5 hF G4 HB4 HPS hbm
    go_upto_block 0 with fail
    go_cut [] (fun wx => ∃ i, i ≤ 61 ∧ Ahead W bm p (bm + 2) (bm + 1) (cb + 1) cb B S C T L i wx)
    case first =>
      go_wp2_with fail
      go_loopw [44] (fun iv wr => ∃ i : Nat, i ≤ n1 ∧ i ≤ 61 ∧ iv = .int .i64 i ∧ Ahead W bm p (bm + 2) (bm + 1) (cb + 1) cb B S C T L i wr) (fun iv _ => n1 - (intOf iv).toNat)
      case atStart => exact ⟨0, by omega, by omega, rfl, HF.out⟩
      case round =>
        clear HF
        obtain ⟨i, hi, hi61, rfl, hA⟩ := hrel
        have hbw : Below W.heap.size W wr := by obtain ⟨_, _, _, _, _, _, h, _⟩ := hA; exact h
        have HA := Lib.hid hA
        clear hA
        by_cases hlt : i < n1
        · have hlt1 : (i : Int) < (n1 : Int) := by omega
          obtain ⟨b, off, rfl, _, k1, k2, ht, hx⟩ := (HE1.out.below hbw).cell i hlt
          obtain ⟨xt, x, hE⟩ : ∃ xt x, E1 i = ⟨xt, x⟩ := ⟨_, _, rfl⟩
          rw [hE] at k1 k2 ht hx
          simp only at k1 k2 ht hx
          clear hE hbw
          go_upto_region 13 with fail
          obtain ⟨wx, hwx⟩ : ∃ wx, wx = wr.alloc (.cells #[.int .u8 (xt : Int), .int .u32 (x : Int)] 43) := ⟨_, rfl⟩
          rw [show wr.alloc (.cells #[.int .u8 (xt : Int), .int .u32 (x : Int)] 43) = wx from hwx.symm]
          have hX : wx.heap[wr.heap.size]? = some (.cells #[.int .u8 (xt : Int), .int .u32 (x : Int)] 43 (0, 0)) := by rw [hwx]; exact heap_alloc_new wr _
          have HA := Lib.hid (HA.out.below (show Below wr.heap.size wr wx by rw [hwx]; exact below_one))
          obtain ⟨xb, hxb⟩ : ∃ xb, xb = wr.heap.size := ⟨_, rfl⟩
          rw [← hxb] at hX ⊢
          clear hwx hxb k1 k2
          have k1 := cell_at hX 0
          have k2 := cell_at hX 1
          clear hX
          by_cases h60 : 60 < i
          · have h60' : (60 : Int) < (i : Int) := by omega
            go_wp2_with fail
            go_meet
            exact ⟨i, hi61, HA.out⟩
          · have h60' : ¬ (60 : Int) < (i : Int) := by omega
            have HC := Lib.hid (HA.out.add HK.out HL.out (by omega) HOw.out xt x ht hx)
            clear HA
            go_wp2_with fail
            refine HC.out.mono ?_
            clear HC
            rintro e w6 ⟨rfl, hA⟩
            have HA := Lib.hid hA
            clear hA
            go_wp2_with fail
            go_roundw
            case rel => exact ⟨i + 1, by omega, by omega, by go_num, HA.out⟩
            case measure => simp [intOf]; omega
        · have hlt1 : ¬ (i : Int) < (n1 : Int) := by omega
          clear hbw
          go_wp2_with fail
          go_meet
          exact ⟨i, hi61, HA.out⟩
    case rest =>
      obtain ⟨i1, hi1, tails, Us, cs, D, hub, hps, hbw, hch⟩ := hcut
      clear HF
      obtain ⟨ws, hc, hws⟩ := hch 0 (by omega)
      obtain ⟨tail, htl⟩ : ∃ tail, tail = tails 0 := ⟨_, rfl⟩
      have ct : wc.cell? ⟨bm + 1, 0, none⟩ = some (.int .i64 tail) := by rw [htl]; exact (cell_at hub.t 0).trans (eight_get _ 0 (by omega))
      rw [← htl] at hc
      have hlen := hc.len HL.out
      have htr : 0 ≤ tail ∧ tail ≤ 65536 := by
        have := HL.out.c1
        by_cases hw : ws = []
        · subst hw
          cases hc
          omega
        · have := hlen.2.2 hw
          omega
      have HUB := Lib.hid hub
      have HPS := Lib.hid hps
      have HBw := Lib.hid hbw
      have HCh := Lib.hid hc
      have cm := cell_at hub.m 0
      clear htl hlen hub hps hbw hch hc
      go_upto_region 17 with fail
      obtain ⟨bx, hbx⟩ : ∃ bx, bx = wc.heap.size := ⟨_, rfl⟩
      obtain ⟨w6, hw6⟩ : ∃ w6, w6 = wc.alloc (.cells #[.int .i64 tail] 3) := ⟨_, rfl⟩
      rw [show wc.alloc (.cells #[.int .i64 tail] 3) = w6 from hw6.symm, show wc.heap.size = bx from hbx.symm]
      have hb6 : Below wc.heap.size wc w6 := by rw [hw6]; exact below_one
      have gx : w6.heap[bx]? = some (.cells #[.int .i64 tail] 3 (0, 0)) := by rw [hw6]; exact heap_top _ hbx
      have hbmx : bm + 2 < bx := by have := HUB.out.lt; omega
      have HUB := Lib.hid (HUB.out.below hb6)
      have HPS := Lib.hid (HPS.out.below hb6)
      have HBw := Lib.hid (low_more HBw.out hb6)
      have cm := cell_at HUB.out.m 0
      have cx := cell_at gx 0
      have GX := Lib.hid gx
      have hx6 : bx < w6.heap.size := lt_of_heap gx
      have HF1 := Lib.hid HUB.out.p
      have HWk : Hid (Calls Try.prog 10 #[.pointer (some ⟨cb + 1, 0, none⟩), .agg (planC B S C T L), .int .i64 tail] w6 fun e w' => ∃ oa c, e = .returned (.slice oa ws.length c) ∧ ws.length ≤ c ∧ c ≤ maxLen ∧ (oa = none → c = 0) ∧ ReadN .u32 w' oa ws ∧ (∀ ad, oa = some ad → w6.heap.size ≤ ad.block) ∧ (∃ l' s', MemAt w' (cb + 1) cb cs l' s' ∧ 0 ≤ l' ∧ 0 ≤ s' ∧ l' + s' ≤ 400) ∧ Mod (fun k => k = cb + 1 ∨ k = cb) w6 w') := Lib.hid (by
        obtain ⟨l, s, hmem, l0, s0, hls⟩ := HPS.out.mem
        refine (walk_at HK.out (T := T) (L := L) hmem l0 s0 (by omega) HPS.out.cells HL.out HPS.out.inv.len HCh.out).mono ?_
        rintro e w' ⟨oa, c, q1, q2, q3, q4, q5, q6, ⟨l', s', q7, q8, q9, q10⟩, q11⟩
        exact ⟨oa, c, q1, q2, q3, q4, q5, q6, ⟨l', s', q7, q8, q9, by omega⟩, q11⟩)
      clear hbx hw6 hb6 gx ct
      go_wp2_with (refine wpList_load_row rfl 29 (.tmp 9) rfl p rfl 29 (planC B S C T L) (0, 0) _ HF1.out Try.underlying29 rfl (planC_info _ _ _ _ _) ?_)
      refine HWk.out.mono ?_
      clear HWk cm cx HF1
      rintro e w7 ⟨oa, cw, rfl, _, _, _, hrd, hfar, ⟨l', s', hm7, l0, s0, hls⟩, hmod⟩
      obtain ⟨lo, so, hmo, _⟩ := HPS.out.mem
      obtain ⟨⟨m1, m2, m3, m4⟩, ⟨d1, d2, d3, d4⟩, _⟩ := HUB.out.ne hmo
      have hub7 : UB bm p (bm + 2) (bm + 1) (cb + 1) B S C T L tails Us w7 := HUB.out.of_blocks fun k hk hlt => hmod.block k hlt (by
        rintro (e | e)
        · subst e
          rcases hk with h | h | h | h
          · exact m1 h.symm
          · exact m2 h.symm
          · exact m3 h.symm
          · exact m4 h.symm
        · subst e
          rcases hk with h | h | h | h
          · exact d1 h.symm
          · exact d2 h.symm
          · exact d3 h.symm
          · exact d4 h.symm)
      clear m1 m2 m3 m4 d1 d2 d3 d4 hmo
      have gx7 := (hmod.block bx (lt_of_heap GX.out) (by omega)).trans GX.out
      have hbw7 : Below W.heap.size W w7 := HBw.out.trans (hmod.below HBw.out.size fun k hk e => by have := HOw.out; unfold OwnB at this; omega)
      have hz7 := hmod.size
      have hw7 : bx < w7.heap.size := lt_of_heap gx7
      have cm : w7.cell? ⟨bm, 0, none⟩ = some (.pointer (some ⟨cb + 1, 0, none⟩)) := cell_at hub7.m 0
      have H7 := Lib.hid (And.intro hub7 (And.intro gx7 (And.intro hbw7 (And.intro hm7 (And.intro hrd (And.intro hfar (And.intro l0 (And.intro s0 hls))))))))
      clear hub7 gx7 hbw7 hm7 hrd hfar l0 s0 hls hmod HUB GX HBw
      go_upto_region 19 with fail
      obtain ⟨bl, hbl⟩ : ∃ bl, bl = w7.heap.size := ⟨_, rfl⟩
      obtain ⟨w8, hw8⟩ : ∃ w8, w8 = w7.alloc (.cells #[.slice none 0 0] 37) := ⟨_, rfl⟩
      rw [show w7.alloc (.cells #[.slice none 0 0] 37) = w8 from hw8.symm, show w7.heap.size = bl from hbl.symm]
      have hb8 : Below w7.heap.size w7 w8 := by rw [hw8]; exact below_one
      have cm8 : w8.cell? ⟨bm, 0, none⟩ = some (.pointer (some ⟨cb + 1, 0, none⟩)) := below_cell cm hb8
      have gl : w8.heap[bl]? = some (.cells #[.slice none 0 0] 37 (0, 0)) := by rw [hw8]; exact heap_top _ hbl
      have hbl8 : w8.heap.size = bl + 1 := by rw [hw8, hbl]; simp
      have hxl : bx < bl := by omega
      have HB8 := Lib.hid hb8
      have GL := Lib.hid gl
      have HZL := Lib.hid (And.intro hbl hbl8)
      clear hw8 hb8 cm gl hbl
      go_wp2_with fail
      refine (new_run w8 (cb + 1)).mono ?_; rintro e w9 ⟨rfl, hr9, hb9⟩
      obtain ⟨rb, hrb⟩ : ∃ rb, rb = w8.heap.size := ⟨_, rfl⟩
      rw [← hrb] at hr9 ⊢
      have hbr : rb = bl + 1 := by rw [hrb]; exact HZL.out.2
      have hr9l : rb < w9.heap.size := hr9.lt rb (.inl rfl)
      have H9 : Hid (Und walkP w9 bm p (bm + 2) (bm + 1) bx bl rb (cb + 1) cb B S C T L tail ws cs D 400 (2 * ws.length) false w9 ∧ Below W.heap.size W w9 ∧ ReadN .u32 w9 oa ws ∧ (∀ ad, oa = some ad → bx < ad.block ∧ (ws ≠ [] → ad.block < bl)) ∧ UOld w9 bm p (bm + 2) (bm + 1) bx bl rb (cb + 1) cb) := Lib.hid (by
        obtain ⟨hub7, gx7, hbw7, hm7, hrd, hfar, l0, s0, hls⟩ := H7.out
        have hb79 : Below w7.heap.size w7 w9 := low_more HB8.out hb9
        refine ⟨⟨⟨tails, Us, D, ⟨[], 0, false, false, false, 0, cs, l', s'⟩, none, hub7.below hb79, HPS.out.inv, ⟨⟨0, hr9⟩, hm7.below hb79, by simp⟩, HPS.out.cells, by simp, by simp, l0, s0, hls, fun _ h => h, fun _ _ => rfl, by simp, rfl, fun _ => ⟨_, At.new _ _ _ _, HK.out.walks B S C cs D tail ws HL.out HCh.out⟩⟩, ⟨(hb79.block p (lt_of_heap hub7.p)).trans hub7.p, (hb79.block bx (lt_of_heap gx7)).trans gx7, ⟨_, (hb9.block bl (lt_of_heap GL.out)).trans GL.out⟩⟩, (fun h => by cases h), Mod.refl _ _⟩, low_more hbw7 hb79, hrd.below hb79, fun ad had => ⟨?_, fun hne => ?_⟩, ⟨⟨by omega, by omega, by omega, by omega, by omega, by omega, by omega, by omega, hr9l⟩, by omega, by omega, by omega, by omega, by omega, by omega⟩⟩
        · have := hfar ad had; omega
        · obtain ⟨y, hy⟩ : ∃ y, ws[0]? = some y := by
            cases ws with
            | nil => exact absurd rfl hne
            | cons y _ => exact ⟨y, rfl⟩
          obtain ⟨g, o, e, hcell⟩ := hrd 0 y hy
          rw [had] at e
          cases e
          rw [HZL.out.1]
          exact lt_of_cell hcell)
      have HUXo := Lib.hid (show ∀ k, UX p (bm + 2) (bm + 1) bx bl rb (cb + 1) cb k → W.heap.size ≤ k from fun k hk => by have := HOw.out; unfold OwnB at this; unfold UX at hk; omega)
      clear hrb hr9 hb9 H7 HB8 GL HZL HPS cm8 hbl8 hw7 hbr
      go_upto_block 2 with fail
      go_cut [] (fun wx => ∃ N n ov, N ≤ 1000 ∧ n ≤ 122 ∧ Und walkP w9 bm p (bm + 2) (bm + 1) bx bl rb (cb + 1) cb B S C T L tail ws cs D N n ov wx)
      case first =>
        go_wp2_with fail
        go_loopw [66] (fun iv wr => ∃ (i N n : Nat) (ov : Bool), i ≤ n3 ∧ i ≤ 101 ∧ N ≤ 400 + 2 * i ∧ n ≤ 122 ∧ iv = .int .i64 i ∧ Und walkP w9 bm p (bm + 2) (bm + 1) bx bl rb (cb + 1) cb B S C T L tail ws cs D N n ov wr) (fun iv _ => n3 - (intOf iv).toNat)
        case atStart => exact ⟨0, 400, 2 * ws.length, false, by omega, by omega, by omega, by omega, rfl, H9.out.1⟩
        case round =>
          obtain ⟨i, N, n, ov, hi, hi1, hN, hn, rfl, hU⟩ := hrel
          have HU := Lib.hid hU
          clear hU
          by_cases hlt : i < n3
          · have hlt1 : (i : Int) < (n3 : Int) := by omega
            have hbr2 : Below W.heap.size W wr := H9.out.2.1.trans (HU.out.mod.below H9.out.2.1.size fun k hk e => by have := HUXo.out k e; omega)
            obtain ⟨y, hy⟩ : ∃ y, L3[i]? = some y := ⟨_, List.getElem?_eq_getElem (by rw [HE3.out.1]; exact hlt)⟩
            obtain ⟨g3, o3, rfl, hcell⟩ := (HE3.out.2.1.below hbr2) i y hy
            have hy256 := HE3.out.2.2 y (List.mem_of_getElem? hy)
            have HBr := Lib.hid hbr2
            clear hy hbr2
            by_cases h100 : 100 < i
            · have h100' : (100 : Int) < (i : Int) := by omega
              go_wp2_with fail
              go_meet
              exact ⟨N, n, ov, by omega, hn, HU.out⟩
            · have h100' : ¬ (100 : Int) < (i : Int) := by omega
              obtain ⟨z, hz⟩ : ∃ z, z = y % 2 := ⟨_, rfl⟩
              have z1 : (y : Int) % 2 = (z : Int) := by omega
              have z2 : (y : Int).tmod 2 = (z : Int) := by rw [Int.tmod_eq_emod_of_nonneg (by omega)]; exact z1
              have z3 : IntKind.u8.wrap (z : Int) = (z : Int) := IntWalk.u8_in _ (by omega)
              have hy0 : (0 : Int) ≤ (y : Int) := by omega
              clear hz
              by_cases hadd : z = 0 ∧ i < n2
              · obtain ⟨hz0, hi2⟩ := hadd
                have hzb : ((z : Int) == 0) = true := by simp [hz0]
                have hi2' : (i : Int) < (n2 : Int) := by omega
                obtain ⟨b, off, rfl, _, k1, k2, ht, hx⟩ := (HE2.out.below HBr.out).cell i hi2
                obtain ⟨xt, x, hE⟩ : ∃ xt x, E2 i = ⟨xt, x⟩ := ⟨_, _, rfl⟩
                rw [hE] at k1 k2 ht hx
                simp only at k1 k2 ht hx
                have HC := Lib.hid (HU.out.add HK.out HL.out H9.out.2.2.2.2 (by omega) xt x ht hx)
                clear hE hz0 ht hx
                go_wp2_with fail
                refine HC.out.mono ?_
                clear HC HU
                rintro e w10 ⟨rfl, hU⟩
                have HU := Lib.hid hU
                clear hU
                go_wp2_with fail
                go_roundw
                case rel => exact ⟨i + 1, N + 2, n, ov, by omega, by omega, by omega, hn, by go_num, HU.out⟩
                case measure => simp [intOf]; omega
              · have HC := Lib.hid (HU.out.step HK.out HL.out H9.out.2.2.2.2 (by omega) (by omega) (by omega))
                have fin : ∀ w10 ov', Hid (Und walkP w9 bm p (bm + 2) (bm + 1) bx bl rb (cb + 1) cb B S C T L tail ws cs D (N + 1) (n - 1) ov' w10) → ∃ (i' N' n' : Nat) (ov : Bool), i' ≤ n3 ∧ i' ≤ 101 ∧ N' ≤ 400 + 2 * i' ∧ n' ≤ 122 ∧ Value.int .i64 ((i + 1 : Nat) : Int) = .int .i64 i' ∧ Und walkP w9 bm p (bm + 2) (bm + 1) bx bl rb (cb + 1) cb B S C T L tail ws cs D N' n' ov w10 :=
                  fun w10 ov' h => ⟨i + 1, N + 1, n - 1, ov', by omega, by omega, by omega, by omega, rfl, h.out⟩
                have FIN := Lib.hid fin
                clear fin
                by_cases hz0 : z = 0
                · have hi2 : ¬ (i : Int) < (n2 : Int) := by omega
                  have hzb : ((z : Int) == 0) = true := by simp [hz0]
                  clear hadd hz0
                  go_wp2_with fail
                  refine HC.out.mono ?_
                  clear HC
                  rintro e w10 ⟨ov', rfl, hU, _⟩
                  have HU := Lib.hid hU
                  clear hU
                  go_wp2_with fail
                  go_roundw
                  case rel => exact FIN.out _ ov' HU
                  case measure => simp [intOf]; omega
                · have hzb : ((z : Int) == 0) = false := beq_eq_false_iff_ne.2 (by omega)
                  clear hadd hz0
                  go_wp2_with fail
                  refine HC.out.mono ?_
                  clear HC
                  rintro e w10 ⟨ov', rfl, hU, _⟩
                  have HU := Lib.hid hU
                  clear hU
                  go_wp2_with fail
                  go_roundw
                  case rel => exact FIN.out _ ov' HU
                  case measure => simp [intOf]; omega
          · have hlt1 : ¬ (i : Int) < (n3 : Int) := by omega
            go_wp2_with fail
            go_meet
            exact ⟨N, n, ov, by omega, hn, HU.out⟩
      case rest =>
        obtain ⟨N1, nb, ov, hN1, hnb, hU⟩ := hcut
        have HU0 := Lib.hid hU
        clear hU
        go_upto_block 4 with fail
        go_cut [] (fun wx => ∃ N n, Und walkP w9 bm p (bm + 2) (bm + 1) bx bl rb (cb + 1) cb B S C T L tail ws cs D N n true wx)
        case first =>
          go_wp2_with fail
          go_loopw [92] (fun iv wr => ∃ (i n : Nat) (ov : Bool), iv = .int .i64 i ∧ (i + n ≤ 122 ∨ i = 0 ∧ n ≤ 122) ∧ Und walkP w9 bm p (bm + 2) (bm + 1) bx bl rb (cb + 1) cb B S C T L tail ws cs D (N1 + i) n ov wr) (fun iv _ => 3000 - (intOf iv).toNat)
          case atStart => exact ⟨0, nb, ov, rfl, .inr ⟨rfl, hnb⟩, HU0.out⟩
          case round =>
            clear HU0
            obtain ⟨i, n, ov, rfl, hin, hU⟩ := hrel
            have hi122 : i ≤ 122 := by omega
            have hi3 : (i : Int) < 3000 := by omega
            have HC := Lib.hid (hU.step HK.out HL.out H9.out.2.2.2.2 (by omega) (by omega) (by omega))
            have HIN := Lib.hid hin
            clear hU hin
            go_wp2_with fail
            refine HC.out.mono ?_
            clear HC
            rintro e w10 ⟨ov', rfl, hU, hdone⟩
            have HU := Lib.hid hU
            clear hU
            cases ov' with
            | true =>
              clear hdone
              go_wp2_with fail
              go_meet
              exact ⟨_, _, HU.out⟩
            | false =>
              have hn0 : 0 < n := hdone.resolve_left (by simp)
              clear hdone
              go_wp2_with fail
              go_roundw
              case rel => exact ⟨i + 1, n - 1, false, by go_num, .inl (by have := HIN.out; omega), HU.out⟩
              case measure => simp [intOf]; omega
        case rest =>
          obtain ⟨N2, n2', hU⟩ := hcut
          obtain ⟨⟨_, _, _, st, go, _, _, hrm, _, _, _, _, _, _, _, _, _, hov, _⟩, hwi, hwq, hmod⟩ := hU
          obtain ⟨oa2, c5, g5, _, _, _, hrd2, _⟩ := hwq rfl
          obtain ⟨capr, hrun⟩ := hrm.run
          rw [hov] at hrun
          have hbwc : Below W.heap.size W wc := H9.out.2.1.trans (hmod.below H9.out.2.1.size fun k hk e => by have := HUXo.out k e; omega)
          have hwant : ReadN .u32 wc oa ws := by
            intro j y hj
            obtain ⟨g, o, e, hcell⟩ := H9.out.2.2.1 j y hj
            have hg := H9.out.2.2.2.1 _ e
            have hne : ws ≠ [] := by rintro rfl; simp at hj
            have h1 := hg.1
            have h2 := hg.2 hne
            refine ⟨g, o, e, ?_⟩
            rw [← hcell]
            refine World.cell?_of_block (hmod.block g (lt_of_cell hcell) ?_)
            unfold UX
            simp only at h1 h2
            have ho := H9.out.2.2.2.2.o
            omega
          have HRun := Lib.hid hrun
          have HWant := Lib.hid hwant
          have HRd := Lib.hid hrd2
          have HG5 := Lib.hid g5
          have HBc := Lib.hid hbwc
          clear hrm hov hwi hwq hmod g5 hrd2 hrun hbwc hwant HU0 H9 HUXo
          go_wp2_with fail
          refine (HFx.out _).mono ?_; rintro e w11 ⟨rfl, hb⟩
          have hrun := HRun.out.below hb
          have c0 := cell_at ((hb.block bl (lt_of_heap HG5.out)).trans HG5.out) 0
          have HWant := Lib.hid (HWant.out.below hb)
          have HRd := Lib.hid (HRd.out.below hb)
          have HBc := Lib.hid (low_more HBc.out hb)
          clear hb HRun HG5
          go_wp2_with (go_at_call 16; refine (over_at hrun).mono ?_; rintro e w12 ⟨rfl, rfl⟩)
          refine (same32_at _ oa2 oa c5 cw ws.length ws.length ws ws rfl rfl HRd.out HWant.out (by omega)).mono ?_; rintro e w13 ⟨rfl, hb⟩
          have HBc := Lib.hid (low_more HBc.out hb)
          have hdec : decide (ws = ws) = true := by simp
          rw [hdec]
          clear hb hrun c0 hdec
          go_wp2_with fail
          go_ret
          exact ⟨rfl, HBc.out⟩
end Go.Proofs.Ytiabmbkmahlhkaa
