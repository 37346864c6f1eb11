/-
  The law TableFinds' walk. Over the program's own text.
-/
import Derived.Test.YtgponhdmhgdalaaTableFixed
namespace Go.Proofs.Ytgponhdmhgdalaa
open Go.RowKit

/-- The first so many rows have these ids. -/
def IdsAt (cs : List Int) (R : List Nat) (i : Nat) : Prop := ∀ d : Nat, d < i → cellZ cs (3 + 4 * (d : Int) + 1) = (R.getD d 0 : Nat)
/-- The first of them that is x. -/
def FirstIs (R : List Nat) (x : Int) (i : Nat) (w : Int) : Prop := (w = -1 ∧ ∀ d, d < i → ((R.getD d 0 : Nat) : Int) ≠ x) ∨ ∃ d, d < i ∧ w = (d : Int) ∧ ((R.getD d 0 : Nat) : Int) = x ∧ ∀ e, e < d → ((R.getD e 0 : Nat) : Int) ≠ x
theorem find_first {cs : List Int} {R : List Nat} {x w : Int} {n : Nat} (h : IdsAt cs R n) (hw : FirstIs R x n w) : findZ cs 3 n x = w := by
  have key : ∀ (m d : Nat), d + m = n → (∀ e, e < d → ((R.getD e 0 : Nat) : Int) ≠ x) → findF cs 3 x m d = w := by
    intro m
    induction m with
    | zero =>
      intro d hd hn
      rcases hw with ⟨h1, _⟩ | ⟨e, he, _, h2, _⟩
      · exact h1.symm
      · exact absurd h2 (hn e (by omega))
    | succ m ih =>
      intro d hd hn
      unfold findF
      rw [h d (by omega)]
      by_cases hx : ((R.getD d 0 : Nat) : Int) = x
      · rw [if_pos hx]
        rcases hw with ⟨_, h2⟩ | ⟨e, he, h1, h2, h3⟩
        · exact absurd hx (h2 d (by omega))
        · rcases Nat.lt_trichotomy d e with h4 | h4 | h4
          · exact absurd hx (h3 d h4)
          · rw [h4]; exact h1.symm
          · exact absurd h2 (hn e h4)
      · rw [if_neg hx]
        refine ih (d + 1) (by omega) fun e he => ?_
        by_cases h4 : e = d
        · rw [h4]; exact hx
        · exact hn e (by omega)
  exact key n 0 (by omega) fun e he => by omega
theorem FirstIs.new (R : List Nat) (x : Int) : FirstIs R x 0 (-1) := .inl ⟨rfl, fun d hd => by omega⟩
theorem FirstIs.hit {R : List Nat} {x w : Int} {i y : Nat} (h : FirstIs R x i w) (hy : R.getD i 0 = y) (hx : (y : Int) = x) (hw : w < 0) : FirstIs R x (i + 1) (i : Int) := by
  rcases h with ⟨_, h2⟩ | ⟨d, _, h1, _⟩
  · exact .inr ⟨i, by omega, rfl, by rw [hy]; exact hx, h2⟩
  · omega
theorem FirstIs.keep {R : List Nat} {x w : Int} {i y : Nat} (h : FirstIs R x i w) (hy : R.getD i 0 = y) (hx : (y : Int) ≠ x ∨ ¬ w < 0) : FirstIs R x (i + 1) w := by
  rcases h with ⟨h1, h2⟩ | ⟨d, hd, h1, h2, h3⟩
  · rcases hx with hx | hx
    · refine .inl ⟨h1, fun d hd => ?_⟩
      by_cases e : d = i
      · rw [e, hy]; exact hx
      · exact h2 d (by omega)
    · omega
  · exact .inr ⟨d, by omega, h1, h2, h3⟩
theorem ids_lay {cs : List Int} {R : List Nat} {i : Nat} (h : IdsAt cs R i) (hl : cs.length = 200) (hi : i ≤ 40) (id l v : Int) : IdsAt (layC cs 3 i id l v) R i := by
  intro d hd
  rw [layC_get (by omega) (by omega) _ (by omega), if_neg (by omega), if_neg (by omega), if_neg (by omega)]
  exact h d hd
theorem ids_next {cs : List Int} {R : List Nat} {i y : Nat} (h : IdsAt cs R i) (hl : cs.length = 200) (hi : i ≤ 40) (hy : R.getD i 0 = y) (l v : Int) : IdsAt (layC cs 3 i (y : Int) l v) R (i + 1) := by
  intro d hd
  by_cases e : d = i
  · subst e
    rw [layC_get (by omega) (by omega) _ (by omega), if_neg (by omega), if_neg (by omega), if_pos rfl, hy]
  · exact ids_lay h hl hi _ _ _ d (by omega)
/-- Behind so many rows. -/
structure FR (W : World) (bi bx mb cb : Nat) (oi : Option Addr) (ni ci : Nat) (x : Int) (R : List Nat) (i N : Nat) (wr : World) : Prop where
  s : wr.heap[bi]? = some (.cells #[.slice oi ni ci] 39 (0, 0))
  x : wr.heap[bx]? = some (.cells #[.int .u32 x] 28 (0, 0))
  tm : ∃ cs, TM mb cb cs N wr ∧ cs.length = 200 ∧ IdsAt cs R i
  low : Below W.heap.size W wr
section
variable {W wr w' : World} {bi bx mb cb : Nat} {oi : Option Addr} {ni ci : Nat} {x : Int} {R : List Nat} {i N : Nat}
theorem FR.below (h : FR W bi bx mb cb oi ni ci x R i N wr) (hb : Below wr.heap.size wr w') : FR W bi bx mb cb oi ni ci x R i N w' := by
  obtain ⟨h1, h2, ⟨cs, h3, h4⟩, h5⟩ := h
  exact ⟨(hb.block _ (lt_of_heap h1)).trans h1, (hb.block _ (lt_of_heap h2)).trans h2, ⟨cs, h3.below hb, h4⟩, low_more h5 hb⟩
end
set_option maxRecDepth 100000 in
set_option maxHeartbeats 3000000 in
theorem finds_walk {rowP : Int → Int → Pr R4} {seenP : Int → Int → Int → Pr (List Sn)} {findP : Int → Int → Int → Pr Int} (K : KeptTable rowP seenP findP) (W : World) (oi : Option Addr) (ni ci : Nat) (R : List Nat) (x bh : Int) (hn : R.length = ni) (hR : ReadN .u32 W oi R) (hRx : ∀ y ∈ R, y < 4294967296) (hnm : ni ≤ maxLen) (hx : U x) (hb0 : 0 ≤ bh) (hb1 : bh ≤ 255) :
    Calls Try.prog 4 #[.slice oi ni ci, .int .u32 x, .int .u8 bh] W fun e w' => e = .returned (.bool true) ∧ Below W.heap.size W w' := by
  have HK := Lib.hid K
  have HFx := Lib.hid (fun w => fixed_any K w)
  have HE := Lib.hid (And.intro hn (And.intro hR hRx))
  have HX := Lib.hid hx
  have s1 : (ni : Int) ≤ 9223372036854775807 := by unfold maxLen at hnm; omega
  clear K hn hR hRx hnm hx
  go_enter Try.func4, Try.ntmps4
  go_wp2_with fail
  obtain ⟨w0, hw0⟩ : ∃ w0, w0 = (W.alloc (.cells #[.slice oi ni ci] 39)).alloc (.cells #[.int .u32 x] 28) := ⟨_, rfl⟩
  rw [← hw0]
  have hb : Below W.heap.size W w0 := by rw [hw0]; exact below_al2
  have g1 : w0.heap[W.heap.size]? = some (.cells #[.slice oi ni ci] 39 (0, 0)) := by rw [hw0]; exact heap2_0 _ _ _
  have g2 : w0.heap[W.heap.size + 1]? = some (.cells #[.int .u32 x] 28 (0, 0)) := by rw [hw0]; exact heap2_1 _ _ _
  have hz0 : W.heap.size + 1 < w0.heap.size := lt_of_heap g2
  refine (new_ok w0 200 (by omega) (by omega)).mono ?_; rintro e w1 ⟨rfl, hm, hb1'⟩
  obtain ⟨bx, hbx⟩ : ∃ bx, bx = W.heap.size + 1 := ⟨_, rfl⟩
  obtain ⟨cb, hcb⟩ : ∃ cb, cb = w0.heap.size := ⟨_, rfl⟩
  rw [← hcb] at hm hb1' hz0 ⊢
  rw [← hbx] at g2 hz0 ⊢
  obtain ⟨mb, hmb⟩ : ∃ mb, mb = cb + 1 := ⟨_, rfl⟩
  rw [← hmb] at hm ⊢
  rw [hcb] at hb1'
  have HO := Lib.hid (show W.heap.size < bx ∧ bx < cb ∧ cb < mb by omega)
  have HF0 := Lib.hid (show FR W W.heap.size bx mb cb oi ni ci x R 0 0 w1 from ⟨(hb1'.block _ (lt_of_heap g1)).trans g1, (hb1'.block _ (lt_of_heap g2)).trans g2, ⟨_, TM.new 200 hm, by simp, fun d hd => by omega⟩, low_more hb hb1'⟩)
  clear hb g1 g2 hz0 hm hb1' hw0 hbx hcb hmb
  go_wp2_with fail
  refine (HFx.out _).mono ?_; rintro e w2 ⟨rfl, hb2⟩
  have HF0 := Lib.hid (HF0.out.below hb2)
  have cs2 : w2.cell? ⟨W.heap.size, 0, none⟩ = some (.slice oi ni ci) := cell_at HF0.out.s 0
  clear hb2
  rcases Nat.lt_or_ge 40 ni with hlen | hlen
  · have hl1 : (40 : Int) < (ni : Int) := by omega
    go_wp2_with fail
    refine (HFx.out _).mono ?_; rintro e w3 ⟨rfl, hb3⟩
    have HB3 := Lib.hid (low_more HF0.out.low hb3)
    clear hb3
    go_wp2_with fail
    go_ret
    exact ⟨rfl, HB3.out⟩
  have hl1 : ¬ (40 : Int) < (ni : Int) := by omega
  go_wp2_with fail
  clear cs2
  go_loopw [9, 36] (fun wv iv wr => ∃ (i : Nat) (wt : Int), i ≤ ni ∧ iv = .int .i64 i ∧ wv = .int .i64 wt ∧ -1 ≤ wt ∧ wt ≤ 40 ∧ Hid (FirstIs R x i wt) ∧ Hid (FR W W.heap.size bx mb cb oi ni ci x R i (3 * i) wr)) (fun _ iv _ => ni - (intOf iv).toNat)
  case atStart => exact ⟨0, -1, by omega, rfl, rfl, by omega, by omega, Lib.hid (FirstIs.new R x), HF0⟩
  case round =>
    clear HF0
    obtain ⟨i, wt, hi, rfl, rfl, hw0, hw1, HP, HR⟩ := hrel
    by_cases hlt : i < ni
    · have hlt1 : (i : Int) < (ni : Int) := by omega
      obtain ⟨y, hy⟩ : ∃ y, R[i]? = some y := ⟨_, List.getElem?_eq_getElem (by rw [HE.out.1]; exact hlt)⟩
      obtain ⟨g, o, rfl, hcell⟩ := (HE.out.2.1.below HR.out.low) i y hy
      have hyx := HE.out.2.2 y (List.mem_of_getElem? hy)
      have HY := Lib.hid (show R.getD i 0 = y by rw [List.getD_eq_getElem?_getD, hy]; rfl)
      clear hy
      obtain ⟨wa, hwa⟩ : ∃ wa, wa = (wr.alloc (.cells #[.int .i64 (i : Int)] 3)).alloc (.cells #[.int .u32 (y : Int)] 28) := ⟨_, rfl⟩
      have hba : Below wr.heap.size wr wa := by rw [hwa]; exact below_al2
      have ga : wa.heap[wr.heap.size]? = some (.cells #[.int .i64 (i : Int)] 3 (0, 0)) := by rw [hwa]; exact heap2_0 _ _ _
      have gb : wa.heap[wr.heap.size + 1]? = some (.cells #[.int .u32 (y : Int)] 28 (0, 0)) := by rw [hwa]; exact heap2_1 _ _ _
      obtain ⟨hs, hxx, ⟨cs, htm, hcl, hids⟩, hlow⟩ := HR.out.below hba
      obtain ⟨q1, q2⟩ := htm.lt
      obtain ⟨bd, hbd⟩ : ∃ bd, bd = wr.heap.size := ⟨_, rfl⟩
      have hmd : mb < bd := by obtain ⟨_, _, ⟨_, h3, _⟩, _⟩ := HR.out; have := h3.lt.1; omega
      have hxd : bx < bd := by have := lt_of_heap HR.out.x; omega
      rw [← hbd] at ga gb
      have hzd : bd + 1 < wa.heap.size := lt_of_heap gb
      have hd := lay_does (cs := cs) (b := 3) (d := i) (id := (y : Int)) (l := 1) (v := 1 + (i : Int)) (by omega) (by omega) ⟨by omega, by omega⟩ ⟨by omega, by omega⟩ ⟨by omega, by omega⟩
      obtain ⟨o1, o2, o3⟩ := HO.out
      have hK := htm.whole (by omega) hd (fun rb hrb => La_clo HK.out (d := (i : Int)) (x := (y : Int)) (by omega) (by omega) ⟨by omega, by omega⟩ bd (bd + 1) rb mb cb 200000000 (by omega)) ⟨ga, gb⟩ (fun k hk => by
        unfold LaS at hk
        omega) (by omega)
      have HK1 := Lib.hid hK
      have HW := Lib.hid hwa
      have HBd := Lib.hid hbd
      have HA := Lib.hid (And.intro hs (And.intro hxx (And.intro hlow (And.intro hcl hids))))
      clear hK hd ga gb hs hxx htm hlow hids hba hwa hbd q1 q2 hcl
      go_wp2_with fail
      rw [← HW.out, ← HBd.out]
      refine HK1.out.mono ?_; rintro e w3 ⟨rfl, htm, hI, _, hmod⟩
      obtain ⟨hs, hxx, hlow, hcl, hids⟩ := HA.out
      have hs3 := (hmod.block W.heap.size (lt_of_heap hs) (by rintro (e | e | e); unfold LaS at e; omega; omega; omega)).trans hs
      have hx3 := (hmod.block bx (lt_of_heap hxx) (by rintro (e | e | e); unfold LaS at e; omega; omega; omega)).trans hxx
      have cy : w3.cell? ⟨bd + 1, 0, none⟩ = some (.int .u32 (y : Int)) := cell_at hI.x 0
      have cd : w3.cell? ⟨bd, 0, none⟩ = some (.int .i64 (i : Int)) := cell_at hI.d 0
      have cx : w3.cell? ⟨bx, 0, none⟩ = some (.int .u32 x) := cell_at hx3 0
      have HR := Lib.hid (show FR W W.heap.size bx mb cb (some ⟨g, o, none⟩) ni ci x R (i + 1) (3 * (i + 1)) w3 from ⟨hs3, hx3, ⟨_, htm.more _ (by omega), by rw [layC_length]; exact hcl, ids_next hids hcl (by omega) HY.out _ _⟩, low_mod hlow hmod (by rintro k (e | e | e); unfold LaS at e; omega; omega; omega)⟩)
      clear HK1 HA hs hxx hlow hids hs3 hx3 htm hI hmod hcl HW HBd
      by_cases hyx2 : (y : Int) = x
      · have b1 : ((y : Int) == x) = true := by simpa using hyx2
        by_cases hw : wt < 0
        · have HP := Lib.hid (HP.out.hit HY.out hyx2 hw)
          clear hyx2
          go_wp2_with fail
          go_roundw
          case rel => exact ⟨i + 1, (i : Int), by omega, by go_num, rfl, by omega, by omega, HP, HR⟩
          case measure => simp [intOf]; omega
        · have HP := Lib.hid (HP.out.keep HY.out (.inr hw))
          clear hyx2
          go_wp2_with fail
          go_roundw
          case rel => exact ⟨i + 1, wt, by omega, by go_num, rfl, by omega, by omega, HP, HR⟩
          case measure => simp [intOf]; omega
      · have b1 : ((y : Int) == x) = false := by simpa using hyx2
        have HP := Lib.hid (HP.out.keep HY.out (.inl hyx2))
        clear hyx2
        go_wp2_with fail
        go_roundw
        case rel => exact ⟨i + 1, wt, by omega, by go_num, rfl, by omega, by omega, HP, HR⟩
        case measure => simp [intOf]; omega
    · obtain rfl : i = ni := by omega
      obtain ⟨q, hq⟩ : ∃ q : Nat, bh % 5 = (q : Int) := ⟨(bh % 5).toNat, by omega⟩
      have hq5 : q < 5 := by omega
      have hq1 : bh.tmod 5 = (q : Int) := by rw [Int.tmod_eq_emod_of_nonneg hb0]; exact hq
      have hq2 : IntKind.i64.wrap (q : Int) = (q : Int) := IntWalk.i64_in _ (by omega)
      have hq3 : IntKind.i64.wrap bh = bh := IntWalk.i64_in _ (by omega)
      go_wp2_with fail
      go_loopw [56] (fun jv wr => ∃ j : Nat, j ≤ q ∧ jv = .int .i64 j ∧ Hid (FR W W.heap.size bx mb cb oi i ci x R i (3 * i + 3 * j) wr)) (fun jv _ => q - (intOf jv).toNat)
      case atStart => exact ⟨0, by omega, rfl, HR⟩
      case round =>
        clear HR
        obtain ⟨j, hj, rfl, HR⟩ := hrel
        obtain ⟨o1, o2, o3⟩ := HO.out
        obtain ⟨hs, hxx, ⟨cs, htm, hcl, hids⟩, hlow⟩ := HR.out
        by_cases hjq : j < q
        · have hjq1 : (j : Int) < (q : Int) := by omega
          have hd := lay_does (cs := cs) (b := 3) (d := i) (id := x) (l := 1) (v := 99) (by omega) (by omega) HX.out ⟨by omega, by omega⟩ ⟨by omega, by omega⟩
          have hK := htm.whole (by omega) hd (fun rb hrb => Lb_clo HK.out (oi := oi) (ni := i) (ci := ci) (x := x) (by omega) HX.out W.heap.size bx rb mb cb 200000000 (by omega)) ⟨hs, hxx⟩ (fun k hk => by
            have := lt_of_heap hxx
            unfold LbS at hk
            omega) (by omega)
          have HK1 := Lib.hid hK
          have HA := Lib.hid (And.intro hlow (And.intro hcl hids))
          clear hK hd hs hxx htm hlow hids HR hcl
          go_wp2_with fail
          refine HK1.out.mono ?_; rintro e w3 ⟨rfl, htm, hI, _, hmod⟩
          obtain ⟨hlow, hcl, hids⟩ := HA.out
          have HR := Lib.hid (show FR W W.heap.size bx mb cb oi i ci x R i (3 * i + 3 * (j + 1)) w3 from ⟨hI.s, hI.x, ⟨_, htm.more _ (by omega), by rw [layC_length]; exact hcl, ids_lay hids hcl (by omega) _ _ _⟩, low_mod hlow hmod (by rintro k (e | e | e); unfold LbS at e; omega; omega; omega)⟩)
          clear HK1 HA hlow hids htm hI hmod hcl
          go_wp2_with fail
          go_roundw
          case rel => exact ⟨j + 1, by omega, by go_num, HR⟩
          case measure => simp [intOf]; omega
        · obtain ⟨wa, hwa⟩ : ∃ wa, wa = wr.alloc (.cells #[.int .i64 (-2)] 3) := ⟨_, rfl⟩
          have hba : Below wr.heap.size wr wa := by rw [hwa]; exact below_one
          have ga : wa.heap[wr.heap.size]? = some (.cells #[.int .i64 (-2)] 3 (0, 0)) := by rw [hwa]; exact heap_alloc_new _ _
          obtain ⟨bg, hbg⟩ : ∃ bg, bg = wr.heap.size := ⟨_, rfl⟩
          have hxg : bx < bg := by have := lt_of_heap hxx; omega
          have hmg : mb < bg := by have := htm.lt.1; omega
          rw [← hbg] at ga
          have hzg : bg < wa.heap.size := lt_of_heap ga
          obtain ⟨m, hm, hd⟩ := HK.out.findD cs 3 i x (by omega) (by omega)
          rw [find_first hids HP.out] at hd
          have hK := (htm.below hba).whole (by omega) hd (fun rb hrb => Lc_clo HK.out (oi := oi) (ni := i) (ci := ci) (x := x) (by omega) HX.out W.heap.size bx bg rb mb cb 200000000 (by omega) (by omega) (by omega) (by omega)) ⟨(hba.block _ (lt_of_heap hs)).trans hs, (hba.block _ (lt_of_heap hxx)).trans hxx, ⟨_, ga⟩⟩ (fun k hk => by
            unfold LcS at hk
            omega) (by omega)
          have HK1 := Lib.hid hK
          have HW := Lib.hid hwa
          have HBg := Lib.hid hbg
          have HA := Lib.hid (low_more hlow hba)
          clear hK hd hs hxx htm hlow hids HR hcl hba ga hwa hbg
          go_wp2_with fail
          rw [← HW.out, ← HBg.out]
          refine HK1.out.mono ?_; rintro e w3 ⟨rfl, _, _, hQ, hmod⟩
          have cg : w3.cell? ⟨bg, 0, none⟩ = some (.int .i64 wt) := cell_at hQ.g 0
          have HB := Lib.hid (low_mod HA.out hmod (by rintro k (e | e | e); unfold LcS at e; omega; omega; omega))
          clear HK1 HA hQ hmod HW HBg
          go_wp2_with fail
          go_ret
          exact ⟨rfl, HB.out⟩
end Go.Proofs.Ytgponhdmhgdalaa
