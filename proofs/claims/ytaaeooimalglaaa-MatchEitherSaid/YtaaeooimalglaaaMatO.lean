/-
  Layer 18's statements: may documents and leaves' lists be gone through; is a tree too great. Over the program's own text.
-/
import Derived.Test.YtaaeooimalglaaaMatJ
import Derived.Test.YtaaeooimalglaaaNodeFew
namespace Go.Proofs.Ytaaeooimalglaaa
open Go.RowKit

structure RisenOk (docs : List Int) (L : List (List Fo)) : Prop where
  few : docs.length ≤ 100
  docs : RiseP docs
  lists : ∀ l ∈ L, RiseF l
theorem risef_of {l : List Fo} (h : RiseP (l.map (·.1))) : RiseF l := by
  unfold RiseP at h
  rw [List.pairwise_map] at h
  exact h
/-- Each is greater than the one ahead of it, up to there. -/
def UpTo (l : List Int) (i : Nat) : Prop := ∀ j, j < i → 0 < j → l.getD (j - 1) 0 < l.getD j 0
theorem UpTo.more {l : List Int} {i : Nat} (h : UpTo l i) (h2 : 0 < i → l.getD (i - 1) 0 < l.getD i 0) : UpTo l (i + 1) := fun j hj h0 => by
  by_cases e : j = i
  · subst e; exact h2 h0
  · exact h j (by omega) h0
theorem UpTo.all {l : List Int} (h : UpTo l l.length) : RiseP l := rise_of_get fun k hk h0 => h k hk h0
theorem getD_some {l : List Int} {i : Nat} {x : Int} (h : l[i]? = some x) : l.getD i 0 = x := by rw [List.getD_eq_getElem?_getD, h]; rfl
set_option maxRecDepth 100000 in
set_option maxHeartbeats 8000000 in
theorem risen_any (W : World) (v lv : Value) (docs : List Int) (L : List (List Fo)) (hv : RdP W v docs) (hl : LvsAt W lv L) (hre : ∀ l ∈ L, l.length ≤ reachBytes) :
    Calls Try.prog 14 #[v, lv] W fun e w' => BoolDone (RisenOk docs L) W e w' := by
  obtain ⟨va, vc, rfl, _, _, _, hr⟩ := hv
  obtain ⟨la, lc, rfl, _, _, _, hlr⟩ := hl
  obtain ⟨m, hm⟩ : ∃ m, m = docs.length := ⟨_, rfl⟩
  obtain ⟨k, hk⟩ : ∃ k, k = L.length := ⟨_, rfl⟩
  rw [← hm, ← hk]
  by_cases h1 : 100 < m
  · have h1i : (100 : Int) < (m : Int) := by omega
    clear hr hlr hre
    go_enter Try.func14, Try.ntmps14
    go_wp2_with fail
    go_ret
    exact ⟨⟨false, rfl, fun h => by cases h⟩, Below.refl _ _⟩
  have h1i : ¬ (100 : Int) < (m : Int) := by omega
  by_cases h2 : 100 < k
  · have h2i : (100 : Int) < (k : Int) := by omega
    clear hr hlr hre
    go_enter Try.func14, Try.ntmps14
    go_wp2_with fail
    go_ret
    exact ⟨⟨false, rfl, fun h => by cases h⟩, Below.refl _ _⟩
  have h2i : ¬ (100 : Int) < (k : Int) := by omega
  have HR := Lib.hid (And.intro hr hm)
  have HL := Lib.hid (And.intro hlr (And.intro hk hre))
  clear hr hm hlr hk hre
  go_enter Try.func14, Try.ntmps14
  go_wp2_with fail
  go_loopg [20] m (fun g s20 wr => ∃ i : Nat, i + g = m ∧ s20 = .int .i64 (i : Int) ∧ Hid (UpTo docs i) ∧ Hid (Below W.heap.size W wr))
  case atStart => exact ⟨0, by omega, rfl, Lib.hid fun j hj => absurd hj (by omega), Lib.hid (Below.refl _ _)⟩
  case round =>
    obtain ⟨i, hig, rfl, HU, HB⟩ := hrel
    cases gk with
    | succ g =>
      have hlt : i < m := by omega
      obtain ⟨x, hx⟩ : ∃ x, docs[i]? = some x := ⟨_, List.getElem?_eq_getElem (by rw [← HR.out.2]; exact hlt)⟩
      obtain ⟨gx, ox, rfl, k0⟩ := HR.out.1 i x hx
      have c0 := below_cell k0 HB.out
      have hlti : (i : Int) < (m : Int) := by omega
      have HX := Lib.hid (getD_some hx)
      clear k0 hx
      cases i with
      | zero =>
        have HU2 := Lib.hid (show UpTo docs 1 from HU.out.more fun h => absurd h (by omega))
        go_upto_region 6 with fail
        go_quiet (fail)
        rename Nat => m1
        have HB2 := Lib.hid (below_drawn HB.out m1)
        clear c0
        go_wp2_with fail
        go_roundg g
        case measure => omega
        case rel => exact ⟨1, by omega, by go_num, HU2, HB2⟩
      | succ i =>
        obtain ⟨y, hy⟩ : ∃ y, docs[i]? = some y := ⟨_, List.getElem?_eq_getElem (by rw [← HR.out.2]; omega)⟩
        obtain ⟨gy, oy, hgy, k1⟩ := HR.out.1 i y hy
        injection hgy with hgy
        injection hgy with hg1 hg2
        subst hg1 hg2
        have c1 := below_cell k1 HB.out
        have HY := Lib.hid (getD_some hy)
        have hlt2 : (i : Int) < (m : Int) := by omega
        have hi0 : (0 : Int) < ((i + 1 : Nat) : Int) := by omega
        have hi3 : 0 < i + 1 := by omega
        have hi1 : ((i + 1 : Nat) : Int) - 1 = (i : Int) := by omega
        obtain ⟨i2, hi2⟩ : ∃ i2, i2 = i + 1 := ⟨_, rfl⟩
        rw [← hi2] at hi0 hi1 hi3 hlti c0 HX HU hig hlt ⊢
        have HI2 := Lib.hid hi2
        clear k1 hy hi2
        by_cases hle : x ≤ y
        · go_upto_region 6 with fail
          go_quiet (fail)
          rename Nat => m1
          have HB2 := Lib.hid (below_drawn HB.out m1)
          clear c0 c1
          go_wp2_with fail
          go_ret
          exact ⟨⟨false, rfl, fun h => by cases h⟩, HB2.out⟩
        · have HU2 := Lib.hid (show UpTo docs (i2 + 1) from HU.out.more fun _ => by rw [HX.out, HI2.out, Nat.add_sub_cancel, HY.out]; omega)
          go_upto_region 6 with fail
          go_quiet (fail)
          rename Nat => m1
          have HB2 := Lib.hid (below_drawn HB.out m1)
          clear c0 c1
          go_wp2_with fail
          go_roundg g
          case measure => omega
          case rel => exact ⟨i2 + 1, by omega, by go_num, HU2, HB2⟩
    | zero =>
      have him : m = i := by omega
      have HRise := Lib.hid (show docs.length ≤ 100 ∧ RiseP docs from ⟨by rw [← HR.out.2]; omega, UpTo.all (by rw [← HR.out.2, him]; exact HU.out)⟩)
      clear HU
      subst him
      go_wp2_with fail
      go_loopg [6, 40] k (fun g s6 s40 wy => ∃ (a : Nat) (n : Int), a + g = k ∧ s40 = .int .i64 (a : Int) ∧ s6 = .int .i64 n ∧ 0 ≤ n ∧ n ≤ 1000 ∧ Hid (∀ (j : Nat) (l : List Fo), j < a → L[j]? = some l → RiseF l) ∧ Hid (Below W.heap.size W wy))
      case atStart => exact ⟨0, 0, by omega, rfl, rfl, by omega, by omega, Lib.hid fun j l hj => absurd hj (by omega), HB⟩
      case round =>
        clear HB
        obtain ⟨a, n, hag, rfl, rfl, hn0, hn1, HS, HB⟩ := hrel
        cases gk with
        | zero =>
          have hak : k = a := by omega
          have HAll := Lib.hid (show ∀ l ∈ L, RiseF l from fun l hl => by
            obtain ⟨j, hj, rfl⟩ := List.getElem_of_mem hl
            exact HS.out j _ (by rw [← hak, HL.out.2.1]; exact hj) (List.getElem?_eq_getElem hj))
          go_wp2_with fail
          go_ret
          exact ⟨⟨true, rfl, fun _ => ⟨HRise.out.1, HRise.out.2, HAll.out⟩⟩, HB.out⟩
        | succ g =>
          have hlt : a < k := by omega
          obtain ⟨l, hl⟩ : ∃ l, L[a]? = some l := ⟨_, List.getElem?_eq_getElem (by rw [← HL.out.2.1]; exact hlt)⟩
          obtain ⟨g0, o0, rfl, p, k0, pa, pc, rfl, _, _, _, hpr⟩ := HL.out.1 a l hl
          have c0 := below_cell k0 HB.out
          have hll : l.length ≤ 140737488351232 := HL.out.2.2 l (List.mem_of_getElem? hl)
          obtain ⟨N, hN⟩ : ∃ N, N = l.length := ⟨_, rfl⟩
          rw [← hN] at c0 hll
          have HLl := Lib.hid (show L[a]? = some l ∧ ReadFo W pa l ∧ N = l.length from ⟨hl, hpr, hN⟩)
          have hlti : (a : Int) < (k : Int) := by omega
          clear k0 hl hpr hN
          by_cases hbig : 1000 < n + (1 + (N : Int))
          · go_wp2_with fail
            go_ret
            exact ⟨⟨false, rfl, fun h => by cases h⟩, HB.out⟩
          · go_wp2_with fail
            clear c0
            go_loopg [53] N (fun g2 s53 wz => ∃ i : Nat, i + g2 = N ∧ s53 = .int .i64 (i : Int) ∧ Hid (UpTo (l.map (·.1)) i) ∧ Hid (Below W.heap.size W wz))
            case atStart => exact ⟨0, by omega, rfl, Lib.hid fun j hj => absurd hj (by omega), HB⟩
            case round =>
              clear HB
              obtain ⟨i, hig2, rfl, HU, HB⟩ := hrel
              cases gk with
              | zero =>
                have hiN : N = i := by omega
                have HS2 := Lib.hid (show ∀ (j : Nat) (x : List Fo), j < a + 1 → L[j]? = some x → RiseF x from fun j x hj hx => by
                  by_cases e : j = a
                  · subst e
                    rw [HLl.out.1] at hx
                    injection hx with hx
                    subst hx
                    exact risef_of (UpTo.all (by rw [List.length_map, ← HLl.out.2.2, hiN]; exact HU.out))
                  · exact HS.out j x (by omega) hx)
                clear HU
                subst hiN
                go_wp2_with fail
                go_roundg g
                case measure => omega
                case rel => exact ⟨a + 1, n + (1 + (N : Int)), by omega, by go_num, rfl, by omega, by omega, HS2, HB⟩
              | succ g2 =>
                have hltN : i < N := by omega
                obtain ⟨x, hx⟩ : ∃ x, l[i]? = some x := ⟨_, List.getElem?_eq_getElem (by rw [← HLl.out.2.2]; exact hltN)⟩
                obtain ⟨gx, ox, rfl, q0, _⟩ := HLl.out.2.1 i x hx
                have d0 := below_cell q0 HB.out
                have hltNi : (i : Int) < (N : Int) := by omega
                obtain ⟨xd, xt⟩ := x
                have HX := Lib.hid (getD_some (l := l.map (·.1)) (i := i) (x := xd) (by rw [List.getElem?_map, hx]; rfl))
                simp only at d0
                clear q0 hx
                cases i with
                | zero =>
                  have HU2 := Lib.hid (show UpTo (l.map (·.1)) 1 from HU.out.more fun h => absurd h (by omega))
                  go_upto_region 19 with fail
                  go_quiet (fail)
                  rename Nat => m1
                  have HB2 := Lib.hid (below_drawn HB.out m1)
                  clear d0
                  go_wp2_with fail
                  go_roundg g2
                  case measure => omega
                  case rel => exact ⟨1, by omega, by go_num, HU2, HB2⟩
                | succ i =>
                  obtain ⟨y, hy⟩ : ∃ y, l[i]? = some y := ⟨_, List.getElem?_eq_getElem (by rw [← HLl.out.2.2]; omega)⟩
                  obtain ⟨gy, oy, hgy, q1, _⟩ := HLl.out.2.1 i y hy
                  injection hgy with hgy
                  injection hgy with hg1 hg2
                  subst hg1 hg2
                  obtain ⟨yd, yt⟩ := y
                  have d1 := below_cell q1 HB.out
                  simp only at d1
                  have HY := Lib.hid (getD_some (l := l.map (·.1)) (i := i) (x := yd) (by rw [List.getElem?_map, hy]; rfl))
                  have hltN2 : (i : Int) < (N : Int) := by omega
                  have hi0 : (0 : Int) < ((i + 1 : Nat) : Int) := by omega
                  have hi3 : 0 < i + 1 := by omega
                  have hi1 : ((i + 1 : Nat) : Int) - 1 = (i : Int) := by omega
                  obtain ⟨i2, hi2⟩ : ∃ i2, i2 = i + 1 := ⟨_, rfl⟩
                  rw [← hi2] at hi0 hi1 hi3 hltNi d0 HX HU hig2 hltN ⊢
                  have HI2 := Lib.hid hi2
                  clear q1 hy hi2
                  by_cases hle : xd ≤ yd
                  · go_upto_region 19 with fail
                    go_quiet (fail)
                    rename Nat => m1
                    have HB2 := Lib.hid (below_drawn HB.out m1)
                    clear d0 d1
                    go_wp2_with fail
                    go_ret
                    exact ⟨⟨false, rfl, fun h => by cases h⟩, HB2.out⟩
                  · have HU2 := Lib.hid (show UpTo (l.map (·.1)) (i2 + 1) from HU.out.more fun _ => by rw [HX.out, HI2.out, Nat.add_sub_cancel, HY.out]; omega)
                    go_upto_region 19 with fail
                    go_quiet (fail)
                    rename Nat => m1
                    have HB2 := Lib.hid (below_drawn HB.out m1)
                    clear d0 d1
                    go_wp2_with fail
                    go_roundg g2
                    case measure => omega
                    case rel => exact ⟨i2 + 1, by omega, by go_num, HU2, HB2⟩
end Go.Proofs.Ytaaeooimalglaaa
