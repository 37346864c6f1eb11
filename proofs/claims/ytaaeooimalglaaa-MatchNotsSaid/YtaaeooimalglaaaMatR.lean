/-
  The reference of layer 18: phrases. Over the program's own text.
-/
import Derived.Test.YtaaeooimalglaaaMatD
namespace Go.Proofs.Ytaaeooimalglaaa
open Go.RowKit

theorem first_or (d : Int) : ∀ l : List En, (∀ e ∈ l, e.1 ≠ d) ∨ ∃ (i : Nat) (e : En), l[i]? = some e ∧ e.1 = d ∧ (∀ (j : Nat) (x : En), j < i → l[j]? = some x → x.1 ≠ d) ∧ placesN l d = e.2
  | [] => .inl (by simp)
  | x :: l => by
    by_cases h : x.1 = d
    · exact .inr ⟨0, x, rfl, h, fun j y hj => absurd hj (by omega), by rw [placesN, if_pos h]⟩
    · rcases first_or d l with h1 | ⟨i, e, h1, h2, h3, h4⟩
      · exact .inl fun e he => by rcases List.mem_cons.1 he with rfl | h2; exact h; exact h1 e h2
      · refine .inr ⟨i + 1, e, by simpa using h1, h2, fun j y hj hy => ?_, by rw [placesN, if_neg h]; exact h4⟩
        cases j with
        | zero => simp at hy; subst hy; exact h
        | succ j => exact h3 j y (by omega) (by simpa using hy)
set_option maxRecDepth 100000 in
set_option maxHeartbeats 4000000 in
theorem ref_places (W : World) (v : Value) (l : List En) (d : Int) (hv : RdE W v l) (h6 : l.length ≤ 1000000) :
    ∃ u, RdP W u (placesN l d) ∧ ∀ wx, Below W.heap.size W wx → Calls Try.prog 29 #[v, .int .i64 d] wx fun e w' => e = .returned u ∧ w' = wx := by
  obtain ⟨oa, c, rfl, _, _, _, hr⟩ := hv
  obtain ⟨n, hn⟩ : ∃ n, n = l.length := ⟨_, rfl⟩
  rcases first_or d l with hno | ⟨f, e, hf, hed, hfst, hpl⟩
  · refine ⟨.slice none 0 0, ⟨none, 0, by rw [places_none hno]; rfl, by rw [places_none hno]; simp, by simp [maxLen], fun _ => rfl, by rw [places_none hno]; exact ReadZ.nil _ _⟩, fun wx hb => ?_⟩
    have HNo := Lib.hid hno
    have HR := Lib.hid (hr.below hb)
    have HN := Lib.hid hn
    rw [← hn]
    rw [← hn] at h6
    clear hno hr hn hb
    go_enter Try.func29, Try.ntmps29
    go_wp2_with fail
    go_loopg [8] n (fun g s8 wr => ∃ i : Nat, i + g = n ∧ s8 = .int .i64 (i : Int) ∧ wr = wx)
    case atStart => exact ⟨0, by omega, rfl, rfl⟩
    case round =>
      obtain ⟨i, hig, rfl, rfl⟩ := hrel
      cases gk with
      | zero =>
        have hin : n = i := by omega
        subst hin
        go_wp2_with fail
        go_ret
        exact ⟨rfl, rfl⟩
      | succ g =>
        have hlt : i < n := by omega
        obtain ⟨x, hx⟩ : ∃ x, l[i]? = some x := ⟨_, List.getElem?_eq_getElem (by rw [← HN.out]; exact hlt)⟩
        obtain ⟨gx, ox, rfl, c0, _⟩ := HR.out i x hx
        have hne := HNo.out x (List.mem_of_getElem? hx)
        have hlti : (i : Int) < (n : Int) := by omega
        clear hx
        obtain ⟨y, hy⟩ : ∃ y, y = x.1 := ⟨_, rfl⟩
        rw [← hy] at c0 hne
        have hbn : (y == d) = false := beq_eq_false_iff_ne.2 hne
        clear hy
        go_wp2_with fail
        go_roundg g
        case measure => omega
        case rel => exact ⟨i + 1, by omega, by go_num, rfl⟩
  · obtain ⟨gf, of, rfl, k0, p, k1, hp⟩ := hr f e hf
    refine ⟨p, by rw [hpl]; exact hp, fun wx hb => ?_⟩
    have q0 := below_cell k0 hb
    have q1 := below_cell k1 hb
    have HR := Lib.hid (hr.below hb)
    have HN := Lib.hid hn
    have HFst := Lib.hid hfst
    have hfn : f < n := by rw [hn]; exact (List.getElem?_eq_some_iff.1 hf).1
    have HP := Lib.hid hp
    rw [hed] at q0
    rw [← hn]
    rw [← hn] at h6
    clear hr hn hb hpl hp hfst hf k0 k1 hed
    go_enter Try.func29, Try.ntmps29
    go_wp2_with fail
    go_loopg [8] n (fun g s8 wr => ∃ i : Nat, i + g = n ∧ i ≤ f ∧ s8 = .int .i64 (i : Int) ∧ wr = wx)
    case atStart => exact ⟨0, by omega, by omega, rfl, rfl⟩
    case round =>
      obtain ⟨i, hig, hif, rfl, rfl⟩ := hrel
      cases gk with
      | zero => exact absurd hfn (by omega)
      | succ g =>
        have hlt : i < n := by omega
        have hlti : (i : Int) < (n : Int) := by omega
        by_cases hi : i = f
        · subst hi
          go_wp2_with fail
          go_ret
          exact ⟨rfl, rfl⟩
        · obtain ⟨x, hx⟩ : ∃ x, l[i]? = some x := ⟨_, List.getElem?_eq_getElem (by rw [← HN.out]; exact hlt)⟩
          obtain ⟨gx, ox, hgx, c0, _⟩ := HR.out i x hx
          injection hgx with hgx
          injection hgx with h1 h2
          subst h1 h2
          have hne := HFst.out i x (by omega) hx
          clear hx
          obtain ⟨y, hy⟩ : ∃ y, y = x.1 := ⟨_, rfl⟩
          rw [← hy] at c0 hne
          have hbn : (y == d) = false := beq_eq_false_iff_ne.2 hne
          clear hy q0 q1
          go_wp2_with fail
          go_roundg g
          case measure => omega
          case rel => exact ⟨i + 1, by omega, by omega, by go_num, rfl⟩
set_option maxRecDepth 100000 in
set_option maxHeartbeats 4000000 in
theorem ref_has (w : World) (u : Value) (P : List Int) (x : Int) (hu : RdP w u P) (h6 : P.length ≤ 1000000) :
    Calls Try.prog 30 #[u, .int .i64 x] w fun e w' => e = .returned (.bool (decide (x ∈ P))) ∧ w' = w := by
  obtain ⟨oa, c, rfl, _, _, _, hr⟩ := hu
  obtain ⟨n, hn⟩ : ∃ n, n = P.length := ⟨_, rfl⟩
  have HR := Lib.hid hr
  have HN := Lib.hid hn
  rw [← hn]
  rw [← hn] at h6
  clear hr hn
  go_enter Try.func30, Try.ntmps30
  go_wp2_with fail
  go_loopg [8] n (fun g s8 wr => ∃ i : Nat, i + g = n ∧ s8 = .int .i64 (i : Int) ∧ wr = w ∧ Hid (∀ (j : Nat) (y : Int), j < i → P[j]? = some y → y ≠ x))
  case atStart => exact ⟨0, by omega, rfl, rfl, Lib.hid fun j y hj => absurd hj (by omega)⟩
  case round =>
    obtain ⟨i, hig, rfl, rfl, HS⟩ := hrel
    cases gk with
    | zero =>
      have hin : n = i := by omega
      subst hin
      have HNo := Lib.hid (show decide (x ∈ P) = false from decide_eq_false fun h => by
        obtain ⟨j, hj, h2⟩ := List.getElem_of_mem h
        exact HS.out j _ (by rw [HN.out]; exact hj) (List.getElem?_eq_getElem hj) h2)
      go_wp2_with fail
      go_ret
      exact ⟨by rw [HNo.out]; rfl, rfl⟩
    | succ g =>
      have hlt : i < n := by omega
      obtain ⟨y, hy⟩ : ∃ y, P[i]? = some y := ⟨_, List.getElem?_eq_getElem (by rw [← HN.out]; exact hlt)⟩
      obtain ⟨gx, ox, rfl, c0⟩ := HR.out i y hy
      have hlti : (i : Int) < (n : Int) := by omega
      have HY := Lib.hid hy
      clear hy
      by_cases hyx : y = x
      · have HYes := Lib.hid (show decide (x ∈ P) = true from decide_eq_true (hyx ▸ List.mem_of_getElem? HY.out))
        subst hyx
        go_wp2_with fail
        go_ret
        exact ⟨by rw [HYes.out]; rfl, rfl⟩
      · have hbn : (y == x) = false := beq_eq_false_iff_ne.2 hyx
        have HS2 := Lib.hid (show ∀ (j : Nat) (z : Int), j < i + 1 → P[j]? = some z → z ≠ x from fun j z hj hz => by
          by_cases e : j = i
          · subst e; rw [HY.out] at hz; injection hz with hz; subst hz; exact hyx
          · exact HS.out j z (by omega) hz)
        go_wp2_with fail
        go_roundg g
        case measure => omega
        case rel => exact ⟨i + 1, by omega, by go_num, rfl, HS2⟩
end Go.Proofs.Ytaaeooimalglaaa
