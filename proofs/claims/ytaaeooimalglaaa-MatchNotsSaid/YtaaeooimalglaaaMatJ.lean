/-
  Layer 18's statements: may terms and lists be gone through. Over the program's own text.
-/
import Derived.Test.YtaaeooimalglaaaMatI
import Derived.Test.YtaaeooimalglaaaBlkRefA
namespace Go.Proofs.Ytaaeooimalglaaa
open Go.RowKit

/-- It answers yes or no; yes only where it may. -/
structure BoolDone (P : Prop) (W : World) (e : Ending) (w' : World) : Prop where
  has : ∃ b : Bool, e = .returned (.bool b) ∧ (b = true → P)
  low : Below W.heap.size W w'
def RightOk (m k : Nat) (L : List (List En)) : Prop := m ≤ 20 ∧ k ≤ 20 ∧ ∀ l ∈ L, MayE l
set_option maxRecDepth 100000 in
set_option maxHeartbeats 8000000 in
theorem right_any (W : World) (ta la : Option Addr) (tc lc m k : Nat) (L : List (List En)) (hL : ReadEs W la L) (hk : k = L.length) :
    Calls Try.prog 8 #[.slice ta m tc, .slice la k lc] W fun e w' => BoolDone (RightOk m k L) W e w' := by
  by_cases h1 : 20 < m
  · have h1i : (20 : Int) < (m : Int) := by omega
    clear hL
    go_enter Try.func8, Try.ntmps8
    go_wp2_with fail
    go_ret
    exact ⟨⟨false, rfl, fun h => by cases h⟩, Below.refl _ _⟩
  have h1i : ¬ (20 : Int) < (m : Int) := by omega
  by_cases h2 : 20 < k
  · have h2i : (20 : Int) < (k : Int) := by omega
    clear hL
    go_enter Try.func8, Try.ntmps8
    go_wp2_with fail
    go_ret
    exact ⟨⟨false, rfl, fun h => by cases h⟩, Below.refl _ _⟩
  have h2i : ¬ (20 : Int) < (k : Int) := by omega
  have HL := Lib.hid hL
  have HK := Lib.hid hk
  clear hL hk
  go_enter Try.func8, Try.ntmps8
  go_wp2_with fail
  go_loopg [5, 20] k (fun g s5 s20 wr => ∃ (i : Nat) (n : Int), i + g = k ∧ s20 = .int .i64 (i : Int) ∧ s5 = .int .i64 n ∧ 0 ≤ n ∧ n ≤ 1000 ∧ Hid (∀ (j : Nat) (l : List En), j < i → L[j]? = some l → MayE l) ∧ Hid (Below W.heap.size W wr))
  case atStart => exact ⟨0, 0, by omega, rfl, rfl, by omega, by omega, Lib.hid fun j l hj => absurd hj (by omega), Lib.hid (Below.refl _ _)⟩
  case round =>
    obtain ⟨i, n, hig, rfl, rfl, hn0, hn1, HS, HB⟩ := hrel
    cases gk with
    | zero =>
      have hik : k = i := by omega
      have HAll := Lib.hid (show ∀ l ∈ L, MayE l from fun l hl => by
        obtain ⟨j, hj, rfl⟩ := List.getElem_of_mem hl
        exact HS.out j _ (by rw [← hik, HK.out]; exact hj) (List.getElem?_eq_getElem hj))
      go_wp2_with fail
      go_ret
      exact ⟨⟨true, rfl, fun _ => ⟨by omega, by omega, HAll.out⟩⟩, HB.out⟩
    | succ g =>
      have hlt : i < k := by omega
      obtain ⟨l, hl⟩ : ∃ l, L[i]? = some l := ⟨_, List.getElem?_eq_getElem (by rw [← HK.out]; exact hlt)⟩
      obtain ⟨g0, o0, rfl, p, k0, pa, pc, rfl, hp1, hp2, _, hre⟩ := HL.out i l hl
      have c0 := below_cell k0 HB.out
      have hlti : (i : Int) < (k : Int) := by omega
      have HLi := Lib.hid hl
      obtain ⟨N, hN⟩ : ∃ N, N = l.length := ⟨_, rfl⟩
      have HN := Lib.hid hN
      have HE := Lib.hid hre
      rw [← hN] at c0
      clear k0 hl hp1 hp2 hre hN
      by_cases h64 : 64 < N
      · have h64i : (64 : Int) < (N : Int) := by omega
        go_wp2_with fail
        go_ret
        exact ⟨⟨false, rfl, fun h => by cases h⟩, HB.out⟩
      · have h64i : ¬ (64 : Int) < (N : Int) := by omega
        have HMy := Lib.hid (ref_may13 wr pa pc N l HN.out.symm (HE.out.below HB.out) (by omega))
        cases hb : mayB l with
        | false =>
          rw [hb] at HMy
          go_wp2_with fail
          refine HMy.out.mono ?_
          rintro e w2 ⟨rfl, hb2⟩
          have HB2 := Lib.hid (low_more HB.out hb2)
          clear hb2
          go_wp2_with fail
          go_ret
          exact ⟨⟨false, rfl, fun h => by cases h⟩, HB2.out⟩
        | true =>
          have hmay : MayE l := of_decide_eq_true hb
          have HMay := Lib.hid hmay
          have HS2 := Lib.hid (show ∀ (j : Nat) (x : List En), j < i + 1 → L[j]? = some x → MayE x from fun j x hj hx => by
            by_cases e : j = i
            · subst e; rw [HLi.out] at hx; injection hx with hx; subst hx; exact hmay
            · exact HS.out j x (by omega) hx)
          rw [hb] at HMy
          clear hb hmay
          go_wp2_with fail
          refine HMy.out.mono ?_
          rintro e w2 ⟨rfl, hb2⟩
          have HB2 := Lib.hid (low_more HB.out hb2)
          clear hb2 c0 HMy
          go_wp2_with fail
          go_loopg [5, 34] N (fun g2 s5 s34 wy => ∃ (j : Nat) (n2 : Int), j + g2 = N ∧ s34 = .int .i64 (j : Int) ∧ s5 = .int .i64 n2 ∧ 0 ≤ n2 ∧ n2 ≤ 1000 + 256 * (j : Int) ∧ Hid (Below W.heap.size W wy))
          case atStart => exact ⟨0, n, by omega, rfl, rfl, by omega, by omega, HB2⟩
          case round =>
            clear HB2 HB
            obtain ⟨j, n2, hjg, rfl, rfl, hm0, hm1, HB⟩ := hrel
            cases gk with
            | zero =>
              by_cases hbig : 1000 < n2
              · go_wp2_with fail
                go_ret
                exact ⟨⟨false, rfl, fun h => by cases h⟩, HB.out⟩
              · go_wp2_with fail
                go_roundg g
                case measure => omega
                case rel => exact ⟨i + 1, n2, by omega, by go_num, rfl, by omega, by omega, HS2, HB⟩
            | succ g2 =>
              have hltj : j < N := by omega
              obtain ⟨e, he⟩ : ∃ e, l[j]? = some e := ⟨_, List.getElem?_eq_getElem (by rw [← HN.out]; exact hltj)⟩
              obtain ⟨ge, oe, rfl, q0, q, q1, qa, qc, rfl, _⟩ := HE.out j e he
              have hle := (may_mem HMay.out (List.mem_of_getElem? he)).2.2.2.1
              have d0 := below_cell q0 HB.out
              have d1 := below_cell q1 HB.out
              have HBn := Lib.hid (low_more HB.out (below_one (A := .cells #[.int .i64 e.1, .slice qa e.2.length qc] 46)))
              obtain ⟨dd, hdd⟩ : ∃ dd, dd = e.1 := ⟨_, rfl⟩
              obtain ⟨pn, hpn⟩ : ∃ pn, pn = e.2.length := ⟨_, rfl⟩
              rw [← hdd] at d0 HBn
              rw [← hpn] at d1 hle HBn
              have hltji : (j : Int) < (N : Int) := by omega
              clear q0 q1 he hdd hpn
              go_wp2_with fail
              go_roundg g2
              case measure => omega
              case rel => exact ⟨j + 1, n2 + (pn : Int), by omega, by go_num, by go_num, by omega, by omega, HBn⟩
end Go.Proofs.Ytaaeooimalglaaa
