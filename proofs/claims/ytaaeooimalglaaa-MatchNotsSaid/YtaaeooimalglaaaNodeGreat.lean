/-
  A tree that isn't too great: what the reference of layer 17 says of it. Over the program's own text.
-/
import Derived.Test.YtaaeooimalglaaaNodeFew
import Derived.Deep.LoopGhost
namespace Go.Proofs.Ytaaeooimalglaaa
open Go.RowKit

theorem lowT {a b c : World} (h : Below a.heap.size a b) (k : Below b.heap.size b c) : Below a.heap.size a c := h.trans (k.mono h.size)
theorem blkT {p : Nat} {v : Obj} {w w' : World} (h : w.heap[p]? = some v) (hb : Below w.heap.size w w') : w'.heap[p]? = some v := (hb.block _ (lt_of_heap h)).trans h
theorem hb_cell {w w' : World} {a : Addr} {v : Value} (hb : Below w.heap.size w w') (h : w.cell? a = some v) : w'.cell? a = some v := below_cell h hb
/-- What a machine has room for. -/
inductive ReachN : Nd → Prop
  | mk {k f : Int} {ts : List Tk} {ks : List Nd} (ht : ts.length ≤ 140737488351232) (hs : ∀ t ∈ ts, t.2.1.size ≤ 140737488351232) (hk : ks.length ≤ 140737488351232) (h : ∀ x ∈ ks, ReachN x) : ReachN (.mk k f ts ks)
set_option maxRecDepth 100000 in
set_option maxHeartbeats 8000000 in
theorem weight_any : ∀ (x : Nd), ReachN x → ∀ (w : World) (S : Nat → Prop) (r : Rn) (d s : Int), RdN w S x r → 0 ≤ d → d ≤ 400 → 0 ≤ s → s < 3000 →
    Calls Try.prog 24 #[rnV r, .int .i64 d, .int .i64 s] w fun e w' => ∃ v : Int, e = .returned (.int .i64 v) ∧ v ≤ 3000 ∧ s < v ∧ (v < 3000 → FewN x) ∧ Below w.heap.size w w' := by
  refine Nd.ind2 fun k f ts ks ih hre w S r d s h hd0 hd1 hs0 hs1 => ?_
  cases h with
  | @mk _ _ _ _ ta ka tc kc rs hf0 hf1 ht htl htm htb hk hkl hkm hkb hl hr =>
  cases hre with
  | mk hrt hrs hrk hrx =>
  obtain ⟨m, hm⟩ : ∃ m, m = ks.length := ⟨_, rfl⟩
  obtain ⟨n, hn⟩ : ∃ n, n = ts.length := ⟨_, rfl⟩
  have HM := Lib.hid (And.intro hm hn)
  have HIh := Lib.hid (fun (i : Nat) x r (h1 : ks[i]? = some x) (h2 : rs[i]? = some r) (wx : World) (hb : Below w.heap.size w wx) => ih x (List.mem_of_getElem? h1) (hrx x (List.mem_of_getElem? h1)) wx S r (d - 1))
  have HK := Lib.hid (And.intro hk (And.intro hl (And.intro hr (And.intro ht hrs))))
  rw [← hm] at hrk
  rw [← hn] at hrt
  rw [← hm, ← hn, show rnV (k, f, .slice ta n tc, .slice ka m kc) = .agg #[.int .i64 k, .int .u8 f, .slice ta n tc, .slice ka m kc] from rfl]
  obtain ⟨X, hX⟩ : ∃ X : Obj, X = .cells #[.int .i64 k, .int .u8 f, .slice ta n tc, .slice ka m kc] 31 := ⟨_, rfl⟩
  have hx1 : (w.alloc X).heap[w.heap.size]? = some (.cells #[.int .i64 k, .int .u8 f, .slice ta n tc, .slice ka m kc] 31 (0, 0)) := by rw [heap_alloc_new w X, hX]
  have HB1 := Lib.hid (And.intro (below_one (w := w) (A := X)) hx1)
  have c2 := cell_at hx1 2
  have c3 := cell_at hx1 3
  simp only [List.getElem?_toArray, List.getElem?_cons_zero, List.getElem?_cons_succ] at c2 c3
  clear hm hn ih hf0 hf1 ht htl htm htb hk hkl hkm hkb hl hr hrs hrx hx1
  go_enter Try.func24, Try.ntmps24
  go_upto_region 1 with fail
  rw [← hX]
  clear hX
  generalize w.alloc X = w1 at HB1 c2 c3 ⊢
  by_cases hd : d = 0
  · subst hd
    go_wp2_with fail
    go_ret
    exact ⟨3000, rfl, by omega, hs1, fun h => absurd h (by omega), HB1.out.1⟩
  have hdb : (d == 0) = false := beq_eq_false_iff_ne.2 hd
  by_cases hs2 : 3000 ≤ s + (1 + (n : Int))
  · go_wp2_with fail
    go_ret
    exact ⟨3000, rfl, by omega, hs1, fun h => absurd h (by omega), HB1.out.1⟩
  have hs3 : s + (1 + (n : Int)) < 3000 := by omega
  go_wp2_with fail
  clear c2 c3
  go_loopg [2, 24] n (fun g s2 s24 wr => ∃ (i : Nat) (q : Int), i + g = n ∧ s24 = .int .i64 (i : Int) ∧ s2 = .int .i64 q ∧ s + (1 + (n : Int)) ≤ q ∧ q < 3000 ∧ wr = w1)
  case atStart => exact ⟨0, _, by omega, rfl, rfl, by omega, by omega, rfl⟩
  case round =>
    obtain ⟨i, q, hig, rfl, rfl, hq0, hq1, rfl⟩ := hrel
    have c2 := cell_at HB1.out.2 2
    have c3 := cell_at HB1.out.2 3
    simp only [List.getElem?_toArray, List.getElem?_cons_zero, List.getElem?_cons_succ] at c2 c3
    cases gk with
    | succ g =>
      have hlt : i < n := by omega
      obtain ⟨t, ht⟩ : ∃ t, ts[i]? = some t := ⟨_, List.getElem?_eq_getElem (by rw [← HM.out.2]; exact hlt)⟩
      obtain ⟨gt, ot, rfl, _, k1, _⟩ := HK.out.2.2.2.1 i t ht
      have hsz := HK.out.2.2.2.2 t (List.mem_of_getElem? ht)
      have d1 := hb_cell HB1.out.1 k1
      have hlti : (i : Int) < (n : Int) := by omega
      obtain ⟨str, hstr⟩ : ∃ str, str = t.2.1 := ⟨_, rfl⟩
      rw [← hstr] at d1 hsz
      clear k1 ht hstr
      by_cases hbig : 3000 ≤ q + (str.size : Int)
      · go_wp2_with fail
        go_ret
        exact ⟨3000, rfl, by omega, hs1, fun h => absurd h (by omega), HB1.out.1⟩
      · go_wp2_with fail
        go_roundg g
        case measure => omega
        case rel => exact ⟨i + 1, q + (str.size : Int), by omega, by go_num, rfl, by omega, by omega, rfl⟩
    | zero =>
      have hin : n = i := by omega
      subst hin
      go_wp2_with fail
      clear c2 c3
      go_loopg [2, 42] m (fun g s2 s42 wy => ∃ (j : Nat) (q2 : Int), j + g = m ∧ s42 = .int .i64 (j : Int) ∧ s2 = .int .i64 q2 ∧ s + (1 + (n : Int)) + (j : Int) ≤ q2 ∧ q2 < 3000 ∧ Hid (∀ (a : Nat) (x : Nd), a < j → ks[a]? = some x → FewN x) ∧ Hid (Below wr.heap.size wr wy))
      case atStart => exact ⟨0, q, by omega, rfl, rfl, by omega, by omega, Lib.hid fun a x ha => absurd ha (by omega), Lib.hid (Below.refl _ _)⟩
      case round =>
        obtain ⟨j, q2, hjg, rfl, rfl, hp0, hp1, HF, HB⟩ := hrel
        cases gk with
        | zero =>
          have HFin := Lib.hid (show FewN (.mk k f ts ks) from .mk (by rw [← HM.out.2]; omega) (by rw [← HM.out.1]; omega) (fun x hx => by
            obtain ⟨a, ha, rfl⟩ := List.getElem_of_mem hx
            exact HF.out a _ (by have := HM.out.1; omega) (List.getElem?_eq_getElem ha)))
          go_wp2_with fail
          go_ret
          exact ⟨q2, rfl, by omega, by omega, fun _ => HFin.out, lowT HB1.out.1 HB.out⟩
        | succ g =>
          have hlt : j < m := by omega
          obtain ⟨x, hx⟩ : ∃ x, ks[j]? = some x := ⟨_, List.getElem?_eq_getElem (by rw [← HM.out.1]; exact hlt)⟩
          obtain ⟨rj, hrj⟩ : ∃ rj, rs[j]? = some rj := ⟨_, List.getElem?_eq_getElem (by rw [HK.out.2.1, ← HM.out.1]; exact hlt)⟩
          obtain ⟨gj, oj, rfl, hcj⟩ := HK.out.1 j rj hrj
          have hrd := HK.out.2.2.1 j x rj hx hrj
          have hbw := lowT HB1.out.1 HB.out
          have HI := Lib.hid (show ∀ q : Int, 0 ≤ q → q < 3000 → Calls Try.prog 24 #[rnV rj, .int .i64 (d - 1), .int .i64 q] wr fun e w' => ∃ v : Int, e = .returned (.int .i64 v) ∧ v ≤ 3000 ∧ q < v ∧ (v < 3000 → FewN x) ∧ Below wr.heap.size wr w' from fun q h1 h2 => HIh.out j x rj hx hrj wr hbw q (hrd.after hbw) (by omega) (by omega) h1 h2)
          obtain ⟨k5, f5, tv5, kv5⟩ := rj
          obtain ⟨ta5, tn5, tc5, ka5, kn5, kc5, rfl, rfl⟩ := hrd.slices
          rw [show rnV (k5, f5, .slice ta5 tn5 tc5, .slice ka5 kn5 kc5) = .agg #[.int .i64 k5, .int .u8 f5, .slice ta5 tn5 tc5, .slice ka5 kn5 kc5] from rfl] at HI
          have e0 := hb_cell hbw (hcj 0 _ rfl)
          have e1 := hb_cell hbw (hcj 1 _ rfl)
          have e2 := hb_cell hbw (hcj 2 _ rfl)
          have e3 := hb_cell hbw (hcj 3 _ rfl)
          rw [Nat.add_zero] at e0
          have c3 := cell_at (blkT HB1.out.2 HB.out) 3
          simp only [List.getElem?_toArray, List.getElem?_cons_zero, List.getElem?_cons_succ] at c3
          have hltj : (j : Int) < (m : Int) := by omega
          have HX := Lib.hid hx
          clear hx hrj hcj hrd hbw
          go_wp2_with fail
          refine (HI.out q2 (by omega) hp1).mono ?_
          rintro e w6 ⟨v, rfl, hv0, hv1, hv2, hb6⟩
          have HV := Lib.hid (show v < 3000 → ∀ (a : Nat) (y : Nd), a < j + 1 → ks[a]? = some y → FewN y from fun h a y ha hy => by
            by_cases e : a = j
            · subst e; rw [HX.out] at hy; injection hy with hy; subst hy; exact hv2 h
            · exact HF.out a y (by omega) hy)
          have HB6 := Lib.hid (lowT HB.out hb6)
          clear hv2 hb6 c3 e0 e1 e2 e3
          by_cases hbig : 3000 ≤ v
          · go_wp2_with fail
            go_ret
            exact ⟨3000, rfl, by omega, hs1, fun h => absurd h (by omega), lowT HB1.out.1 HB6.out⟩
          · have HVn := Lib.hid (HV.out (by omega))
            go_wp2_with fail
            go_roundg g
            case measure => omega
            case rel => exact ⟨j + 1, v, by omega, by go_num, rfl, by omega, by omega, HVn, HB6⟩
/-- It answers yes or no; no only of a tree that can be gone through. -/
structure GreatDone (x : Nd) (w : World) (e : Ending) (w' : World) : Prop where
  has : ∃ b : Bool, e = .returned (.bool b) ∧ (b = false → FewN x)
  low : Below w.heap.size w w'
set_option maxRecDepth 100000 in
set_option maxHeartbeats 4000000 in
theorem great_any (w : World) (S : Nat → Prop) (x : Nd) (r : Rn) (h : RdN w S x r) (hre : ReachN x) :
    Calls Try.prog 13 #[rnV r] w fun e w' => GreatDone x w e w' := by
  have HW := Lib.hid (fun wx (hb : Below w.heap.size w wx) => weight_any x hre wx S r 400 0 (h.after hb) (by decide) (by decide) (by decide) (by decide))
  obtain ⟨k, f, tv, kv⟩ := r
  obtain ⟨ta, tn, tc, ka, kn, kc, rfl, rfl⟩ := h.slices
  clear h
  rw [show rnV (k, f, .slice ta tn tc, .slice ka kn kc) = .agg #[.int .i64 k, .int .u8 f, .slice ta tn tc, .slice ka kn kc] from rfl] at HW ⊢
  go_enter Try.func13, Try.ntmps13
  go_wp2_with fail
  refine (HW.out _ below_one).mono ?_
  rintro e w1 ⟨v, rfl, _, _, hv, hb⟩
  have HV := Lib.hid (And.intro hv (lowT below_one hb))
  clear hv hb
  go_wp2_with fail
  go_ret
  exact ⟨⟨decide (3000 ≤ v), rfl, fun h => HV.out.1 (by simpa using h)⟩, HV.out.2⟩
end Go.Proofs.Ytaaeooimalglaaa
