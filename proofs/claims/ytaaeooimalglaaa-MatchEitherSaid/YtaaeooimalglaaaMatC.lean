/-
  Layer 18 as it landed: terms that stand where none can; a copy of rows of lists. Over the program's own text.
-/
import Derived.Test.YtaaeooimalglaaaMatB
import Derived.Test.YtaaeooimalglaaaFounds
namespace Go.Proofs.Ytaaeooimalglaaa
open Go.RowKit

theorem two_vals {w : World} {u v : Value} {t : TypeId} : ∀ (j : Nat) (x : Value), [u, v][j]? = some x → (w.alloc (.cells #[u, v] t)).cell? ((⟨w.heap.size, 0, none⟩ : Addr).add j) = some x := by
  intro j x hj
  rw [Addr.add_lit, Lib.cell_of_heap (heap_alloc_new w _)]
  simpa using hj
set_option maxRecDepth 100000 in
set_option maxHeartbeats 2000000 in
theorem beyond_any (w : World) (t : Tk) : Calls Try.prog 19 #[.agg #[.int .u8 t.1, .string t.2.1, .int .i64 t.2.2]] w fun e w' => e = .returned (.bool (decide (beyondT t))) ∧ Below w.heap.size w w' := by
  have hB : decide (beyondT t) = (decide (t.2.2 < 0) || decide (65535 < t.2.2)) := by unfold beyondT; by_cases h1 : t.2.2 < 0 <;> by_cases h2 : 65535 < t.2.2 <;> simp [h1, h2]
  rw [hB]
  clear hB
  obtain ⟨f, s, p⟩ := t
  by_cases h1 : p < 0
  · have HF := Lib.hid (decide_eq_true h1)
    go_enter Try.func19, Try.ntmps19
    go_wp2_with fail
    go_ret
    exact ⟨by rw [HF.out]; rfl, below_one⟩
  · have HF := Lib.hid (decide_eq_false h1)
    go_enter Try.func19, Try.ntmps19
    go_wp2_with fail
    go_ret
    exact ⟨by rw [HF.out]; rfl, below_one⟩
/-- Some term stands where none can. -/
def anyBeyond (T : List Tk) : Bool := T.any fun t => decide (beyondT t)
theorem any_at {T : List Tk} {i : Nat} {t : Tk} (h : T[i]? = some t) (hb : beyondT t) : anyBeyond T = true := by
  unfold anyBeyond
  rw [List.any_eq_true]
  exact ⟨t, List.mem_of_getElem? h, decide_eq_true hb⟩
theorem any_none {T : List Tk} (h : ∀ (j : Nat) (t : Tk), T[j]? = some t → ¬ beyondT t) : anyBeyond T = false := by
  unfold anyBeyond
  rw [List.any_eq_false]
  intro t ht
  obtain ⟨i, hi, rfl⟩ := List.getElem_of_mem ht
  simpa using h i _ (List.getElem?_eq_getElem hi)
set_option maxRecDepth 100000 in
set_option maxHeartbeats 4000000 in
theorem index_any (W : World) (ta : Option Addr) (tc m : Nat) (T : List Tk) (hT : ReadT W ta T) (hm : m = T.length) (h6 : m ≤ 1000000) :
    Calls Try.prog 27 #[.slice ta m tc, .func (.func 19) #[] #[]] W fun e w' => ∃ k : Int, e = .returned (.int .i64 k) ∧ decide (0 ≤ k) = anyBeyond T ∧ Below W.heap.size W w' := by
  have HT := Lib.hid hT
  have HM := Lib.hid hm
  clear hT hm
  go_enter Try.func27, Try.ntmps27
  go_wp2_with fail
  go_loopg [8] m (fun g s8 wr => ∃ i : Nat, i + g = m ∧ s8 = .int .i64 (i : Int) ∧ Hid (∀ j t, j < i → T[j]? = some t → ¬ beyondT t) ∧ Hid (Below W.heap.size W wr))
  case atStart => exact ⟨0, by omega, rfl, Lib.hid fun j t hj => absurd hj (by omega), Lib.hid (Below.refl _ _)⟩
  case round =>
    obtain ⟨i, hig, rfl, HS, HB⟩ := hrel
    cases gk with
    | zero =>
      have hin : m = i := by omega
      subst hin
      have HN := Lib.hid (any_none (T := T) fun j t hj => HS.out j t (by rw [HM.out]; exact (List.getElem?_eq_some_iff.1 hj).1) hj)
      go_wp2_with fail
      go_ret
      exact ⟨-1, rfl, by rw [HN.out]; rfl, HB.out⟩
    | succ g =>
      have hlt : i < m := by omega
      obtain ⟨t, ht⟩ : ∃ t, T[i]? = some t := ⟨_, List.getElem?_eq_getElem (by rw [← HM.out]; exact hlt)⟩
      obtain ⟨gt, ot, rfl, k0, k1, k2⟩ := HT.out i t ht
      have c0 := below_cell k0 HB.out
      have c1 := below_cell k1 HB.out
      have c2 := below_cell k2 HB.out
      have HBy := Lib.hid (beyond_any wr t)
      have HTi := Lib.hid ht
      have hlti : (i : Int) < (m : Int) := by omega
      clear k0 k1 k2 ht
      obtain ⟨f, s, p⟩ := t
      by_cases hb : beyondT (f, s, p)
      · rw [decide_eq_true hb] at HBy
        have HAny := Lib.hid (any_at HTi.out hb)
        clear hb
        go_wp2_with fail
        refine HBy.out.mono ?_
        rintro e w1 ⟨rfl, hb1⟩
        have HB1 := Lib.hid (low_more HB.out hb1)
        clear hb1
        go_wp2_with fail
        go_ret
        exact ⟨i, rfl, by rw [HAny.out]; simp, HB1.out⟩
      · rw [decide_eq_false hb] at HBy
        have HS2 := Lib.hid (show ∀ j t, j < i + 1 → T[j]? = some t → ¬ beyondT t from fun j t hj htt => by
          by_cases e : j = i
          · subst e; rw [HTi.out] at htt; injection htt with htt; subst htt; exact hb
          · exact HS.out j t (by omega) htt)
        clear hb
        go_wp2_with fail
        refine HBy.out.mono ?_
        rintro e w1 ⟨rfl, hb1⟩
        have HB1 := Lib.hid (low_more HB.out hb1)
        clear hb1
        go_wp2_with fail
        go_roundg g
        case measure => omega
        case rel => exact ⟨i + 1, by omega, by go_num, HS2, HB1⟩
set_option maxRecDepth 100000 in
set_option maxHeartbeats 4000000 in
theorem contains_any (W : World) (ta : Option Addr) (tc m : Nat) (T : List Tk) (hT : ReadT W ta T) (hm : m = T.length) (h6 : m ≤ 1000000) :
    Calls Try.prog 18 #[.slice ta m tc, .func (.func 19) #[] #[]] W fun e w' => e = .returned (.bool (anyBeyond T)) ∧ Below W.heap.size W w' := by
  have HI := Lib.hid (index_any W ta tc m T hT hm h6)
  clear hT hm
  go_enter Try.func18, Try.ntmps18
  go_wp2_with fail
  refine HI.out.mono ?_
  rintro e w1 ⟨k, rfl, hk, hb1⟩
  have HK := Lib.hid hk
  have HB := Lib.hid hb1
  clear hk hb1
  go_wp2_with fail
  go_ret
  exact ⟨by rw [← HK.out]; simp, HB.out⟩
theorem info_row18 : (Try.prog.info? 42).map (fun i => (i.zero, i.size, i.bytes)) = some (some (.slice none 0 0), 1, 24) := by kernel_rfl
set_option maxRecDepth 100000 in
set_option maxHeartbeats 4000000 in
/-- A copy of rows that are there. -/
theorem clone_any (w : World) (ga go gc m : Nat) (vs : List Value) (hv : vs.length = m) (h0 : 0 < m) (h6 : m ≤ 1000000) (hc : ∀ j u, vs[j]? = some u → w.cell? ⟨ga, go + j, none⟩ = some u) (h1 : ∀ u ∈ vs, u.oneCell' = true) :
    Calls Try.prog 20 #[.slice (some ⟨ga, go, none⟩) m gc] w fun e w' => ∃ v, e = .returned v ∧ w'.ownsRow w.heap.size 42 1 v m vs ∧ Below w.heap.size w w' := by
  obtain ⟨i0, hi0, hz0, hz1, hz2⟩ := info_parts info_row18
  have HI := Lib.hid (And.intro hi0 (And.intro hz0 (And.intro hz1 hz2)))
  have hb4 := below_one (w := w) (A := .cells #[] 42)
  have HO4 := Lib.hid (show (w.alloc (.cells #[] 42)).ownsRow w.heap.size 42 1 (.slice (some ⟨w.heap.size, 0, none⟩) 0 0) 0 [] from World.ownsRow_lit (base := w.heap.size) (e := 42) (size := 1) w #[] 0 (Nat.le_refl _) (by decide) (by simp))
  have HC := Lib.hid (show ∀ j u, vs[j]? = some u → (w.alloc (.cells #[] 42)).cell? ((⟨ga, go, none⟩ : Addr).add j) = some u from fun j u hj => by rw [Addr.add_lit]; exact below_cell (hc j u hj) hb4)
  have HB4 := Lib.hid hb4
  have HV := Lib.hid (And.intro hv h1)
  have qN : ∀ w : World, (binOp .eql 23 (.slice (some ⟨ga, go, none⟩) m gc) (.slice none 0 0)).run Try.prog w = .ok (.bool false) w := fun w => rfl
  clear hi0 hz0 hz1 hz2 hb4 hc hv h1
  go_enter Try.func20, Try.ntmps20
  have HFin := Lib.hid (show ∀ (v' : Value) (w8 : World), w8.ownsRow w.heap.size 42 1 v' (0 + m) ([] ++ vs) → (w.alloc (.cells #[] 42)).grownBy w8 (Value.slice (some ⟨w.heap.size, 0, none⟩) 0 0).ownBlock → w8.ownsRow w.heap.size 42 1 v' m vs ∧ Below w.heap.size w w8 from fun v' w8 ho hgr => by
    refine ⟨by simpa using ho, HB4.out.grown hgr HB4.out.size (fun k hk => (World.ownsRow.lt HO4.out k hk).1)⟩)
  go_wp2_with (at_builtin; refine wpList_append_own _ rfl (.tmp 5) (.tmp 6) 23 rfl w.heap.size 42 i0 _ 1 24 Try.underlying23 HI.out.1 HI.out.2.1 HI.out.2.2.1 HI.out.2.2.2 rfl (by decide) (.slice (some ⟨w.heap.size, 0, none⟩) 0 0) 0 [] rfl HO4.out ⟨ga, go, none⟩ m gc vs rfl (by rw [HV.out.1, Nat.mul_one]) HC.out HV.out.2 (by unfold maxLen; omega) (by omega) (by simp) ?_; intro v' w8 ho hg _; have HR8 := Lib.hid (HFin.out v' w8 ho hg); clear ho hg)
  go_ret
  exact ⟨_, rfl, HR8.out.1, HR8.out.2⟩
end Go.Proofs.Ytaaeooimalglaaa
