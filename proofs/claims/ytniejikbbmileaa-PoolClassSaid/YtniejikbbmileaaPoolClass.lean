/-
  PROVED: the law PoolClass returns true for every configuration and every number of a cell. No condition.
-/
import Derived.Test.YtniejikbbmileaaPoolArgs
import Derived.Test.YtniejikbbmileaaPoolG
import Derived.Test.YtniejikbbmileaaPoolFixed
import Derived.Test.YtniejikbbmileaaPoolM
namespace Go.Proofs.Ytniejikbbmileaa.poolClass
open Go.ChangeShapes Go.WideShapes Go.ChangeAt Go.RowKit

theorem cls_at {B S : Nat → Int} {a : Int} {w : World} {e : Ending} {w' : World} {k : Nat} (hk : k < 4) (h : InB B S a k) (hn : ∀ j, j < k → ¬ InB B S a j) (hp : ClsPost B S a w e w') : e = .returned (.tuple #[.int .i64 k, .int .i64 ((a - B k) % slab k)]) ∧ Below w.heap.size w w' := by
  obtain ⟨hb, ⟨j, hj, hi, hm, rfl⟩ | ⟨hm, rfl⟩⟩ := hp
  · have : j = k := by
      rcases Nat.lt_trichotomy j k with hlt | heq | hlt
      · exact absurd hi (hn j hlt)
      · exact heq
      · exact absurd h (hm k hlt)
    subst this
    exact ⟨rfl, hb⟩
  · exact absurd h (hm k hk)
theorem cls_no {B S : Nat → Int} {a : Int} {w : World} {e : Ending} {w' : World} (h : ∀ j, j < 4 → ¬ InB B S a j) (hp : ClsPost B S a w e w') : e = .returned (.tuple #[.int .i64 (-1), .int .i64 0]) ∧ Below w.heap.size w w' := by
  obtain ⟨hb, ⟨j, hj, hi, hm, rfl⟩ | ⟨hm, rfl⟩⟩ := hp
  · exact absurd hi (h j hj)
  · exact ⟨rfl, hb⟩

/-- Both calls of Class answer the same. -/
theorem classes (B S : Nat → Int) (C T L a : Int) (hf : Fit B S) : ∃ K A : Int,
    ((∀ w, Calls Try.prog 16 #[.agg (planC B S C T L), .int .i64 a] w fun e w' => e = .returned (.tuple #[.int .i64 K, .int .i64 A]) ∧ Below w.heap.size w w') ∧
    (∀ w, Calls Try.prog 17 #[.agg (planC B S C T L), .int .i64 a] w fun e w' => e = .returned (.tuple #[.int .i64 K, .int .i64 A]) ∧ Below w.heap.size w w')) ∧
    (K = -1 ∨ ∃ k : Nat, k < 4 ∧ K = k ∧ A < slab k) := by
  have yes : ∀ k, k < 4 → InB B S a k → (∀ j, j < k → ¬ InB B S a j) → ∃ K A : Int,
    ((∀ w, Calls Try.prog 16 #[.agg (planC B S C T L), .int .i64 a] w fun e w' => e = .returned (.tuple #[.int .i64 K, .int .i64 A]) ∧ Below w.heap.size w w') ∧
    (∀ w, Calls Try.prog 17 #[.agg (planC B S C T L), .int .i64 a] w fun e w' => e = .returned (.tuple #[.int .i64 K, .int .i64 A]) ∧ Below w.heap.size w w')) ∧
    (K = -1 ∨ ∃ k : Nat, k < 4 ∧ K = k ∧ A < slab k) := fun k hk h hn =>
    ⟨_, _, ⟨fun w => (class_any w B S C T L a hf).mono fun _ _ hp => cls_at hk h hn hp, fun w => (ref_class_any w B S C T L a hf).mono fun _ _ hp => cls_at hk h hn hp⟩, .inr ⟨k, hk, rfl, Int.emod_lt_of_pos _ (by have := slab_lo k; omega)⟩⟩
  by_cases h0 : InB B S a 0
  · exact yes 0 (by omega) h0 (fun j hj => by omega)
  by_cases h1 : InB B S a 1
  · exact yes 1 (by omega) h1 (fun j hj => by obtain rfl : j = 0 := by omega
                                              exact h0)
  have n2 : ∀ j, j < 2 → ¬ InB B S a j := fun j hj => by
    have : j = 0 ∨ j = 1 := by omega
    rcases this with rfl | rfl <;> assumption
  by_cases h2 : InB B S a 2
  · exact yes 2 (by omega) h2 n2
  have n3 : ∀ j, j < 3 → ¬ InB B S a j := fun j hj => by
    have : j < 2 ∨ j = 2 := by omega
    rcases this with h | rfl
    · exact n2 j h
    · exact h2
  by_cases h3 : InB B S a 3
  · exact yes 3 (by omega) h3 n3
  have n4 : ∀ j, j < 4 → ¬ InB B S a j := fun j hj => by
    have : j < 3 ∨ j = 3 := by omega
    rcases this with h | rfl
    · exact n3 j h
    · exact h3
  exact ⟨_, _, ⟨fun w => (class_any w B S C T L a hf).mono fun _ _ hp => cls_no n4 hp, fun w => (ref_class_any w B S C T L a hf).mono fun _ _ hp => cls_no n4 hp⟩, .inl rfl⟩
/-- Both calls of Slab answer the same. -/
theorem slabs (a : Int) : ∃ v : Int, (∀ w, Calls Try.prog 18 #[.int .i64 a] w fun e w' => e = .returned (.int .i64 v) ∧ w = w') ∧ (∀ w, Calls Try.prog 19 #[.int .i64 a] w fun e w' => e = .returned (.int .i64 v) ∧ w = w') := by
  by_cases h : 0 ≤ a ∧ a < 4
  · obtain ⟨k, rfl⟩ := Int.eq_ofNat_of_zero_le h.1
    exact ⟨_, fun w => slab_in w k (by omega), fun w => ref_slab_in w k (by omega)⟩
  · exact ⟨_, fun w => slab_out w a (by omega), fun w => ref_slab_out w a (by omega)⟩

theorem fit_of {d t : Int} {s : Nat → Int} {bk rm : Int} (h : Lim d t s bk rm) : Fit (baseOf (szOf s bk rm)) (szOf s bk rm) :=
  ⟨fun k _ => by have := baseOf_lo h k; omega, fun k hk => by have := baseOf_hi h k; omega, fun k _ => szOf_lo h k, fun k _ => by have := szOf_hi h k; omega, s, fun k hk => ⟨h.s0 k hk, by unfold szOf; rw [if_pos hk]⟩⟩

set_option maxHeartbeats 1000000 in
theorem walk_ok (d t : Int) (s : Nat → Int) (bk rm : Int) (kf bf : Nat) (a : Int) (w : World) (h : OkConf d t s bk rm) :
    Calls Try.prog 7 #[.agg (confC d t s bk rm kf bf), .int .i64 a] w fun e w' => e = .returned (.bool true) ∧ Below w.heap.size w w' := by
  have key : ∃ (B S : Nat → Int) (C T L : Int), Fit B S ∧
      (∀ w, Calls Try.prog 10 #[.agg (confC d t s bk rm kf bf)] w fun e w' => e = .returned (.tuple #[.agg (planC B S C T L), .int .i64 0]) ∧ Below w.heap.size w w') :=
    ⟨_, _, _, _, _, fit_of h.1, fun w => ref_lay_ok w d t s bk rm kf bf h⟩
  obtain ⟨B, S, C, T, L, hf, hlay⟩ := key
  obtain ⟨K, A, ⟨hc1, hc2⟩, hKA⟩ := classes B S C T L a hf
  obtain ⟨v, hs1, hs2⟩ := slabs a
  have HL := Lib.hid hlay
  have H1 := Lib.hid hc1
  have H2 := Lib.hid hc2
  have S1 := Lib.hid hs1
  have S2 := Lib.hid hs2
  have HK := Lib.hid hKA
  clear hlay hc1 hc2 hs1 hs2 hf h hKA
  go_enter Try.func7, Try.ntmps7
  go_wp2_with (first
    | (refine wpList_load_row rfl 25 (.tmp 2) rfl w.heap.size rfl 25 (confC d t s bk rm kf bf) (0, 0) _ (heap_alloc_new w _) Try.underlying25 rfl (by kernel_rfl) ?_)
    | fail)
  refine (HL.out _).mono ?_; rintro e w1 ⟨rfl, hb1⟩
  have hB : Below w.heap.size w w1 := below_one.trans (hb1.mono (by simp))
  go_upto_region 4 with (first
    | (refine wpList_store_row rfl 28 (.tmp 5) (.tmp 14) rfl w1.heap.size (planC B S C T L) rfl rfl 28 (planC (fun _ => 0) (fun _ => 0) 0 0 0) (heap_alloc_new w1 _) (planC_info _ _ _ _ _) rfl (planC_one _ _ _ _ _) ?_)
    | fail)
  obtain ⟨w2, hw2⟩ : ∃ w2, w2 = (w1.alloc (.cells (planC (fun _ => 0) (fun _ => 0) 0 0 0) 28)).setRow w1.heap.size (planC B S C T L) := ⟨_, rfl⟩
  rw [show (w1.alloc (.cells #[.int .i64 0, .int .i64 0, .int .i64 0, .int .i64 0, .int .i64 0, .int .i64 0, .int .i64 0, .int .i64 0, .int .i64 0, .int .i64 0, .int .i64 0, .int .i64 0, .int .i64 0, .int .i64 0, .int .i64 0] 28)).setRow w1.heap.size (planC B S C T L) = w2 from hw2.symm]
  have g2 : w2.heap[w1.heap.size]? = some (.cells (planC B S C T L) 28 (0, 0)) := by rw [hw2]; exact setRow_heap _ _ _ _ _ _ (heap_alloc_new w1 _)
  have hB2 : Below w.heap.size w w2 := by rw [hw2]; exact below_setRow (hB.alloc hB.size _) hB.size _
  obtain ⟨p, hp⟩ : ∃ p, p = w1.heap.size := ⟨_, rfl⟩
  rw [← hp] at g2 ⊢
  have G2 := Lib.hid g2
  have HB := Lib.hid hB2
  clear hw2 hb1 hp g2 hB hB2
  go_wp2_with (first
    | (refine wpList_load_row rfl 28 (.tmp 5) rfl p rfl 28 (planC B S C T L) (0, 0) _ G2.out Try.underlying28 rfl (planC_info _ _ _ _ _) ?_)
    | fail)
  refine (H1.out _).mono ?_; rintro e w3 ⟨rfl, hb3⟩
  have G2 := Lib.hid ((hb3.block _ (lt_of_heap G2.out)).trans G2.out)
  have HB := Lib.hid (HB.out.trans (hb3.mono HB.out.size))
  clear hb3
  go_wp2_with (first
    | (refine wpList_load_row rfl 28 (.tmp 5) rfl p rfl 28 (planC B S C T L) (0, 0) _ G2.out Try.underlying28 rfl (planC_info _ _ _ _ _) ?_)
    | fail)
  refine (H2.out _).mono ?_; rintro e w4 ⟨rfl, hb4⟩
  have HB := Lib.hid (HB.out.trans (hb4.mono HB.out.size))
  clear hb4
  rcases HK.out with rfl | ⟨k, hk, rfl, hA⟩
  · go_wp2_with fail
    refine (fixed_any _).mono ?_; rintro e w5 ⟨rfl, hb5⟩
    have HB := Lib.hid (HB.out.trans (hb5.mono HB.out.size))
    clear hb5
    go_wp2_with fail
    refine (S1.out _).mono ?_; rintro e w6 ⟨rfl, rfl⟩
    go_wp2_with fail
    refine (S2.out _).mono ?_; rintro e w7 ⟨rfl, rfl⟩
    go_wp2_with fail
    go_ret
    exact ⟨rfl, HB.out⟩
  · go_wp2_with fail
    refine (fixed_any _).mono ?_; rintro e w5 ⟨rfl, hb5⟩
    have HB := Lib.hid (HB.out.trans (hb5.mono HB.out.size))
    have d0 : decide ((k : Int) < 0) = false := decide_eq_false (by omega)
    have d1 : decide (A < slab k) = true := decide_eq_true hA
    clear hb5
    go_wp2_with fail
    refine (slab_in _ k hk).mono ?_; rintro e w6 ⟨rfl, rfl⟩
    go_wp2_with fail
    refine (S1.out _).mono ?_; rintro e w6 ⟨rfl, rfl⟩
    go_wp2_with fail
    refine (S2.out _).mono ?_; rintro e w7 ⟨rfl, rfl⟩
    go_wp2_with fail
    go_ret
    exact ⟨rfl, HB.out⟩

set_option maxHeartbeats 1000000 in
theorem walk_bad (d t : Int) (s : Nat → Int) (bk rm : Int) (kf bf : Nat) (a : Int) (w : World) (h : ¬ OkConf d t s bk rm) :
    Calls Try.prog 7 #[.agg (confC d t s bk rm kf bf), .int .i64 a] w fun e w' => e = .returned (.bool true) ∧ Below w.heap.size w w' := by
  have HL := Lib.hid (fun w => ref_lay_bad w d t s bk rm kf bf h)
  clear h
  go_enter Try.func7, Try.ntmps7
  go_wp2_with (first
    | (refine wpList_load_row rfl 25 (.tmp 2) rfl w.heap.size rfl 25 (confC d t s bk rm kf bf) (0, 0) _ (heap_alloc_new w _) Try.underlying25 rfl (by kernel_rfl) ?_)
    | fail)
  refine (HL.out _).mono ?_; rintro e w1 ⟨rfl, hb1⟩
  have HB := Lib.hid (show Below w.heap.size w w1 from below_one.trans (hb1.mono (by simp)))
  clear hb1
  go_wp2_with (first
    | (refine wpList_store_row rfl 28 (.tmp 5) (.tmp 14) rfl w1.heap.size (planC (fun _ => 0) (fun _ => 0) 0 0 0) rfl rfl 28 (planC (fun _ => 0) (fun _ => 0) 0 0 0) (heap_alloc_new w1 _) (planC_info _ _ _ _ _) rfl (planC_one _ _ _ _ _) ?_)
    | fail)
  have HB := Lib.hid (below_setRow (HB.out.alloc HB.out.size (.cells (planC (fun _ => 0) (fun _ => 0) 0 0 0) 28)) HB.out.size (planC (fun _ => 0) (fun _ => 0) 0 0 0))
  refine (fixed_any _).mono ?_; rintro e w2 ⟨rfl, hb2⟩
  have HB := Lib.hid (HB.out.trans (hb2.mono HB.out.size))
  clear hb2
  go_wp2_with fail
  go_ret
  exact ⟨rfl, HB.out⟩

theorem walk_all (d t : Int) (s : Nat → Int) (bk rm : Int) (kf bf : Nat) (a : Int) (w : World) :
    Calls Try.prog 7 #[.agg (confC d t s bk rm kf bf), .int .i64 a] w fun e w' => e = .returned (.bool true) ∧ Below w.heap.size w w' := by
  by_cases h : OkConf d t s bk rm
  · exact walk_ok d t s bk rm kf bf a w h
  · exact walk_bad d t s bk rm kf bf a w h

set_option linter.unusedVariables false in
theorem walk {H : Type} {enc : TypeId × Value → H} (W : World) (args : Array Value) (ds : List (DataW H)) (hin : ArgsIn enc Try.prog Try.f7.params.toList W args ds) :
    Calls Try.prog 7 args W fun e W' => e = .returned (.bool true) ∧ Below W.heap.size W W' := by
  obtain ⟨⟨p, hA, hlt⟩, ⟨base, hval⟩, hsz⟩ := hin
  rw [Try.params7] at hA hval hsz
  obtain ⟨v0, vs0, d0, ds0, p0, q0, hargs, rfl, rfl, h0, r0⟩ := trodAll_cons hA
  obtain ⟨v1, vs1, d1, ds1, p1, q1, rfl, rfl, rfl, h1, r1⟩ := trodAll_cons r0
  obtain ⟨rfl, rfl, rfl⟩ := trodAll_nil r1
  obtain rfl : args = #[v0, v1] := by cases args; simp_all
  obtain ⟨d,t,s,bk,rm,kf,bf,rfl,hs⟩ := open_conf (hval 0 25 v0 rfl rfl) h0
  obtain ⟨a1, rfl, rfl, rfl, w1⟩ := open_int Try.underlying3 (hval 1 3 v1 rfl rfl) h1
  exact walk_all d t s bk rm kf bf a1 W

set_option maxRecDepth 100000 in
theorem proved : Rows.PoolClassSaid :=
  OpenClaim.holds_of_wide 7 Try.f7 rfl rfl rfl rfl rfl rfl rfl ⟨rfl, rfl, rfl, rfl, rfl⟩ rfl rfl rfl rfl rfl (by kernel_rfl) Try.func7 (by kernel_rfl)
    (of_decide_eq_true (by kernel_rfl)) (by unfold Func.isWrapper; first | (rw [if_pos (by decide +kernel)]; kernel_rfl) | (rw [if_neg (by decide +kernel)]; exact ⟨rfl, rfl⟩))
    (fun os started H enc _ => law_lifted (s := Rows.poolClassSpec) own started (by kernel_rfl) Try.func7 laidOut (by kernel_rfl) (by kernel_rfl) Try.underlying4 rfl
      (ChangeSpec.witness6 (enc := enc) (C := Try.checked) false ⟨#[], #[.agg #[.int .i64 0, .int .i64 0, .int .i64 0, .int .i64 0, .int .i64 0, .int .i64 0, .int .i64 0, .int .i64 0, .float .f64 0, .float .f64 0], .int .i64 0], []⟩ 8 (by kernel_rfl) (by kernel_rfl) (by kernel_rfl) (by kernel_rfl))
      (fun ds h => match ds, h with | [_, _], _ => rfl) walk)
#print axioms proved
end Go.Proofs.Ytniejikbbmileaa.poolClass
