/-
  PROVED: the law PoolApart returns true for every configuration and every list of wants. No condition.
-/
import Derived.Test.YtniejikbbmileaaPoolArgs
import Derived.Test.YtniejikbbmileaaPoolWants
import Derived.Test.YtniejikbbmileaaPoolFixed
import Derived.Maps.OwnOps
import Derived.Maps.Views
namespace Go.Proofs.Ytniejikbbmileaa.poolApart
open Go.ChangeShapes Go.WideShapes Go.ChangeAt Go.RowKit Go.Maps

theorem law3 : Keyed Try.prog 3 := int_keyed Try.underlying3
theorem zero3 (w : World) : (zeroValue 3).run Try.prog w = .ok (.int .i64 0) w := by kernel_rfl
theorem wf_i64 {x : Int} (h0 : -9223372036854775808 ≤ x) (h1 : x ≤ 9223372036854775807) : (Lit.int .i64 x).wf = true := by
  simp [Lit.wf, IntKind.min, IntKind.max, IntKind.signed, IntKind.bits]; omega

/-- A map of the call's own, as it reads. -/
def MapAt (w : World) (m N : Nat) (D : DataW Unit) : Prop := w.ownsMap Try.prog 3 (plainElem (H := Unit) Try.prog 3) m N D
theorem MapAt.lt {w : World} {m N : Nat} {D : DataW Unit} (h : MapAt w m N D) : m < w.heap.size := World.ownsMap.lt h
theorem MapAt.block {w w' : World} {m N : Nat} {D : DataW Unit} (h : MapAt w m N D) (hb : w'.heap[m]? = w.heap[m]?) : MapAt w' m N D := by
  obtain ⟨es, clock, h1, h2⟩ := h
  exact ⟨es, clock, hb.trans h1, h2⟩
theorem MapAt.below {w w' : World} {m N : Nat} {D : DataW Unit} (h : MapAt w m N D) (hb : Below w.heap.size w w') : MapAt w' m N D := h.block (hb.block m h.lt)

theorem zero_tests {D : DataW Unit} {l : Lit} {c : Int} (h : D.atKey l (.lit (.int .i64 0)) = .lit (.int .i64 c)) (h0 : D.atKey l (.lit (.int .i64 0)) = .lit (.int .i64 0)) : (c == 0) = true ∧ (c != 0) = false := by
  have e := h.symm.trans h0
  have : c = 0 := by simpa using e
  subst this
  exact ⟨rfl, rfl⟩

/-- What was not taken has no owner. -/
def Free (B U : Nat → Int) (D : DataW Unit) : Prop := ∀ x : Int, (∀ k, k < 6 → ¬ (B k ≤ x ∧ x < B k + U k)) → D.atKey (.int .i64 x) (.lit (.int .i64 0)) = .lit (.int .i64 0)

/-- Bounds of a plan, and that its pools lie one behind the other. -/
structure Plan6 (B S : Nat → Int) (C : Int) : Prop where
  b0 : ∀ k, k < 6 → 3 ≤ B k
  s0 : ∀ k, k < 6 → 0 ≤ S k
  step : ∀ j k, j < k → k < 6 → B j + S j ≤ B k
  last : ∀ k, k < 6 → B k + S k ≤ C
  c1 : C ≤ 65536
theorem base_step {S : Nat → Int} (h : ∀ k, 0 ≤ S k) (j : Nat) : ∀ k, j < k → baseOf S j + S j ≤ baseOf S k
  | 0, h0 => by omega
  | k + 1, h0 => by
    simp only [baseOf]
    by_cases e : j = k
    · subst e; omega
    · have := base_step h j k (by omega)
      have := h k
      omega
theorem plan6_of {d t : Int} {s : Nat → Int} {bk rm : Int} (h : OkConf d t s bk rm) : Plan6 (baseOf (szOf s bk rm)) (szOf s bk rm) (baseOf (szOf s bk rm) 6) :=
  ⟨fun k _ => baseOf_lo h.1 k, fun k _ => szOf_lo h.1 k, fun j k hj _ => base_step (szOf_lo h.1) j k hj, fun k hk => base_step (szOf_lo h.1) k 6 hk, h.2⟩

/-- What Take answers, whatever it is asked. -/
theorem takes (B S U : Nat → Int) (C T L k n : Int) (hf : Plan6 B S C) (hU : ∀ j, j < 6 → 0 ≤ U j ∧ U j ≤ S j) :
    (∃ E : Int, E ≠ 0 ∧ ∀ w, Calls Try.prog 12 #[.agg (planC B S C T L), .agg (six U), .int .i64 k, .int .i64 n] w fun e w' => e = .returned (.tuple #[.int .i64 0, .agg (six fun _ => 0), .int .i64 E]) ∧ Below w.heap.size w w') ∨
    (∃ j : Nat, k = j ∧ j < 6 ∧ 1 ≤ n ∧ n ≤ S j - U j ∧ ∀ w, Calls Try.prog 12 #[.agg (planC B S C T L), .agg (six U), .int .i64 k, .int .i64 n] w fun e w' => e = .returned (.tuple #[.int .i64 (B j + U j), .agg (six (more U j n)), .int .i64 0]) ∧ Below w.heap.size w w') := by
  by_cases k0 : k < 0
  · exact .inl ⟨1, by decide, fun w => take_k w B S U C T L k n (.inl k0)⟩
  by_cases k6 : 6 ≤ k
  · exact .inl ⟨1, by decide, fun w => take_k w B S U C T L k n (.inr k6)⟩
  obtain ⟨k, rfl⟩ := Int.eq_ofNat_of_zero_le (show 0 ≤ k by omega)
  have hk : k < 6 := by omega
  have s1 : S k ≤ 1000000 := by have := hf.last k hk; have := hf.c1; have := hf.b0 k hk; omega
  have b1 : B k ≤ 1000000 := by have := hf.last k hk; have := hf.c1; have := hf.s0 k hk; omega
  have b0 : 0 ≤ B k := by have := hf.b0 k hk; omega
  by_cases hn : n < 1
  · exact .inl ⟨1, by decide, fun w => take_n w B S U C T L n k hk hn⟩
  by_cases h : S k - U k < n
  · exact .inl ⟨3, by decide, fun w => take_full w B S U C T L n k hk (by omega) (hU k hk).1 (hU k hk).2 s1 h⟩
  · exact .inr ⟨k, rfl, hk, by omega, by omega, fun w => take_ok w B S U C T L n k hk (by omega) (hU k hk).1 (hU k hk).2 s1 (by omega) b0 b1⟩

/-- What is taken next was not taken. -/
theorem fresh {B S U : Nat → Int} {C n : Int} (hf : Plan6 B S C) (hU : ∀ j, j < 6 → 0 ≤ U j ∧ U j ≤ S j) {k : Nat} (hk : k < 6) (hn : n ≤ S k - U k) {x : Int} (h0 : B k + U k ≤ x) (h1 : x < B k + U k + n) : ∀ j, j < 6 → ¬ (B j ≤ x ∧ x < B j + U j) := by
  rintro j hj ⟨a, b⟩
  have u := hU j hj
  have v := hU k hk
  rcases Nat.lt_trichotomy j k with h | h | h
  · have := hf.step j k h hk; omega
  · subst h; omega
  · have := hf.step k j h hj; omega
theorem free_mid {B U : Nat → Int} {D : DataW Unit} {k : Nat} (hk : k < 6) {n : Int} (hn : 0 ≤ n) (hU0 : 0 ≤ U k)
    (h : ∀ y : Int, (∀ j, j < 6 → ¬ (B j ≤ y ∧ y < B j + U j)) → (y < B k + U k ∨ B k + U k + n ≤ y) → D.atKey (.int .i64 y) (.lit (.int .i64 0)) = .lit (.int .i64 0)) : Free B (more U k n) D := by
  intro x hx
  refine h x (fun j hj hin => ?_) ?_
  · have := hx j hj
    unfold more at this
    by_cases e : j = k
    · subst e; rw [if_pos rfl] at this; omega
    · rw [if_neg e] at this; exact this hin
  · have := hx k hk
    simp only [more, if_true] at this
    omega

/-- Behind i rounds: the plan, what is used so far, who owns what. -/
def Rel (w : World) (p q m : Nat) (B S : Nat → Int) (C T L : Int) (i : Nat) (wr : World) : Prop := ∃ (U : Nat → Int) (N : Nat) (D : DataW Unit), wr.heap[p]? = some (.cells (planC B S C T L) 28 (0, 0)) ∧ wr.heap[q]? = some (.cells (six U) 26 (0, 0)) ∧
  MapAt wr m N D ∧ Free B U D ∧ (∀ j, j < 6 → 0 ≤ U j ∧ U j ≤ S j) ∧ i ≤ 61 ∧ (N : Int) ≤ 70000 * (i : Int) ∧ w.heap.size ≤ q ∧ w.heap.size ≤ m ∧ p ≠ q ∧ m ≠ q ∧ m ≠ p ∧ Below w.heap.size w wr

/-- In the middle of a round: t of the cells have their owner. -/
def Mid (w : World) (p q m x z : Nat) (B S : Nat → Int) (C T L : Int) (U : Nat → Int) (k : Nat) (n : Int) (i t : Nat) (wr : World) : Prop := ∃ (N : Nat) (D : DataW Unit), wr.heap[p]? = some (.cells (planC B S C T L) 28 (0, 0)) ∧ wr.heap[q]? = some (.cells (six U) 26 (0, 0)) ∧
  wr.heap[x]? = some (.cells #[.int .i64 k, .int .i64 n] 45 (0, 0)) ∧ wr.heap[z]? = some (.cells (six (more U k n)) 26 (0, 0)) ∧
  MapAt wr m N D ∧ (∀ y : Int, (∀ j, j < 6 → ¬ (B j ≤ y ∧ y < B j + U j)) → (y < B k + U k ∨ B k + U k + t ≤ y) → D.atKey (.int .i64 y) (.lit (.int .i64 0)) = .lit (.int .i64 0)) ∧ (N : Int) ≤ 70000 * (i : Int) + t ∧ Below w.heap.size w wr

set_option maxRecDepth 100000 in
theorem walk_bad (d t : Int) (s : Nat → Int) (bk rm : Int) (kf bf : Nat) (ao : Option Addr) (len cap : Nat) (w : World) (h : ¬ OkConf d t s bk rm) :
    Calls Try.prog 5 #[.agg (confC d t s bk rm kf bf), .slice ao len cap] w fun e w' => e = .returned (.bool true) ∧ Below w.heap.size w w' := by
  have HL := Lib.hid (fun w => lay_bad w d t s bk rm kf bf h)
  clear h
  go_enter Try.func5, Try.ntmps5
  go_wp2_with (first
    | (refine wpList_load_row rfl 25 (.tmp 2) rfl w.heap.size rfl 25 (confC d t s bk rm kf bf) (0, 0) _ (heap_alloc_new w _) Try.underlying25 rfl (by kernel_rfl) ?_)
    | fail)
  refine (HL.out _).mono ?_; rintro e w1 ⟨rfl, hb1⟩
  have HB := Lib.hid (show Below w.heap.size w w1 from below_one.trans (hb1.mono (by simp)))
  clear hb1
  go_wp2_with (first
    | (refine wpList_store_row rfl 28 (.tmp 5) (.tmp 18) rfl w1.heap.size (planC (fun _ => 0) (fun _ => 0) 0 0 0) rfl rfl 28 (planC (fun _ => 0) (fun _ => 0) 0 0 0) (heap_alloc_new w1 _) (planC_info _ _ _ _ _) rfl (planC_one _ _ _ _ _) ?_)
    | fail)
  have HB := Lib.hid (below_setRow (HB.out.alloc HB.out.size (.cells (planC (fun _ => 0) (fun _ => 0) 0 0 0) 28)) HB.out.size (planC (fun _ => 0) (fun _ => 0) 0 0 0))
  refine (fixed_any _).mono ?_; rintro e w2 ⟨rfl, hb2⟩
  have HB := Lib.hid (HB.out.trans (hb2.mono HB.out.size))
  clear hb2
  go_wp2_with fail
  go_ret
  exact ⟨rfl, HB.out⟩

set_option maxHeartbeats 4000000 in
set_option maxRecDepth 100000 in
theorem walk_ok (d t : Int) (s : Nat → Int) (bk rm : Int) (kf bf : Nat) (ao : Option Addr) (len cap : Nat) (E : Nat → WantOf) (w : World) (h : OkConf d t s bk rm) (hops : WantsAt w ao len E) :
    Calls Try.prog 5 #[.agg (confC d t s bk rm kf bf), .slice ao len cap] w fun e w' => e = .returned (.bool true) ∧ Below w.heap.size w w' := by
  have hshort := hops.short
  unfold maxLen at hshort
  have hmm := @run_makeMap Try.prog
  have key : ∃ (B S : Nat → Int) (C T L : Int), Plan6 B S C ∧
      (∀ w, Calls Try.prog 9 #[.agg (confC d t s bk rm kf bf)] w fun e w' => e = .returned (.tuple #[.agg (planC B S C T L), .int .i64 0]) ∧ Below w.heap.size w w') :=
    ⟨_, _, _, _, _, plan6_of h, fun w => lay_ok w d t s bk rm kf bf h⟩
  obtain ⟨B, S, C, T, L, hf, hlay⟩ := key
  have HL := Lib.hid hlay
  have HF := Lib.hid hf
  clear hlay hf h
  go_enter Try.func5, Try.ntmps5
  go_wp2_with (first
    | (refine wpList_load_row rfl 25 (.tmp 2) rfl w.heap.size rfl 25 (confC d t s bk rm kf bf) (0, 0) _ (heap_alloc_new w _) Try.underlying25 rfl (by kernel_rfl) ?_)
    | fail)
  refine (HL.out _).mono ?_; rintro e w1 ⟨rfl, hb1⟩
  have hB : Below w.heap.size w w1 := below_one.trans (hb1.mono (by simp))
  go_upto_region 4 with (first
    | (refine wpList_store_row rfl 28 (.tmp 5) (.tmp 18) rfl w1.heap.size (planC B S C T L) rfl rfl 28 (planC (fun _ => 0) (fun _ => 0) 0 0 0) (heap_alloc_new w1 _) (planC_info _ _ _ _ _) rfl (planC_one _ _ _ _ _) ?_)
    | fail)
  obtain ⟨w2, hw2⟩ : ∃ w2, w2 = (w1.alloc (.cells (planC (fun _ => 0) (fun _ => 0) 0 0 0) 28)).setRow w1.heap.size (planC B S C T L) := ⟨_, rfl⟩
  rw [show (w1.alloc (.cells #[.int .i64 0, .int .i64 0, .int .i64 0, .int .i64 0, .int .i64 0, .int .i64 0, .int .i64 0, .int .i64 0, .int .i64 0, .int .i64 0, .int .i64 0, .int .i64 0, .int .i64 0, .int .i64 0, .int .i64 0] 28)).setRow w1.heap.size (planC B S C T L) = w2 from hw2.symm]
  have g2 : w2.heap[w1.heap.size]? = some (.cells (planC B S C T L) 28 (0, 0)) := by rw [hw2]; exact setRow_heap _ _ _ _ _ _ (heap_alloc_new w1 _)
  have hB2 : Below w.heap.size w w2 := by rw [hw2]; exact below_setRow (hB.alloc hB.size _) hB.size _
  obtain ⟨p, hp⟩ : ∃ p, p = w1.heap.size := ⟨_, rfl⟩
  rw [← hp] at g2 ⊢
  clear hw2 hb1 hp hB
  obtain ⟨q, hq⟩ : ∃ q, q = w2.heap.size := ⟨_, rfl⟩
  obtain ⟨m, hm⟩ : ∃ m, m = w2.heap.size + 1 := ⟨_, rfl⟩
  have hr : Rel w p q m B S C T L 0 ((w2.alloc (.cells (six fun _ => 0) 26)).alloc (.map #[] 0)) := by
    have hlt := lt_of_heap g2
    have hsz := hB2.size
    refine ⟨fun _ => 0, 0, .map [], (below_al2.block _ (lt_of_heap g2)).trans g2, ?_, ?_, fun x _ => rfl, fun j hj => ⟨Int.le_refl 0, HF.out.s0 j hj⟩, by omega, by omega, by omega, by omega, by omega, by omega, by omega, hB2.trans (below_al2.mono hB2.size)⟩
    · rw [hq]; exact heap2_0 _ _ _
    · have := World.ownsMap_made (w2.alloc (.cells (six fun _ => 0) 26)) Try.prog 3 (plainElem (H := Unit) Try.prog 3)
      rw [hm]
      simpa [MapAt] using this
  clear g2 hB2
  go_upto_block 0 with fail
  rw [← hm, ← hq]
  obtain ⟨w3, hw3⟩ : ∃ w3, w3 = (w2.alloc (.cells (six fun _ => 0) 26)).alloc (.map #[] 0) := ⟨_, rfl⟩
  rw [show (w2.alloc (.cells #[.int .i64 0, .int .i64 0, .int .i64 0, .int .i64 0, .int .i64 0, .int .i64 0] 26)).alloc (.map #[] 0) = w3 from hw3.symm]
  rw [← hw3] at hr
  clear hw3 hq hm hmm
  go_cut [] (fun wx => ∃ j, Rel w p q m B S C T L j wx)
  case first =>
    go_wp2_with fail
    go_loopw [26] (fun i wr => ∃ k' : Nat, k' ≤ len ∧ i = .int .i64 k' ∧ Rel w p q m B S C T L k' wr) (fun i _ => len - (intOf i).toNat)
    case atStart => exact ⟨0, Nat.zero_le _, rfl, hr⟩
    case round =>
      clear hr
      obtain ⟨j, hj, rfl, hrel⟩ := hrel
      obtain ⟨wo, rfl⟩ : ∃ wo : World, wo = wr := ⟨_, rfl⟩
      by_cases hlt : j < len
      · obtain ⟨b, off, rfl, hb, h0, h1⟩ := hops.cell j hlt
        obtain ⟨U, N, D, hp, hq, hM, hF, hU, hi, hN, hwq, hwm, hpq, hmq, hmp, hbel⟩ := hrel
        have h0' := (hbel.cell (p := ⟨b, off + j * 2, none⟩) hb).trans h0
        have h1' := (hbel.cell (p := ⟨b, off + j * 2 + 1, none⟩) hb).trans h1
        obtain ⟨k, hk⟩ : ∃ k, k = (E j).k := ⟨_, rfl⟩
        obtain ⟨n, hn⟩ : ∃ n, n = (E j).n := ⟨_, rfl⟩
        rw [← hk] at h0'
        rw [← hn] at h1'
        clear h0 h1 hk hn
        have HU := Lib.hid hU
        have HFr := Lib.hid hF
        have hrel1 : ∀ w', Below wo.heap.size wo w' → Rel w p q m B S C T L j w' := fun w' hb' => ⟨U, N, D, (hb'.block _ (lt_of_heap hp)).trans hp, (hb'.block _ (lt_of_heap hq)).trans hq, hM.below hb', hF, hU, hi, hN, hwq, hwm, hpq, hmq, hmp, hbel.trans (hb'.mono hbel.size)⟩
        have hrel2 : ∀ w', j ≤ 60 → Below wo.heap.size wo w' → Rel w p q m B S C T L (j + 1) w' := fun w' h6 hb' => ⟨U, N, D, (hb'.block _ (lt_of_heap hp)).trans hp, (hb'.block _ (lt_of_heap hq)).trans hq, hM.below hb', hF, hU, by omega, by omega, hwq, hwm, hpq, hmq, hmp, hbel.trans (hb'.mono hbel.size)⟩
        have HR1 := Lib.hid hrel1
        have HR2 := Lib.hid hrel2
        have HP := Lib.hid hp
        have HQ := Lib.hid hq
        have HM := Lib.hid hM
        have HB := Lib.hid hbel
        clear hrel1 hrel2 hp hq hM hF hU hbel
        by_cases h3 : j ≤ 60
        · have htk := takes B S U C T L k n HF.out HU.out
          go_upto_region 10 with fail
          obtain ⟨x, hx⟩ : ∃ x, x = wo.heap.size := ⟨_, rfl⟩
          obtain ⟨w4, hw4⟩ : ∃ w4, w4 = wo.alloc (.cells #[.int .i64 k, .int .i64 n] 45) := ⟨_, rfl⟩
          rw [← hw4]
          have hb4 : Below wo.heap.size wo w4 := by rw [hw4]; exact below_one
          have j2 : w4.heap[x]? = some (.cells #[.int .i64 k, .int .i64 n] 45 (0, 0)) := by rw [hw4, hx]; exact heap_alloc_new _ _
          have px : p < x := by rw [hx]; exact lt_of_heap HP.out
          have qx : q < x := by rw [hx]; exact lt_of_heap HQ.out
          have mx : m < x := by rw [hx]; exact HM.out.lt
          have HB4 := Lib.hid hb4
          rw [← hx]
          have c0 : w4.cell? ⟨x, 0, none⟩ = some (.int .i64 k) := cell_at j2 0
          have c1 : w4.cell? ⟨x, 1, none⟩ = some (.int .i64 n) := cell_at j2 1
          have J0 := Lib.hid ((hb4.block _ (lt_of_heap HP.out)).trans HP.out)
          have J1 := Lib.hid ((hb4.block _ (lt_of_heap HQ.out)).trans HQ.out)
          have J2 := Lib.hid j2
          clear hw4 hb4 hx j2 h0' h1'
          rcases htk with ⟨E1, hE1, ht⟩ | ⟨k, rfl, hk, hn, hns, ht⟩
          · have HT := Lib.hid ht
            have he : (E1 == 0) = false := by simpa using hE1
            clear ht hE1
            go_wp2_with (first
              | (refine wpList_load_row rfl 28 (.tmp 5) rfl p rfl 28 (planC B S C T L) (0, 0) _ J0.out Try.underlying28 rfl (planC_info _ _ _ _ _) ?_)
              | (refine wpList_load_row rfl 26 (.tmp 7) rfl q rfl 26 (six U) (0, 0) _ J1.out Try.underlying26 rfl (six_info _) ?_)
              | fail)
            refine (HT.out _).mono ?_; rintro e w5 ⟨rfl, hb5⟩
            have HB5 := Lib.hid (HB4.out.trans (hb5.mono HB4.out.size))
            clear hb5 c0 c1
            go_upto_region 11 with (first
              | (refine wpList_store_row rfl 26 (.tmp 12) (.tmp 42) rfl w5.heap.size (six fun _ => 0) rfl rfl 26 (six fun _ => 0) (heap_alloc_new w5 _) (six_info _) (six_both _ _) (six_one _) ?_)
              | fail)
            obtain ⟨w6, hw6⟩ : ∃ w6, w6 = (w5.alloc (.cells (six fun _ => 0) 26)).setRow w5.heap.size (six fun _ => 0) := ⟨_, rfl⟩
            rw [show (w5.alloc (.cells #[.int .i64 0, .int .i64 0, .int .i64 0, .int .i64 0, .int .i64 0, .int .i64 0] 26)).setRow w5.heap.size (six fun _ => 0) = w6 from hw6.symm]
            have g6 : w6.heap[w5.heap.size]? = some (.cells (six fun _ => 0) 26 (0, 0)) := by rw [hw6]; exact setRow_heap _ _ _ _ _ _ (heap_alloc_new w5 _)
            have hb6 : Below w5.heap.size w5 w6 := by rw [hw6]; exact below_setRow below_one (Nat.le_refl _) _
            have HB6 := Lib.hid (HB5.out.trans (hb6.mono HB5.out.size))
            obtain ⟨z, hz⟩ : ∃ z, z = w5.heap.size := ⟨_, rfl⟩
            rw [← hz] at g6 ⊢
            have G6 := Lib.hid g6
            clear hw6 g6 hb6 hz
            have heq : ∀ w, (Op.equalIn 10000 26 (.agg (six fun _ => 0)) (.agg #[.int .i64 0, .int .i64 0, .int .i64 0, .int .i64 0, .int .i64 0, .int .i64 0])).run Try.prog w = .ok true w := eq_six (fun _ => 0) 9998
            go_wp2_with (first
              | (refine wpList_load_row rfl 26 (.tmp 12) rfl z rfl 26 (six fun _ => 0) (0, 0) _ G6.out Try.underlying26 rfl (six_info _) ?_)
              | fail)
            go_roundw
            case rel => exact ⟨j + 1, by omega, by go_num, HR2.out _ h3 HB6.out⟩
            case measure => simp [intOf]; omega
          · obtain ⟨a, ha⟩ : ∃ a, a = B k + U k := ⟨_, rfl⟩
            rw [← ha] at ht
            have HT := Lib.hid ht
            have HA := Lib.hid ha
            have u0 := (HU.out k hk).1
            have b3 := HF.out.b0 k hk
            have bc := HF.out.last k hk
            have cc := HF.out.c1
            have a3 : 3 ≤ a := by omega
            have ab : B k ≤ a := by omega
            have an : a + n ≤ B k + S k := by omega
            clear ht ha
            go_wp2_with (first
              | (refine wpList_load_row rfl 28 (.tmp 5) rfl p rfl 28 (planC B S C T L) (0, 0) _ J0.out Try.underlying28 rfl (planC_info _ _ _ _ _) ?_)
              | (refine wpList_load_row rfl 26 (.tmp 7) rfl q rfl 26 (six U) (0, 0) _ J1.out Try.underlying26 rfl (six_info _) ?_)
              | fail)
            refine (HT.out _).mono ?_; rintro e w5 ⟨rfl, hb5⟩
            have HB5 := Lib.hid (HB4.out.trans (hb5.mono HB4.out.size))
            have J2 := Lib.hid ((hb5.block _ (lt_of_heap J2.out)).trans J2.out)
            clear hb5 c0 c1 J0 J1
            go_upto_region 11 with (first
              | (refine wpList_store_row rfl 26 (.tmp 12) (.tmp 42) rfl w5.heap.size (six (more U k n)) rfl rfl 26 (six fun _ => 0) (heap_alloc_new w5 _) (six_info _) (six_both _ _) (six_one _) ?_)
              | fail)
            obtain ⟨w6, hw6⟩ : ∃ w6, w6 = (w5.alloc (.cells (six fun _ => 0) 26)).setRow w5.heap.size (six (more U k n)) := ⟨_, rfl⟩
            rw [show (w5.alloc (.cells #[.int .i64 0, .int .i64 0, .int .i64 0, .int .i64 0, .int .i64 0, .int .i64 0] 26)).setRow w5.heap.size (six (more U k n)) = w6 from hw6.symm]
            have g6 : w6.heap[w5.heap.size]? = some (.cells (six (more U k n)) 26 (0, 0)) := by rw [hw6]; exact setRow_heap _ _ _ _ _ _ (heap_alloc_new w5 _)
            have hb6 : Below w5.heap.size w5 w6 := by rw [hw6]; exact below_setRow below_one (Nat.le_refl _) _
            obtain ⟨z, hz⟩ : ∃ z, z = w5.heap.size := ⟨_, rfl⟩
            have xz : x < z := by rw [hz]; exact lt_of_heap J2.out
            rw [← hz] at g6 ⊢
            have hB6 := HB5.out.trans (hb6.mono HB5.out.size)
            have hr6 : Mid w p q m x z B S C T L U k n j 0 w6 := ⟨N, D, (hB6.block _ (lt_of_heap HP.out)).trans HP.out, (hB6.block _ (lt_of_heap HQ.out)).trans HQ.out, (hb6.block _ (lt_of_heap J2.out)).trans J2.out, g6, HM.out.below hB6, fun y hy _ => HFr.out y hy, by omega, HB.out.trans (hB6.mono HB.out.size)⟩
            clear hw6 g6 hb6 hz hB6 HB4 HB5 J2 HP HQ HM HB HFr HR1 HR2
            go_upto_region 14 with fail
            obtain ⟨N, D, hp, hq, hx, hz, hM, hF, hN, hbel⟩ := hr6
            have c2 : w6.cell? ⟨x, 0, none⟩ = some (.int .i64 k) := cell_at hx 0
            have c3 : w6.cell? ⟨x, 1, none⟩ = some (.int .i64 n) := cell_at hx 1
            have c4 : w6.cell? ⟨p, k, none⟩ = some (.int .i64 (B k)) := (cell_at hp k).trans (planC_base _ _ _ _ _ k hk)
            have c5 : w6.cell? ⟨p, 6 + k, none⟩ = some (.int .i64 (S k)) := (cell_at hp (6 + k)).trans (planC_size _ _ _ _ _ k hk)
            have hk6 : (k : Int) < 6 := by omega
            have s0 : 0 ≤ S k := by omega
            have e0 : decide (a < 3) = false := decide_eq_false (by omega)
            have e1 : decide (a < B k) = false := decide_eq_false (by omega)
            have e2 : decide (S k - n < a - B k) = false := decide_eq_false (by omega)
            have e3 : decide (70000 < n) = false := decide_eq_false (by omega)
            have wr1 : IntKind.i64.wrap (a - B k) = a - B k := IntWalk.i64_in _ (by omega)
            have wr2 : IntKind.i64.wrap (S k - n) = S k - n := IntWalk.i64_in _ (by omega)
            have HP := Lib.hid hp
            have HQ := Lib.hid hq
            have HX := Lib.hid hx
            have HZ := Lib.hid hz
            have HM := Lib.hid hM
            have HFm := Lib.hid hF
            have HB := Lib.hid hbel
            clear hp hq hx hz hM hF hbel
            go_quiet (fail)
            rename Nat => m1
            go_upto_region 16 with fail
            obtain ⟨w7, hw7⟩ : ∃ w7, w7 = w6.drewN m1 := ⟨_, rfl⟩
            rw [← hw7]
            have hr7 : Mid w p q m x z B S C T L U k n j 0 w7 := by
              rw [hw7]
              exact ⟨N, D, HP.out, HQ.out, HX.out, HZ.out, HM.out.block rfl, HFm.out, hN, below_drawn HB.out _⟩
            clear hw7 HP HQ HX HZ HM HFm HB hN c2 c3 c4 c5 e0 e1 e2 e3 wr1 wr2
            go_wp2_with fail
            go_loopw [14] (fun xv wr => ∃ t : Nat, xv = .int .i64 (a + t) ∧ (t : Int) ≤ n ∧ Mid w p q m x z B S C T L U k n j t wr) (fun xv _ => (a + n - intOf xv).toNat)
            case atStart => exact ⟨0, by simp, by omega, hr7⟩
            case round =>
              clear hr7
              obtain ⟨t, rfl, htn, hrel⟩ := hrel
              obtain ⟨N, D, hp, hq, hx, hz, hM, hF, hN, hbel⟩ := hrel
              have c3 : wr.cell? ⟨x, 1, none⟩ = some (.int .i64 n) := cell_at hx 1
              have c6 : wr.cell? ⟨p, 12, none⟩ = some (.int .i64 C) := cell_at hp 12
              have HP := Lib.hid hp
              have HQ := Lib.hid hq
              have HX := Lib.hid hx
              have HZ := Lib.hid hz
              have HM := Lib.hid hM
              have HFm := Lib.hid hF
              have HB := Lib.hid hbel
              clear hp hq hx hz hM hF hbel
              by_cases hlt2 : (t : Int) < n
              · have ht2 : a + (t : Int) < a + n := by omega
                have e4 : decide (C ≤ a + (t : Int)) = false := decide_eq_false (by omega)
                have hkey : keyOf Try.prog 3 (.int .i64 (a + (t : Int))) = some (.int .i64 (a + (t : Int))) := keyOf_int_mk Try.underlying3 (wf_i64 (by omega) (by omega))
                have HK := Lib.hid hkey
                have hzero : D.atKey (.int .i64 (a + (t : Int))) (.lit (.int .i64 0)) = .lit (.int .i64 0) := HFm.out _ (fresh HF.out HU.out hk hns (by have := HA.out; omega) (by have := HA.out; omega)) (.inr (by have := HA.out; omega))
                have H0 := Lib.hid hzero
                have HW := Lib.hid (wf_i64 (x := 1 + (j : Int)) (by omega) (by omega))
                have HNm := Lib.hid (show N < maxLen by unfold maxLen; omega)
                clear hkey hzero
                go_wp2_with (first
                  | (at_lookup; refine wpList_lookup_own_int _ rfl _ _ 43 rfl 3 3 .i64 law3 Try.underlying43 Try.underlying3 (zero3 _) m N D rfl HM.out _ _ rfl HK.out ?_; intro c hat hwc; have hct := zero_tests hat H0.out; have hc1 := hct.1; have hc2 := hct.2; clear hat hwc hct)
                  | (at_mapUpdate; refine wpList_mapUpdate_own _ rfl _ _ _ 43 rfl 3 3 law3 Try.underlying43 _ m N D rfl HM.out HNm.out _ _ _ rfl rfl HK.out _ [] (plainElem_int Try.underlying3 HW.out) ?_; intro w9 hown9 hgrow9; have HO := Lib.hid hown9; have HG := Lib.hid hgrow9; clear hown9 hgrow9)
                  | fail)
                go_roundw
                case rel =>
                  have hg := HG.out
                  have hlt' : ∀ {y : Nat} {o : Obj}, wr.heap[y]? = some o → m ≠ y → w9.heap[y]? = some o := fun ho hne => (hg.block _ (lt_of_heap ho) (by simpa using Ne.symm hne)).trans ho
                  refine ⟨t + 1, ?_, by omega, N + 1, _, hlt' HP.out hmp, hlt' HQ.out hmq, hlt' HX.out (by omega), hlt' HZ.out (by omega), HO.out, fun y hy hyo => ?_, by omega, HB.out.grown hg HB.out.size (fun y hy => by cases hy; exact hwm)⟩
                  · rw [show ((t + 1 : Nat) : Int) = (t : Int) + 1 by omega, Int.add_assoc]
                  · have hne : Lit.int .i64 y ≠ Lit.int .i64 (a + (t : Int)) := by
                      intro e
                      have e' : y = a + (t : Int) := by simpa using e
                      have := HA.out
                      omega
                    rw [atKey_put_other hne]
                    exact HFm.out y hy (by omega)
                case measure => simp [intOf]; omega
              · have ht3 : ¬ a + (t : Int) < a + n := by omega
                have HTN := Lib.hid (show n = (t : Int) by omega)
                clear c3 c6 hlt2
                have c3 : wr.cell? ⟨x, 1, none⟩ = some (.int .i64 n) := cell_at HX.out 1
                go_wp2_with (first
                  | (refine wpList_load_row rfl 26 (.tmp 12) rfl z rfl 26 (six (more U k n)) (0, 0) _ HZ.out Try.underlying26 rfl (six_info _) ?_)
                  | (refine wpList_store_row rfl 26 (.tmp 7) (.tmp 110) rfl q (six (more U k n)) rfl rfl 26 (six U) HQ.out (six_info _) (six_both _ _) (six_one _) ?_)
                  | fail)
                go_roundw
                case rel =>
                  refine ⟨j + 1, by omega, by go_num, more U k n, N, D, (setRow_other _ _ _ _ hpq).trans HP.out, setRow_heap _ _ _ _ _ _ HQ.out, HM.out.block (setRow_other _ _ _ _ hmq), ?_, fun y hy => ?_, by omega, ?_, hwq, hwm, hpq, hmq, hmp, below_setRow HB.out hwq _⟩
                  · refine free_mid hk (by omega) u0 fun y hy hyo => HFm.out y hy ?_
                    rw [← HTN.out]
                    exact hyo
                  · have := HU.out y hy
                    unfold more
                    by_cases e : y = k
                    · subst e; rw [if_pos rfl]; omega
                    · rw [if_neg e]; exact this
                  · have := HTN.out
                    omega
                case measure => simp [intOf]; omega
        · go_wp2_with fail
          go_meet
          exact ⟨j, HR1.out _ below_one⟩
      · go_wp2_with fail
        go_meet
        exact ⟨j, hrel⟩
  case rest =>
    obtain ⟨j, U, N, D, hp, hq, hM, hF, hU, hi, hN, hwq, hwm, hpq, hmq, hmp, hbel⟩ := hcut
    have HB := Lib.hid hbel
    clear hp hq hM hF hbel hU hr
    go_wp2_with fail
    refine (fixed_any _).mono ?_; rintro e w6 ⟨rfl, hb6⟩
    have HB := Lib.hid (HB.out.trans (hb6.mono HB.out.size))
    clear hb6
    go_wp2_with fail
    go_ret
    exact ⟨rfl, HB.out⟩

theorem walk_all (d t : Int) (s : Nat → Int) (bk rm : Int) (kf bf : Nat) (ao : Option Addr) (len cap : Nat) (E : Nat → WantOf) (w : World) (hops : WantsAt w ao len E) :
    Calls Try.prog 5 #[.agg (confC d t s bk rm kf bf), .slice ao len cap] w fun e w' => e = .returned (.bool true) ∧ Below w.heap.size w w' := by
  by_cases h : OkConf d t s bk rm
  · exact walk_ok d t s bk rm kf bf ao len cap E w h hops
  · exact walk_bad d t s bk rm kf bf ao len cap w h

set_option linter.unusedVariables false in
theorem walk {H : Type} {enc : TypeId × Value → H} (W : World) (args : Array Value) (ds : List (DataW H)) (hin : ArgsIn enc Try.prog Try.f5.params.toList W args ds) :
    Calls Try.prog 5 args W fun e W' => e = .returned (.bool true) ∧ Below W.heap.size W W' := by
  obtain ⟨⟨p, hA, hlt⟩, ⟨base, hval⟩, hsz⟩ := hin
  rw [Try.params5] at hA hval hsz
  obtain ⟨v0, vs0, d0, ds0, p0, q0, hargs, rfl, rfl, h0, r0⟩ := trodAll_cons hA
  obtain ⟨v1, vs1, d1, ds1, p1, q1, rfl, rfl, rfl, h1, r1⟩ := trodAll_cons r0
  obtain ⟨rfl, rfl, rfl⟩ := trodAll_nil r1
  obtain rfl : args = #[v0, v1] := by cases args; simp_all
  obtain ⟨d,t,s,bk,rm,kf,bf,rfl,hs⟩ := open_conf (hval 0 25 v0 rfl rfl) h0
  obtain ⟨ao,len,cap,E,rfl,hops⟩ := open_wants (hval 1 42 v1 rfl rfl) h1
  exact walk_all d t s bk rm kf bf ao len cap E W hops

set_option maxRecDepth 100000 in
theorem proved : Rows.PoolApartSaid :=
  OpenClaim.holds_of_wide 5 Try.f5 rfl rfl rfl rfl rfl rfl rfl ⟨rfl, rfl, rfl, rfl, rfl⟩ rfl rfl rfl rfl rfl (by kernel_rfl) Try.func5 (by kernel_rfl)
    (of_decide_eq_true (by kernel_rfl)) (by unfold Func.isWrapper; first | (rw [if_pos (by decide +kernel)]; kernel_rfl) | (rw [if_neg (by decide +kernel)]; exact ⟨rfl, rfl⟩))
    (fun os started H enc _ => law_lifted (s := Rows.poolApartSpec) own started (by kernel_rfl) Try.func5 laidOut (by kernel_rfl) (by kernel_rfl) Try.underlying4 rfl
      (ChangeSpec.witness6 (enc := enc) (C := Try.checked) false ⟨#[], #[.agg #[.int .i64 0, .int .i64 0, .int .i64 0, .int .i64 0, .int .i64 0, .int .i64 0, .int .i64 0, .int .i64 0, .float .f64 0, .float .f64 0], .slice none 0 0], []⟩ 8 (by kernel_rfl) (by kernel_rfl) (by kernel_rfl) (by kernel_rfl))
      (fun ds h => match ds, h with | [_, _], _ => rfl) walk)
#print axioms proved
end Go.Proofs.Ytniejikbbmileaa.poolApart
