/-
  The landed code's two functions of layer 5, for later layers' seats: two tables of rows, read whole, gone over by loops with a label that is left. Over the program's own text.
-/
import Derived.Test.YtaaeooimalglaaaDoorFoldPure
import Derived.Test.YtaaeooimalglaaaDoorLaid
import Derived.WalkMore
namespace Go.Proofs.YtaaeooimalglaaaDoor
open Go.RowKit

def kindsT : List (Int × Int × Int) := [(48, 57, 2), (65, 90, 1), (97, 122, 1), (192, 214, 1), (216, 246, 1), (248, 591, 1), (902, 902, 1), (904, 906, 1), (908, 908, 1), (910, 929, 1), (931, 974, 1), (1024, 1153, 1), (1162, 1327, 1), (1488, 1514, 1), (1632, 1641, 2), (19968, 40959, 1), (44032, 55203, 1)]
def shiftsT : List (Int × Int × Int × Int) := [(65, 90, 1, 32), (192, 214, 1, 32), (216, 222, 1, 32), (256, 311, 2, 1), (313, 328, 2, 1), (330, 375, 2, 1), (376, 376, 1, -121), (377, 382, 2, 1), (383, 383, 1, -268), (902, 902, 1, 38), (904, 906, 1, 37), (908, 908, 1, 64), (910, 911, 1, 63), (913, 929, 1, 32), (931, 939, 1, 32), (962, 962, 1, 1), (1024, 1039, 1, 80), (1040, 1071, 1, 32), (1120, 1153, 2, 1), (1162, 1215, 2, 1), (1232, 1327, 2, 1), (1632, 1641, 1, -1584)]
def kindsA : Array Value := (kindsT.flatMap fun e => [Value.int .i32 e.1, .int .i32 e.2.1, .int .i64 e.2.2]).toArray
def shiftsA : Array Value := (shiftsT.flatMap fun e => [Value.int .i32 e.1, .int .i32 e.2.1, .int .i32 e.2.2.1, .int .i32 e.2.2.2]).toArray

/-- What the loop over the rows makes of a number. -/
def classRows (r : Int) : List (Int × Int × Int) → Int
  | [] => 0
  | e :: es => if r < e.1 then 0 else if r ≤ e.2.1 then e.2.2 else classRows r es
def foldRows (r : Int) : List (Int × Int × Int × Int) → Int
  | [] => r
  | e :: es => if r < e.1 then r else if r ≤ e.2.1 ∧ (r - e.1) % e.2.2.1 = 0 then r + e.2.2.2 else foldRows r es
set_option maxRecDepth 100000 in
theorem foldRows_far {r : Int} : ∀ es : List (Int × Int × Int × Int), (∀ e ∈ es, e.2.1 < r) → foldRows r es = r
  | [], _ => rfl
  | e :: es, h => by
    unfold foldRows
    have := h e (by simp)
    split
    · rfl
    · rw [if_neg (by omega), foldRows_far es fun x hx => h x (by simp [hx])]
set_option maxRecDepth 100000 in
theorem fold_rows_near : ∀ n : Nat, n < 1642 → foldRows ((n : Nat) : Int) shiftsT = foldZ ((n : Nat) : Int) := by decide +kernel
set_option maxRecDepth 100000 in
theorem fold_rows (r : Int) : foldRows r shiftsT = foldZ r := by
  by_cases h : r < 0
  · rw [fold_far (.inl h)]
    show (if r < 65 then r else _) = r
    rw [if_pos (by omega)]
  by_cases h2 : 1641 < r
  · rw [fold_far (.inr h2)]
    refine foldRows_far _ fun e he => ?_
    have : ∀ e ∈ shiftsT, e.2.1 ≤ 1641 := by decide +kernel
    have := this e he
    omega
  obtain ⟨n, rfl⟩ := Int.eq_ofNat_of_zero_le (by omega : 0 ≤ r)
  exact fold_rows_near n (by omega)
set_option maxRecDepth 100000 in
theorem class_rows_near : ∀ n : Nat, n < 1642 → classRows ((n : Nat) : Int) kindsT = classZ ((n : Nat) : Int) := by decide +kernel
set_option maxRecDepth 100000 in
theorem classRows_past {r : Int} : ∀ (es fs : List (Int × Int × Int)), (∀ e ∈ es, e.1 ≤ e.2.1 ∧ e.2.1 < r) → classRows r (es ++ fs) = classRows r fs
  | [], _, _ => rfl
  | e :: es, fs, h => by
    have := h e (by simp)
    rw [List.cons_append]
    show (if r < e.1 then 0 else if r ≤ e.2.1 then e.2.2 else classRows r (es ++ fs)) = _
    rw [if_neg (by omega), if_neg (by omega), classRows_past es fs fun x hx => h x (by simp [hx])]
set_option maxRecDepth 100000 in
theorem class_rows (r : Int) : classRows r kindsT = classZ r := by
  by_cases h : r < 0
  · have hd : ¬ digitZ r := by unfold digitZ; omega
    have hl : ¬ letterZ r := by unfold letterZ; omega
    unfold classZ
    rw [if_neg hd, if_neg hl]
    show (if r < 48 then 0 else _) = (0 : Int)
    rw [if_pos (by omega)]
  by_cases h2 : 1641 < r
  · have hs : kindsT = kindsT.take 15 ++ [(19968, 40959, 1), (44032, 55203, 1)] := by decide +kernel
    rw [hs, classRows_past]
    · have hd : ¬ digitZ r := by unfold digitZ; omega
      have hl : letterZ r ↔ (19968 ≤ r ∧ r ≤ 40959) ∨ (44032 ≤ r ∧ r ≤ 55203) := by unfold letterZ; omega
      unfold classZ
      rw [if_neg hd]
      show (if r < 19968 then 0 else if r ≤ 40959 then 1 else if r < 44032 then 0 else if r ≤ 55203 then 1 else (0 : Int)) = _
      by_cases hz : letterZ r
      · rw [if_pos hz]
        have := hl.1 hz
        clear hl hz hd
        repeat' split
        all_goals omega
      · rw [if_neg hz]
        have : ¬ ((19968 ≤ r ∧ r ≤ 40959) ∨ (44032 ≤ r ∧ r ≤ 55203)) := fun h => hz (hl.2 h)
        clear hl hz hd
        repeat' split
        all_goals omega
    · have : ∀ e ∈ kindsT.take 15, e.1 ≤ e.2.1 ∧ e.2.1 ≤ 1641 := by decide +kernel
      intro e he
      have := this e he
      omega
  obtain ⟨n, rfl⟩ := Int.eq_ofNat_of_zero_le (by omega : 0 ≤ r)
  exact class_rows_near n (by omega)

/-! ### The rows, by their places -/
set_option maxRecDepth 100000 in
theorem kinds_row (i : Nat) (hi : i < 17) : ∃ lo hi2 c : Int, kindsT.drop i = (lo, hi2, c) :: kindsT.drop (i + 1) ∧ 48 ≤ lo ∧ lo ≤ hi2 ∧ hi2 ≤ 55203 ∧ 0 ≤ c ∧ c ≤ 2 ∧
    ∀ w : World, (Instr.index 77 (.agg kindsA) (.int .i64 (i : Int))).run Tryd.prog w = .ok (.agg #[.int .i32 lo, .int .i32 hi2, .int .i64 c]) w := by
  obtain rfl | rfl | rfl | rfl | rfl | rfl | rfl | rfl | rfl | rfl | rfl | rfl | rfl | rfl | rfl | rfl | rfl : i = 0 ∨ i = 1 ∨ i = 2 ∨ i = 3 ∨ i = 4 ∨ i = 5 ∨ i = 6 ∨ i = 7 ∨ i = 8 ∨ i = 9 ∨ i = 10 ∨ i = 11 ∨ i = 12 ∨ i = 13 ∨ i = 14 ∨ i = 15 ∨ i = 16 := by omega
  all_goals exact ⟨_, _, _, rfl, by decide, by decide, by decide, by decide, by decide, fun _ => by kernel_rfl⟩
set_option maxRecDepth 100000 in
theorem shifts_row (i : Nat) (hi : i < 22) : ∃ lo hi2 st y : Int, shiftsT.drop i = (lo, hi2, st, y) :: shiftsT.drop (i + 1) ∧ 65 ≤ lo ∧ lo ≤ hi2 ∧ hi2 ≤ 1641 ∧ (st = 1 ∨ st = 2) ∧ -1584 ≤ y ∧ y ≤ 80 ∧
    ∀ w : World, (Instr.index 128 (.agg shiftsA) (.int .i64 (i : Int))).run Tryd.prog w = .ok (.agg #[.int .i32 lo, .int .i32 hi2, .int .i32 st, .int .i32 y]) w := by
  obtain rfl | rfl | rfl | rfl | rfl | rfl | rfl | rfl | rfl | rfl | rfl | rfl | rfl | rfl | rfl | rfl | rfl | rfl | rfl | rfl | rfl | rfl : i = 0 ∨ i = 1 ∨ i = 2 ∨ i = 3 ∨ i = 4 ∨ i = 5 ∨ i = 6 ∨ i = 7 ∨ i = 8 ∨ i = 9 ∨ i = 10 ∨ i = 11 ∨ i = 12 ∨ i = 13 ∨ i = 14 ∨ i = 15 ∨ i = 16 ∨ i = 17 ∨ i = 18 ∨ i = 19 ∨ i = 20 ∨ i = 21 := by omega
  all_goals exact ⟨_, _, _, _, rfl, by decide, by decide, by decide, by decide, by decide, by decide, fun _ => by kernel_rfl⟩

/-! ### The world -/
/-- The two tables lie in their variables. -/
def TabsIn (w : World) : Prop := (∃ t fr, w.heap[0]? = some (.cells kindsA t fr)) ∧ ∃ t fr, w.heap[6]? = some (.cells shiftsA t fr)
set_option maxRecDepth 100000 in
theorem TabsIn.below {w w' : World} (h : TabsIn w) (hb : Below w.heap.size w w') : TabsIn w' := by
  obtain ⟨⟨t, fr, h1⟩, ⟨t2, fr2, h2⟩⟩ := h
  exact ⟨⟨t, fr, by rw [hb.block _ (lt_of_heap h1)]; exact h1⟩, ⟨t2, fr2, by rw [hb.block _ (lt_of_heap h2)]; exact h2⟩⟩
set_option maxRecDepth 100000 in
theorem table_row {P : Program} {w : World} {name : String} {d : DataW Unit} {g : Nat} {t : TypeId} {xs : List Value} (n : Nat) (hg : P.globalNamed name = some g) (ht : (P.globals[g]?).map (·.type) = some t) (hx : flatC P n t d = some xs) (h : VarReads P w name d) :
    ∃ t' fr, w.heap[g]? = some (.cells xs.toArray t' fr) := by
  obtain ⟨g', t', cs, fuel, p, h1, h2, h3, h4⟩ := h
  obtain rfl := Option.some.inj (hg.symm.trans h1)
  obtain rfl := Option.some.inj (ht.symm.trans h2)
  have := trod_flat n fuel t cs.toList d p xs h4 hx
  unfold World.var? at h3
  rw [hg] at h3
  simp only [Option.bind_some] at h3
  split at h3
  · rename_i cs' t'' fr' hh
    cases h3
    exact ⟨t'', fr', by rw [hh, ← this]⟩
  · cases h3

set_option maxRecDepth 100000 in
set_option maxHeartbeats 2000000 in
theorem class_tab (W : World) (r : Int) (hT : TabsIn W) :
    Calls Tryd.prog 40 #[.int .i32 r] W fun e w' => e = .returned (.int .i64 (classZ r)) ∧ Below W.heap.size W w' := by
  obtain ⟨⟨tt, fr, hg⟩, -⟩ := hT
  have HG := Lib.hid hg
  clear hg
  rw [← class_rows]
  go_enter Tryd.func40, Tryd.ntmps40
  go_wp2_with fail
  go_step3
  go_wp2_with fail
  go_step3
  go_wp2_with first
    | (refine wpList_load_row rfl 77 (.global 0) rfl 0 rfl tt kindsA fr (.array 17 76) HG.out Tryd.underlying77 rfl (by kernel_rfl) ?_)
    | fail
  go_loopw [3, 7] (fun cv iv wr => ∃ i : Nat, i ≤ 17 ∧ iv = .int .i64 i ∧ cv = .int .i64 0 ∧ classRows r (kindsT.drop i) = classRows r kindsT ∧ Below W.heap.size W wr) (fun _ iv _ => 17 - (intOf iv).toNat)
  case atStart => exact ⟨0, by omega, rfl, rfl, rfl, Below.refl _ _⟩
  case round =>
    obtain ⟨i, hi, rfl, rfl, hr, hb⟩ := hrel
    by_cases hlt : i < 17
    · obtain ⟨lo, hi2, c, hd, b1, b2, b3, b4, b5, hix⟩ := kinds_row i hlt
      rw [hd] at hr
      have HR := Lib.hid hr
      have HB := Lib.hid hb
      have hsz := hb.size
      have HA := Lib.hid (fun o => HB.out.alloc hsz o)
      clear hr hb hd
      have nxt : ∀ w' : World, Below W.heap.size W w' → ¬ r < lo → ¬ r ≤ hi2 → (∃ i1 : Nat, i1 ≤ 17 ∧ Value.int IntKind.i64 ((i : Int) + 1) = Value.int IntKind.i64 i1 ∧ Value.int IntKind.i64 0 = Value.int IntKind.i64 0 ∧ classRows r (kindsT.drop i1) = classRows r kindsT ∧ Below W.heap.size W w') ∧ 17 - (intOf (.int .i64 ((i : Int) + 1))).toNat < 17 - (intOf (.int .i64 (i : Int))).toNat := by
        intro w' hb' n1 n2
        refine ⟨⟨i + 1, by omega, by simp, rfl, ?_, hb'⟩, by simp [intOf]; omega⟩
        rw [← HR.out]
        show _ = (if r < lo then 0 else if r ≤ hi2 then c else classRows r (kindsT.drop (i + 1)))
        rw [if_neg n1, if_neg n2]
      have HX := Lib.hid nxt
      clear nxt
      by_cases t1 : r < lo
      · have hc : classRows r kindsT = 0 := by rw [← HR.out]; show (if r < lo then 0 else _) = (0 : Int); rw [if_pos t1]
        go_wp2_with fail
        try rw [Exit.noGoto_ret]
        go_ret
        exact ⟨by rw [hc]; rfl, HA.out _⟩
      · by_cases t2 : r ≤ hi2
        · have hc : classRows r kindsT = c := by rw [← HR.out]; show (if r < lo then 0 else if r ≤ hi2 then c else _) = c; rw [if_neg t1, if_pos t2]
          go_wp2_with fail
          try rw [Exit.noGoto_ret]
          go_ret
          exact ⟨by rw [hc]; rfl, HA.out _⟩
        · go_wp2_with fail
          exact HX.out _ (HA.out _) t1 t2
    · have hi' : i = 17 := by omega
      subst hi'
      have hc : classRows r kindsT = 0 := by rw [← hr]; rfl
      clear hr
      go_wp2_with fail
      try rw [Exit.noGoto_ret]
      go_ret
      exact ⟨by rw [hc]; rfl, hb⟩

set_option maxRecDepth 100000 in
set_option maxHeartbeats 2000000 in
theorem fold_tab (W : World) (r : Int) (h0 : -2147483648 ≤ r) (h1 : r ≤ 2147483647) (hT : TabsIn W) :
    Calls Tryd.prog 84 #[.int .i32 r] W fun e w' => e = .returned (.int .i32 (foldZ r)) ∧ Below W.heap.size W w' := by
  obtain ⟨-, ⟨tt, fr, hg⟩⟩ := hT
  have HG := Lib.hid hg
  clear hg
  rw [← fold_rows]
  go_enter Tryd.func84, Tryd.ntmps84
  go_wp2_with fail
  go_step3
  go_wp2_with fail
  go_step3
  go_wp2_with first
    | (refine wpList_load_row rfl 128 (.global 6) rfl 6 rfl tt shiftsA fr (.array 22 127) HG.out Tryd.underlying128 rfl (by kernel_rfl) ?_)
    | fail
  go_loopw [3, 8] (fun cv iv wr => ∃ i : Nat, i ≤ 22 ∧ iv = .int .i64 i ∧ cv = .int .i32 r ∧ foldRows r (shiftsT.drop i) = foldRows r shiftsT ∧ Below W.heap.size W wr) (fun _ iv _ => 22 - (intOf iv).toNat)
  case atStart => exact ⟨0, by omega, rfl, rfl, rfl, Below.refl _ _⟩
  case round =>
    obtain ⟨i, hi, rfl, rfl, hr, hb⟩ := hrel
    by_cases hlt : i < 22
    · obtain ⟨lo, hi2, st, y, hd, b1, b2, b3, b4, b5, b6, hix⟩ := shifts_row i hlt
      rw [hd] at hr
      have HR := Lib.hid hr
      have HB := Lib.hid hb
      have hsz := hb.size
      have HA := Lib.hid (fun o => HB.out.alloc hsz o)
      clear hr hb hd
      have nxt : ∀ w' : World, Below W.heap.size W w' → ¬ r < lo → ¬ (r ≤ hi2 ∧ (r - lo) % st = 0) → (∃ i1 : Nat, i1 ≤ 22 ∧ Value.int IntKind.i64 ((i : Int) + 1) = Value.int IntKind.i64 i1 ∧ Value.int IntKind.i32 r = Value.int IntKind.i32 r ∧ foldRows r (shiftsT.drop i1) = foldRows r shiftsT ∧ Below W.heap.size W w') ∧ 22 - (intOf (.int .i64 ((i : Int) + 1))).toNat < 22 - (intOf (.int .i64 (i : Int))).toNat := by
        intro w' hb' n1 n2
        refine ⟨⟨i + 1, by omega, by simp, rfl, ?_, hb'⟩, by simp [intOf]; omega⟩
        rw [← HR.out]
        show _ = (if r < lo then r else if r ≤ hi2 ∧ (r - lo) % st = 0 then r + y else foldRows r (shiftsT.drop (i + 1)))
        rw [if_neg n1, if_neg n2]
      have HX := Lib.hid nxt
      clear nxt
      by_cases t1 : r < lo
      · have hc : foldRows r shiftsT = r := by rw [← HR.out]; show (if r < lo then r else _) = r; rw [if_pos t1]
        go_wp2_with fail
        try rw [Exit.noGoto_ret]
        go_ret
        exact ⟨by rw [hc]; rfl, HA.out _⟩
      · by_cases t2 : r ≤ hi2
        · by_cases t3 : (r - lo) % st = 0
          · have hc : foldRows r shiftsT = r + y := by rw [← HR.out]; show (if r < lo then r else if r ≤ hi2 ∧ (r - lo) % st = 0 then r + y else _) = r + y; rw [if_neg t1, if_pos ⟨t2, t3⟩]
            go_wp2_with fail
            try rw [Exit.noGoto_ret]
            go_ret
            exact ⟨by rw [hc]; rfl, HA.out _⟩
          · have t4 : ¬ (r ≤ hi2 ∧ (r - lo) % st = 0) := fun h => t3 h.2
            have HX := Lib.hid fun w' hb' => HX.out w' hb' t1 t4
            go_wp2_with fail
            exact HX.out _ (HA.out _)
        · have t4 : ¬ (r ≤ hi2 ∧ (r - lo) % st = 0) := fun h => t2 h.1
          have HX := Lib.hid fun w' hb' => HX.out w' hb' t1 t4
          go_wp2_with fail
          exact HX.out _ (HA.out _)
    · have hi' : i = 22 := by omega
      subst hi'
      have hc : foldRows r shiftsT = r := by rw [← hr]; rfl
      clear hr
      go_wp2_with fail
      try rw [Exit.noGoto_ret]
      go_ret
      exact ⟨by rw [hc]; rfl, hb⟩

set_option maxRecDepth 100000 in
/-- Where the two variables read as the program's text lays them, the tables are there. -/
theorem of_laid {W : World} (h : laidMetH Tryd.prog [("plover/fold.kinds", Rows.laid_plover_fold_kinds), ("plover/fold.shifts", Rows.laid_plover_fold_shifts)] W) : TabsIn W :=
  ⟨table_row (t := 77) (xs := kindsA.toList) 4 (by kernel_rfl) (by kernel_rfl) (by kernel_rfl) (laid_reads (by kernel_rfl) h _ _ (.head _)), table_row (t := 128) (xs := shiftsA.toList) 4 (by kernel_rfl) (by kernel_rfl) (by kernel_rfl) (laid_reads (by kernel_rfl) h _ _ (.tail _ (.head _)))⟩
end Go.Proofs.YtaaeooimalglaaaDoor
