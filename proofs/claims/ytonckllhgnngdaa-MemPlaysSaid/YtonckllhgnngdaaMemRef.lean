/-
  The reference's row of stores: what its At and its Store do, over the program's own text; and that the last store of an address is what a memory of cells holds.
-/
import Derived.Test.YtonckllhgnngdaaMem1
import Derived.Laws.AppendOwnNone
namespace Go.Proofs.Ytonckllhgnngdaa
open Go.RowKit

/-! ### Without the program -/

/-- What was stored at an address last, or 0. -/
def look (log : List (Int × Int)) (b : Int) : Int := log.foldl (fun acc x => if x.1 = b then x.2 else acc) 0
theorem look_nil (b : Int) : look [] b = 0 := rfl
theorem look_snoc (log : List (Int × Int)) (x : Int × Int) (b : Int) : look (log ++ [x]) b = if x.1 = b then x.2 else look log b := by simp [look, List.foldl_append]
theorem look_take (log : List (Int × Int)) (j : Nat) (x : Int × Int) (hx : log[j]? = some x) (b : Int) : look (log.take (j + 1)) b = if x.1 = b then x.2 else look (log.take j) b := by
  rw [List.take_add_one, hx]; exact look_snoc _ _ _

/-- The cells hold what was stored last. -/
def Agrees (cs : List Int) (log : List (Int × Int)) : Prop := ∀ i, i < cs.length → cs[i]? = some (look log i)
theorem agrees_new (n : Nat) : Agrees (List.replicate n 0) [] := by
  intro i hi
  simp at hi
  simp [look_nil, hi]
theorem agrees_put {cs : List Int} {log : List (Int × Int)} (h : Agrees cs log) (a v : Int) (h0 : 0 ≤ a) : Agrees (cs.set a.toNat v) (log ++ [(a, v)]) := by
  intro i hi
  simp at hi
  rw [look_snoc, List.getElem?_set]
  by_cases e : a.toNat = i
  · have e' : a = (i : Int) := by omega
    simp [e', hi]
  · have e' : ¬ a = (i : Int) := by omega
    simp only [e, e', if_false]
    exact h i hi

/-- The cells of a row of stores. -/
def logCells (log : List (Int × Int)) : List Value := log.flatMap fun x => [.int .i64 x.1, .int .u32 x.2]
theorem logCells_length (log : List (Int × Int)) : (logCells log).length = log.length * 2 := by
  induction log with
  | nil => rfl
  | cons x r ih => simp [logCells] at ih ⊢; omega
theorem logCells_snoc (log : List (Int × Int)) (x : Int × Int) : logCells (log ++ [x]) = logCells log ++ [.int .i64 x.1, .int .u32 x.2] := by simp [logCells]
theorem logCells_one (log : List (Int × Int)) : ∀ u ∈ logCells log, u.oneCell' = true := by
  intro u hu
  simp only [logCells, List.mem_flatMap] at hu
  obtain ⟨x, _, hx⟩ := hu
  simp at hx
  rcases hx with rfl | rfl <;> rfl
theorem logCells_get (log : List (Int × Int)) (j : Nat) (x : Int × Int) (hx : log[j]? = some x) : (logCells log)[j * 2]? = some (.int .i64 x.1) ∧ (logCells log)[j * 2 + 1]? = some (.int .u32 x.2) := by
  induction log generalizing j with
  | nil => simp at hx
  | cons y r ih =>
    cases j with
    | zero =>
      simp at hx
      subst hx
      simp [logCells]
    | succ j =>
      have := ih j (by simpa using hx)
      have e1 : (j + 1) * 2 = j * 2 + 1 + 1 := by omega
      rw [e1]
      simpa [logCells] using this

/-! ### With it -/

theorem info_store : (Try.prog.info? 57).map (fun i => (i.zero, i.size, i.bytes)) = some (some (.agg #[.int .i64 0, .int .u32 0]), 2, 16) := by kernel_rfl

/-- A row of stores in memory. -/
def LogAt (w : World) (v : Value) (log : List (Int × Int)) : Prop := (v = .slice none 0 0 ∧ log = []) ∨
  ∃ g cap cur, v = .slice (some ⟨g, 0, none⟩) log.length cap ∧ w.heap[g]? = some (.cells cur 57 (0, 0)) ∧ log.length ≤ cap ∧ cap ≤ maxLen ∧ cur.toList.take (log.length * 2) = logCells log
theorem LogAt.of_owns {w : World} {base : Nat} {v : Value} {log : List (Int × Int)} {n : Nat} {xs : List Value} (h : w.ownsRow base 57 2 v n xs) (hn : n = log.length) (hx : xs = logCells log) : LogAt w v log := by
  subst hn hx
  obtain ⟨_, h | ⟨g, cap, cur, h1, _, h2, h3, h4, _, h5⟩⟩ := h
  · exact .inl ⟨h.1, List.eq_nil_of_length_eq_zero h.2⟩
  · exact .inr ⟨g, cap, cur, h1, h2, h3, h4, h5⟩
theorem LogAt.below {w w' : World} {v : Value} {log : List (Int × Int)} (h : LogAt w v log) (hb : Below w.heap.size w w') : LogAt w' v log := by
  rcases h with h | ⟨g, cap, cur, h1, h2, h3⟩
  · exact .inl h
  · exact .inr ⟨g, cap, cur, h1, (hb.block g (lt_of_heap h2)).trans h2, h3⟩
theorem LogAt.mod {w w' : World} {v : Value} {log : List (Int × Int)} (h : LogAt w v log) {S : Nat → Prop} (hm : Mod S w w') (hS : ∀ k, S k → ∀ cs fr, w.heap[k]? ≠ some (.cells cs 57 fr)) : LogAt w' v log := by
  rcases h with h | ⟨g, cap, cur, h1, h2, h3⟩
  · exact .inl h
  · exact .inr ⟨g, cap, cur, h1, (hm.block g (lt_of_heap h2) (fun hs => hS g hs _ _ h2)).trans h2, h3⟩
theorem MemAt.no_log {w : World} {b c : Nat} {cs : List Int} {l s : Int} (h : MemAt w b c cs l s) : ∀ k, k = b ∨ k = c → ∀ xs fr, w.heap[k]? ≠ some (.cells xs 57 fr) := by
  rintro k (rfl | rfl) xs fr hk
  · rw [h.rec_] at hk; simp at hk
  · rw [h.row] at hk; simp at hk
theorem log_cell {w : World} {g : Nat} {cur : Array Value} {t : TypeId} {log : List (Int × Int)} (h : w.heap[g]? = some (.cells cur t (0, 0))) (ht : cur.toList.take (log.length * 2) = logCells log) (j : Nat) (x : Int × Int) (hx : log[j]? = some x) :
    w.cell? ⟨g, j * 2, none⟩ = some (.int .i64 x.1) ∧ w.cell? ⟨g, j * 2 + 1, none⟩ = some (.int .u32 x.2) := by
  have hj := (List.getElem?_eq_some_iff.1 hx).1
  have hg := logCells_get log j x hx
  rw [← ht, List.getElem?_take_of_lt (by omega), List.getElem?_take_of_lt (by omega)] at hg
  rw [cell_at h, cell_at h]
  simpa using hg

theorem at_out (w : World) (n : Nat) (lv : Value) (L a : Int) (log : List (Int × Int)) (hlog : LogAt w lv log) (ha : a < 0 ∨ (n : Int) ≤ a) :
    Calls Try.prog 12 #[.agg #[.int .i64 n, lv, .int .i64 L], .int .i64 a] w fun e w' => e = .returned (.tuple #[.int .u32 0, .bool false]) ∧ Below w.heap.size w w' := by
  have hone : ∃ ao len cap, lv = .slice ao len cap := by
    rcases hlog with ⟨h, _⟩ | ⟨g, cap, cur, h, _⟩
    · exact ⟨_, _, _, h⟩
    · exact ⟨_, _, _, h⟩
  obtain ⟨ao, len, cap, rfl⟩ := hone
  clear hlog
  by_cases h0 : a < 0
  · go_enter Try.func12, Try.ntmps12
    go_wp2
    go_ret2
    exact ⟨rfl, (Below.refl _ _).alloc (Nat.le_refl _) _⟩
  · have h1 : (n : Int) ≤ a := by omega
    go_enter Try.func12, Try.ntmps12
    go_wp2
    go_ret2
    exact ⟨rfl, (Below.refl _ _).alloc (Nat.le_refl _) _⟩

theorem at_in (w : World) (n : Nat) (lv : Value) (L a : Int) (log : List (Int × Int)) (hlog : LogAt w lv log) (hl : log.length ≤ 1000000) (ha0 : 0 ≤ a) (ha1 : a < n) :
    Calls Try.prog 12 #[.agg #[.int .i64 n, lv, .int .i64 L], .int .i64 a] w fun e w' => e = .returned (.tuple #[.int .u32 (look log a), .bool true]) ∧ Below w.heap.size w w' := by
  rcases hlog with ⟨rfl, rfl⟩ | ⟨g, cap, cur, rfl, hg, hc1, hc2, hcur⟩
  · go_enter Try.func12, Try.ntmps12
    go_wp2_with fail
    refine wp_loop_rounds 1 ?_; rw [rounds_succ]
    go_wp2
    go_ret2
    exact ⟨by simp [look_nil], (Below.refl _ _).alloc (Nat.le_refl _) _⟩
  · obtain ⟨m, hm⟩ : ∃ m, m = log.length := ⟨_, rfl⟩
    have HM := Lib.hid hm
    have HC := Lib.hid hcur
    rw [← hm] at hl hc1 ⊢
    clear hm hcur
    have hgl := lt_of_heap hg
    go_enter Try.func12, Try.ntmps12
    go_wp2_with fail
    go_loop [6] (fun i => ∃ k : Nat, k ≤ m ∧ i = .int .i64 ((k : Int) - 1) ∧ Hid (look log a = look (log.take k) a)) (fun i => (intOf i + 1).toNat)
    case atStart => exact ⟨m, Nat.le_refl _, rfl, by rw [HM.out, List.take_length]; exact rfl⟩
    case round =>
      obtain ⟨k, hk, rfl, HK⟩ := hrel
      cases k with
      | zero =>
        have e0 : look log a = 0 := by rw [HK.out]; rfl
        have HE := Lib.hid e0
        clear e0
        go_wp2
        go_ret2
        exact ⟨by rw [HE.out]; exact rfl, (Below.refl _ _).alloc (Nat.le_refl _) _⟩
      | succ k =>
        rw [show ((k + 1 : Nat) : Int) - 1 = (k : Int) by omega]
        obtain ⟨x, hx⟩ : ∃ x, log[k]? = some x := ⟨_, List.getElem?_eq_getElem (by have := HM.out; omega)⟩
        obtain ⟨h0, h1⟩ := log_cell hg HC.out k x hx
        have HX := Lib.hid (look_take log k x hx a)
        have HXX := Lib.hid hx
        clear hx
        go_wp2
        · have hxa : (x.fst == a) = true := by assumption
          go_ret2
          exact ⟨by rw [HK.out, HX.out, if_pos (by simpa using hxa)]; exact rfl, (Below.refl _ _).alloc (Nat.le_refl _) _⟩
        · have hxa : (x.fst == a) = false := by assumption
          go_round
          case rel => exact ⟨k, by omega, rfl, by rw [HK.out, HX.out, if_neg (by simpa using hxa)]; exact rfl⟩
          case measure => simp [intOf] <;> omega

theorem ref_store_out (w : World) (n : Nat) (lv : Value) (L a v : Int) (log : List (Int × Int)) (hlog : LogAt w lv log) (ha : a < 0 ∨ (n : Int) ≤ a) :
    Calls Try.prog 13 #[.agg #[.int .i64 n, lv, .int .i64 L], .int .i64 a, .int .u32 v] w fun e w' => e = .returned (.tuple #[.int .i64 2, .agg #[.int .i64 n, lv, .int .i64 L]]) ∧ Below w.heap.size w w' := by
  have hone : ∃ ao len cap, lv = .slice ao len cap := by
    rcases hlog with ⟨h, _⟩ | ⟨g, cap, cur, h, _⟩
    · exact ⟨_, _, _, h⟩
    · exact ⟨_, _, _, h⟩
  obtain ⟨ao, len, cap, rfl⟩ := hone
  clear hlog
  by_cases h0 : a < 0
  · skip
    go_enter Try.func13, Try.ntmps13
    go_wp2
    go_region
    all_goals
      go_wp2
      refine bodyPost_ret (v := .tuple #[.int .i64 2, .agg #[.int .i64 n, .slice ao len cap, .int .i64 L]]) (by simp [results, go_sem]) rfl ⟨rfl, ?_⟩
      first | exact ((Below.refl _ _).alloc (Nat.le_refl _) _).alloc (by simp) _ | exact (((Below.refl _ _).alloc (Nat.le_refl _) _).alloc (by simp) _).drew
  · have h1 : (n : Int) ≤ a := by omega
    go_enter Try.func13, Try.ntmps13
    go_wp2
    go_region
    all_goals
      go_wp2
      refine bodyPost_ret (v := .tuple #[.int .i64 2, .agg #[.int .i64 n, .slice ao len cap, .int .i64 L]]) (by simp [results, go_sem]) rfl ⟨rfl, ?_⟩
      first | exact ((Below.refl _ _).alloc (Nat.le_refl _) _).alloc (by simp) _ | exact (((Below.refl _ _).alloc (Nat.le_refl _) _).alloc (by simp) _).drew

/-! Where the copies lie -/
theorem le_two {w : World} {A B : Obj} : w.heap.size ≤ ((w.alloc A).alloc B).heap.size := by simp; omega
theorem below_three {w : World} {A B C : Obj} : Below w.heap.size w (((w.alloc A).alloc B).alloc C) := (((Below.refl _ _).alloc (Nat.le_refl _) _).alloc (by simp) _).alloc (by simp; omega) _
theorem far_cells {w w' : World} (hb : Below w.heap.size w w') {g : Nat} {cur : Array Value} {t : TypeId} {n : Nat} {xs : List Value} (hg : w.heap[g]? = some (.cells cur t (0, 0))) (ht : cur.toList.take n = xs) :
    ∀ (j : Nat) (u : Value), xs[j]? = some u → w'.cell? ((⟨g, 0, none⟩ : Addr).add j) = some u := by
  intro j u hj
  rw [Addr.add_lit, Nat.zero_add, World.cell?_of_block (w := w) (hb.block g (lt_of_heap hg)), cell_at hg]
  rw [← ht, List.getElem?_take] at hj
  split at hj
  · simpa using hj
  · cases hj
theorem new_cells (w : World) (cs : Array Value) (t : TypeId) : ∀ (j : Nat) (u : Value), cs.toList[j]? = some u → (w.alloc (.cells cs t)).cell? ((⟨w.heap.size, 0, none⟩ : Addr).add j) = some u := by
  intro j u hj
  rw [Addr.add_lit, Nat.zero_add, cell_at (heap_alloc_new w _)]
  simpa using hj
/-- Behind the first append: the two variables stand. -/
theorem vars_kept {w w1 : World} {a b : Array Value} {s t : TypeId} {C : Obj} {row : Option Nat} (h : (((w.alloc (.cells a s)).alloc (.cells b t)).alloc C).grownBy w1 row) (hr : row = some (w.heap.size + 2) ∨ row = none) :
    w1.heap[w.heap.size]? = some (.cells a s (0, 0)) ∧ w1.heap[w.heap.size + 1]? = some (.cells b t (0, 0)) ∧ Below w.heap.size w w1 ∧ w.heap.size + 3 ≤ w1.heap.size := by
  have hs := h.size
  simp at hs
  refine ⟨?_, ?_, below_three.grown h (by simp; omega) (fun k hk => by rcases hr with hr | hr <;> rw [hr] at hk <;> simp at hk; omega), by omega⟩
  · rw [h.block _ (by simp; omega) (by rcases hr with hr | hr <;> rw [hr] <;> simp)]
    rw [Below.heap_alloc _ _ _ (by simp; omega), Below.heap_alloc _ _ _ (by simp)]
    exact heap_alloc_new w _
  · rw [h.block _ (by simp) (by rcases hr with hr | hr <;> rw [hr] <;> simp)]
    rw [Below.heap_alloc _ _ _ (by simp)]
    simpa using heap_alloc_new (w.alloc (.cells a s)) (.cells b t)
theorem vars_kept2 {w1 w2 : World} {k : Nat} {o C : Obj} {row : Option Nat} (h : (w1.alloc C).grownBy w2 row) (ho : w1.heap[k]? = some o) (hr : row ≠ some k) : w2.heap[k]? = some o := by
  rw [h.block k (by have := lt_of_heap ho; simp; omega) (Ne.symm hr), Below.heap_alloc _ _ _ (lt_of_heap ho)]
  exact ho
theorem owned_lit3 {w : World} {A B : Obj} {e : TypeId} {size : Nat} : (((w.alloc A).alloc B).alloc (.cells #[] e)).ownsRow w.heap.size e size (.slice (some ⟨w.heap.size + 1 + 1, 0, none⟩) 0 0) 0 [] := by
  have := World.ownsRow_lit (base := w.heap.size) (e := e) (size := size) ((w.alloc A).alloc B) #[] 0 le_two (by decide) (by simp)
  simpa using this
theorem owns_block {w : World} {base : Nat} {e : TypeId} {size : Nat} {v : Value} {n : Nat} {xs : List Value} (h : w.ownsRow base e size v n xs) {k : Nat} {cs : Array Value} {t : TypeId} (hk : w.heap[k]? = some (.cells cs t (0, 0))) (hne : e ≠ t) : v.ownBlock ≠ some k := by
  rcases h.2 with ⟨rfl, _⟩ | ⟨g, cap, cur, rfl, _, hg, _⟩
  · simp [Value.ownBlock]
  · intro hh
    simp [Value.ownBlock] at hh
    subst hh
    rw [hg] at hk
    simp at hk
    exact hne hk.2

theorem owns_ge {w : World} {base : Nat} {e : TypeId} {size : Nat} {v : Value} {n : Nat} {xs : List Value} (h : w.ownsRow base e size v n xs) (k : Nat) (hk : v.ownBlock = some k) : base ≤ k := by
  rcases h.2 with ⟨rfl, _⟩ | ⟨g, cap, cur, rfl, hb, _⟩
  · simp [Value.ownBlock] at hk
  · simp [Value.ownBlock] at hk
    omega
/-- What the second append leaves: the longer row, in a place of its own, and the two variables. -/
theorem after_two {w w1 w2 : World} {v1 v2 : Value} {m n : Nat} {xs ys : List Value} {a b : Array Value} {s t : TypeId} {C : Obj} {log : List (Int × Int)} (ho1 : w1.ownsRow w.heap.size 57 2 v1 m xs)
    (hx0 : w1.heap[w.heap.size]? = some (.cells a s (0, 0))) (hx1 : w1.heap[w.heap.size + 1]? = some (.cells b t (0, 0))) (hs : 57 ≠ s) (ht : 57 ≠ t) (hbel1 : Below w.heap.size w w1)
    (ho2 : w2.ownsRow w.heap.size 57 2 v2 n ys) (hg : (w1.alloc C).grownBy w2 v1.ownBlock) (hn : n = log.length) (hpos : 0 < n) (hys : ys = logCells log) :
    ∃ g cap cur, v2 = .slice (some ⟨g, 0, none⟩) n cap ∧ w2.heap[g]? = some (.cells cur 57 (0, 0)) ∧ n ≤ cap ∧ cap ≤ maxLen ∧ cur.toList.take (n * 2) = logCells log ∧
      w2.heap[w.heap.size]? = some (.cells a s (0, 0)) ∧ w2.heap[w.heap.size + 1]? = some (.cells b t (0, 0)) ∧ Below w.heap.size w w2 ∧ g ≠ w.heap.size ∧ g ≠ w.heap.size + 1 := by
  have h0 := vars_kept2 hg hx0 (owns_block ho1 hx0 hs)
  have h1 := vars_kept2 hg hx1 (owns_block ho1 hx1 ht)
  have hb : Below w.heap.size w w2 := (hbel1.alloc hbel1.size _).grown hg (by have := hbel1.size; simp; omega) (fun k hk => owns_ge ho1 k hk)
  subst hys
  obtain ⟨_, h | ⟨g, cap, cur, h2, _, h3, h4, h5, _, h6⟩⟩ := ho2
  · omega
  · refine ⟨g, cap, cur, h2, h3, h4, h5, h6, h0, h1, hb, ?_, ?_⟩
    · rintro rfl
      rw [h3] at h0
      simp at h0
      exact hs h0.2
    · rintro rfl
      rw [h3] at h1
      simp at h1
      exact ht h1.2

set_option maxHeartbeats 1000000 in
theorem ref_store_in (w : World) (n : Nat) (lv : Value) (L a v : Int) (log : List (Int × Int)) (hlog : LogAt w lv log) (hl : log.length ≤ 1000000) (ha0 : 0 ≤ a) (ha1 : a < n) :
    Calls Try.prog 13 #[.agg #[.int .i64 n, lv, .int .i64 L], .int .i64 a, .int .u32 v] w fun e w' => ∃ lv', e = .returned (.tuple #[.int .i64 0, .agg #[.int .i64 n, lv', .int .i64 L]]) ∧ LogAt w' lv' (log ++ [(a, v)]) ∧ Below w.heap.size w w' := by
  obtain ⟨i0, hi, hz0, hz1, hz2⟩ := info_parts info_store
  rcases hlog with ⟨rfl, rfl⟩ | ⟨g, cap, cur, rfl, hg, hc1, hc2, hcur⟩
  · have HI := Lib.hid (And.intro hi (And.intro hz0 (And.intro hz1 hz2)))
    clear hi hz0 hz1 hz2
    go_enter Try.func13, Try.ntmps13
    go_wp2_with (first
      | (at_builtin; refine wpList_append_own_none rfl (.tmp 19) (.tmp 21) 28 rfl w.heap.size 57 i0 2 Try.underlying28 HI.out.1 _ 0 [] rfl owned_lit3 rfl ?_; obtain ⟨w1, hw1⟩ : ∃ w1, w1 = ((w.alloc (.cells #[.int .i64 n, .slice none 0 0, .int .i64 L] 30)).alloc (.cells #[.int .i64 0, .slice none 0 0, .int .i64 0] 30)).alloc (.cells #[] 57) := ⟨_, rfl⟩; rw [← hw1]; obtain ⟨hx0, hx1, hbel1, hsz1⟩ := vars_kept (World.grownBy.refl _ none) (.inr rfl); have HO1 := Lib.hid (show w1.ownsRow w.heap.size 57 2 (.slice (some ⟨w.heap.size + 1 + 1, 0, none⟩) 0 0) 0 [] by rw [hw1]; exact owned_lit3); rw [← hw1] at hx0 hx1 hbel1 hsz1; have HX0 := Lib.hid hx0; have HX1 := Lib.hid hx1; clear hx0 hx1 hw1)
      | (at_builtin; refine wpList_append_own _ rfl (.tmp 23) (.tmp 27) 28 rfl w.heap.size 57 i0 _ 2 16 Try.underlying28 HI.out.1 HI.out.2.1 HI.out.2.2.1 HI.out.2.2.2 rfl (by decide) _ 0 [] rfl (HO1.out.alloc _) ⟨w1.heap.size, 0, none⟩ 1 1 [.int .i64 a, .int .u32 v] rfl rfl (new_cells w1 _ _) (by simp [Value.oneCell']) (by unfold maxLen; omega) (by omega) (by have := hbel1.size; simp; omega) ?_; intro v2 w2 hown2 hgrow2 hnil2; obtain ⟨g2, cap2, cur2, rfl, hg2, hc21, hc22, hcur2, hy0, hy1, hbel2, hne0, hne1⟩ := after_two (log := [(a, v)]) HO1.out HX0.out HX1.out (by decide) (by decide) hbel1 hown2 hgrow2 rfl (by decide) rfl; have k0 := cell_at hy0 0; have k1 := cell_at hy0 1; have k2 := cell_at hy0 2; have k3 := cell_at hy1 0; have k4 := cell_at hy1 1; have k5 := cell_at hy1 2; have f1 := free_at hy0 1; have f3 := free_at hy1 0; have f4 := free_at hy1 1; have f5 := free_at hy1 2; have HE := Lib.hid (And.intro hg2 (And.intro hc21 (And.intro hc22 (And.intro hcur2 (And.intro hbel2 (And.intro hne0 hne1)))))); clear hown2 hgrow2 hnil2 hg2 hcur2 hbel2 hne0 hne1 hy0 hy1))
    go_region
    all_goals
      go_wp2
      obtain ⟨hg2, hc21, hc22, hcur2, hbel2, hne0, hne1⟩ := HE.out
      refine bodyPost_ret (v := .tuple #[.int .i64 0, .agg #[.int .i64 n, .slice (some ⟨g2, 0, none⟩) 1 cap2, .int .i64 L]]) (by simp [results, go_sem, k3, k4, k5]) rfl ⟨_, rfl, ?_, ?_⟩
      · refine .inr ⟨g2, cap2, cur2, rfl, ?_, hc21, hc22, hcur2⟩
        change (World.heap (World.setCell _ _ _))[g2]? = _
        repeat rw [Below.heap_setCell _ _ _ _ (by assumption)]
        exact hg2
      · exact ((((hbel2.setCell (p := ⟨w.heap.size, 1, none⟩) (Nat.le_refl _) _).setCell (p := ⟨w.heap.size + 1, 0, none⟩) (Nat.le_succ _) _).setCell (p := ⟨w.heap.size + 1, 1, none⟩) (Nat.le_succ _) _).setCell (p := ⟨w.heap.size + 1, 2, none⟩) (Nat.le_succ _) _).drew
  · obtain ⟨m, hm⟩ : ∃ m, m = log.length := ⟨_, rfl⟩
    have HM := Lib.hid hm
    have HC := Lib.hid hcur
    have HL := Lib.hid (show (logCells log).length = m * 2 by rw [logCells_length, hm])
    have HG := Lib.hid hg
    rw [← hm] at hl hc1 ⊢
    clear hm hcur hg
    have HI := Lib.hid (And.intro hi (And.intro hz0 (And.intro hz1 hz2)))
    clear hi hz0 hz1 hz2
    go_enter Try.func13, Try.ntmps13
    go_wp2_with (first
      | (at_builtin; refine wpList_append_own _ rfl (.tmp 19) (.tmp 21) 28 rfl w.heap.size 57 i0 _ 2 16 Try.underlying28 HI.out.1 HI.out.2.1 HI.out.2.2.1 HI.out.2.2.2 rfl (by decide) _ 0 [] rfl owned_lit3 ⟨g, 0, none⟩ m cap (logCells log) rfl HL.out (far_cells below_three HG.out HC.out) (logCells_one log) (by unfold maxLen; omega) (by omega) (by simp; omega) ?_; intro v1 w1 hown1 hgrow1 hnil1; have HO1 := Lib.hid hown1; rw [Nat.zero_add, List.nil_append] at HO1; obtain ⟨hx0, hx1, hbel1, hsz1⟩ := vars_kept hgrow1 (.inl rfl); have HX0 := Lib.hid hx0; have HX1 := Lib.hid hx1; clear hgrow1 hnil1 hown1 hx0 hx1)
      | (at_builtin; refine wpList_append_own _ rfl (.tmp 23) (.tmp 27) 28 rfl w.heap.size 57 i0 _ 2 16 Try.underlying28 HI.out.1 HI.out.2.1 HI.out.2.2.1 HI.out.2.2.2 rfl (by decide) _ m (logCells log) rfl (HO1.out.alloc _) ⟨w1.heap.size, 0, none⟩ 1 1 [.int .i64 a, .int .u32 v] rfl rfl (new_cells w1 _ _) (by simp [Value.oneCell']) (by unfold maxLen; omega) (by omega) (by have := hbel1.size; simp; omega) ?_; intro v2 w2 hown2 hgrow2 hnil2; obtain ⟨g2, cap2, cur2, rfl, hg2, hc21, hc22, hcur2, hy0, hy1, hbel2, hne0, hne1⟩ := after_two (log := log ++ [(a, v)]) HO1.out HX0.out HX1.out (by decide) (by decide) hbel1 hown2 hgrow2 (by have := HM.out; simp; omega) (by omega) (logCells_snoc log (a, v)).symm; have k0 := cell_at hy0 0; have k1 := cell_at hy0 1; have k2 := cell_at hy0 2; have k3 := cell_at hy1 0; have k4 := cell_at hy1 1; have k5 := cell_at hy1 2; have f1 := free_at hy0 1; have f3 := free_at hy1 0; have f4 := free_at hy1 1; have f5 := free_at hy1 2; have HE := Lib.hid (And.intro hg2 (And.intro hc21 (And.intro hc22 (And.intro hcur2 (And.intro hbel2 (And.intro hne0 hne1)))))); clear hown2 hgrow2 hnil2 hg2 hcur2 hbel2 hne0 hne1 hy0 hy1))
    go_region
    all_goals
      go_wp2
      obtain ⟨hg2, hc21, hc22, hcur2, hbel2, hne0, hne1⟩ := HE.out
      refine bodyPost_ret (v := .tuple #[.int .i64 0, .agg #[.int .i64 n, .slice (some ⟨g2, 0, none⟩) (m + 1) cap2, .int .i64 L]]) (by simp [results, go_sem, k3, k4, k5]) rfl ⟨_, rfl, ?_, ?_⟩
      · refine .inr ⟨g2, cap2, cur2, by simp [HM.out], ?_, by simpa [HM.out] using hc21, hc22, by simpa [HM.out] using hcur2⟩
        change (World.heap (World.setCell _ _ _))[g2]? = _
        repeat rw [Below.heap_setCell _ _ _ _ (by assumption)]
        exact hg2
      · exact ((((hbel2.setCell (p := ⟨w.heap.size, 1, none⟩) (Nat.le_refl _) _).setCell (p := ⟨w.heap.size + 1, 0, none⟩) (Nat.le_succ _) _).setCell (p := ⟨w.heap.size + 1, 1, none⟩) (Nat.le_succ _) _).setCell (p := ⟨w.heap.size + 1, 2, none⟩) (Nat.le_succ _) _).drew
end Go.Proofs.Ytonckllhgnngdaa
