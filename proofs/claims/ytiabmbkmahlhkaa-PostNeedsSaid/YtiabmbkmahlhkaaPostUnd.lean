/-
  The law's closure that adds a word to a term's places. Over the program's own text.
-/
import Derived.Test.YtiabmbkmahlhkaaPostSeq
namespace Go.Proofs.Ytiabmbkmahlhkaa
open Go.RowKit

/-- Eight tails. -/
def eight (t : Nat → Int) : Array Value := #[.int .i64 (t 0), .int .i64 (t 1), .int .i64 (t 2), .int .i64 (t 3), .int .i64 (t 4), .int .i64 (t 5), .int .i64 (t 6), .int .i64 (t 7)]
theorem eight_get (t : Nat → Int) (k : Nat) (hk : k < 8) : (eight t)[k]? = some (.int .i64 (t k)) := by
  rcases (show k = 0 ∨ k = 1 ∨ k = 2 ∨ k = 3 ∨ k = 4 ∨ k = 5 ∨ k = 6 ∨ k = 7 by omega) with rfl | rfl | rfl | rfl | rfl | rfl | rfl | rfl <;> rfl
theorem eight_set (t : Nat → Int) (k : Nat) (x : Int) (hk : k < 8) : (eight t).setIfInBounds k (.int .i64 x) = eight (setT t k x) := by
  rcases (show k = 0 ∨ k = 1 ∨ k = 2 ∨ k = 3 ∨ k = 4 ∨ k = 5 ∨ k = 6 ∨ k = 7 by omega) with rfl | rfl | rfl | rfl | rfl | rfl | rfl | rfl <;> rfl
/-- The law's variables. -/
structure UB (bm bp bu bt mb : Nat) (B S : Nat → Int) (C T L : Int) (tails Us : Nat → Int) (w : World) : Prop where
  m : w.heap[bm]? = some (.cells #[.pointer (some ⟨mb, 0, none⟩)] 33 (0, 0))
  p : w.heap[bp]? = some (.cells (planC B S C T L) 29 (0, 0))
  u : w.heap[bu]? = some (.cells (six Us) 27 (0, 0))
  t : w.heap[bt]? = some (.cells (eight tails) 49 (0, 0))
theorem UB.of_blocks {bm bp bu bt mb : Nat} {B S : Nat → Int} {C T L : Int} {tails Us : Nat → Int} {w w' : World} (h : UB bm bp bu bt mb B S C T L tails Us w) (hb : ∀ k, (k = bm ∨ k = bp ∨ k = bu ∨ k = bt) → k < w.heap.size → w'.heap[k]? = w.heap[k]?) : UB bm bp bu bt mb B S C T L tails Us w' :=
  ⟨(hb _ (.inl rfl) (lt_of_heap h.m)).trans h.m, (hb _ (.inr (.inl rfl)) (lt_of_heap h.p)).trans h.p, (hb _ (.inr (.inr (.inl rfl))) (lt_of_heap h.u)).trans h.u, (hb _ (.inr (.inr (.inr rfl))) (lt_of_heap h.t)).trans h.t⟩
theorem UB.below {bm bp bu bt mb : Nat} {B S : Nat → Int} {C T L : Int} {tails Us : Nat → Int} {w w' : World} (h : UB bm bp bu bt mb B S C T L tails Us w) (hb : Below w.heap.size w w') : UB bm bp bu bt mb B S C T L tails Us w' := h.of_blocks fun k _ hk => hb.block k hk
theorem UB.lt {bm bp bu bt mb : Nat} {B S : Nat → Int} {C T L : Int} {tails Us : Nat → Int} {w : World} (h : UB bm bp bu bt mb B S C T L tails Us w) : bm < w.heap.size ∧ bp < w.heap.size ∧ bu < w.heap.size ∧ bt < w.heap.size := ⟨lt_of_heap h.m, lt_of_heap h.p, lt_of_heap h.u, lt_of_heap h.t⟩
/-- Blocks of unlike kinds are unlike. -/
theorem UB.ne {bm bp bu bt mb cb : Nat} {B S : Nat → Int} {C T L : Int} {tails Us : Nat → Int} {w : World} {cs : List Int} {l s : Int} (h : UB bm bp bu bt mb B S C T L tails Us w) (hm : MemAt w mb cb cs l s) :
    (bm ≠ mb ∧ bp ≠ mb ∧ bu ≠ mb ∧ bt ≠ mb) ∧ (bm ≠ cb ∧ bp ≠ cb ∧ bu ≠ cb ∧ bt ≠ cb) ∧ (bu ≠ bt ∧ bu ≠ bm ∧ bu ≠ bp ∧ bt ≠ bm ∧ bt ≠ bp) := by
  have k : ∀ {a b : Nat} {c d : Array Value} {x y : TypeId}, w.heap[a]? = some (.cells c x (0, 0)) → w.heap[b]? = some (.cells d y (0, 0)) → x ≠ y → a ≠ b := by
    intro a b c d x y h1 h2 hxy e
    subst e
    have h3 := h1.symm.trans h2
    injection h3 with h4
    injection h4 with h5 h6
    exact hxy h6
  exact ⟨⟨k h.m hm.rec_ (by decide), k h.p hm.rec_ (by decide), k h.u hm.rec_ (by decide), k h.t hm.rec_ (by decide)⟩, ⟨k h.m hm.row (by decide), k h.p hm.row (by decide), k h.u hm.row (by decide), k h.t hm.row (by decide)⟩, k h.u h.t (by decide), k h.u h.m (by decide), k h.u h.p (by decide), k h.t h.m (by decide), k h.t h.p (by decide)⟩

/-- What a put comes to: its answer, and the state. -/
def PutRes (B S : Nat → Int) (C : Int) (mb cb : Nat) (tails Us : Nat → Int) (cs : List Int) (D : Int → Prop) (N k : Nat) (x : Nat) (R : Int × (Nat → Int) × Int) (wx : World) : Prop :=
  (R.2.2 = 3 ∧ PS B S C mb cb tails Us cs D (N + 2) wx) ∨ (R.2.2 = 0 ∧ ∃ cs' D', PS B S C mb cb (setT tails k R.1) R.2.1 cs' D' (N + 2) wx ∧ PutOk B S C cs Us D tails k (tails k) x cs' R.2.1 D' R.1)
theorem PutRes.mod {B S : Nat → Int} {C : Int} {mb cb : Nat} {tails Us : Nat → Int} {cs : List Int} {D : Int → Prop} {N k x : Nat} {R : Int × (Nat → Int) × Int} {w w' : World} (h : PutRes B S C mb cb tails Us cs D N k x R w) {Z : Nat → Prop} (hm : Mod Z w w') (h1 : ¬ Z mb) (h2 : ¬ Z cb) : PutRes B S C mb cb tails Us cs D N k x R w' := by
  rcases h with ⟨e, h⟩ | ⟨e, cs', D', h, ho⟩
  · exact .inl ⟨e, h.mod hm h1 h2⟩
  · exact .inr ⟨e, cs', D', h.mod hm h1 h2, ho⟩
/-- In the region of the call. -/
structure AddR (W : World) (bm bp bu bt mb cb : Nat) (B S : Nat → Int) (C T L : Int) (tails Us : Nat → Int) (cs : List Int) (D : Int → Prop) (N k x xt : Nat) (z : Nat × (Int × (Nat → Int) × Int)) (l : Nat → Bool) (wx : World) : Prop where
  ub : UB bm bp bu bt mb B S C T L tails Us wx
  op : wx.heap[W.heap.size]? = some (.cells #[.int .u8 (xt : Int), .int .u32 (x : Int)] 43 (0, 0))
  mod : Mod (fun k => k = mb ∨ k = cb) W wx
  pre : l 10 = false → PS B S C mb cb tails Us cs D N wx
  post : l 10 = true → PutRes B S C mb cb tails Us cs D N k x z.2 wx
  d11 : l 11 = true → l 10 = true
  d12 : l 12 = true → l 10 = true
  d13 : l 13 = true → l 10 = true
  d14 : l 14 = true → l 10 = true
  d16 : l 16 = true → l 10 = true
  d17 : l 17 = true → l 10 = true ∧ l 15 = true
  d18 : l 18 = true → l 10 = true
  blk : l 15 = true → W.heap.size < z.1 ∧ wx.heap[z.1]? = some (.cells (six (if l 17 then z.2.2.1 else fun _ => 0)) 27 (0, 0))

set_option maxRecDepth 100000 in
set_option maxHeartbeats 4000000 in
theorem add_at {walkP : (Nat → Int) → (Nat → Int) → Int → Int → Pr (List Nat)} (K : KeptPost walkP) {bm bp bu bt mb cb : Nat} {B S : Nat → Int} {C T L : Int} (hL : Laid B S C) {tails Us : Nat → Int} {cs : List Int} {D : Int → Prop} {N : Nat} {W : World} (hub : UB bm bp bu bt mb B S C T L tails Us W) (hps : PS B S C mb cb tails Us cs D N W) (hN : N ≤ 90000000) (xt x : Nat) (hxt : xt < 256) (hx : x < 4294967296) :
    Calls Try.prog 11 #[.agg #[.int .u8 (xt : Int), .int .u32 (x : Int)], .pointer (some ⟨bm, 0, none⟩), .pointer (some ⟨bp, 0, none⟩), .pointer (some ⟨bu, 0, none⟩), .pointer (some ⟨bt, 0, none⟩)] W fun e w' => e = .returned (.tuple #[]) ∧ Mod (fun k => k = bu ∨ k = bt ∨ k = mb ∨ k = cb) W w' ∧ ∃ tails' Us', UB bm bp bu bt mb B S C T L tails' Us' w' ∧ ∃ cs' D', PS B S C mb cb tails' Us' cs' D' (N + 2) w' ∧ (∀ a, D a → D' a) ∧ (∀ a, D a → cs'.getD a.toNat 0 = cs.getD a.toNat 0) ∧ ∀ i ws, Chain B S cs D (tails i) ws → ∃ ws', Chain B S cs' D' (tails' i) ws' ∧ ws'.length ≤ ws.length + 1 := by
  obtain ⟨k, hk⟩ : ∃ k, k = xt % 8 := ⟨_, rfl⟩
  have hk8 : k < 8 := by omega
  have hk1 : (xt : Int) % 8 = (k : Int) := by omega
  have hk2 : (xt : Int).tmod 8 = (k : Int) := by rw [Int.tmod_eq_emod_of_nonneg (by omega)]; exact hk1
  have hk3 : IntKind.u8.wrap (k : Int) = (k : Int) := IntWalk.u8_in _ (by omega)
  have hk4 : (k : Int) < 8 := by omega
  have hx0 : (0 : Int) ≤ (xt : Int) := by omega
  obtain ⟨lm, sm, hmem, _⟩ := hps.mem
  obtain ⟨⟨m1, m2, m3, m4⟩, ⟨c1, c2, c3, c4⟩, u1, u2, u3, u4, u5⟩ := hub.ne hmem
  have HNe := Lib.hid (And.intro m1 (And.intro m2 (And.intro m3 (And.intro m4 (And.intro c1 (And.intro c2 (And.intro c3 (And.intro c4 (And.intro u1 (And.intro u2 (And.intro u3 (And.intro u4 u5))))))))))))
  have HLt := Lib.hid (And.intro hub.lt hps.lt)
  have HU := Lib.hid hub
  have HPS := Lib.hid hps
  have HPut := Lib.hid (fun (w : World) (h : PS B S C mb cb tails Us cs D N w) => h.put K (T := T) (L := L) hL hN hk8 rfl x hx)
  clear K hmem hk m1 m2 m3 m4 c1 c2 c3 c4 u1 u2 u3 u4 u5
  go_enter Try.func11, Try.ntmps11
  go_upto_region 1 with fail
  obtain ⟨w1, hw1⟩ : ∃ w1, w1 = W.alloc (.cells #[.int .u8 (xt : Int), .int .u32 (x : Int)] 43) := ⟨_, rfl⟩
  rw [show W.alloc (.cells #[.int .u8 (xt : Int), .int .u32 (x : Int)] 43) = w1 from hw1.symm]
  have hR0 : AddR W bm bp bu bt mb cb B S C T L tails Us cs D N k x xt (0, (0, (fun _ => 0), 0)) (fun _ => false) w1 := by
    have hb : Below W.heap.size W w1 := by rw [hw1]; exact below_one
    exact ⟨HU.out.below hb, by rw [hw1]; exact heap_alloc_new _ _, Below.mod hb _ fun k hk hk' => by omega, fun _ => HPS.out.below hb, (fun h => by cases h), (fun h => by cases h), (fun h => by cases h), (fun h => by cases h), (fun h => by cases h), (fun h => by cases h), (fun h => by cases h), (fun h => by cases h), (fun h => by cases h)⟩
  have HR0 := Lib.hid hR0
  clear hw1 hR0 hub hps
  refine wp_region_by (fun (z : Nat × (Int × (Nat → Int) × Int)) j => [.pointer (some ⟨mb, 0, none⟩), .agg (planC B S C T L), .agg (six Us), .pointer (some ⟨W.heap.size, 0, none⟩), .int .u8 (xt : Int), .int .u8 (k : Int), .pointer (some ⟨bt, k, none⟩), .int .i64 (tails k), .pointer (some ⟨W.heap.size, 1, none⟩), .int .u32 (x : Int), .tuple #[.int .i64 z.2.1, .agg (six z.2.2.1), .int .i64 z.2.2.2], .tuple #[.int .i64 z.2.1, .agg (six z.2.2.1), .int .i64 z.2.2.2], .int .i64 z.2.1, .agg (six z.2.2.1), .int .i64 z.2.2.2, .pointer (some ⟨z.1, 0, none⟩), .int .i64 z.2.1, undef, .int .i64 z.2.2.2].getD j undef)
    (AddR W bm bp bu bt mb cb B S C T L tails Us cs D N k x xt)
    (by kernel_rfl) (by kernel_rfl) (fun q => by simp only [putTo, dstOf, Act.put, List.size_toArray, List.length_cons, List.length_nil, List.getElem?_toArray, Nat.reduceAdd, Option.bind_some, List.getElem?_cons_zero, List.getElem?_cons_succ, List.setIfInBounds_toArray, List.set_cons_zero, List.set_cons_succ, List.getD_cons_zero, List.getD_cons_succ]; exact rfl) (0, (0, (fun _ => 0), 0)) ?_ ?_ ?_
  · obtain ⟨a, b, c, d, e, f, g, h, i, j, m, n, o⟩ := HR0.out
    exact ⟨a.of_blocks fun _ _ _ => rfl, b, c.drew, fun h => (d h).mod (T := fun _ => False) (Mod.refl _ _).drew id id, (fun h => by cases h), f, g, h, i, j, m, n, (fun h => by cases h)⟩
  · clear HR0
    intro y o ho z l wx hR hl he K hK
    rcases y with _ | _ | _ | _ | _ | _ | _ | _ | _ | _ | _ | _ | _ | _ | _ | _ | _ | _ | _ | y
    · obtain rfl : _ = o := Option.some.inj ho
      have c0 : wx.cell? ⟨bm, 0, none⟩ = some (.pointer (some ⟨mb, 0, none⟩)) := cell_at hR.ub.m 0
      go_simp
      exact hK z wx (fun _ _ => rfl) ⟨hR.ub, hR.op, hR.mod, hR.pre, hR.post, hR.d11, hR.d12, hR.d13, hR.d14, hR.d16, hR.d17, hR.d18, hR.blk⟩
    · obtain rfl : _ = o := Option.some.inj ho
      refine wp_load_row 29 (.tmp 2) rfl bp rfl 29 (planC B S C T L) (0, 0) _ hR.ub.p Try.underlying29 rfl (planC_info _ _ _ _ _) ?_
      exact hK z wx (fun _ _ => rfl) ⟨hR.ub, hR.op, hR.mod, hR.pre, hR.post, hR.d11, hR.d12, hR.d13, hR.d14, hR.d16, hR.d17, hR.d18, hR.blk⟩
    · obtain rfl : _ = o := Option.some.inj ho
      refine wp_load_row 27 (.tmp 3) rfl bu rfl 27 (six Us) (0, 0) _ hR.ub.u Try.underlying27 rfl (six_info _) ?_
      exact hK z wx (fun _ _ => rfl) ⟨hR.ub, hR.op, hR.mod, hR.pre, hR.post, hR.d11, hR.d12, hR.d13, hR.d14, hR.d16, hR.d17, hR.d18, hR.blk⟩
    · obtain rfl : _ = o := Option.some.inj ho
      go_simp
      exact hK z wx (fun _ _ => rfl) ⟨hR.ub, hR.op, hR.mod, hR.pre, hR.post, hR.d11, hR.d12, hR.d13, hR.d14, hR.d16, hR.d17, hR.d18, hR.blk⟩
    · obtain rfl : _ = o := Option.some.inj ho
      have c0 : wx.cell? ⟨W.heap.size, 0, none⟩ = some (.int .u8 (xt : Int)) := cell_at hR.op 0
      go_simp
      exact hK z wx (fun _ _ => rfl) ⟨hR.ub, hR.op, hR.mod, hR.pre, hR.post, hR.d11, hR.d12, hR.d13, hR.d14, hR.d16, hR.d17, hR.d18, hR.blk⟩
    · obtain rfl : _ = o := Option.some.inj ho
      go_simp
      exact hK z wx (fun _ _ => rfl) ⟨hR.ub, hR.op, hR.mod, hR.pre, hR.post, hR.d11, hR.d12, hR.d13, hR.d14, hR.d16, hR.d17, hR.d18, hR.blk⟩
    · obtain rfl : _ = o := Option.some.inj ho
      go_simp
      exact hK z wx (fun _ _ => rfl) ⟨hR.ub, hR.op, hR.mod, hR.pre, hR.post, hR.d11, hR.d12, hR.d13, hR.d14, hR.d16, hR.d17, hR.d18, hR.blk⟩
    · obtain rfl : _ = o := Option.some.inj ho
      have c0 : wx.cell? ⟨bt, k, none⟩ = some (.int .i64 (tails k)) := (cell_at hR.ub.t k).trans (eight_get _ k hk8)
      go_simp
      exact hK z wx (fun _ _ => rfl) ⟨hR.ub, hR.op, hR.mod, hR.pre, hR.post, hR.d11, hR.d12, hR.d13, hR.d14, hR.d16, hR.d17, hR.d18, hR.blk⟩
    · obtain rfl : _ = o := Option.some.inj ho
      go_simp
      exact hK z wx (fun _ _ => rfl) ⟨hR.ub, hR.op, hR.mod, hR.pre, hR.post, hR.d11, hR.d12, hR.d13, hR.d14, hR.d16, hR.d17, hR.d18, hR.blk⟩
    · obtain rfl : _ = o := Option.some.inj ho
      have c0 : wx.cell? ⟨W.heap.size, 1, none⟩ = some (.int .u32 (x : Int)) := cell_at hR.op 1
      go_simp
      exact hK z wx (fun _ _ => rfl) ⟨hR.ub, hR.op, hR.mod, hR.pre, hR.post, hR.d11, hR.d12, hR.d13, hR.d14, hR.d16, hR.d17, hR.d18, hR.blk⟩
    · obtain rfl : _ = o := Option.some.inj ho
      have l10 : l 10 = false := hl
      have no : ∀ j, (l j = true → l 10 = true) → l j = false := fun j h => by
        cases e : l j with
        | false => rfl
        | true => have := h e; rw [l10] at this; cases this
      have n11 := no 11 hR.d11
      have n12 := no 12 hR.d12
      have n13 := no 13 hR.d13
      have n14 := no 14 hR.d14
      have n16 := no 16 hR.d16
      have n17 := no 17 fun h => (hR.d17 h).1
      have n18 := no 18 hR.d18
      have HR := Lib.hid hR
      clear no
      go_simp
      refine (HPut.out wx (HR.out.pre l10)).mono ?_
      have hR := HR.out
      obtain ⟨m1, m2, m3, m4, c1, c2, c3, c4, _⟩ := HNe.out
      obtain ⟨⟨l1, l2, l3, l4⟩, l5, l6⟩ := HLt.out
      rintro e w7 ⟨hmod, hres⟩
      have fin : ∀ R, PutRes B S C mb cb tails Us cs D N k x R w7 → AddR W bm bp bu bt mb cb B S C T L tails Us cs D N k x xt (z.1, R) (fun j => j == 10 || l j) w7 := fun R hres =>
        ⟨hR.ub.of_blocks fun g hg hlt => hmod.block g hlt (by rintro (e | e) <;> rcases hg with h | h | h | h <;> omega), (hmod.block _ (lt_of_heap hR.op) (by omega)).trans hR.op, hR.mod.trans hmod, (fun h => by cases h), fun _ => hres, (fun _ => rfl), (fun _ => rfl), (fun _ => rfl), (fun _ => rfl), (fun _ => rfl), (fun h => by have : l 17 = true := h; rw [n17] at this; cases this), (fun _ => rfl), fun h => by
          obtain ⟨b1, b2⟩ := hR.blk h
          refine ⟨b1, ?_⟩
          rw [if_neg (by rw [n17]; decide)] at b2
          rw [if_neg (by show ¬ ((17 == 10 || l 17) = true); rw [n17]; decide)]
          exact (hmod.block _ (lt_of_heap b2) (by omega)).trans b2⟩
      have vals : ∀ (R : Int × (Nat → Int) × Int) (j : Nat), l j = true → ([.pointer (some ⟨mb, 0, none⟩), .agg (planC B S C T L), .agg (six Us), .pointer (some ⟨W.heap.size, 0, none⟩), .int .u8 (xt : Int), .int .u8 (k : Int), .pointer (some ⟨bt, k, none⟩), .int .i64 (tails k), .pointer (some ⟨W.heap.size, 1, none⟩), .int .u32 (x : Int), .tuple #[.int .i64 R.1, .agg (six R.2.1), .int .i64 R.2.2], .tuple #[.int .i64 R.1, .agg (six R.2.1), .int .i64 R.2.2], .int .i64 R.1, .agg (six R.2.1), .int .i64 R.2.2, .pointer (some ⟨z.1, 0, none⟩), .int .i64 R.1, undef, .int .i64 R.2.2] : List Value).getD j undef = [.pointer (some ⟨mb, 0, none⟩), .agg (planC B S C T L), .agg (six Us), .pointer (some ⟨W.heap.size, 0, none⟩), .int .u8 (xt : Int), .int .u8 (k : Int), .pointer (some ⟨bt, k, none⟩), .int .i64 (tails k), .pointer (some ⟨W.heap.size, 1, none⟩), .int .u32 (x : Int), .tuple #[.int .i64 z.2.1, .agg (six z.2.2.1), .int .i64 z.2.2.2], .tuple #[.int .i64 z.2.1, .agg (six z.2.2.1), .int .i64 z.2.2.2], .int .i64 z.2.1, .agg (six z.2.2.1), .int .i64 z.2.2.2, .pointer (some ⟨z.1, 0, none⟩), .int .i64 z.2.1, undef, .int .i64 z.2.2.2].getD j undef := by
        intro R j hj
        rcases j with _ | _ | _ | _ | _ | _ | _ | _ | _ | _ | _ | _ | _ | _ | _ | _ | _ | _ | _ | j
        all_goals first | rfl | (rw [l10] at hj; cases hj) | (rw [n11] at hj; cases hj) | (rw [n12] at hj; cases hj) | (rw [n13] at hj; cases hj) | (rw [n14] at hj; cases hj) | (rw [n16] at hj; cases hj) | (rw [n18] at hj; cases hj)
      rcases hres with ⟨V, rfl, _, _, hps⟩ | ⟨t', U', cs', D', rfl, hps, hok⟩
      · exact hK (z.1, (0, V, 3)) w7 (vals (0, V, 3)) (fin _ (.inl ⟨rfl, hps⟩))
      · exact hK (z.1, (t', U', 0)) w7 (vals (t', U', 0)) (fin _ (.inr ⟨rfl, cs', D', hps, hok⟩))
    · obtain rfl : _ = o := Option.some.inj ho
      have l10 := he ⟨10, .data⟩ (by simp) rfl
      go_simp
      exact hK z wx (fun _ _ => rfl) ⟨hR.ub, hR.op, hR.mod, hR.pre, hR.post, (fun _ => l10), hR.d12, hR.d13, hR.d14, hR.d16, hR.d17, hR.d18, hR.blk⟩
    · obtain rfl : _ = o := Option.some.inj ho
      have l10 := hR.d11 (he ⟨11, .data⟩ (by simp) rfl)
      go_simp
      exact hK z wx (fun _ _ => rfl) ⟨hR.ub, hR.op, hR.mod, hR.pre, hR.post, hR.d11, (fun _ => l10), hR.d13, hR.d14, hR.d16, hR.d17, hR.d18, hR.blk⟩
    · obtain rfl : _ = o := Option.some.inj ho
      have l10 := hR.d11 (he ⟨11, .data⟩ (by simp) rfl)
      go_simp
      exact hK z wx (fun _ _ => rfl) ⟨hR.ub, hR.op, hR.mod, hR.pre, hR.post, hR.d11, hR.d12, (fun _ => l10), hR.d14, hR.d16, hR.d17, hR.d18, hR.blk⟩
    · obtain rfl : _ = o := Option.some.inj ho
      have l10 := hR.d11 (he ⟨11, .data⟩ (by simp) rfl)
      go_simp
      exact hK z wx (fun _ _ => rfl) ⟨hR.ub, hR.op, hR.mod, hR.pre, hR.post, hR.d11, hR.d12, hR.d13, (fun _ => l10), hR.d16, hR.d17, hR.d18, hR.blk⟩
    · obtain rfl : _ = o := Option.some.inj ho
      have n17 : l 17 = false := by
        cases e : l 17 with
        | false => rfl
        | true => have := (hR.d17 e).2; rw [hl] at this; cases this
      have hop := lt_of_heap hR.op
      go_simp
      have hb := below_one (w := wx) (A := .cells (six fun _ => 0) 27)
      have hmz : Mod (fun _ => False) wx (wx.alloc (.cells (six fun _ => 0) 27)) := (Mod.refl _ _).alloc _
      refine hK (wx.heap.size, z.2) _ (fun j hj => ?_) ⟨hR.ub.below hb, (hb.block _ hop).trans hR.op, hR.mod.alloc _, fun h => (hR.pre h).below hb, fun h => (hR.post h).mod hmz id id, hR.d11, hR.d12, hR.d13, hR.d14, hR.d16, (fun h => ⟨(hR.d17 h).1, rfl⟩), hR.d18, fun _ => ⟨hop, ?_⟩⟩
      · rcases j with _ | _ | _ | _ | _ | _ | _ | _ | _ | _ | _ | _ | _ | _ | _ | _ | _ | _ | _ | j
        all_goals first | rfl | (rw [hl] at hj; cases hj)
      · rw [if_neg (by show ¬ ((17 == 15 || l 17) = true); rw [n17]; decide)]
        exact heap_alloc_new _ _
    · obtain rfl : _ = o := Option.some.inj ho
      have l10 := hR.d12 (he ⟨12, .data⟩ (by simp) rfl)
      go_simp
      exact hK z wx (fun _ _ => rfl) ⟨hR.ub, hR.op, hR.mod, hR.pre, hR.post, hR.d11, hR.d12, hR.d13, hR.d14, (fun _ => l10), hR.d17, hR.d18, hR.blk⟩
    · obtain rfl : _ = o := Option.some.inj ho
      have l10 := hR.d13 (he ⟨13, .data⟩ (by simp) rfl)
      have l15 := he ⟨15, .data⟩ (by simp) rfl
      obtain ⟨b1, b2⟩ := hR.blk l15
      obtain ⟨⟨l1, l2, l3, l4⟩, l5, l6⟩ := HLt.out
      refine wp_store_row 27 (.tmp 7) (.tmp 22) rfl z.1 (six z.2.2.1) rfl rfl 27 _ b2 (six_info _) rfl (six_one _) ?_
      have hms : Mod (fun g => g = z.1) wx (wx.setRow z.1 (six z.2.2.1)) := (Mod.refl (fun g => g = z.1) wx).setRow (.inr rfl) _
      refine hK z _ (fun _ _ => rfl) ⟨hR.ub.of_blocks fun g hg hlt => hms.block g hlt (by rcases hg with h | h | h | h <;> omega), (hms.block _ (lt_of_heap hR.op) (by omega)).trans hR.op, hR.mod.setRow (.inl (by omega)) _, fun h => (hR.pre h).mod hms (by omega) (by omega), fun h => (hR.post h).mod hms (by omega) (by omega), hR.d11, hR.d12, hR.d13, hR.d14, hR.d16, (fun _ => ⟨l10, l15⟩), hR.d18, fun _ => ⟨b1, ?_⟩⟩
      exact setRow_heap _ _ _ _ _ _ b2
    · obtain rfl : _ = o := Option.some.inj ho
      have l10 := hR.d14 (he ⟨14, .data⟩ (by simp) rfl)
      go_simp
      exact hK z wx (fun _ _ => rfl) ⟨hR.ub, hR.op, hR.mod, hR.pre, hR.post, hR.d11, hR.d12, hR.d13, hR.d14, hR.d16, hR.d17, (fun _ => l10), hR.blk⟩
    · simp at ho
  clear HR0
  intro z l w2 hl hR
  obtain ⟨zb, t', V, er⟩ := z
  have hres := hR.post (hl 10 (by decide))
  have hblk := hR.blk (hl 15 (by decide))
  rw [if_pos (hl 17 (by decide))] at hblk
  have HB2 := Lib.hid hblk
  have HU2 := Lib.hid hR.ub
  have HOp := Lib.hid hR.op
  have HM2 := Lib.hid hR.mod
  clear hblk hR hl HPut HU HPS
  rcases hres with ⟨e3, hps⟩ | ⟨e0, cs', D', hps, hok⟩
  · simp only at e3
    subst e3
    have HPS := Lib.hid hps
    clear hps
    go_wp2_with fail
    first | go_end0 | refine bodyPost_ret (results_none rfl _ _ _) rfl ?_
    exact ⟨rfl, HM2.out.mono fun _ _ h => .inr (.inr h), tails, Us, HU2.out, cs, D, HPS.out, fun _ h => h, fun _ _ => rfl, fun i ws h => ⟨ws, h, by omega⟩⟩
  · simp only at e0
    subst e0
    have HPS := Lib.hid hps
    have HOk := Lib.hid hok
    clear hps hok
    go_upto_region 3 with fail
    refine wp_region_by (fun (_ : Unit) j => [.pointer (some ⟨W.heap.size, 0, none⟩), .int .u8 (xt : Int), .int .u8 (k : Int), .int .i64 t', .agg (six V), .pointer (some ⟨bt, k, none⟩), undef, undef].getD j undef)
      (fun _ l wx => UB bm bp bu bt mb B S C T L (if l 6 then setT tails k t' else tails) (if l 7 then V else Us) wx ∧ wx.heap[W.heap.size]? = some (.cells #[.int .u8 (xt : Int), .int .u32 (x : Int)] 43 (0, 0)) ∧ wx.heap[zb]? = some (.cells (six V) 27 (0, 0)) ∧ Mod (fun k => k = bu ∨ k = bt) w2 wx)
      (by kernel_rfl) (by kernel_rfl) (fun q => by simp only [putTo, dstOf, Act.put, List.size_toArray, List.length_cons, List.length_nil, List.getElem?_toArray, Nat.reduceAdd, Option.bind_some, List.getElem?_cons_zero, List.getElem?_cons_succ, List.setIfInBounds_toArray, List.set_cons_zero, List.set_cons_succ, List.getD_cons_zero, List.getD_cons_succ]; exact rfl) () ?_ ?_ ?_
    · exact ⟨HU2.out.of_blocks fun _ _ _ => rfl, HOp.out, HB2.out.2, (Mod.refl _ _).drew⟩
    · intro y o ho z l wx hR hl he K hK
      obtain ⟨hu, hop, hz, hm⟩ := hR
      rcases y with _ | _ | _ | _ | _ | _ | _ | _ | y
      · obtain rfl : _ = o := Option.some.inj ho
        go_simp
        exact hK () wx (fun _ _ => rfl) ⟨hu, hop, hz, hm⟩
      · obtain rfl : _ = o := Option.some.inj ho
        have c0 : wx.cell? ⟨W.heap.size, 0, none⟩ = some (.int .u8 (xt : Int)) := cell_at hop 0
        go_simp
        exact hK () wx (fun _ _ => rfl) ⟨hu, hop, hz, hm⟩
      · obtain rfl : _ = o := Option.some.inj ho
        go_simp
        exact hK () wx (fun _ _ => rfl) ⟨hu, hop, hz, hm⟩
      · obtain rfl : _ = o := Option.some.inj ho
        go_simp
        exact hK () wx (fun _ _ => rfl) ⟨hu, hop, hz, hm⟩
      · obtain rfl : _ = o := Option.some.inj ho
        refine wp_load_row 27 (.tmp 7) rfl zb rfl 27 (six V) (0, 0) _ hz Try.underlying27 rfl (six_info _) ?_
        exact hK () wx (fun _ _ => rfl) ⟨hu, hop, hz, hm⟩
      · obtain rfl : _ = o := Option.some.inj ho
        go_simp
        exact hK () wx (fun _ _ => rfl) ⟨hu, hop, hz, hm⟩
      · obtain rfl : _ = o := Option.some.inj ho
        obtain ⟨_, _, _, _, _, _, _, _, u1, _, _, u4, u5⟩ := HNe.out
        obtain ⟨⟨l1, l2, l3, l4⟩, _⟩ := HLt.out
        have hzb := HB2.out.1
        have c0 : wx.cell? ⟨bt, k, none⟩ = some (.int .i64 ((if l 6 then setT tails k t' else tails) k)) := (cell_at hu.t k).trans (eight_get _ k hk8)
        have f0 : wx.frozen? ⟨bt, k, none⟩ = false := free_at hu.t k
        have H1 := Lib.hid (And.intro u1 (And.intro u4 (And.intro u5 (And.intro hzb (And.intro l4 hl)))))
        clear u1 u4 u5 hzb l1 l2 l3 l4
        go_simp
        obtain ⟨u1, u4, u5, hzb, l4, hl⟩ := H1.out
        have l6 : l 6 = false := hl
        have hs : ∀ g, g ≠ bt → (wx.setCell ⟨bt, k, none⟩ (.int .i64 t')).heap[g]? = wx.heap[g]? := fun g hg => Below.heap_setCell _ _ _ _ hg
        refine hK () _ (fun _ _ => rfl) ⟨⟨(hs _ (Ne.symm u4)).trans hu.m, (hs _ (Ne.symm u5)).trans hu.p, (hs _ u1).trans hu.u, ?_⟩, (hs _ (by omega)).trans hop, (hs _ (by omega)).trans hz, Mod.setCell (S := fun k => k = bu ∨ k = bt) hm (.inr (.inr rfl)) _⟩
        show (wx.setCell ⟨bt, k, none⟩ (.int .i64 t')).heap[bt]? = some (.cells (eight (setT tails k t')) 49 (0, 0))
        have ht := hu.t
        rw [if_neg (by rw [l6]; decide)] at ht
        rw [heap_setCell_same _ _ _ _ _ _ ht, eight_set _ _ _ hk8]
      · obtain rfl : _ = o := Option.some.inj ho
        obtain ⟨_, _, _, _, _, _, _, _, u1, u2, u3, _, _⟩ := HNe.out
        obtain ⟨⟨l1, l2, l3, l4⟩, _⟩ := HLt.out
        have hzb := HB2.out.1
        refine wp_store_row 27 (.tmp 3) (.tmp 30) rfl bu (six V) rfl rfl 27 _ hu.u (six_info _) rfl (six_one _) ?_
        refine hK () _ (fun _ _ => rfl) ⟨⟨(setRow_other _ _ _ _ (Ne.symm u2)).trans hu.m, (setRow_other _ _ _ _ (Ne.symm u3)).trans hu.p, ?_, (setRow_other _ _ _ _ (Ne.symm u1)).trans hu.t⟩, (setRow_other _ _ _ _ (by omega)).trans hop, (setRow_other _ _ _ _ (by omega)).trans hz, hm.setRow (.inr (.inl rfl)) _⟩
        exact setRow_heap _ _ _ _ _ _ hu.u
      · simp at ho
    intro _ l w3 hl hR
    obtain ⟨hu, _, _, hm⟩ := hR
    rw [if_pos (hl 6 (by decide)), if_pos (hl 7 (by decide))] at hu
    have HU3 := Lib.hid hu
    have HM3 := Lib.hid hm
    clear hu hm hl
    go_wp2_with fail
    first | go_end0 | refine bodyPost_ret (results_none rfl _ _ _) rfl ?_
    obtain ⟨m1, m2, m3, m4, c1, c2, c3, c4, u1, u2, u3, u4, u5⟩ := HNe.out
    obtain ⟨⟨l1, l2, l3, l4⟩, _, _⟩ := HLt.out
    refine ⟨rfl, (HM2.out.mono fun k _ (h : k = mb ∨ k = cb) => (.inr (.inr h) : k = bu ∨ k = bt ∨ k = mb ∨ k = cb)).then HM3.out fun k _ h => h.elim (fun h => .inl h) fun h => .inr (.inl h), setT tails k t', V, HU3.out, cs', D', HPS.out.mod HM3.out (by omega) (by omega), HOk.out.more_, HOk.out.old, fun i ws h => ?_⟩
    by_cases hik : i = k
    · refine ⟨x :: ws, ?_, by simp⟩
      unfold setT
      rw [if_pos hik]
      exact HOk.out.chain ws (by rw [← hik]; exact h)
    · refine ⟨ws, ?_, by omega⟩
      unfold setT
      rw [if_neg hik]
      exact h.mono HOk.out.more_ HOk.out.old
end Go.Proofs.Ytiabmbkmahlhkaa
