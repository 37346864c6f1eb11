/-
  Layer 18's statements: the chapter's examples. Over the program's own text.
-/
import Derived.Test.YtaaeooimalglaaaMatI
namespace Go.Proofs.Ytaaeooimalglaaa
open Go.RowKit

def fxT : List Tk := [(0, ⟨#[102, 111, 120]⟩, 0), (0, ⟨#[100, 111, 103]⟩, 1)]
def fxL : List (List En) := [[(0, [0, 4])], [(0, [1])]]
theorem fx_phrase : phraseN fxT fxL = [(0, 1)] := by
  rw [phrase_good]
  · decide +kernel
  · rintro (h | h | ⟨t, ht, hb⟩)
    · cases h
    · exact h rfl
    · have : t = (0, ⟨#[102, 111, 120]⟩, 0) ∨ t = (0, ⟨#[100, 111, 103]⟩, 1) := by simpa [fxT] using ht
      rcases this with rfl | rfl <;> (unfold beyondT at hb; simp at hb)
theorem fx_may : ∀ l ∈ fxL, MayE l := by decide +kernel
def fxN : Nd := .mk 4 0 [] [.mk 1 0 [] []]
theorem fx_eval : [1, 2, 3].filter (semN fxN [[(2, 1)]]) = [1, 3] := by decide +kernel
theorem six_at (w : World) (A B C D E F : Obj) : ((((((w.alloc A).alloc B).alloc C).alloc D).alloc E).alloc F).heap[w.heap.size]? = some A ∧ ((((((w.alloc A).alloc B).alloc C).alloc D).alloc E).alloc F).heap[w.heap.size + 1]? = some B ∧
    ((((((w.alloc A).alloc B).alloc C).alloc D).alloc E).alloc F).heap[w.heap.size + 1 + 1]? = some C ∧ ((((((w.alloc A).alloc B).alloc C).alloc D).alloc E).alloc F).heap[w.heap.size + 1 + 1 + 1]? = some D ∧
    ((((((w.alloc A).alloc B).alloc C).alloc D).alloc E).alloc F).heap[w.heap.size + 1 + 1 + 1 + 1]? = some E ∧ ((((((w.alloc A).alloc B).alloc C).alloc D).alloc E).alloc F).heap[w.heap.size + 1 + 1 + 1 + 1 + 1]? = some F ∧
    Below w.heap.size w ((((((w.alloc A).alloc B).alloc C).alloc D).alloc E).alloc F) := by
  have up2 : ∀ (i : Nat) (o : Obj), ((((w.alloc A).alloc B).alloc C).alloc D).heap[i]? = some o → ((((((w.alloc A).alloc B).alloc C).alloc D).alloc E).alloc F).heap[i]? = some o := fun i o h => blk_keep (blk_keep h below_one) below_one
  refine ⟨up2 _ _ (heap4_0 ..), up2 _ _ (heap4_1 ..), up2 _ _ (heap4_2 ..), up2 _ _ (heap4_3 ..), ?_, ?_, low_more (low_more below_al4 below_one) below_one⟩
  · refine blk_keep ?_ below_one
    simpa using heap_alloc_new ((((w.alloc A).alloc B).alloc C).alloc D) E
  · simpa using heap_alloc_new (((((w.alloc A).alloc B).alloc C).alloc D).alloc E) F
theorem fx_read {u : World} {s : Nat} {t : TypeId} (q : u.heap[s]? = some (.cells #[.int .u8 0, .string ⟨#[102, 111, 120]⟩, .int .i64 0, .int .u8 0, .string ⟨#[100, 111, 103]⟩, .int .i64 1] t (0, 0))) : ReadT u (some ⟨s, 0, none⟩) fxT := by
  intro j x hj
  rcases j with _ | _ | j
  · have : x = (0, ⟨#[102, 111, 120]⟩, 0) := by simpa [fxT] using hj.symm
    subst this
    exact ⟨s, 0, rfl, cell_at q 0, cell_at q 1, cell_at q 2⟩
  · have : x = (0, ⟨#[100, 111, 103]⟩, 1) := by simpa [fxT] using hj.symm
    subst this
    exact ⟨s, 0, rfl, cell_at q 3, cell_at q 4, cell_at q 5⟩
  · simp [fxT] at hj
theorem one_ent {u : World} {s b : Nat} {t t2 : TypeId} {cs : Array Value} {d : Int} {l : List Int} (q : u.heap[s]? = some (.cells #[.int .i64 d, .slice (some ⟨b, 0, none⟩) l.length l.length] t (0, 0))) (p : u.heap[b]? = some (.cells cs t2 (0, 0))) (hm : l.length ≤ maxLen)
    (hc : ∀ (j : Nat) (x : Int), l[j]? = some x → cs[j]? = some (.int .i64 x)) : RdE u (.slice (some ⟨s, 0, none⟩) 1 1) [(d, l)] :=
  ⟨_, 1, rfl, by simp, by simp [maxLen], (by intro h; cases h), fun j e hj => by
    cases j with
    | succ j => simp at hj
    | zero =>
      simp at hj
      subst hj
      refine ⟨s, 0, rfl, cell_at q 0, _, cell_at q 1, _, _, rfl, Nat.le_refl _, hm, (by intro h; cases h), fun j x hx => ⟨b, 0, rfl, ?_⟩⟩
      rw [Nat.zero_add, cell_at p j]
      exact hc j x hx⟩
theorem fx_lists {u : World} {s : Nat} {t3 tE tI : TypeId} (q1 : u.heap[s + 1]? = some (.cells #[.int .i64 0, .int .i64 4] tI (0, 0))) (q2 : u.heap[s + 1 + 1]? = some (.cells #[.int .i64 0, .slice (some ⟨s + 1, 0, none⟩) 2 2] tE (0, 0))) (q3 : u.heap[s + 1 + 1 + 1]? = some (.cells #[.int .i64 1] tI (0, 0)))
    (q4 : u.heap[s + 1 + 1 + 1 + 1]? = some (.cells #[.int .i64 0, .slice (some ⟨s + 1 + 1 + 1, 0, none⟩) 1 1] tE (0, 0))) (q5 : u.heap[s + 1 + 1 + 1 + 1 + 1]? = some (.cells #[.slice (some ⟨s + 1 + 1, 0, none⟩) 1 1, .slice (some ⟨s + 1 + 1 + 1 + 1, 0, none⟩) 1 1] t3 (0, 0))) :
    ReadEs u (some ⟨s + 1 + 1 + 1 + 1 + 1, 0, none⟩) fxL := by
  intro j l hj
  rcases j with _ | _ | j
  · have : l = [(0, [0, 4])] := by simpa [fxL] using hj.symm
    subst this
    exact ⟨_, 0, rfl, _, cell_at q5 0, one_ent (l := [0, 4]) q2 q1 (by simp [maxLen]) (fun j x hx => by rcases j with _ | _ | j <;> simp at hx <;> simp [hx])⟩
  · have : l = [(0, [1])] := by simpa [fxL] using hj.symm
    subst this
    exact ⟨_, 0, rfl, _, cell_at q5 1, one_ent (l := [1]) q4 q3 (by simp [maxLen]) (fun j x hx => by rcases j with _ | j <;> simp at hx <;> simp [hx])⟩
  · simp [fxL] at hj
theorem read_ints {u : World} {s : Nat} {t : TypeId} {cs : Array Value} {l : List Int} {n : Nat} (h : u.heap[s]? = some (.cells cs t (0, 0))) (hn : n = l.length) (hm : n ≤ maxLen) (hc : ∀ (j : Nat) (x : Int), l[j]? = some x → cs[j]? = some (.int .i64 x)) : RdP u (.slice (some ⟨s, 0, none⟩) n n) l :=
  ⟨_, n, by rw [hn], by omega, hm, (by intro h; cases h), fun j x hj => ⟨s, 0, rfl, by rw [Nat.zero_add, cell_at h j]; exact hc j x hj⟩⟩
theorem read_fo {u : World} {s : Nat} {t : TypeId} {a b : Int} (h : u.heap[s]? = some (.cells #[.int .i64 a, .int .i64 b] t (0, 0))) : RdFo u (.slice (some ⟨s, 0, none⟩) 1 1) [(a, b)] :=
  ⟨_, 1, rfl, by simp, by simp [maxLen], (by intro h; cases h), fun j x hj => by
    cases j with
    | succ j => simp at hj
    | zero => simp at hj; subst hj; exact ⟨s, 0, rfl, cell_at h 0, cell_at h 1⟩⟩
set_option maxRecDepth 100000 in
set_option maxHeartbeats 8000000 in
theorem fixed18 (w : World) : Calls Try.prog 9 #[] w fun e w' => e = .returned (.bool true) ∧ Below w.heap.size w w' := by
  go_enter Try.func9, Try.ntmps9
  go_wp2_with fail
  obtain ⟨q0, q1, q2, q3, q4, q5, hb0⟩ := six_at w (.cells #[.int .u8 0, .string ⟨#[102, 111, 120]⟩, .int .i64 0, .int .u8 0, .string ⟨#[100, 111, 103]⟩, .int .i64 1] 41) (.cells #[.int .i64 0, .int .i64 4] 3) (.cells #[.int .i64 0, .slice (some ⟨w.heap.size + 1, 0, none⟩) 2 2] 46) (.cells #[.int .i64 1] 3) (.cells #[.int .i64 0, .slice (some ⟨w.heap.size + 1 + 1 + 1, 0, none⟩) 1 1] 46) (.cells #[.slice (some ⟨w.heap.size + 1 + 1, 0, none⟩) 1 1, .slice (some ⟨w.heap.size + 1 + 1 + 1 + 1, 0, none⟩) 1 1] 42)
  refine (phrase_any _ (some ⟨w.heap.size, 0, none⟩) (some ⟨w.heap.size + 1 + 1 + 1 + 1 + 1, 0, none⟩) 2 2 2 2 fxT fxL (fx_read q0) rfl (fx_lists q1 q2 q3 q4 q5) rfl (by decide) (by decide) fx_may).mono ?_
  rintro e w1 ⟨v, rfl, hown, hb1⟩
  rw [fx_phrase] at hown
  have HB1 := Lib.hid (low_more hb0 hb1)
  have HV := Lib.hid hown.reads
  obtain ⟨va, vn, vc, rfl⟩ : ∃ va vn vc, v = .slice va vn vc := by
    obtain ⟨va, vc, h, _⟩ := hown.reads
    exact ⟨va, _, vc, h⟩
  clear hown hb1 hb0 q0 q1 q2 q3 q4 q5
  go_upto_region 3 with fail
  have HG := Lib.hid (And.intro (heap2_0 w1 (.cells #[.int .i64 1, .int .u8 0, .slice none 0 0, .slice none 0 0] 31) (.cells #[.int .i64 4, .int .u8 0, .slice none 0 0, .slice (some ⟨w1.heap.size, 0, none⟩) 1 1] 31)) (heap2_1 w1 (.cells #[.int .i64 1, .int .u8 0, .slice none 0 0, .slice none 0 0] 31) (.cells #[.int .i64 4, .int .u8 0, .slice none 0 0, .slice (some ⟨w1.heap.size, 0, none⟩) 1 1] 31)))
  have HB2 := Lib.hid (low_more HB1.out (below_al2 (w := w1) (A := .cells #[.int .i64 1, .int .u8 0, .slice none 0 0, .slice none 0 0] 31) (B := .cells #[.int .i64 4, .int .u8 0, .slice none 0 0, .slice (some ⟨w1.heap.size, 0, none⟩) 1 1] 31)))
  have HV2 := Lib.hid (HV.out.below (below_al2 (w := w1) (A := .cells #[.int .i64 1, .int .u8 0, .slice none 0 0, .slice none 0 0] 31) (B := .cells #[.int .i64 4, .int .u8 0, .slice none 0 0, .slice (some ⟨w1.heap.size, 0, none⟩) 1 1] 31)))
  generalize hgl : w1.heap.size = gl at HG HB2 HV2 ⊢
  have hgr : gl + 1 = gl + 1 := rfl
  generalize (w1.alloc (.cells #[.int .i64 1, .int .u8 0, .slice none 0 0, .slice none 0 0] 31)).alloc (.cells #[.int .i64 4, .int .u8 0, .slice none 0 0, .slice (some ⟨gl, 0, none⟩) 1 1] 31) = w3 at HG HB2 HV2 ⊢
  clear hgl hgr HV HB1
  clear w1
  have HSm := Lib.hid (show Calls Try.prog 10 #[.slice va vn vc, .slice (some ⟨w3.heap.size, 0, none⟩) 1 1] (w3.alloc (.cells #[.int .i64 0, .int .i64 1] 44)) fun e w' => e = .returned (.bool true) ∧ Below (w3.alloc (.cells #[.int .i64 0, .int .i64 1] 44)).heap.size (w3.alloc (.cells #[.int .i64 0, .int .i64 1] 44)) w' from
    same_found _ _ _ [(0, 1)] (HV2.out.below below_one) (read_fo (heap_alloc_new w3 _)) (by decide))
  go_wp2_with fail
  refine HSm.out.mono ?_
  rintro e w5 ⟨rfl, hb5⟩
  have hb6 := low_more below_one hb5
  have HG5 := Lib.hid (And.intro (blk_keep HG.out.1 hb6) (blk_keep HG.out.2 hb6))
  have HB5 := Lib.hid (low_more HB2.out hb6)
  clear hb5 hb6 HG HB2 HV2 HSm
  have c0 := cell_at HG5.out.2 0
  have c1 := cell_at HG5.out.2 1
  have c2 := cell_at HG5.out.2 2
  have c3 := cell_at HG5.out.2 3
  simp only [List.getElem?_toArray, List.getElem?_cons_zero, List.getElem?_cons_succ] at c0 c1 c2 c3
  have HE := Lib.hid (show ∀ u : World, Below w5.heap.size w5 u → ∀ s, u.heap[s]? = some (.cells #[.int .i64 1, .int .i64 2, .int .i64 3] 3 (0, 0)) → u.heap[s + 1]? = some (.cells #[.int .i64 2, .int .i64 1] 44 (0, 0)) → u.heap[s + 1 + 1]? = some (.cells #[.slice (some ⟨s + 1, 0, none⟩) 1 1] 27 (0, 0)) →
      Calls Try.prog 15 #[.agg #[.int .i64 4, .int .u8 0, .slice none 0 0, .slice (some ⟨gl, 0, none⟩) 1 1], .slice (some ⟨s, 0, none⟩) 3 3, .slice (some ⟨s + 1 + 1, 0, none⟩) 1 1] u fun e w' => ∃ x, e = .returned x ∧ OwnZ w' u.heap.size x [1, 3] ∧ Below u.heap.size u w' from fun u hb s q0 q1 q2 => by
    have hleaf : RdN u (fun _ => True) (.mk 1 0 [] []) (1, 0, .slice none 0 0, .slice none 0 0) :=
      RdN.mk (k := 1) (f := 0) (ts := []) (ks := []) (ta := none) (ka := none) (tc := 0) (kc := 0) (rs := []) (by decide) (by decide) (fun j y hj => by simp at hj) (Nat.le_refl _) (by decide) (fun a ha => by cases ha) (fun j s hj => by simp at hj) (Nat.le_refl _) (by decide) (fun a ha => by cases ha) rfl (fun j y s h1 => by simp at h1)
    have htree : RdN u (fun _ => True) fxN (4, 0, .slice none 0 0, .slice (some ⟨gl, 0, none⟩) 1 1) := turned hleaf (blk_keep HG5.out.1 hb) (fun _ h => h) trivial
    have hfew : FewN fxN := .mk (by simp) (by simp) (fun x hx => by have : x = .mk 1 0 [] [] := by simpa using hx
                                                                    subst this
                                                                    exact .mk (by simp) (by simp) (by simp))
    have := eval_any u (fun _ => True) fxN _ (.slice (some ⟨s, 0, none⟩) 3 3) (.slice (some ⟨s + 1 + 1, 0, none⟩) 1 1) [1, 2, 3] [[(2, 1)]] htree hfew (read_ints q0 (by rfl) (by decide) (fun j x hx => by rcases j with _ | _ | _ | j <;> simp at hx <;> simp [hx]))
      ⟨_, 1, rfl, by simp, by decide, (by intro h; cases h), fun j l hj => by
        cases j with
        | succ j => simp at hj
        | zero => simp at hj; subst hj; exact ⟨_, 0, rfl, _, cell_at q2 0, read_fo q1⟩⟩ (by unfold RiseP; decide +kernel) (by unfold RiseF; decide +kernel) (by decide)
    rw [fx_eval] at this
    exact this)
  go_wp2_with fail
  refine (HE.out _ below_al3 w5.heap.size (heap3_0 _ _ _ _) (heap3_1 _ _ _ _) (heap3_2 _ _ _ _)).mono ?_
  rintro e w7 ⟨x, rfl, hown, hb7⟩
  have HX := Lib.hid (And.intro hown.reads (low_more HB5.out (low_more below_al3 hb7)))
  obtain ⟨xa, xn, xc, rfl⟩ : ∃ xa xn xc, x = .slice xa xn xc := by
    obtain ⟨xa, xc, h, _⟩ := hown.reads
    exact ⟨xa, _, xc, h⟩
  clear hown hb7 HE c0 c1 c2 c3 HG5 HB5
  have HSi := Lib.hid (show Calls Try.prog 16 #[.slice xa xn xc, .slice (some ⟨w7.heap.size, 0, none⟩) 2 2] (w7.alloc (.cells #[.int .i64 1, .int .i64 3] 3)) fun e w' => e = .returned (.bool true) ∧ Below (w7.alloc (.cells #[.int .i64 1, .int .i64 3] 3)).heap.size (w7.alloc (.cells #[.int .i64 1, .int .i64 3] 3)) w' from
    same_ints _ _ _ [1, 3] (RdP.below HX.out.1 below_one) (read_ints (heap_alloc_new w7 _) (by rfl) (by decide) (fun j x hx => by rcases j with _ | _ | j <;> simp at hx <;> simp [hx])) (by decide))
  go_wp2_with fail
  refine HSi.out.mono ?_
  rintro e w8 ⟨rfl, hb8⟩
  have HB8 := Lib.hid (low_more HX.out.2 (low_more below_one hb8))
  clear hb8 HSi
  go_wp2_with fail
  go_ret
  exact ⟨rfl, HB8.out⟩
end Go.Proofs.Ytaaeooimalglaaa
