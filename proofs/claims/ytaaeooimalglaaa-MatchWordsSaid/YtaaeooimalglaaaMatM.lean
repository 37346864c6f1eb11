/-
  Layer 18's statement of words: a phrase of one term, and of more. Over the program's own text.
-/
import Derived.Test.YtaaeooimalglaaaMatL
namespace Go.Proofs.Ytaaeooimalglaaa
open Go.RowKit

theorem size_tok18 (w : World) : (Go.sizeOf 41).run Try.prog w = .ok 3 w := by kernel_rfl
theorem elem_toks : Try.prog.elem 22 = 41 := by kernel_rfl
theorem under_toks : Try.prog.underlying 22 = some (.slice (Try.prog.elem 22)) := by rw [elem_toks]; exact Try.underlying22
theorem size_ents18 (w : World) : (Go.sizeOf 42).run Try.prog w = .ok 1 w := by kernel_rfl
theorem elem_entss : Try.prog.elem 23 = 42 := by kernel_rfl
theorem under_entss : Try.prog.underlying 23 = some (.slice (Try.prog.elem 23)) := by rw [elem_entss]; exact Try.underlying23
theorem head_run (t e : TypeId) (k n c i : Nat) (oa : Option Addr) (he : Try.prog.elem t = e) (hu : Try.prog.underlying t = some (.slice (Try.prog.elem t))) (hs : ∀ w, (Go.sizeOf e).run Try.prog w = .ok k w) (hi : i ≤ c) (w : World) :
    (Instr.slice t (.slice oa n c) none (some (.int .i64 (i : Int))) none).run Try.prog w = .ok (.slice oa i c) w := by
  rw [run_slice_h w t oa n c hu .i64 (i : Int) (by omega) (by omega), he, hs]
  have e : (oa.map fun x => x.add 0) = oa := by cases oa <;> simp [Addr.add]
  simp [Result.andThen, sliced, e]
theorem ReadT.take {w : World} {oa : Option Addr} {l : List Tk} (h : ReadT w oa l) (n : Nat) : ReadT w oa (l.take n) := fun j x hj => h j x (by
  rw [List.getElem?_take] at hj
  split at hj
  · exact hj
  · cases hj)
theorem ReadEs.take {w : World} {oa : Option Addr} {l : List (List En)} (h : ReadEs w oa l) (n : Nat) : ReadEs w oa (l.take n) := fun j x hj => h j x (by
  rw [List.getElem?_take] at hj
  split at hj
  · exact hj
  · cases hj)
theorem one_good {t : Tk} {l : List En} (h : t.2.2 = 0) (hm : MayE l) : phraseN [t] [l] = l.map fun e => (e.1, (e.2.length : Int)) := by
  rw [phrase_good]
  · exact phrase_one hm
  · rintro (h1 | h1 | ⟨x, hx, hb⟩)
    · cases h1
    · exact h1 rfl
    · have : x = t := by simpa using hx
      subst this
      unfold beyondT at hb
      omega
theorem prefix_all {T : List Tk} {L : List (List En)} {n : Nat} (hn : 0 < n) (hT : n ≤ T.length) (hl : T.length = L.length) {f : Fo} (h : f ∈ phraseN T L) : ∃ g ∈ phraseN (T.take n) (L.take n), g.1 = f.1 ∧ f.2 ≤ g.2 := by
  by_cases hb : badT T L
  · rw [phrase_bad hb] at h; cases h
  · rw [phrase_good hb] at h
    rw [phrase_good]
    · have e : (L.take n).headD [] = L.headD [] := by cases L with | nil => simp | cons P Ps => cases n with | zero => omega | succ n => rfl
      rw [e]
      exact phrase_prefix hn hT hl h
    · rintro (h1 | h1 | ⟨x, hx, hx2⟩)
      · have := congrArg List.length h1
        rw [List.length_take, List.length_nil] at this
        omega
      · rw [List.length_take, List.length_take] at h1
        omega
      · exact hb (.inr (.inr ⟨x, List.mem_of_mem_take hx, hx2⟩))
/-- Does one of the first ones have the document at least as often? -/
def upTo (f : Fo) (l : List Fo) (j : Nat) : Bool := (l.take j).any fun g => decide (g.1 = f.1) && decide (f.2 ≤ g.2)
theorem upTo_succ {f g : Fo} {l : List Fo} {j : Nat} (h : l[j]? = some g) : upTo f l (j + 1) = (upTo f l j || (decide (g.1 = f.1) && decide (f.2 ≤ g.2))) := by
  unfold upTo
  rw [List.take_add_one, h, List.any_append]
  simp
theorem upTo_all {f : Fo} {l : List Fo} {j : Nat} (hj : l.length ≤ j) (h : ∃ g ∈ l, g.1 = f.1 ∧ f.2 ≤ g.2) : upTo f l j = true := by
  unfold upTo
  rw [List.take_of_length_le hj, List.any_eq_true]
  obtain ⟨g, h1, h2, h3⟩ := h
  exact ⟨g, h1, by simp [h2, h3]⟩
set_option maxRecDepth 100000 in
set_option maxHeartbeats 8000000 in
theorem words18 (W : World) (ta la : Option Addr) (tc lc m k : Nat) (T : List Tk) (L : List (List En)) (hT : ReadT W ta T) (hm : m = T.length) (hL : ReadEs W la L) (hk : k = L.length) (htc : m ≤ tc) (hlc : k ≤ lc) :
    Calls Try.prog 6 #[.slice ta m tc, .slice la k lc] W fun e w' => e = .returned (.bool true) ∧ Below W.heap.size W w' := by
  have HR := Lib.hid (right_any W ta la tc lc m k L hL hk)
  have HT := Lib.hid (And.intro hT hm)
  have HL := Lib.hid (And.intro hL hk)
  clear hT hm hL hk
  by_cases hmk : m ≠ k
  · have hmi : ¬ (m : Int) = (k : Int) := by omega
    have hb1 : ((m : Int) != (k : Int)) = true := by rw [bne, beq_eq_false_iff_ne.2 hmi]; rfl
    go_enter Try.func6, Try.ntmps6
    go_wp2_with fail
    refine HR.out.mono ?_
    rintro e w1 ⟨⟨b, rfl, hb⟩, hb1⟩
    have HB1 := Lib.hid hb1
    have HF := Lib.hid (fixed18 w1)
    clear hb1 hb
    cases b with
    | false =>
      go_wp2_with fail
      refine HF.out.mono ?_
      rintro e w2 ⟨rfl, hb2⟩
      have HB2 := Lib.hid (low_more HB1.out hb2)
      clear hb2
      go_wp2_with fail
      go_ret
      exact ⟨rfl, HB2.out⟩
    | true =>
      go_wp2_with fail
      refine HF.out.mono ?_
      rintro e w2 ⟨rfl, hb2⟩
      have HB2 := Lib.hid (low_more HB1.out hb2)
      clear hb2
      go_wp2_with fail
      go_ret
      exact ⟨rfl, HB2.out⟩
  obtain rfl : m = k := Classical.byContradiction hmk
  have hb0 : ((m : Int) != (m : Int)) = false := by simp
  clear hmk
  go_enter Try.func6, Try.ntmps6
  go_wp2_with fail
  refine HR.out.mono ?_
  rintro e w1 ⟨⟨b, rfl, hb⟩, hb1⟩
  have HB1 := Lib.hid hb1
  have HF := Lib.hid (fixed18 w1)
  clear hb1
  cases b with
  | false =>
    clear hb
    go_wp2_with fail
    refine HF.out.mono ?_
    rintro e w2 ⟨rfl, hb2⟩
    have HB2 := Lib.hid (low_more HB1.out hb2)
    clear hb2
    go_wp2_with fail
    go_ret
    exact ⟨rfl, HB2.out⟩
  | true =>
    have HOk := Lib.hid (hb rfl)
    clear hb
    by_cases h0 : m = 0
    · subst h0
      go_wp2_with fail
      refine HF.out.mono ?_
      rintro e w2 ⟨rfl, hb2⟩
      have HB2 := Lib.hid (low_more HB1.out hb2)
      clear hb2
      go_wp2_with fail
      go_ret
      exact ⟨rfl, HB2.out⟩
    have h0i : ((m : Int) == 0) = false := beq_eq_false_iff_ne.2 (by omega)
    have hm0 : (0 : Int) < (m : Int) := by omega
    clear HF HR
    obtain ⟨t0, ht0⟩ : ∃ t, T[0]? = some t := ⟨_, List.getElem?_eq_getElem (by rw [← HT.out.2]; omega)⟩
    obtain ⟨l0, hl0⟩ : ∃ l, L[0]? = some l := ⟨_, List.getElem?_eq_getElem (by rw [← HL.out.2]; omega)⟩
    have hmay0 := HOk.out.2.2 l0 (List.mem_of_getElem? hl0)
    obtain ⟨gt, ot, rfl, k0, k1, k2⟩ := HT.out.1 0 t0 ht0
    obtain ⟨gl, ol, rfl, p0, kp, pa, pc, rfl, hp1, hp2, hp3, hre⟩ := HL.out.1 0 l0 hl0
    have c0 := below_cell k0 HB1.out
    have c1 := below_cell k1 HB1.out
    have c2 := below_cell k2 HB1.out
    rw [Nat.zero_mul, Nat.add_zero] at c0 c1 c2
    rw [Nat.add_zero] at kp
    obtain ⟨f0, s0, z0⟩ := t0
    obtain ⟨n0, hn0⟩ : ∃ n0, n0 = l0.length := ⟨_, rfl⟩
    have hn064 : n0 ≤ 64 := by have := hmay0.1; omega
    have HL0 := Lib.hid (show L[0]? = some l0 ∧ MayE l0 ∧ n0 = l0.length ∧ ReadE W pa l0 from ⟨hl0, hmay0, hn0, hre⟩)
    have HOne := Lib.hid (one_good (t := (f0, s0, 0)) rfl hmay0)
    have HReE := Lib.hid (show RdE W (.slice pa l0.length pc) l0 from ⟨pa, pc, rfl, hp1, hp2, hp3, hre⟩)
    rw [← hn0] at kp
    have HKp := Lib.hid kp
    clear k0 k1 k2 kp hp1 hp2 hp3 hre hmay0 hl0 ht0 hn0
    go_upto_region 5 with fail
    have hx := heap_alloc_new w1 (.cells #[.int .u8 f0, .string s0, .int .i64 0] 41)
    have HX := Lib.hid hx
    have HB2 := Lib.hid (low_more HB1.out (below_one (w := w1) (A := .cells #[.int .u8 f0, .string s0, .int .i64 0] 41)))
    clear hx c0 c1 c2
    generalize w1.heap.size = bx at HX ⊢
    generalize w1.alloc (.cells #[.int .u8 f0, .string s0, .int .i64 0] 41) = w2 at HX HB2 ⊢
    clear HB1
    clear w1
    have hcl2 : ∀ w : World, (Instr.slice 23 (.slice (some ⟨gl, ol, none⟩) m lc) none (some (.int .i64 1)) none).run Try.prog w = .ok (.slice (some ⟨gl, ol, none⟩) 1 lc) w := fun w => head_run _ _ 1 m lc 1 (some ⟨gl, ol, none⟩) elem_entss under_entss size_ents18 (by omega) w
    have HPh := Lib.hid (show ∀ (wx : World) (q : Nat), Below w2.heap.size w2 wx → wx.heap[q]? = some (.cells #[.int .u8 f0, .string s0, .int .i64 0] 41 (0, 0)) →
        Calls Try.prog 11 #[.slice (some ⟨q, 0, none⟩) 1 1, .slice (some ⟨gl, ol, none⟩) 1 lc] wx fun e w' => ∃ u, e = .returned u ∧ OwnFo w' wx.heap.size u (l0.map fun e => (e.1, (e.2.length : Int))) ∧ Below wx.heap.size wx w' from fun wx q hb hq => by
      have hbW := low_more HB2.out hb
      have := phrase_any wx (some ⟨q, 0, none⟩) (some ⟨gl, ol, none⟩) 1 lc 1 1 [(f0, s0, 0)] [l0] (fun j x hj => by
        cases j with
        | succ j => simp at hj
        | zero => simp at hj; subst hj; exact ⟨q, 0, rfl, cell_at hq 0, cell_at hq 1, cell_at hq 2⟩) rfl (fun j l hj => by
        cases j with
        | succ j => simp at hj
        | zero =>
          simp at hj
          subst hj
          exact ReadEs.below HL.out.1 hbW 0 l0 HL0.out.1) rfl (by decide) (by decide) (fun l hl => by
        have : l = l0 := by simpa using hl
        subst this
        exact HL0.out.2.1)
      rw [HOne.out] at this
      exact this)
    refine wp_region_cl (fun (p : Nat × Value) jz => [.agg #[.int .u8 f0, .string s0, .int .i64 0], .slice (some ⟨p.1, 0, none⟩) 1 1, .slice (some ⟨gl, ol, none⟩) m lc, .slice (some ⟨gl, ol, none⟩) 1 lc, p.2, p.2].getD jz undef)
      (fun p l wx => Below w2.heap.size w2 wx ∧ (l 1 = true → wx.heap[p.1]? = some (.cells #[.int .u8 f0, .string s0, .int .i64 0] 41 (0, 0))) ∧ (l 4 = true → OwnFo wx w2.heap.size p.2 (l0.map fun e => (e.1, (e.2.length : Int)))))
      (by kernel_rfl) (by kernel_rfl) (fun q => by simp only [putTo, dstOf, Act.put, List.size_toArray, List.length_cons, List.length_nil, List.getElem?_toArray, Nat.reduceAdd, Option.bind_some, List.getElem?_cons_zero, List.getElem?_cons_succ, List.setIfInBounds_toArray, List.set_cons_zero, List.set_cons_succ, List.getD_cons_zero, List.getD_cons_succ]; exact rfl) (0, .slice none 0 0) ?_ ?_ ?_
    · exact ⟨(Below.refl _ _).drew, fun h => (by cases h), fun h => (by cases h)⟩
    · intro i o ho p l wx hR hl he hcl K hK
      rcases i with _ | _ | _ | _ | _ | _ | i
      · obtain rfl : _ = o := Option.some.inj ho
        have q0 := cell_at (blk_keep HX.out hR.1) 0
        have q1 := cell_at (blk_keep HX.out hR.1) 1
        have q2 := cell_at (blk_keep HX.out hR.1) 2
        simp only [List.getElem?_toArray, List.getElem?_cons_zero, List.getElem?_cons_succ] at q0 q1 q2
        go_simp
        exact hK p wx (fun _ _ => rfl) ⟨hR.1, fun h => hR.2.1 (by simpa using h), fun h => hR.2.2 (by simpa using h)⟩
      · obtain rfl : _ = o := Option.some.inj ho
        go_simp
        refine hK (wx.heap.size, p.2) (wx.alloc (.cells #[.int .u8 f0, .string s0, .int .i64 0] 41)) (fun j hj => ?_) ⟨low_more hR.1 below_one, fun _ => heap_alloc_new wx _, fun h => owned_below (hR.2.2 (by simpa using h)) below_one⟩
        rcases j with _ | _ | _ | _ | _ | _ | j
        all_goals first | rfl | (rw [hl] at hj; cases hj)
      · obtain rfl : _ = o := Option.some.inj ho
        go_simp
        exact hK p wx (fun _ _ => rfl) ⟨hR.1, fun h => hR.2.1 (by simpa using h), fun h => hR.2.2 (by simpa using h)⟩
      · obtain rfl : _ = o := Option.some.inj ho
        go_simp
        exact hK p wx (fun _ _ => rfl) ⟨hR.1, fun h => hR.2.1 (by simpa using h), fun h => hR.2.2 (by simpa using h)⟩
      · obtain rfl : _ = o := Option.some.inj ho
        have h1 : l 1 = true := he ⟨1, .data⟩ (by simp) rfl
        have HRr := Lib.hid hR
        have HQ := Lib.hid (HPh.out wx p.1 hR.1 (hR.2.1 h1))
        clear hR
        go_simp
        refine HQ.out.mono ?_
        rintro e wy ⟨u, rfl, hu, hb⟩
        refine hK (p.1, u) wy (fun j hj => ?_) ⟨low_more HRr.out.1 hb, fun h => blk_keep (HRr.out.2.1 (by simpa using h)) hb, fun _ => own_mono hu HRr.out.1.size⟩
        rcases j with _ | _ | _ | _ | _ | _ | j
        all_goals first | rfl | (rw [hl] at hj; cases hj) | (exact absurd (hcl 5 _ rfl hj ⟨4, .data⟩ (by simp) rfl) (by rw [hl]; decide))
      · obtain rfl : _ = o := Option.some.inj ho
        go_simp
        exact hK p wx (fun _ _ => rfl) ⟨hR.1, fun h => hR.2.1 (by simpa using h), fun h => hR.2.2 (by simpa using h)⟩
      · simp at ho
    · intro p l wx hl hR
      have HRr := Lib.hid (show Below w2.heap.size w2 wx ∧ OwnFo wx w2.heap.size p.2 (l0.map fun e => (e.1, (e.2.length : Int))) from ⟨hR.1, hR.2.2 (hl 4 (by decide))⟩)
      clear hR hl
      obtain ⟨pb, one⟩ := p
      have hrd := HRr.out.2.reads
      obtain ⟨va, vc, hv, _, _, _, hvr⟩ := hrd
      rw [List.length_map, ← HL0.out.2.2.1] at hv
      subst hv
      have HB3 := Lib.hid (low_more HB2.out HRr.out.1)
      have HV := Lib.hid hvr
      clear hvr HRr HPh hcl2 HX
      generalize hbw : wx.heap.size = sz at HB3 ⊢
      clear hbw
      have cl := below_cell HKp.out HB3.out
      have hnn : ((n0 : Int) != (n0 : Int)) = false := by simp
      go_wp2_with fail
      clear cl
      go_loopg [52] n0 (fun g s52 wr => ∃ i : Nat, i + g = n0 ∧ s52 = .int .i64 (i : Int) ∧ Hid (Below W.heap.size W wr ∧ Below wx.heap.size wx wr))
      case atStart => exact ⟨0, by omega, rfl, Lib.hid ⟨HB3.out, Below.refl _ _⟩⟩
      case round =>
        obtain ⟨i, hig, rfl, HB⟩ := hrel
        cases gk with
        | succ g =>
          have hlt : i < n0 := by omega
          obtain ⟨e, he⟩ : ∃ e, l0[i]? = some e := ⟨_, List.getElem?_eq_getElem (by rw [← HL0.out.2.2.1]; exact hlt)⟩
          obtain ⟨ge, oe, rfl, q0, q, q1, qa, qc, rfl, _⟩ := HL0.out.2.2.2 i e he
          obtain ⟨gv, ov, rfl, v0, v1⟩ := HV.out i (e.1, (e.2.length : Int)) (by rw [List.getElem?_map, he]; rfl)
          simp only at v0 v1
          have d0 := below_cell v0 HB.out.2
          have d1 := below_cell v1 HB.out.2
          obtain ⟨dd, hdd⟩ : ∃ dd, dd = e.1 := ⟨_, rfl⟩
          obtain ⟨pn, hpn⟩ : ∃ pn, pn = e.2.length := ⟨_, rfl⟩
          rw [← hdd] at q0 d0
          rw [← hpn] at q1 d1
          have hlti : (i : Int) < (n0 : Int) := by omega
          clear v0 v1 he hdd hpn
          go_upto_region 11 with fail
          have hb2 : Below wr.heap.size wr (wr.alloc (.cells #[.int .i64 dd, .int .i64 (pn : Int)] 44)) := below_one
          have HBn := Lib.hid (show Below W.heap.size W (wr.alloc (.cells #[.int .i64 dd, .int .i64 (pn : Int)] 44)) ∧ Below wx.heap.size wx (wr.alloc (.cells #[.int .i64 dd, .int .i64 (pn : Int)] 44)) from ⟨low_more HB.out.1 hb2, low_more HB.out.2 hb2⟩)
          have hx := heap_alloc_new wr (.cells #[.int .i64 dd, .int .i64 (pn : Int)] 44)
          have e0 := cell_at hx 0
          have e1 := cell_at hx 1
          simp only [List.getElem?_toArray, List.getElem?_cons_zero, List.getElem?_cons_succ] at e0 e1
          have q2 := below_cell q0 HBn.out.1
          have q3 := below_cell q1 HBn.out.1
          have q4 := below_cell HKp.out HBn.out.1
          clear hx d0 d1 q0 q1 hb2 HB
          generalize wr.heap.size = by5 at e0 e1 ⊢
          generalize wr.alloc (.cells #[.int .i64 dd, .int .i64 (pn : Int)] 44) = w5 at e0 e1 q2 q3 q4 HBn ⊢
          clear wr
          have hb7 : (dd != dd) = false := by simp
          have hb8 : ((pn : Int) != (pn : Int)) = false := by simp
          go_quiet (fail)
          rename Nat => m1
          have HB6 := Lib.hid (show Below W.heap.size W (w5.drewN m1) ∧ Below wx.heap.size wx (w5.drewN m1) from ⟨below_drawn HBn.out.1 m1, below_drawn HBn.out.2 m1⟩)
          clear e0 e1 q2 q3 q4 HBn
          go_wp2_with fail
          go_roundg g
          case measure => omega
          case rel => exact ⟨i + 1, by omega, by go_num, HB6⟩
        | zero =>
          clear HV HB3
          by_cases hm1 : m = 1
          · have HF := Lib.hid (fixed18 wr)
            subst hm1
            go_wp2_with fail
            refine HF.out.mono ?_
            rintro e w6 ⟨rfl, hb6⟩
            have HB6 := Lib.hid (low_more HB.out.1 hb6)
            clear hb6
            go_wp2_with fail
            go_ret
            exact ⟨rfl, HB6.out⟩
          · obtain ⟨n, hn⟩ : ∃ n, m = n + 1 := ⟨m - 1, by omega⟩
            have HNm := Lib.hid hn
            have hm20 : m ≤ 20 := HOk.out.1
            have hn20 : n ≤ 20 := by omega
            have hn0 : ¬ n = 0 := by omega
            have hn0b : ((n : Int) == 0) = false := beq_eq_false_iff_ne.2 (by omega)
            have hn1 : (m : Int) - 1 = (n : Int) := by omega
            have hn2 : (n : Int) < (m : Int) := by omega
            obtain ⟨t, ht⟩ : ∃ t, T[n]? = some t := ⟨_, List.getElem?_eq_getElem (by rw [← HT.out.2]; omega)⟩
            obtain ⟨gx, ox, hgx, _, _, k2⟩ := HT.out.1 n t ht
            injection hgx with hgx
            injection hgx with h1 h2
            subst h1 h2
            have c2 := below_cell k2 HB.out.1
            obtain ⟨p, hp⟩ : ∃ p, p = t.2.2 := ⟨_, rfl⟩
            rw [← hp] at c2
            clear k2 ht hp hm1 hn
            have HF := Lib.hid (fixed18 wr)
            by_cases hp0 : p < 0
            · go_wp2_with fail
              refine HF.out.mono ?_
              rintro e w6 ⟨rfl, hb6⟩
              have HB6 := Lib.hid (low_more HB.out.1 hb6)
              clear hb6
              go_wp2_with fail
              go_ret
              exact ⟨rfl, HB6.out⟩
            by_cases hp1 : 65535 < p
            · go_wp2_with fail
              refine HF.out.mono ?_
              rintro e w6 ⟨rfl, hb6⟩
              have HB6 := Lib.hid (low_more HB.out.1 hb6)
              clear hb6
              go_wp2_with fail
              go_ret
              exact ⟨rfl, HB6.out⟩
            clear HF
            have hs1 := head_run _ _ 3 m tc n (some ⟨gt, ot, none⟩) elem_toks under_toks size_tok18 (by omega)
            have hs2 := head_run _ _ 1 m lc n (some ⟨gl, ol, none⟩) elem_entss under_entss size_ents18 (by omega)
            have HPl := Lib.hid (show ∀ wy, Below W.heap.size W wy → Calls Try.prog 11 #[.slice (some ⟨gt, ot, none⟩) n tc, .slice (some ⟨gl, ol, none⟩) n lc] wy fun e w' => ∃ u, e = .returned u ∧ OwnFo w' wy.heap.size u (phraseN (T.take n) (L.take n)) ∧ Below wy.heap.size wy w' from fun wy hb =>
              phrase_any wy _ _ tc lc n n (T.take n) (L.take n) ((HT.out.1.below hb).take n) (by have := HT.out.2; have := HNm.out; rw [List.length_take]; omega) (ReadEs.take (ReadEs.below HL.out.1 hb) n) (by have := HL.out.2; have := HNm.out; rw [List.length_take]; omega) (by omega) (by omega) (fun l hl => HOk.out.2.2 l (List.mem_of_mem_take hl)))
            have HPf := Lib.hid (show ∀ wy, Below W.heap.size W wy → Calls Try.prog 11 #[.slice (some ⟨gt, ot, none⟩) m tc, .slice (some ⟨gl, ol, none⟩) m lc] wy fun e w' => ∃ u, e = .returned u ∧ OwnFo w' wy.heap.size u (phraseN T L) ∧ Below wy.heap.size wy w' from fun wy hb =>
              phrase_any wy _ _ tc lc m m T L (HT.out.1.below hb) HT.out.2 (ReadEs.below HL.out.1 hb) HL.out.2 (by omega) (by omega) HOk.out.2.2)
            have HPre := Lib.hid (fun f hf => prefix_all (T := T) (L := L) (n := n) (by omega) (by have := HT.out.2; omega) (by rw [← HT.out.2, HL.out.2]) (f := f) hf)
            go_upto_region 20 with fail
            refine wp_region_still_tail 6 (by kernel_rfl) (by kernel_rfl) ?_
            simp only [List.take_succ_cons, List.take_zero, List.drop_succ_cons, List.drop_zero]
            repeat still_step
            refine wpStill_nil ?_
            change wpList _ _ _ _ _ (World.drew _)
            clear c2
            have HBd := Lib.hid (show Below W.heap.size W wr.drew from HB.out.1.drew)
            go_wp2_with fail
            refine (HPl.out _ HBd.out).mono ?_
            rintro e w6 ⟨u, rfl, hu, hb6⟩
            have HB6 := Lib.hid (low_more HBd.out hb6)
            have HU := Lib.hid (And.intro hu.reads (phrase_few (T := T.take n) (L := L.take n) (m := n) (k := n) ⟨by omega, by omega, fun l hl => HOk.out.2.2 l (List.mem_of_mem_take hl)⟩))
            clear hb6 hu HB HBd HPl
            go_wp2_with fail
            refine (HPf.out _ HB6.out).mono ?_
            rintro e w7 ⟨v, rfl, hv, hb7⟩
            have HB7 := Lib.hid (low_more HB6.out hb7)
            have HU7 := Lib.hid (And.intro (HU.out.1.below hb7) HU.out.2)
            have HV7 := Lib.hid (And.intro hv.reads (phrase_few HOk.out (T := T)))
            clear hb7 hv HB6 HU HPf
            obtain ⟨A, hA⟩ : ∃ A, A = phraseN (T.take n) (L.take n) := ⟨_, rfl⟩
            obtain ⟨B, hB⟩ : ∃ B, B = phraseN T L := ⟨_, rfl⟩
            rw [← hA] at HU7 HPre
            rw [← hB] at HV7 HPre
            clear hA hB
            obtain ⟨⟨ua, uc, rfl, _, _, _, hur⟩, hu6⟩ := HU7.out
            obtain ⟨⟨va, vc, rfl, _, _, _, hvr⟩, hv6⟩ := HV7.out
            obtain ⟨an, han⟩ : ∃ an, an = A.length := ⟨_, rfl⟩
            obtain ⟨bn, hbn⟩ : ∃ bn, bn = B.length := ⟨_, rfl⟩
            rw [← han] at hu6 ⊢
            rw [← hbn] at hv6 ⊢
            have HUr := Lib.hid (And.intro hur han)
            have HVr := Lib.hid (And.intro hvr hbn)
            clear hur hvr han hbn HU7 HV7
            go_wp2_with fail
            go_loopg [110] bn (fun g s110 wr => ∃ i : Nat, i + g = bn ∧ s110 = .int .i64 (i : Int) ∧ Hid (Below W.heap.size W wr ∧ Below w7.heap.size w7 wr))
            case atStart => exact ⟨0, by omega, rfl, Lib.hid ⟨HB7.out, Below.refl _ _⟩⟩
            case round =>
              obtain ⟨i, hig, rfl, HB⟩ := hrel
              cases gk with
              | zero =>
                have HF := Lib.hid (fixed18 wr)
                go_wp2_with fail
                refine HF.out.mono ?_
                rintro e w8 ⟨rfl, hb8⟩
                have HB8 := Lib.hid (low_more HB.out.1 hb8)
                clear hb8
                go_wp2_with fail
                go_ret
                exact ⟨rfl, HB8.out⟩
              | succ g =>
                have hlt : i < bn := by omega
                obtain ⟨f, hf⟩ : ∃ f, B[i]? = some f := ⟨_, List.getElem?_eq_getElem (by rw [← HVr.out.2]; exact hlt)⟩
                obtain ⟨gv, ov, rfl, v0, v1⟩ := HVr.out.1 i f hf
                have d0 := below_cell v0 HB.out.2
                have d1 := below_cell v1 HB.out.2
                have HEx := Lib.hid (HPre.out f (List.mem_of_getElem? hf))
                obtain ⟨fd, ft⟩ := f
                simp only at d0 d1
                have hlti : (i : Int) < (bn : Int) := by omega
                clear v0 v1 hf
                go_upto_region 24 with fail
                have hb2 : Below wr.heap.size wr (wr.alloc (.cells #[.int .i64 fd, .int .i64 ft] 44)) := below_one
                have HBn := Lib.hid (show Below W.heap.size W (wr.alloc (.cells #[.int .i64 fd, .int .i64 ft] 44)) ∧ Below w7.heap.size w7 (wr.alloc (.cells #[.int .i64 fd, .int .i64 ft] 44)) ∧ (wr.alloc (.cells #[.int .i64 fd, .int .i64 ft] 44)).heap[wr.heap.size]? = some (.cells #[.int .i64 fd, .int .i64 ft] 44 (0, 0)) from ⟨low_more HB.out.1 hb2, low_more HB.out.2 hb2, heap_alloc_new _ _⟩)
                clear d0 d1 hb2 HB
                generalize wr.heap.size = bf at HBn ⊢
                generalize wr.alloc (.cells #[.int .i64 fd, .int .i64 ft] 44) = w8 at HBn ⊢
                clear wr
                go_wp2_with fail
                go_loopg [14, 116] an (fun g2 s14 s116 wy => ∃ j : Nat, j + g2 = an ∧ s116 = .int .i64 (j : Int) ∧ s14 = .bool (upTo (fd, ft) A j) ∧ Hid (Below w8.heap.size w8 wy))
                case atStart => exact ⟨0, by omega, rfl, rfl, Lib.hid (Below.refl _ _)⟩
                case round =>
                  obtain ⟨j, hjg, rfl, rfl, HY⟩ := hrel
                  cases gk with
                  | zero =>
                    have hyes : upTo (fd, ft) A j = true := upTo_all (by rw [← HUr.out.2]; omega) HEx.out
                    rw [hyes]
                    have HZ := Lib.hid (And.intro (low_more HBn.out.1 HY.out) (low_more HBn.out.2.1 HY.out))
                    clear hyes
                    go_wp2_with fail
                    go_roundg g
                    case measure => omega
                    case rel => exact ⟨i + 1, by omega, by go_num, HZ⟩
                  | succ g2 =>
                    have hltj : j < an := by omega
                    obtain ⟨x, hx⟩ : ∃ x, A[j]? = some x := ⟨_, List.getElem?_eq_getElem (by rw [← HUr.out.2]; exact hltj)⟩
                    obtain ⟨gu, ou, rfl, u0, u1⟩ := HUr.out.1 j x hx
                    have HUp := Lib.hid (upTo_succ (f := (fd, ft)) hx)
                    obtain ⟨xd, xt⟩ := x
                    simp only at u0 u1 HUp
                    have c0 := below_cell u0 (low_more HBn.out.2.1 HY.out)
                    have c1 := below_cell u1 (low_more HBn.out.2.1 HY.out)
                    have hx8 := blk_keep HBn.out.2.2 HY.out
                    have hxY := blk_keep hx8 (below_one (w := wr) (A := .cells #[.int .i64 xd, .int .i64 xt] 44))
                    have q0 := cell_at hxY 0
                    have q1 := cell_at hxY 1
                    simp only [List.getElem?_toArray, List.getElem?_cons_zero, List.getElem?_cons_succ] at q0 q1
                    have HZ := Lib.hid (low_more HY.out (below_one (w := wr) (A := .cells #[.int .i64 xd, .int .i64 xt] 44)))
                    have hltji : (j : Int) < (an : Int) := by omega
                    obtain ⟨ok, hok⟩ : ∃ ok, ok = upTo (fd, ft) A j := ⟨_, rfl⟩
                    rw [← hok] at HUp ⊢
                    clear u0 u1 hx hx8 hxY hok
                    cases ok with
                    | true =>
                      have HUq := Lib.hid (show upTo (fd, ft) A (j + 1) = true by rw [HUp.out]; rfl)
                      go_wp2_with fail
                      go_roundg g2
                      case measure => omega
                      case rel => exact ⟨j + 1, by omega, by go_num, by rw [HUq.out], HZ⟩
                    | false =>
                      by_cases hxd : xd = fd
                      · have HUq := Lib.hid (show upTo (fd, ft) A (j + 1) = decide (ft ≤ xt) by rw [HUp.out]; simp [hxd])
                        subst hxd
                        go_wp2_with fail
                        go_roundg g2
                        case measure => omega
                        case rel => exact ⟨j + 1, by omega, by go_num, by rw [HUq.out], HZ⟩
                      · have HUq := Lib.hid (show upTo (fd, ft) A (j + 1) = false by rw [HUp.out]; simp [hxd])
                        have hxb : (xd == fd) = false := beq_eq_false_iff_ne.2 hxd
                        go_wp2_with fail
                        go_roundg g2
                        case measure => omega
                        case rel => exact ⟨j + 1, by omega, by go_num, by rw [HUq.out], HZ⟩
end Go.Proofs.Ytaaeooimalglaaa
