/-
  Layer 18 as it landed: Eval; the reference's Same. Over the program's own text.
-/
import Derived.Test.YtaaeooimalglaaaMatH
import Derived.Test.YtaaeooimalglaaaMatS
namespace Go.Proofs.Ytaaeooimalglaaa
open Go.RowKit

theorem clone_ints (w : World) (v : Value) (l : List Int) (h : RdP w v l) (h6 : l.length ≤ 1000000) :
    Calls Try.prog 25 #[v] w fun e w' => ∃ x, e = .returned x ∧ OwnZ w' w.heap.size x l ∧ Below w.heap.size w w' := by
  obtain ⟨pa, c, rfl, _, _, _, hr⟩ := h
  cases l with
  | nil =>
    cases pa with
    | none =>
      refine (Try.slices_Clone_int_nil 0 c w).mono ?_
      rintro e w' ⟨rfl, rfl⟩
      exact ⟨_, rfl, OwnZ.nil _ _, Below.refl _ _⟩
    | some a =>
      refine (Try.slices_Clone_int_zero a c w).mono ?_
      rintro e w' ⟨v', rfl, h1, _, h2⟩
      exact ⟨_, rfl, h1, h2⟩
  | cons y l =>
    obtain ⟨g, o, rfl, _⟩ := hr 0 y rfl
    refine (Try.slices_Clone_int g o (y :: l).length c (y :: l) w (Nat.le_refl _) (by omega) (fun j hj => ?_)).mono ?_
    · obtain ⟨g', o', h1, h2⟩ := hr j _ (List.getElem?_eq_getElem hj)
      injection h1 with h1
      injection h1 with h1 h1'
      subst h1 h1'
      rw [h2, List.getD_eq_getElem?_getD, List.getElem?_eq_getElem hj]
      rfl
    · rintro e w' ⟨v', rfl, h1, _, h2⟩
      rw [List.take_length] at h1
      exact ⟨_, rfl, h1, h2⟩
theorem rdp_zs {w : World} {v : Value} {l : List Int} {fb : Nat} (h : RdP w v l) (hb : w.heap.size ≤ fb) : RdZS w fb v l := by
  refine ⟨h, fun g o n c hv hne => ?_⟩
  obtain ⟨pa, c', rfl, _, _, _, hr⟩ := h
  injection hv with hv _ _
  obtain ⟨x, hx⟩ : ∃ x, l[0]? = some x := by cases l with | nil => exact absurd rfl hne | cons y l => exact ⟨y, rfl⟩
  obtain ⟨g', o', h1, h2⟩ := hr 0 x hx
  rw [hv] at h1
  injection h1 with h1
  injection h1 with h1
  have := cell_lt h2
  simp only at this
  omega
theorem rdfo_s {w : World} {v : Value} {l : List Fo} {fb : Nat} (h : RdFo w v l) (hb : w.heap.size ≤ fb) : RdFoS w fb v l := by
  refine ⟨h, fun g o n c hv hne => ?_⟩
  obtain ⟨pa, c', rfl, _, _, _, hr⟩ := h
  injection hv with hv _ _
  obtain ⟨x, hx⟩ : ∃ x, l[0]? = some x := by cases l with | nil => exact absurd rfl hne | cons y l => exact ⟨y, rfl⟩
  obtain ⟨g', o', h1, h2, _⟩ := hr 0 x hx
  rw [hv] at h1
  injection h1 with h1
  injection h1 with h1
  have := cell_lt h2
  simp only at this
  omega
theorem rows_fo {w : World} {la : Option Addr} {L : List (List Fo)} {fb : Nat} (h : ReadFos w la L) (hb : w.heap.size ≤ fb) : RowsFo w fb la L := fun j l hj => by
  obtain ⟨g, o, h1, p, h2, h3⟩ := h j l hj
  have := cell_lt h2
  simp only at this
  exact ⟨g, o, h1, by omega, p, h2, rdfo_s h3 hb⟩
/-- What comes in as leaves' lists. -/
def LvsAt (w : World) (v : Value) (L : List (List Fo)) : Prop := ∃ la lc, v = .slice la L.length lc ∧ L.length ≤ lc ∧ lc ≤ maxLen ∧ (la = none → lc = 0) ∧ ReadFos w la L
theorem LvsAt.below {w w' : World} {v : Value} {L : List (List Fo)} (h : LvsAt w v L) (hb : Below w.heap.size w w') : LvsAt w' v L := by
  obtain ⟨la, lc, h1, h2, h3, h4, h5⟩ := h
  exact ⟨la, lc, h1, h2, h3, h4, h5.below hb⟩
set_option maxRecDepth 100000 in
set_option maxHeartbeats 4000000 in
theorem eval_any (W : World) (S : Nat → Prop) (x : Nd) (r : Rn) (v lv : Value) (docs : List Int) (L : List (List Fo)) (hx : RdN W S x r) (hfew : FewN x) (hv : RdP W v docs) (hl : LvsAt W lv L) (hrd : RiseP docs) (hrl : ∀ l ∈ L, RiseF l) (h6 : docs.length ≤ 1000000) :
    Calls Try.prog 15 #[rnV r, v, lv] W fun e w' => ∃ u, e = .returned u ∧ OwnZ w' W.heap.size u (docs.filter (semN x L)) ∧ Below W.heap.size W w' := by
  obtain ⟨k, f, tv, kv⟩ := r
  obtain ⟨ta, tn, tc, ka, kn, kc, rfl, rfl⟩ := hx.slices
  obtain ⟨va, vn, vc, hv2⟩ : ∃ va vn vc, v = .slice va vn vc := by
    obtain ⟨va, vc, h, _⟩ := hv
    exact ⟨va, _, vc, h⟩
  obtain ⟨la, lc, hl1, hl2, hl3, hl4, hl5⟩ := hl
  obtain ⟨n, hn⟩ : ∃ n, n = L.length := ⟨_, rfl⟩
  rw [← hn] at hl1 hl2
  subst hv2 hl1
  rw [show rnV (k, f, .slice ta tn tc, .slice ka kn kc) = .agg #[.int .i64 k, .int .u8 f, .slice ta tn tc, .slice ka kn kc] from rfl]
  obtain ⟨X, hX⟩ : ∃ X : Obj, X = .cells #[.int .i64 k, .int .u8 f, .slice ta tn tc, .slice ka kn kc] 31 := ⟨_, rfl⟩
  obtain ⟨Y, hY⟩ : ∃ Y : Obj, Y = .cells #[.slice la n lc] 56 := ⟨_, rfl⟩
  have hbl : Below W.heap.size W ((W.alloc X).alloc Y) := below_al2
  have HB := Lib.hid hbl
  have hx0 := heap2_0 W X Y
  rw [hX] at hx0
  rw [← hX] at hx0
  have HFi := Lib.hid (show FiAt ((W.alloc X).alloc Y) (W.heap.size + 1) L from ⟨la, lc, by rw [heap2_1, hY, hn], by omega, hl3, hl4, (rows_fo hl5 (by omega)).keep (below_kp hbl)⟩)
  have HV := Lib.hid (show RdZS ((W.alloc X).alloc Y) (W.heap.size + 1) (.slice va vn vc) docs from (rdp_zs hv (by omega)).keep (below_kp hbl))
  have HX := Lib.hid (show RdN ((W.alloc X).alloc Y) (fun b => b ≠ W.heap.size + 1) x (k, f, .slice ta tn tc, .slice ka kn kc) from (hx.mono fun b h1 _ => by show b ≠ W.heap.size + 1; omega).after hbl)
  have HFd := Lib.hid (find_any (W.heap.size + 1) x hfew _ _ _ _ _ HX.out HV.out HFi.out hrd hrl h6)
  have h6f : (docs.filter (semN x L)).length ≤ 1000000 := Nat.le_trans (List.length_filter_le _ _) h6
  have c00 : ((W.alloc X).alloc Y).heap[W.heap.size]? = some (.cells #[.int .i64 k, .int .u8 f, .slice ta tn tc, .slice ka kn kc] 31 (0, 0)) := by rw [heap2_0, hX]
  have HC := Lib.hid c00
  rw [show rnV (k, f, .slice ta tn tc, .slice ka kn kc) = .agg #[.int .i64 k, .int .u8 f, .slice ta tn tc, .slice ka kn kc] from rfl] at HFd
  clear hx hv hl2 hl3 hl4 hl5 hn hrd hrl hbl hx0 c00 hfew
  go_enter Try.func15, Try.ntmps15
  go_upto_region 2 with fail
  rw [← hX, ← hY]
  clear hX hY
  have c0 := cell_at HC.out 0
  have c1 := cell_at HC.out 1
  have c2 := cell_at HC.out 2
  have c3 := cell_at HC.out 3
  simp only [List.getElem?_toArray, List.getElem?_cons_zero, List.getElem?_cons_succ] at c0 c1 c2 c3
  generalize (W.alloc X).alloc Y = w2 at HB HFi HV HX HFd HC c0 c1 c2 c3 ⊢
  go_wp2_with fail
  refine HFd.out.mono ?_
  rintro e w3 ⟨u, rfl, hf⟩
  have HB3 := Lib.hid (show Below W.heap.size W w3 from HB.out.trans (hf.mod.below HB.out.size fun k hk => by omega))
  have HCl := Lib.hid (clone_ints w3 u _ hf.rd.1 h6f)
  clear hf c0 c1 c2 c3
  go_wp2_with fail
  refine HCl.out.mono ?_
  rintro e w4 ⟨y, rfl, hown, hb4⟩
  have HO := Lib.hid (show OwnZ w4 W.heap.size y (docs.filter (semN x L)) ∧ Below W.heap.size W w4 from ⟨own_mono hown HB3.out.size, low_more HB3.out hb4⟩)
  clear hown hb4
  go_wp2_with fail
  go_ret
  exact ⟨_, rfl, HO.out.1, HO.out.2⟩
set_option maxRecDepth 100000 in
set_option maxHeartbeats 4000000 in
/-- The same numbers twice. -/
theorem same_ints (w : World) (u v : Value) (l : List Int) (hu : RdP w u l) (hv : RdP w v l) (h6 : l.length ≤ 1000000) :
    Calls Try.prog 16 #[u, v] w fun e w' => e = .returned (.bool true) ∧ Below w.heap.size w w' := by
  obtain ⟨ua, uc, rfl, _, _, _, hur⟩ := hu
  obtain ⟨va, vc, rfl, _, _, _, hvr⟩ := hv
  obtain ⟨n, hn⟩ : ∃ n, n = l.length := ⟨_, rfl⟩
  have HU := Lib.hid hur
  have HV := Lib.hid hvr
  have HN := Lib.hid hn
  rw [← hn]
  rw [← hn] at h6
  clear hur hvr hn
  go_enter Try.func16, Try.ntmps16
  go_wp2_with fail
  go_loopg [13] n (fun g s13 wr => ∃ i : Nat, i + g = n ∧ s13 = .int .i64 (i : Int) ∧ Hid (Below w.heap.size w wr))
  case atStart => exact ⟨0, by omega, rfl, Lib.hid (Below.refl _ _)⟩
  case round =>
    obtain ⟨i, hig, rfl, HB⟩ := hrel
    cases gk with
    | zero =>
      go_wp2_with fail
      go_ret
      exact ⟨rfl, HB.out⟩
    | succ g =>
      have hlt : i < n := by omega
      obtain ⟨x, hx⟩ : ∃ x, l[i]? = some x := ⟨_, List.getElem?_eq_getElem (by rw [← HN.out]; exact hlt)⟩
      obtain ⟨gu, ou, rfl, u0⟩ := HU.out i x hx
      obtain ⟨gv, ov, rfl, v0⟩ := HV.out i x hx
      have c0 := below_cell u0 HB.out
      have d0 := below_cell v0 HB.out
      have hlti : (i : Int) < (n : Int) := by omega
      have HW2 := Lib.hid (fun m1 => below_drawn HB.out m1)
      clear u0 v0 hx
      go_upto_region 6 with fail
      go_quiet (fail)
      rename Nat => m1
      have HB3 := Lib.hid (HW2.out m1)
      clear c0 d0
      go_wp2_with fail
      go_roundg g
      case measure => omega
      case rel => exact ⟨i + 1, by omega, by go_num, HB3⟩
end Go.Proofs.Ytaaeooimalglaaa
