/-
  Layer 18 as it landed: documents within a leaf's list; the next leaf's list. Over the program's own text.
-/
import Derived.Test.YtaaeooimalglaaaMatE
namespace Go.Proofs.Ytaaeooimalglaaa
open Go.RowKit

def dropF (l : List Fo) (d : Int) : List Fo := l.dropWhile fun f => decide (f.1 < d)
theorem dropF_has {l : List Fo} {d d' : Int} (h : d ≤ d') : hasF (dropF l d) d' = hasF l d' := by
  induction l with
  | nil => rfl
  | cons x l ih =>
    unfold dropF
    rw [List.dropWhile_cons]
    split
    · rename_i h1
      have h1 : x.1 < d := by simpa using h1
      rw [show l.dropWhile (fun f => decide (f.1 < d)) = dropF l d from rfl, ih]
      have : ¬ x.1 = d' := by omega
      simp [hasF, this]
    · rfl
theorem dropF_rise {l : List Fo} {d : Int} (h : RiseF l) : RiseF (dropF l d) := List.Pairwise.sublist (List.dropWhile_sublist _) h
theorem dropF_cons {x : Fo} {l : List Fo} {d : Int} (h : x.1 < d) : dropF (x :: l) d = dropF l d := by simp [dropF, h]
theorem dropF_stay {x : Fo} {l : List Fo} {d : Int} (h : ¬ x.1 < d) : dropF (x :: l) d = x :: l := by simp [dropF, h]
set_option maxRecDepth 100000 in
set_option maxHeartbeats 4000000 in
theorem within_any (W : World) (v u : Value) (docs : List Int) (l : List Fo) (hd : RdP W v docs) (hu : RdFo W u l) (hrd : RiseP docs) (hrl : RiseF l) (h6 : docs.length ≤ 1000000) :
    Calls Try.prog 31 #[v, u] W fun e w' => ∃ x, e = .returned x ∧ OwnZ w' W.heap.size x (docs.filter (hasF l)) ∧ Below W.heap.size W w' := by
  obtain ⟨oa, c, rfl, _, _, _, hr⟩ := hd
  obtain ⟨n, hn⟩ : ∃ n, n = docs.length := ⟨_, rfl⟩
  have HR := Lib.hid hr
  have HS := Lib.hid (show RdFo W u l ∧ RiseF l ∧ ∀ d ∈ docs.drop 0, hasF l d = hasF l d from ⟨hu, hrl, fun _ _ => rfl⟩)
  have HN := Lib.hid (And.intro hn hrd)
  obtain ⟨i0, hi0, hz0, hz1, hz2⟩ := info_parts info_z
  have HI := Lib.hid (And.intro hi0 (And.intro hz0 (And.intro hz1 hz2)))
  rw [← hn]
  rw [← hn] at h6
  obtain ⟨ua, un, uc, hu2⟩ : ∃ ua un uc, u = .slice ua un uc := by
    obtain ⟨ua, uc, h, _⟩ := hu
    exact ⟨ua, _, uc, h⟩
  subst hu2
  clear hr hu hn hi0 hz0 hz1 hz2 hrd hrl
  go_enter Try.func31, Try.ntmps31
  go_wp2_with fail
  go_loopg [1, 5, 10] n (fun g s1 s5 s10 wr => ∃ (i : Nat) (v1 v5 : Value) (r : List Fo), i + g = n ∧ s10 = .int .i64 (i : Int) ∧ v1 = s1 ∧ v5 = s5 ∧ Hid (RdFo W v1 r ∧ RiseF r ∧ ∀ d ∈ docs.drop i, hasF r d = hasF l d) ∧ Hid (OwnZ wr W.heap.size v5 ((docs.take i).filter (hasF l)) ∧ Below W.heap.size W wr))
  case atStart => exact ⟨0, _, _, l, by omega, rfl, rfl, rfl, Lib.hid ⟨HS.out.1, HS.out.2.1, fun _ _ => rfl⟩, Lib.hid ⟨by simpa using OwnZ.nil _ _, Below.refl _ _⟩⟩
  case round =>
    clear HS
    obtain ⟨i, v1, v5, r, hig, rfl, rfl, rfl, HS, HO⟩ := hrel
    cases gk with
    | zero =>
      have hin : n = i := by omega
      subst hin
      have HFin := Lib.hid (show docs.take n = docs from List.take_of_length_le (by rw [← HN.out.1]; exact Nat.le_refl _))
      go_wp2_with fail
      go_ret
      refine ⟨_, rfl, ?_, HO.out.2⟩
      have := HO.out.1
      rw [HFin.out] at this
      exact this
    | succ g =>
      have hlt : i < n := by omega
      obtain ⟨x, hx⟩ : ∃ x, docs[i]? = some x := ⟨_, List.getElem?_eq_getElem (by rw [← HN.out.1]; exact hlt)⟩
      obtain ⟨gx, ox, rfl, k0⟩ := HR.out i x hx
      have c0 := below_cell k0 HO.out.2
      have hlti : (i : Int) < (n : Int) := by omega
      have HFt := Lib.hid (filter_take (p := hasF l) hx)
      have hle := take_le (p := hasF l) docs i
      rw [← HN.out.1] at hle
      have HX := Lib.hid (show hasF (dropF r x) x = hasF l x ∧ ∀ d ∈ docs.drop (i + 1), hasF (dropF r x) d = hasF l d from by
        have hdc := drop_cons hx
        refine ⟨by rw [dropF_has (Int.le_refl _)]; exact HS.out.2.2 x (by rw [hdc]; simp), fun d hd => ?_⟩
        have : x < d := by
          have h := HN.out.2
          unfold RiseP at h
          have h2 := List.Pairwise.drop (i := i) h
          rw [hdc, List.pairwise_cons] at h2
          exact h2.1 d hd
        rw [dropF_has (by omega)]
        exact HS.out.2.2 d (by rw [hdc]; simp [hd]))
      clear k0 hx
      go_wp2_with fail
      go_loopg [1] r.length (fun g2 s1 wy => ∃ (v2 : Value) (q : List Fo), v2 = s1 ∧ q.length ≤ g2 ∧ wy = wr ∧ Hid (RdFo W v2 q ∧ RiseF q ∧ dropF q x = dropF r x))
      case atStart => exact ⟨_, r, rfl, Nat.le_refl _, rfl, Lib.hid ⟨HS.out.1, HS.out.2.1, rfl⟩⟩
      case round =>
        obtain ⟨v2, q, rfl, hq6, rfl, HQ⟩ := hrel
        cases q with
        | nil =>
          obtain ⟨qa, qc, hv, _⟩ := HQ.out.1
          have HD := Lib.hid (show dropF r x = [] ∧ hasF l x = false from by
            have h := HQ.out.2.2
            have h1 : dropF r x = [] := h.symm.trans rfl
            exact ⟨h1, by rw [← HX.out.1, h1]; rfl⟩)
          have HF2 := Lib.hid (show (docs.take (i + 1)).filter (hasF l) = (docs.take i).filter (hasF l) by rw [HFt.out, HD.out.2]; simp)
          have HS2 := Lib.hid (show RdFo W v2 ([] : List Fo) ∧ RiseF ([] : List Fo) ∧ ∀ d ∈ docs.drop (i + 1), hasF [] d = hasF l d from ⟨HQ.out.1, List.Pairwise.nil, fun d hd => by rw [← HX.out.2 d hd, HD.out.1]⟩)
          rw [show (([] : List Fo).length) = 0 from rfl] at hv
          subst hv
          clear HQ
          go_wp2_with fail
          go_roundg g
          case measure => omega
          case rel => exact ⟨i + 1, _, _, [], by omega, by go_num, rfl, rfl, HS2, Lib.hid ⟨by rw [HF2.out]; exact HO.out.1, HO.out.2⟩⟩
        | cons f q =>
          obtain ⟨t1, t2⟩ := tail_fo HQ.out.1
          obtain ⟨qa, qc, hv, _, _, _, hqr⟩ := HQ.out.1
          subst hv
          obtain ⟨gy, oy, rfl, k1, _⟩ := hqr 0 f rfl
          have c1 := below_cell k1 HO.out.2
          rw [Nat.zero_mul, Nat.add_zero] at c1
          obtain ⟨y, hy⟩ : ∃ y, y = f.1 := ⟨_, rfl⟩
          rw [← hy] at c1
          obtain ⟨m, hm⟩ : ∃ m, m = (f :: q).length := ⟨_, rfl⟩
          have hm0 : 0 < m := by rw [hm]; simp
          have hm1 : (0 : Int) < (m : Int) := by omega
          have HT := Lib.hid t1
          have hql : q.length + 1 ≤ gk := by simpa using hq6
          by_cases hlt2 : y < x
          · have HQ2 := Lib.hid (show RiseF q ∧ dropF q x = dropF r x from ⟨(List.pairwise_cons.1 HQ.out.2.1).2, by rw [← HQ.out.2.2, dropF_cons (by rw [← hy]; exact hlt2)]⟩)
            rw [← hm] at t2 HT ⊢
            generalize tailK 2 (.slice (some ⟨gy, oy, none⟩) m qc) = tv at HT t2
            clear hqr k1 hm t1 HQ hy
            go_wp2_with fail
            go_roundg q.length
            case measure => omega
            case rel => exact ⟨tv, q, rfl, Nat.le_refl _, rfl, Lib.hid ⟨HT.out, HQ2.out.1, HQ2.out.2⟩⟩
          · have hds : dropF r x = f :: q := by rw [← HQ.out.2.2, dropF_stay (by rw [← hy]; exact hlt2)]
            have HHas := Lib.hid (show hasF l x = decide (y = x) by rw [← HX.out.1, hds, hy]; exact has_head (hds ▸ (dropF_rise HS.out.2.1)) (by omega))
            have HS2 := Lib.hid (show RdFo W (.slice (some ⟨gy, oy, none⟩) (f :: q).length qc) (f :: q) ∧ RiseF (f :: q) ∧ ∀ d ∈ docs.drop (i + 1), hasF (f :: q) d = hasF l d from ⟨HQ.out.1, HQ.out.2.1, fun d hd => by rw [← hds]; exact HX.out.2 d hd⟩)
            rw [← hm] at HS2 ⊢
            clear hqr k1 t1 t2 HT HQ hy hds hm
            by_cases hyx : y = x
            · have HF2 := Lib.hid (show (docs.take (i + 1)).filter (hasF l) = (docs.take i).filter (hasF l) ++ [x] by rw [HFt.out, HHas.out]; simp [hyx])
              obtain ⟨L, hL⟩ : ∃ L, L = (docs.take i).filter (hasF l) := ⟨_, rfl⟩
              rw [← hL] at hle HF2 HO
              subst hyx
              clear hL HHas HFt HX
              go_wp2_with (at_builtin; refine wpList_append_own _ rfl (.tmp 38) (.tmp 40) 32 rfl W.heap.size 3 i0 _ 1 8 Try.underlying32 HI.out.1 HI.out.2.1 HI.out.2.2.1 HI.out.2.2.2 rfl (by decide) _ L.length (zC L) rfl (World.ownsRow.alloc HO.out.1 _) ⟨_, 0, none⟩ 1 1 [.int .i64 y] rfl rfl one_cell (by simp [Value.oneCell']) (by unfold maxLen; omega) (by omega) (by have := HO.out.2.size; simp; omega) ?_; intro v' w8 ho hg _; have HO8 := Lib.hid (OwnZ.more rfl HO.out.2.size HO.out.2 HO.out.1 ho hg); clear ho hg)
              go_roundg g
              case measure => omega
              case rel => exact ⟨i + 1, _, v', f :: q, by omega, by go_num, rfl, rfl, HS2, Lib.hid (by rw [HF2.out]; exact HO8.out)⟩
            · have HF2 := Lib.hid (show (docs.take (i + 1)).filter (hasF l) = (docs.take i).filter (hasF l) by rw [HFt.out, HHas.out]; simp [hyx])
              have hbn : (y == x) = false := beq_eq_false_iff_ne.2 hyx
              clear HHas HFt HX
              go_wp2_with fail
              go_roundg g
              case measure => omega
              case rel => exact ⟨i + 1, _, _, f :: q, by omega, by go_num, rfl, rfl, HS2, Lib.hid ⟨by rw [HF2.out]; exact HO.out.1, HO.out.2⟩⟩
end Go.Proofs.Ytaaeooimalglaaa
