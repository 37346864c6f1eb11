/-
  Layer 18 as it landed: documents within a list, and without some; the next leaf's list. Over the program's own text.
-/
import Derived.Test.YtaaeooimalglaaaMatTree
import Derived.Test.YtaaeooimalglaaaFounds
import Derived.Test.YtaaeooimalglaaaRegionC
import Derived.Test.YtaaeooimalglaaaShelf
import Derived.Deep.LoopGhost
namespace Go.Proofs.Ytaaeooimalglaaa
open Go.RowKit

/-! ### A row but for its first element -/
def tailK (k : Nat) : Value → Value
  | .slice oa n c => .slice (if c = 1 then oa else oa.map (·.add k)) (n - 1) (c - 1)
  | v => v
theorem tail_run (t e : TypeId) (k n c : Nat) (oa : Option Addr) (he : Try.prog.elem t = e) (hu : Try.prog.underlying t = some (.slice (Try.prog.elem t))) (hs : ∀ w, (Go.sizeOf e).run Try.prog w = .ok k w) (hn : 1 ≤ n) (w : World) :
    (Instr.slice t (.slice oa n c) (some (.int .i64 1)) none none).run Try.prog w = .ok (tailK k (.slice oa n c)) w := by
  rw [run_slice_l w t oa n c hu .i64 1 (by omega) (by omega), he, hs]
  simp [Result.andThen, sliced, tailK]
theorem size_int18 (w : World) : (Go.sizeOf 3).run Try.prog w = .ok 1 w := by kernel_rfl
theorem size_fo (w : World) : (Go.sizeOf 44).run Try.prog w = .ok 2 w := by kernel_rfl
theorem size_fos (w : World) : (Go.sizeOf 27).run Try.prog w = .ok 1 w := by kernel_rfl
theorem elem_int18 : Try.prog.elem 32 = 3 := by kernel_rfl
theorem elem_fo : Try.prog.elem 27 = 44 := by kernel_rfl
theorem elem_fos : Try.prog.elem 33 = 27 := by kernel_rfl
theorem under_int18 : Try.prog.underlying 32 = some (.slice (Try.prog.elem 32)) := by rw [elem_int18]; exact Try.underlying32
theorem under_fo : Try.prog.underlying 27 = some (.slice (Try.prog.elem 27)) := by rw [elem_fo]; exact Try.underlying27
theorem under_fos : Try.prog.underlying 33 = some (.slice (Try.prog.elem 33)) := by rw [elem_fos]; exact Try.underlying33
theorem tail_addr {oa : Option Addr} {c k : Nat} (h : oa = none → c = 0) (hc : 1 ≤ c) : (if c = 1 then oa else oa.map (·.add k)) = none → c - 1 = 0 := by
  intro h2
  split at h2
  · omega
  · cases oa with
    | none => have := h rfl; omega
    | some a => cases h2
theorem tail_ints {W : World} {v : Value} {x : Int} {l : List Int} (h : RdP W v (x :: l)) : RdP W (tailK 1 v) l ∧ ∀ w : World, (Instr.slice 32 v (some (.int .i64 1)) none none).run Try.prog w = .ok (tailK 1 v) w := by
  obtain ⟨oa, c, rfl, hc, hm, hn, hr⟩ := h
  simp only [List.length_cons] at hc
  refine ⟨⟨_, _, rfl, by omega, by omega, tail_addr hn (by omega), fun j y hj => ?_⟩, tail_run _ _ 1 _ c oa elem_int18 under_int18 size_int18 (by simp)⟩
  have hlt := (List.getElem?_eq_some_iff.1 hj).1
  rw [if_neg (by omega)]
  obtain ⟨g, o, rfl, h2⟩ := hr (j + 1) y (by simpa using hj)
  exact ⟨g, o + 1, by simp [Addr.add], by rw [show o + 1 + j = o + (j + 1) by omega]; exact h2⟩
theorem tail_fo {W : World} {v : Value} {x : Fo} {l : List Fo} (h : RdFo W v (x :: l)) : RdFo W (tailK 2 v) l ∧ ∀ w : World, (Instr.slice 27 v (some (.int .i64 1)) none none).run Try.prog w = .ok (tailK 2 v) w := by
  obtain ⟨oa, c, rfl, hc, hm, hn, hr⟩ := h
  simp only [List.length_cons] at hc
  refine ⟨⟨_, _, rfl, by omega, by omega, tail_addr hn (by omega), fun j y hj => ?_⟩, tail_run _ _ 2 _ c oa elem_fo under_fo size_fo (by simp)⟩
  have hlt := (List.getElem?_eq_some_iff.1 hj).1
  rw [if_neg (by omega)]
  obtain ⟨g, o, rfl, h2, h3⟩ := hr (j + 1) y (by simpa using hj)
  exact ⟨g, o + 2, by simp [Addr.add], by rw [show o + 2 + j * 2 = o + (j + 1) * 2 by omega]; exact h2, by rw [show o + 2 + j * 2 + 1 = o + (j + 1) * 2 + 1 by omega]; exact h3⟩
theorem filter_take {p : Int → Bool} {l : List Int} {i : Nat} {x : Int} (h : l[i]? = some x) : (l.take (i + 1)).filter p = (l.take i).filter p ++ if p x then [x] else [] := by
  rw [List.take_add_one, h, List.filter_append]
  by_cases hp : p x <;> simp [hp]
theorem drop_cons {l : List Int} {i : Nat} {x : Int} (h : l[i]? = some x) : l.drop i = x :: l.drop (i + 1) := by
  obtain ⟨h1, h2⟩ := List.getElem?_eq_some_iff.1 h
  rw [List.drop_eq_getElem_cons h1, h2]
theorem take_le {p : Int → Bool} (l : List Int) (i : Nat) : ((l.take i).filter p).length ≤ l.length := Nat.le_trans (List.length_filter_le _ _) (by rw [List.length_take]; omega)
set_option maxRecDepth 100000 in
set_option maxHeartbeats 4000000 in
theorem without_any (W : World) (v u : Value) (docs : List Int) (p : Int → Bool) (hd : RdP W v docs) (hs : RdP W u (docs.filter p)) (h6 : docs.length ≤ 1000000) :
    Calls Try.prog 33 #[v, u] W fun e w' => ∃ x, e = .returned x ∧ OwnZ w' W.heap.size x (docs.filter fun d => !p d) ∧ Below W.heap.size W w' := by
  obtain ⟨oa, c, rfl, _, _, _, hr⟩ := hd
  obtain ⟨n, hn⟩ : ∃ n, n = docs.length := ⟨_, rfl⟩
  have HR := Lib.hid hr
  have HS := Lib.hid hs
  have HN := Lib.hid hn
  obtain ⟨i0, hi0, hz0, hz1, hz2⟩ := info_parts info_z
  have HI := Lib.hid (And.intro hi0 (And.intro hz0 (And.intro hz1 hz2)))
  rw [← hn]
  rw [← hn] at h6
  obtain ⟨ua, un, uc, hu⟩ : ∃ ua un uc, u = .slice ua un uc := by
    obtain ⟨ua, uc, h, _⟩ := hs
    exact ⟨ua, _, uc, h⟩
  subst hu
  clear hr hs hn hi0 hz0 hz1 hz2
  go_enter Try.func33, Try.ntmps33
  go_wp2_with fail
  go_loopg [1, 5, 10] n (fun g s1 s5 s10 wr => ∃ (i : Nat) (v1 v5 : Value), i + g = n ∧ s10 = .int .i64 (i : Int) ∧ v1 = s1 ∧ v5 = s5 ∧ Hid (RdP W v1 ((docs.drop i).filter p)) ∧ Hid (OwnZ wr W.heap.size v5 ((docs.take i).filter fun d => !p d) ∧ Below W.heap.size W wr))
  case atStart => exact ⟨0, _, _, by omega, rfl, rfl, rfl, by rw [List.drop_zero]; exact HS, Lib.hid ⟨by simpa using OwnZ.nil _ _, Below.refl _ _⟩⟩
  case round =>
    clear HS
    obtain ⟨i, v1, v5, hig, rfl, rfl, rfl, HS, HO⟩ := hrel
    cases gk with
    | zero =>
      have hin : n = i := by omega
      subst hin
      have HFin := Lib.hid (show docs.take n = docs from List.take_of_length_le (by rw [← HN.out]; exact Nat.le_refl _))
      go_wp2_with fail
      go_ret
      refine ⟨_, rfl, ?_, HO.out.2⟩
      have := HO.out.1
      rw [HFin.out] at this
      exact this
    | succ g =>
      have hlt : i < n := by omega
      obtain ⟨x, hx⟩ : ∃ x, docs[i]? = some x := ⟨_, List.getElem?_eq_getElem (by rw [← HN.out]; exact hlt)⟩
      obtain ⟨gx, ox, rfl, k0⟩ := HR.out i x hx
      have c0 := below_cell k0 HO.out.2
      have hlti : (i : Int) < (n : Int) := by omega
      have HFt := Lib.hid (filter_take (p := fun d => !p d) hx)
      have hle := take_le (p := fun d => !p d) docs i
      rw [← HN.out] at hle
      have hdc := drop_cons hx
      by_cases hp : p x = true
      · have hfl : (docs.drop i).filter p = x :: (docs.drop (i + 1)).filter p := by rw [hdc, List.filter_cons, if_pos hp]
        have hs := HS.out
        rw [hfl] at hs
        obtain ⟨t1, t2⟩ := tail_ints hs
        obtain ⟨oa, c, rfl, hc, _, _, hr⟩ := hs
        obtain ⟨gy, oy, rfl, k1⟩ := hr 0 x rfl
        have c1 := below_cell k1 HO.out.2
        rw [Nat.add_zero] at c1
        have HT := Lib.hid t1
        have HF2 := Lib.hid (show (docs.take (i + 1)).filter (fun d => !p d) = (docs.take i).filter fun d => !p d by rw [HFt.out]; simp [hp])
        obtain ⟨m, hm⟩ : ∃ m, m = (x :: (docs.drop (i + 1)).filter p).length := ⟨_, rfl⟩
        have hm0 : 0 < m := by rw [hm]; simp
        have hm1 : (0 : Int) < (m : Int) := by omega
        rw [← hm] at t2 HT ⊢
        generalize tailK 1 (.slice (some ⟨gy, oy, none⟩) m c) = tv at HT t2
        clear hr k1 hc hm hfl hdc hp HFt t1 k0 hx HS
        go_wp2_with fail
        go_roundg g
        case measure => omega
        case rel => exact ⟨i + 1, tv, v5, by omega, by go_num, rfl, rfl, HT, Lib.hid ⟨by rw [HF2.out]; exact HO.out.1, HO.out.2⟩⟩
      · have hp2 : p x = false := by simpa using hp
        have hfl : (docs.drop i).filter p = (docs.drop (i + 1)).filter p := by rw [hdc, List.filter_cons, if_neg hp]
        have hs := HS.out
        rw [hfl] at hs
        have HS2 := Lib.hid hs
        have HF2 := Lib.hid (show (docs.take (i + 1)).filter (fun d => !p d) = (docs.take i).filter (fun d => !p d) ++ [x] by rw [HFt.out]; simp [hp2])
        obtain ⟨oa, c, rfl, hc, _, _, hr⟩ := hs
        obtain ⟨L, hL⟩ : ∃ L, L = (docs.take i).filter fun d => !p d := ⟨_, rfl⟩
        rw [← hL] at hle HF2 HO
        obtain ⟨m, hm⟩ : ∃ m, m = ((docs.drop (i + 1)).filter p).length := ⟨_, rfl⟩
        have hnx : ∀ y, ((docs.drop (i + 1)).filter p)[0]? = some y → y ≠ x := fun y hy h => by
          have := (List.mem_filter.1 (List.mem_of_getElem? hy)).2
          rw [h, hp2] at this
          cases this
        rw [← hm] at HS2 ⊢
        by_cases hm0 : m = 0
        · subst hm0
          clear hr hc hfl hdc hp hp2 HFt k0 hx HS hm hL hnx
          go_wp2_with (at_builtin; refine wpList_append_own _ rfl (.tmp 26) (.tmp 28) 32 rfl W.heap.size 3 i0 _ 1 8 Try.underlying32 HI.out.1 HI.out.2.1 HI.out.2.2.1 HI.out.2.2.2 rfl (by decide) _ L.length (zC L) rfl (World.ownsRow.alloc HO.out.1 _) ⟨_, 0, none⟩ 1 1 [.int .i64 x] rfl rfl one_cell (by simp [Value.oneCell']) (by unfold maxLen; omega) (by omega) (by have := HO.out.2.size; simp; omega) ?_; intro v' w8 ho hg _; have HO8 := Lib.hid (OwnZ.more rfl HO.out.2.size HO.out.2 HO.out.1 ho hg); clear ho hg)
          go_roundg g
          case measure => omega
          case rel => exact ⟨i + 1, _, v', by omega, by go_num, rfl, rfl, HS2, Lib.hid (by rw [HF2.out]; exact HO8.out)⟩
        · obtain ⟨y, hy⟩ : ∃ y, ((docs.drop (i + 1)).filter p)[0]? = some y := ⟨_, List.getElem?_eq_getElem (by omega)⟩
          obtain ⟨gy, oy, rfl, k1⟩ := hr 0 y hy
          have c1 := below_cell k1 HO.out.2
          rw [Nat.add_zero] at c1
          have hyx := hnx y hy
          have hbn : (y == x) = false := beq_eq_false_iff_ne.2 hyx
          have hm2 : 0 < m := by omega
          have hm1 : (0 : Int) < (m : Int) := by omega
          clear hr hc hfl hdc hp hp2 HFt k0 hx HS hm hL hnx hy k1
          go_wp2_with (at_builtin; refine wpList_append_own _ rfl (.tmp 26) (.tmp 28) 32 rfl W.heap.size 3 i0 _ 1 8 Try.underlying32 HI.out.1 HI.out.2.1 HI.out.2.2.1 HI.out.2.2.2 rfl (by decide) _ L.length (zC L) rfl (World.ownsRow.alloc HO.out.1 _) ⟨_, 0, none⟩ 1 1 [.int .i64 x] rfl rfl one_cell (by simp [Value.oneCell']) (by unfold maxLen; omega) (by omega) (by have := HO.out.2.size; simp; omega) ?_; intro v' w8 ho hg _; have HO8 := Lib.hid (OwnZ.more rfl HO.out.2.size HO.out.2 HO.out.1 ho hg); clear ho hg)
          go_roundg g
          case measure => omega
          case rel => exact ⟨i + 1, _, v', by omega, by go_num, rfl, rfl, HS2, Lib.hid (by rw [HF2.out]; exact HO8.out)⟩
end Go.Proofs.Ytaaeooimalglaaa
