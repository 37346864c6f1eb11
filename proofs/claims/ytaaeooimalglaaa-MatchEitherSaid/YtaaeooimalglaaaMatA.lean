/-
  Layer 18 as it landed: what is left of a list from a document on; the search of a place. Over the program's own text.
-/
import Derived.Test.YtaaeooimalglaaaMatPure
import Derived.Test.YtaaeooimalglaaaLists
import Derived.Test.YtaaeooimalglaaaRegionC
import Derived.Test.YtaaeooimalglaaaShelf
import Derived.Deep.LoopGhost
namespace Go.Proofs.Ytaaeooimalglaaa
open Go.RowKit

theorem size_ent (w : World) : (Go.sizeOf 46).run Try.prog w = .ok 2 w := by kernel_rfl
theorem elem_ents : Try.prog.elem 42 = 46 := by kernel_rfl
theorem under_ents : Try.prog.underlying 42 = some (.slice (Try.prog.elem 42)) := by rw [elem_ents]; exact Try.underlying42
def tailV : Value → Value
  | .slice oa n c => .slice (if c = 1 then oa else oa.map (·.add 2)) (n - 1) (c - 1)
  | v => v
def fromV : List En → Int → Value → Value
  | [], _, v => v
  | e :: r, d, v => if e.1 < d then fromV r d (tailV v) else v
theorem tail_rd {W : World} {v : Value} {e : En} {l : List En} (h : RdE W v (e :: l)) : RdE W (tailV v) l ∧ ∀ w : World, (Instr.slice 42 v (some (.int .i64 1)) none none).run Try.prog w = .ok (tailV v) w := by
  obtain ⟨oa, c, rfl, hc, hm, hn, hr⟩ := h
  refine ⟨⟨_, _, rfl, by simp at hc; omega, by omega, ?_, ?_⟩, fun w => ?_⟩
  · split
    · intro h; have := hn h; omega
    · intro h; cases oa with
      | none => have := hn rfl; omega
      | some a => cases h
  · intro j x hj
    have hlt := (List.getElem?_eq_some_iff.1 hj).1
    simp only [List.length_cons] at hc
    rw [if_neg (by omega)]
    obtain ⟨g, o, rfl, h2, h3⟩ := hr (j + 1) x (by simpa using hj)
    refine ⟨g, o + 2, ?_, ?_, ?_⟩
    · simp [Addr.add]
    · rw [show o + 2 + j * 2 = o + (j + 1) * 2 by omega]; exact h2
    · rw [show o + 2 + j * 2 + 1 = o + (j + 1) * 2 + 1 by omega]; exact h3
  · rw [run_slice_l w 42 oa (e :: l).length c under_ents .i64 1 (by omega) (by simp; omega), elem_ents, size_ent]
    simp [Result.andThen, sliced, tailV]
theorem from_rd {W : World} {d : Int} : ∀ {l : List En} {v : Value}, RdE W v l → RdE W (fromV l d v) (dropE l d)
  | [], _, h => h
  | e :: r, v, h => by
    unfold fromV dropE
    rw [List.dropWhile_cons]
    by_cases hlt : e.1 < d
    · rw [if_pos hlt, if_pos (by simpa using hlt)]
      exact from_rd (tail_rd h).1
    · rw [if_neg hlt, if_neg (by simpa using hlt)]
      exact h
set_option maxRecDepth 100000 in
set_option maxHeartbeats 4000000 in
theorem from_any (W : World) (v : Value) (l : List En) (d : Int) (ha : RdE W v l) :
    Calls Try.prog 21 #[v, .int .i64 d] W fun e w' => e = .returned (fromV l d v) ∧ w' = W := by
  obtain ⟨R, hR⟩ : ∃ R, R = fromV l d v := ⟨_, rfl⟩
  rw [← hR]
  have HR := Lib.hid (And.intro ha hR)
  obtain ⟨oa, n, c, rfl, hn⟩ : ∃ oa n c, v = .slice oa n c ∧ n = l.length := by
    obtain ⟨oa, c, rfl, _⟩ := ha
    exact ⟨oa, _, c, rfl, rfl⟩
  have HN := Lib.hid hn
  clear ha hR hn
  go_enter Try.func21, Try.ntmps21
  go_wp2_with fail
  go_loopg [0] n (fun g s wr => ∃ r, RdE W s r ∧ R = fromV r d s ∧ r.length ≤ g ∧ wr = W)
  case atStart => exact ⟨l, HR.out.1, HR.out.2, by rw [HN.out]; exact Nat.le_refl _, rfl⟩
  case round =>
    obtain ⟨r, hr, hd, hg, rfl⟩ := hrel
    cases r with
    | nil =>
      obtain ⟨oa, c, rfl, hc, hm, hn, hr⟩ := hr
      have HD := Lib.hid hd
      clear hc hm hn hr hd hg HR HN
      rw [show (([] : List En).length) = 0 from rfl] at HD ⊢
      go_wp2_with fail
      go_ret
      exact ⟨by rw [HD.out]; rfl, rfl⟩
    | cons e r =>
      obtain ⟨ht1, ht2⟩ := tail_rd hr
      obtain ⟨oa, c, rfl, hc, hm, hn, hr⟩ := hr
      obtain ⟨g0, o0, hoa, c0, _⟩ := hr 0 e rfl
      obtain ⟨m, hm2⟩ : ∃ m, m = (e :: r).length := ⟨_, rfl⟩
      have hpos : (0 : Int) < (m : Int) := by rw [hm2]; simp
      by_cases hlt : e.1 < d
      · have hd2 : R = fromV r d (tailV (.slice oa (e :: r).length c)) := by rw [hd]; show (if e.1 < d then _ else _) = _; rw [if_pos hlt]
        have HB := Lib.hid (And.intro ht1 hd2)
        have HL := Lib.hid (show r.length + 1 ≤ gk by simpa using hg)
        rw [← hm2] at ht2 HB ⊢
        clear hc hm hn hr hd hg HR HN hd2 ht1 hm2
        subst hoa
        rw [Nat.zero_mul, Nat.add_zero] at c0
        generalize tailV (.slice (some ⟨g0, o0, none⟩) m c) = tv at HB ht2
        go_wp2_with fail
        go_roundg r.length
        case measure => have := HL.out; omega
        case rel => exact ⟨r, HB.out.1, HB.out.2, Nat.le_refl _, rfl⟩
      · have HD := Lib.hid (show R = .slice oa m c by rw [hd, hm2]; show (if e.1 < d then _ else _) = _; rw [if_neg hlt])
        rw [← hm2]
        clear hc hm hn hr hd hg HR HN hm2 ht1 ht2
        subst hoa
        rw [Nat.zero_mul, Nat.add_zero] at c0
        go_wp2_with fail
        go_ret
        exact ⟨by rw [HD.out]; rfl, rfl⟩
theorem rise_le {l : List Int} (h : RiseP l) : l.Pairwise (· ≤ ·) := List.Pairwise.imp (fun h => Int.le_of_lt h) h
def kS (l : List Int) (x : Int) : Int := ((l.countP (· < x) : Nat) : Int)
/-- Is a place among rising ones? -/
theorem search_any (w : World) (v : Value) (l : List Int) (x : Int) (hv : RdP w v l) (hr : RiseP l) (hn : l.length ≤ 1000000) :
    Calls Try.prog 28 #[v, .int .i64 x] w fun e w' => e = .returned (.tuple #[.int .i64 (kS l x), .bool (decide (x ∈ l))]) ∧ ∃ q, w' = w.drewN q := by
  obtain ⟨pa, c, rfl, _, _, _, h⟩ := hv
  cases l with
  | nil =>
    refine (Try.slices_BinarySearch_int_empty pa c x w).mono ?_
    rintro e w' ⟨rfl, rfl⟩
    exact ⟨by simp [kS], 0, rfl⟩
  | cons y l =>
    obtain ⟨g, o, rfl, _⟩ := h 0 y rfl
    refine (Try.slices_BinarySearch_int g o (y :: l).length c (y :: l) x w (Nat.le_refl _) (by omega) (fun j hj => ?_) (by rw [List.take_length]; exact rise_le hr)).mono ?_
    · obtain ⟨g', o', h1, h2⟩ := h j _ (List.getElem?_eq_getElem hj)
      injection h1 with h1
      injection h1 with h1 h1'
      subst h1 h1'
      rw [h2, List.getD_eq_getElem?_getD, List.getElem?_eq_getElem hj]
      rfl
    · rintro e w' ⟨rfl, q, rfl⟩
      refine ⟨by rw [List.take_length, show (y :: l).contains x = decide (x ∈ y :: l) by rw [Bool.eq_iff_iff]; simp]; rfl, q, rfl⟩
end Go.Proofs.Ytaaeooimalglaaa
