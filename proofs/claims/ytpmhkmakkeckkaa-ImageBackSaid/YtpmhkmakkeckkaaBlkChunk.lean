/-
  slices.Chunk at size four over a row of entries: which parts it hands out, one behind the other. Over the program's own text.
-/
import Derived.RangeFuncBox
import Derived.RangeFuncLeaves
import Derived.Shelf.Abstract
import Derived.WalkKit
import Derived.OwnWalkIn
import Derived.TacticsInMore
import Derived.LoopNIn
import Derived.LoopIn
import Derived.Maps.AppendAt
import Derived.Test.YtpmhkmakkeckkaaBlkLandsB
namespace Go.Proofs.Ytpmhkmakkeckkaa
open Go.RowKit Go.Shelf

attribute [local go_sem] Oper.semAt_some

set_option maxRecDepth 100000 in
theorem size_ent (w : World) : (Go.sizeOf 52).run Try.prog w = .ok 2 w := by kernel_rfl
set_option maxRecDepth 100000 in
theorem elem_ents : Try.prog.elem 42 = 52 := by kernel_rfl
set_option maxRecDepth 100000 in
theorem under_ents : Try.prog.underlying 42 = some (.slice (Try.prog.elem 42)) := by rw [elem_ents]; exact Try.underlying42
set_option maxRecDepth 100000 in
theorem slice_ent_from (g o N cap i m : Nat) (hi : i < N) (hm : m = N - i) (hc : N ≤ cap) (w : World) : (Instr.slice 42 (.slice (some ⟨g, o, none⟩) N cap) (some (.int .i64 (i : Int))) none none).run Try.prog w = .ok (.slice (some ⟨g, o + i * 2, none⟩) m (cap - i)) w := by
  rw [run_slice_l w 42 (some ⟨g, o, none⟩) N cap under_ents .i64 (i : Int) (by omega) (by omega), elem_ents, size_ent]
  have e : ((i : Int)).toNat = i := by omega
  have e2 : ¬ (cap = i) := by omega
  simp [Result.andThen, sliced, e, e2, hm, Addr.add_lit]
set_option maxRecDepth 100000 in
theorem slice_ent_part (g o N cap i q j : Nat) (hq : q = i + j) (hj : 0 < j) (hc : q ≤ cap) (w : World) : (Instr.slice 42 (.slice (some ⟨g, o, none⟩) N cap) (some (.int .i64 (i : Int))) (some (.int .i64 (q : Int))) (some (.int .i64 (q : Int)))).run Try.prog w = .ok (.slice (some ⟨g, o + i * 2, none⟩) j j) w := by
  rw [run_slice_lhm w 42 (some ⟨g, o, none⟩) N cap under_ents .i64 .i64 .i64 (i : Int) (q : Int) (q : Int) (by omega) (by omega) (by omega) (by omega), elem_ents, size_ent]
  have e : ((i : Int)).toNat = i := by omega
  have e2 : ((q : Int)).toNat = q := by omega
  have e3 : ¬ (q = i) := by omega
  have e4 : q - i = j := by omega
  simp [Result.andThen, sliced, e, e2, e3, e4, Addr.add_lit]

/-- A part of a list of so many: where it begins is a multiple of four. -/
abbrev Part4 (N : Nat) := { k : Nat // 4 * k < N }
def partV (g o N k : Nat) : Value := .slice (some ⟨g, o + 4 * k * 2, none⟩) (min 4 (N - 4 * k)) (min 4 (N - 4 * k))
/-- Both boxes stand. -/
def KeepTwo (bs bn : Nat) (W W' : World) : Prop := W.heap.size ≤ W'.heap.size ∧ W'.heap[bs]? = W.heap[bs]? ∧ W'.heap[bn]? = W.heap[bn]?

set_option maxRecDepth 100000 in
set_option maxHeartbeats 1000000 in
theorem chunk_in (n : Nat) (oa : Option Addr) (len cap : Nat) (w : World) :
    CallsIn Fence.wide n Try.prog 35 #[.slice oa len cap, .int .i64 4] w fun e w' => e = .returned (.func (.func 47) #[] #[.pointer (some ⟨w.heap.size, 0, none⟩), .pointer (some ⟨w.heap.size + 1, 0, none⟩)]) ∧ w' = (w.alloc (.cells #[.slice oa len cap] 42)).alloc (.cells #[.int .i64 4] 3) := by
  refine callsIn_wide.2 ?_
  go_enter Try.func35, Try.ntmps35
  go_wp2_with fail
  go_ret
  exact ⟨rfl, rfl⟩
set_option maxRecDepth 100000 in
theorem drew_grown (w : World) (n : Nat) : w.grownBy (w.drewN n) none := ⟨rfl, rfl, rfl, Nat.le_refl _, fun _ _ _ => rfl⟩

set_option maxRecDepth 100000 in
set_option maxHeartbeats 4000000 in
theorem chunk1_in (n : Nat) (hn : 1 ≤ n) (l bs bn : Nat) (oa : Option Addr) (g o N cap : Nat) (hoa : 0 < N → oa = some ⟨g, o, none⟩) (hcap : N ≤ cap) (hN : N ≤ 1000000) (J Jx : List (Part4 N) → World → Prop) (W : World)
    (hA : AbidesFrom W.heap.size J)
    (hY : ∀ pre x W1, J pre W1 → pre.length < (N + 3) / 4 → YieldAt Fence.wide (n - 1) Try.prog l #[partV g o N x.1] W1 fun e W' =>
      (e = .returned (.bool true) ∧ J (pre ++ [x]) W' ∧ KeepTwo bs bn W1 W') ∨ (e = .returned (.bool false) ∧ Jx (pre ++ [x]) W'))
    (hs : W.heap[bs]? = some (.cells #[.slice oa N cap] 42 (0, 0))) (hb : W.heap[bn]? = some (.cells #[.int .i64 4] 3 (0, 0))) (h0 : J [] W) :
    CallsIn Fence.wide n Try.prog 47 #[.func (.yield l) #[] #[], .pointer (some ⟨bs, 0, none⟩), .pointer (some ⟨bn, 0, none⟩)] W fun e W' => (∃ v, e = .returned v) ∧
      ((∃ ys : List (Part4 N), ys.map (·.1) = List.range ((N + 3) / 4) ∧ J ys W') ∨ (∃ pre, True ∧ Jx pre W')) := by
  refine callsIn_of_wp Try.func47 rfl trivial ?_ rfl
  simp only [Try.ntmps47, List.size_toArray, List.length_cons, List.length_nil, Nat.reduceAdd, Nat.reduceSub, Array.replicate_succ, Array.replicate_zero, List.push_toArray, List.append_toArray, List.nil_append, List.cons_append]
  gi_wp2
  gi_loopw [4] (fun iv wr => ∃ (i k : Nat) (ys : List (Part4 N)), iv = .int .i64 (i : Int) ∧ Hid (i = 4 * k) ∧ i ≤ N + 3 ∧ Hid (ys.map (·.1) = List.range k) ∧ J ys wr ∧ Hid (wr.heap[bs]? = some (.cells #[.slice oa N cap] 42 (0, 0)) ∧ wr.heap[bn]? = some (.cells #[.int .i64 4] 3 (0, 0)))) (fun iv _ => N + 4 - (intOf iv).toNat)
  case atStart => exact ⟨0, 0, [], rfl, Lib.hid rfl, by omega, Lib.hid rfl, h0, Lib.hid ⟨hs, hb⟩⟩
  case round =>
    obtain ⟨i, k, ys, rfl, HI, hi, HY, hJ, HB⟩ := hrel
    have c1 := cell_at HB.out.1 0
    have c2 := cell_at HB.out.2 0
    by_cases hlt : i < N
    · obtain rfl := hoa (by omega)
      have hlt1 : (i : Int) < (N : Int) := by omega
      obtain ⟨m, hm2⟩ : ∃ m, m = N - i := ⟨_, rfl⟩
      obtain ⟨j, hj⟩ : ∃ j, j = min 4 m := ⟨_, rfl⟩
      obtain ⟨q, hq⟩ : ∃ q, q = i + j := ⟨_, rfl⟩
      have h1 := slice_ent_from g o N cap i m hlt hm2 hcap
      have h2 := slice_ent_part g o N cap i q j hq (by omega) (by omega)
      have hkn : (if (m : Int) < 4 then (m : Int) else 4) = (j : Int) := by split <;> omega
      have hkb : ∀ (ts : Array TypeId) (t : TypeId) (w : World), (Builtin.min_ ts t #[.int .i64 4, .int .i64 (m : Int)]).run Try.prog w = .ok (.int .i64 (j : Int)) w := fun ts t w => by rw [run_min_int2, hkn]
      have hq1 : (i : Int) + (j : Int) = (q : Int) := by omega
      have hq2 : IntKind.i64.wrap ((i : Int) + (j : Int)) = (q : Int) := by rw [hq1]; exact IntWalk.i64_in _ (by omega)
      have hk4 : 4 * k < N := by have := HI.out; omega
      have hqb : q ≤ N := by omega
      have hjb : 0 < j := by omega
      have hiq : i ≤ q := by omega
      have hpv : partV g o N k = .slice (some ⟨g, o + i * 2, none⟩) j j := by
        have := HI.out
        unfold partV
        rw [← this, show min 4 (N - i) = j by omega]
      have HPV := Lib.hid hpv
      obtain ⟨p, hp⟩ : ∃ p, p = i + 4 := ⟨_, rfl⟩
      have hp1 : (i : Int) + 4 = (p : Int) := by omega
      have hp2 : IntKind.i64.wrap ((i : Int) + 4) = (p : Int) := by rw [hp1]; exact IntWalk.i64_in _ (by omega)
      have HNI := Lib.hid (show p = 4 * (k + 1) by have := HI.out; omega)
      have hpb : p ≤ N + 3 := by omega
      have hpi : i < p := by omega
      clear hpv hm2 hj hq hkn hp
      gi_wp2
      refine wpIn_wide.2 ?_
      have d1 : ∀ m' : Nat, (wr.drewN m').cell? ⟨bs, 0, none⟩ = some (.slice (some ⟨g, o, none⟩) N cap) := fun _ => c1
      have d2 : ∀ m' : Nat, (wr.drewN m').cell? ⟨bn, 0, none⟩ = some (.int .i64 4) := fun _ => c2
      go_quiet (fail)
      rename Nat => nq
      have hJ2 : J ys (wr.drewN nq) := hA ys wr _ none hJ (drew_grown wr nq) (fun r e => by cases e)
      have hlen : ys.length < (N + 3) / 4 := by
        have h1 := congrArg List.length HY.out
        rw [List.length_map, List.length_range] at h1
        omega
      obtain ⟨fn, tmps, assign, body, hy, hR⟩ := hY ys ⟨k, hk4⟩ (wr.drewN nq) hJ2 hlen
      dsimp only at hy
      rw [HPV.out] at hy
      have c3 := d1 nq
      have c4 := d2 nq
      have HB3 := Lib.hid (show (wr.drewN nq).heap[bs]? = some (.cells #[.slice (some ⟨g, o, none⟩) N cap] 42 (0, 0)) ∧ (wr.drewN nq).heap[bn]? = some (.cells #[.int .i64 4] 3 (0, 0)) from HB.out)
      have HR := Lib.hid hR
      clear d1 d2 c1 c2 hJ hJ2 hR
      generalize wr.drewN nq = wd at hy HB3 HR c3 c4 ⊢
      gi_wp2
      refine HR.out.mono ?_
      rintro e W3 (⟨rfl, hJ3, hk3⟩ | ⟨rfl, hJx3⟩)
      · have HB4 := Lib.hid (show W3.heap[bs]? = some (.cells #[.slice (some ⟨g, o, none⟩) N cap] 42 (0, 0)) ∧ W3.heap[bn]? = some (.cells #[.int .i64 4] 3 (0, 0)) from ⟨hk3.2.1.trans HB3.out.1, hk3.2.2.trans HB3.out.2⟩)
        have c5 := cell_at HB4.out.2 0
        clear c3 c4
        gi_wp2
        go_roundw
        case rel => exact ⟨p, k + 1, ys ++ [⟨k, hk4⟩], rfl, HNI, hpb, Lib.hid (by rw [List.map_append, HY.out, List.range_succ]; rfl), hJ3, HB4⟩
        case measure => simp [intOf]; omega
      · gi_wp2
        refine bodyPost_ret (results_none rfl _ _ _) rfl ?_
        exact ⟨⟨_, rfl⟩, .inr ⟨_, trivial, hJx3⟩⟩
    · obtain ⟨hK, hR⟩ : k = (N + 3) / 4 ∧ True := ⟨by have := HI.out; omega, trivial⟩
      gi_wp2
      go_end0
      exact ⟨⟨_, rfl⟩, .inl ⟨ys, by rw [HY.out, hK], hJ⟩⟩
set_option maxRecDepth 100000 in
theorem chunk_stops (n : Nat) (hn : 1 ≤ n) (bs bn : Nat) (oa : Option Addr) (g o N cap : Nat) (hoa : 0 < N → oa = some ⟨g, o, none⟩) (hcap : N ≤ cap) (hN : N ≤ 1000000) (w : World)
    (hs : w.heap[bs]? = some (.cells #[.slice oa N cap] 42 (0, 0))) (hb : w.heap[bn]? = some (.cells #[.int .i64 4] 3 (0, 0))) :
    SeqStopsK Fence.wide n Try.prog 47 #[.pointer (some ⟨bs, 0, none⟩), .pointer (some ⟨bn, 0, none⟩)] (fun x : Part4 N => #[partV g o N x.1]) (KeepTwo bs bn) (fun ys => ys.map (·.1) = List.range ((N + 3) / 4)) (fun _ => True) ((N + 3) / 4) w := fun l J Jx W hW hA _ hY h0 =>
  chunk1_in n hn l bs bn oa g o N cap hoa hcap hN J Jx W hA hY (block_below hs hW) (block_below hb hW) h0
end Go.Proofs.Ytpmhkmakkeckkaa
