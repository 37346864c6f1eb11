/-
  slices.Chunk at the sizes four and two over a row of cells: which parts it hands out, one behind the other. Over the program's own text.
  The landed code of layer 14: where the lists' cells begin. Over the program's own text.
  The landed code of layer 14: cut. Over the program's own text.
  The landed code of layer 14: read (the lists of an image). Over the program's own text.
  The landed code of layer 14: Read. Over the program's own text.
-/
import Derived.Test.YtpmhkmakkeckkaaBlkChunk
import Derived.Test.YtpmhkmakkeckkaaImgAllA
import Derived.Test.YtpmhkmakkeckkaaBlkDecC
namespace Go.Proofs.Ytpmhkmakkeckkaa
open Go.RowKit Go.Shelf

attribute [local go_sem] Oper.semAt_some

set_option maxRecDepth 100000 in
theorem size_c32 (w : World) : (Go.sizeOf 47).run Try.prog w = .ok 1 w := by kernel_rfl
set_option maxRecDepth 100000 in
theorem elem_c32 : Try.prog.elem 26 = 47 := by kernel_rfl
set_option maxRecDepth 100000 in
theorem under_c32 : Try.prog.underlying 26 = some (.slice (Try.prog.elem 26)) := by rw [elem_c32]; exact Try.underlying26
set_option maxRecDepth 100000 in
theorem slice_c32_from (g o N cap i m : Nat) (hi : i < N) (hm : m = N - i) (hc : N ≤ cap) (w : World) : (Instr.slice 26 (.slice (some ⟨g, o, none⟩) N cap) (some (.int .i64 (i : Int))) none none).run Try.prog w = .ok (.slice (some ⟨g, o + i, none⟩) m (cap - i)) w := by
  rw [run_slice_l w 26 (some ⟨g, o, none⟩) N cap under_c32 .i64 (i : Int) (by omega) (by omega), elem_c32, size_c32]
  have e : ((i : Int)).toNat = i := by omega
  have e2 : ¬ (cap = i) := by omega
  simp [Result.andThen, sliced, e, e2, hm, Addr.add_lit]
set_option maxRecDepth 100000 in
theorem slice_c32_part (g o N cap i q j : Nat) (hq : q = i + j) (hj : 0 < j) (hc : q ≤ cap) (w : World) : (Instr.slice 26 (.slice (some ⟨g, o, none⟩) N cap) (some (.int .i64 (i : Int))) (some (.int .i64 (q : Int))) (some (.int .i64 (q : Int)))).run Try.prog w = .ok (.slice (some ⟨g, o + i, none⟩) j j) w := by
  rw [run_slice_lhm w 26 (some ⟨g, o, none⟩) N cap under_c32 .i64 .i64 .i64 (i : Int) (q : Int) (q : Int) (by omega) (by omega) (by omega) (by omega), elem_c32, size_c32]
  have e : ((i : Int)).toNat = i := by omega
  have e2 : ((q : Int)).toNat = q := by omega
  have e3 : ¬ (q = i) := by omega
  have e4 : q - i = j := by omega
  simp [Result.andThen, sliced, e, e2, e3, e4, Addr.add_lit]

/-- A part of a list of so many: where it begins is a multiple of the size. -/
abbrev PartU4 (N : Nat) := { k : Nat // 4 * k < N }
def partU4 (g o N k : Nat) : Value := .slice (some ⟨g, o + 4 * k, none⟩) (min 4 (N - 4 * k)) (min 4 (N - 4 * k))
set_option maxRecDepth 100000 in
set_option maxHeartbeats 1000000 in
theorem chunkU4_in (n : Nat) (oa : Option Addr) (len cap : Nat) (w : World) :
    CallsIn Fence.wide n Try.prog 28 #[.slice oa len cap, .int .i64 4] w fun e w' => e = .returned (.func (.func 41) #[] #[.pointer (some ⟨w.heap.size, 0, none⟩), .pointer (some ⟨w.heap.size + 1, 0, none⟩)]) ∧ w' = (w.alloc (.cells #[.slice oa len cap] 26)).alloc (.cells #[.int .i64 4] 3) := by
  refine callsIn_wide.2 ?_
  go_enter Try.func28, Try.ntmps28
  go_wp2_with fail
  go_ret
  exact ⟨rfl, rfl⟩

set_option maxRecDepth 100000 in
set_option maxHeartbeats 4000000 in
theorem chunkU4_at (n : Nat) (hn : 1 ≤ n) (l bs bn : Nat) (oa : Option Addr) (g o N cap : Nat) (hoa : 0 < N → oa = some ⟨g, o, none⟩) (hcap : N ≤ cap) (hN : N ≤ 1000000) (J Jx : List (PartU4 N) → World → Prop) (W : World)
    (hA : AbidesFrom W.heap.size J)
    (hY : ∀ pre x W1, J pre W1 → pre.length < (N + 3) / 4 → YieldAt Fence.wide (n - 1) Try.prog l #[partU4 g o N x.1] W1 fun e W' =>
      (e = .returned (.bool true) ∧ J (pre ++ [x]) W' ∧ KeepTwo bs bn W1 W') ∨ (e = .returned (.bool false) ∧ Jx (pre ++ [x]) W'))
    (hs : W.heap[bs]? = some (.cells #[.slice oa N cap] 26 (0, 0))) (hb : W.heap[bn]? = some (.cells #[.int .i64 4] 3 (0, 0))) (h0 : J [] W) :
    CallsIn Fence.wide n Try.prog 41 #[.func (.yield l) #[] #[], .pointer (some ⟨bs, 0, none⟩), .pointer (some ⟨bn, 0, none⟩)] W fun e W' => (∃ v, e = .returned v) ∧
      ((∃ ys : List (PartU4 N), ys.map (·.1) = List.range ((N + 3) / 4) ∧ J ys W') ∨ (∃ pre, True ∧ Jx pre W')) := by
  refine callsIn_of_wp Try.func41 rfl trivial ?_ rfl
  simp only [Try.ntmps41, List.size_toArray, List.length_cons, List.length_nil, Nat.reduceAdd, Nat.reduceSub, Array.replicate_succ, Array.replicate_zero, List.push_toArray, List.append_toArray, List.nil_append, List.cons_append]
  gi_wp2
  gi_loopw [4] (fun iv wr => ∃ (i k : Nat) (ys : List (PartU4 N)), iv = .int .i64 (i : Int) ∧ Hid (i = 4 * k) ∧ i ≤ N + 3 ∧ Hid (ys.map (·.1) = List.range k) ∧ J ys wr ∧ Hid (wr.heap[bs]? = some (.cells #[.slice oa N cap] 26 (0, 0)) ∧ wr.heap[bn]? = some (.cells #[.int .i64 4] 3 (0, 0)))) (fun iv _ => N + 4 - (intOf iv).toNat)
  case atStart => exact ⟨0, 0, [], rfl, Lib.hid rfl, by omega, Lib.hid rfl, h0, Lib.hid ⟨hs, hb⟩⟩
  case round =>
    obtain ⟨i, k, ys, rfl, HI, hi, HY, hJ, HB⟩ := hrel
    have c1 := cell_at HB.out.1 0
    have c2 := cell_at HB.out.2 0
    by_cases hlt : i < N
    · obtain rfl := hoa (by omega)
      have hlt1 : (i : Int) < (N : Int) := by omega
      obtain ⟨m, hm2⟩ : ∃ m, m = N - i := ⟨_, rfl⟩
      obtain ⟨j, hj⟩ : ∃ j, j = min 4 m := ⟨_, rfl⟩
      obtain ⟨q, hq⟩ : ∃ q, q = i + j := ⟨_, rfl⟩
      have h1 := slice_c32_from g o N cap i m hlt hm2 hcap
      have h2 := slice_c32_part g o N cap i q j hq (by omega) (by omega)
      have hkn : (if (m : Int) < 4 then (m : Int) else 4) = (j : Int) := by split <;> omega
      have hkb : ∀ (ts : Array TypeId) (t : TypeId) (w : World), (Builtin.min_ ts t #[.int .i64 4, .int .i64 (m : Int)]).run Try.prog w = .ok (.int .i64 (j : Int)) w := fun ts t w => by rw [run_min_int2, hkn]
      have hq1 : (i : Int) + (j : Int) = (q : Int) := by omega
      have hq2 : IntKind.i64.wrap ((i : Int) + (j : Int)) = (q : Int) := by rw [hq1]; exact IntWalk.i64_in _ (by omega)
      have hk4 : 4 * k < N := by have := HI.out; omega
      have hqb : q ≤ N := by omega
      have hjb : 0 < j := by omega
      have hiq : i ≤ q := by omega
      have hpv : partU4 g o N k = .slice (some ⟨g, o + i, none⟩) j j := by
        have := HI.out
        unfold partU4
        rw [← this, show min 4 (N - i) = j by omega]
      have HPV := Lib.hid hpv
      obtain ⟨p, hp⟩ : ∃ p, p = i + 4 := ⟨_, rfl⟩
      have hp1 : (i : Int) + 4 = (p : Int) := by omega
      have hp2 : IntKind.i64.wrap ((i : Int) + 4) = (p : Int) := by rw [hp1]; exact IntWalk.i64_in _ (by omega)
      have HNI := Lib.hid (show p = 4 * (k + 1) by have := HI.out; omega)
      have hpb : p ≤ N + 3 := by omega
      have hpi : i < p := by omega
      clear hpv hm2 hj hq hkn hp
      gi_wp2
      refine wpIn_wide.2 ?_
      have d1 : ∀ m' : Nat, (wr.drewN m').cell? ⟨bs, 0, none⟩ = some (.slice (some ⟨g, o, none⟩) N cap) := fun _ => c1
      have d2 : ∀ m' : Nat, (wr.drewN m').cell? ⟨bn, 0, none⟩ = some (.int .i64 4) := fun _ => c2
      go_quiet (fail)
      rename Nat => nq
      have hJ2 : J ys (wr.drewN nq) := hA ys wr _ none hJ (drew_grown wr nq) (fun r e => by cases e)
      have hlen : ys.length < (N + 3) / 4 := by
        have h1 := congrArg List.length HY.out
        rw [List.length_map, List.length_range] at h1
        omega
      obtain ⟨fn, tmps, assign, body, hy, hR⟩ := hY ys ⟨k, hk4⟩ (wr.drewN nq) hJ2 hlen
      dsimp only at hy
      rw [HPV.out] at hy
      have c3 := d1 nq
      have c4 := d2 nq
      have HB3 := Lib.hid (show (wr.drewN nq).heap[bs]? = some (.cells #[.slice (some ⟨g, o, none⟩) N cap] 26 (0, 0)) ∧ (wr.drewN nq).heap[bn]? = some (.cells #[.int .i64 4] 3 (0, 0)) from HB.out)
      have HR := Lib.hid hR
      clear d1 d2 c1 c2 hJ hJ2 hR
      generalize wr.drewN nq = wd at hy HB3 HR c3 c4 ⊢
      gi_wp2
      refine HR.out.mono ?_
      rintro e W3 (⟨rfl, hJ3, hk3⟩ | ⟨rfl, hJx3⟩)
      · have HB4 := Lib.hid (show W3.heap[bs]? = some (.cells #[.slice (some ⟨g, o, none⟩) N cap] 26 (0, 0)) ∧ W3.heap[bn]? = some (.cells #[.int .i64 4] 3 (0, 0)) from ⟨hk3.2.1.trans HB3.out.1, hk3.2.2.trans HB3.out.2⟩)
        have c5 := cell_at HB4.out.2 0
        clear c3 c4
        gi_wp2
        go_roundw
        case rel => exact ⟨p, k + 1, ys ++ [⟨k, hk4⟩], rfl, HNI, hpb, Lib.hid (by rw [List.map_append, HY.out, List.range_succ]; rfl), hJ3, HB4⟩
        case measure => simp [intOf]; omega
      · gi_wp2
        refine bodyPost_ret (results_none rfl _ _ _) rfl ?_
        exact ⟨⟨_, rfl⟩, .inr ⟨_, trivial, hJx3⟩⟩
    · obtain ⟨hK, hR⟩ : k = (N + 3) / 4 ∧ True := ⟨by have := HI.out; omega, trivial⟩
      gi_wp2
      go_end0
      exact ⟨⟨_, rfl⟩, .inl ⟨ys, by rw [HY.out, hK], hJ⟩⟩
set_option maxRecDepth 100000 in
theorem chunkU4_stops (n : Nat) (hn : 1 ≤ n) (bs bn : Nat) (oa : Option Addr) (g o N cap : Nat) (hoa : 0 < N → oa = some ⟨g, o, none⟩) (hcap : N ≤ cap) (hN : N ≤ 1000000) (w : World)
    (hs : w.heap[bs]? = some (.cells #[.slice oa N cap] 26 (0, 0))) (hb : w.heap[bn]? = some (.cells #[.int .i64 4] 3 (0, 0))) :
    SeqStopsK Fence.wide n Try.prog 41 #[.pointer (some ⟨bs, 0, none⟩), .pointer (some ⟨bn, 0, none⟩)] (fun x : PartU4 N => #[partU4 g o N x.1]) (KeepTwo bs bn) (fun ys => ys.map (·.1) = List.range ((N + 3) / 4)) (fun _ => True) ((N + 3) / 4) w := fun l J Jx W hW hA _ hY h0 =>
  chunkU4_at n hn l bs bn oa g o N cap hoa hcap hN J Jx W hA hY (block_below hs hW) (block_below hb hW) h0
/-- A part of a list of so many: where it begins is a multiple of the size. -/
abbrev PartU2 (N : Nat) := { k : Nat // 2 * k < N }
def partU2 (g o N k : Nat) : Value := .slice (some ⟨g, o + 2 * k, none⟩) (min 2 (N - 2 * k)) (min 2 (N - 2 * k))
set_option maxRecDepth 100000 in
set_option maxHeartbeats 1000000 in
theorem chunkU2_in (n : Nat) (oa : Option Addr) (len cap : Nat) (w : World) :
    CallsIn Fence.wide n Try.prog 28 #[.slice oa len cap, .int .i64 2] w fun e w' => e = .returned (.func (.func 41) #[] #[.pointer (some ⟨w.heap.size, 0, none⟩), .pointer (some ⟨w.heap.size + 1, 0, none⟩)]) ∧ w' = (w.alloc (.cells #[.slice oa len cap] 26)).alloc (.cells #[.int .i64 2] 3) := by
  refine callsIn_wide.2 ?_
  go_enter Try.func28, Try.ntmps28
  go_wp2_with fail
  go_ret
  exact ⟨rfl, rfl⟩

set_option maxRecDepth 100000 in
set_option maxHeartbeats 4000000 in
theorem chunkU2_at (n : Nat) (hn : 1 ≤ n) (l bs bn : Nat) (oa : Option Addr) (g o N cap : Nat) (hoa : 0 < N → oa = some ⟨g, o, none⟩) (hcap : N ≤ cap) (hN : N ≤ 1000000) (J Jx : List (PartU2 N) → World → Prop) (W : World)
    (hA : AbidesFrom W.heap.size J)
    (hY : ∀ pre x W1, J pre W1 → pre.length < (N + 1) / 2 → YieldAt Fence.wide (n - 1) Try.prog l #[partU2 g o N x.1] W1 fun e W' =>
      (e = .returned (.bool true) ∧ J (pre ++ [x]) W' ∧ KeepTwo bs bn W1 W') ∨ (e = .returned (.bool false) ∧ Jx (pre ++ [x]) W'))
    (hs : W.heap[bs]? = some (.cells #[.slice oa N cap] 26 (0, 0))) (hb : W.heap[bn]? = some (.cells #[.int .i64 2] 3 (0, 0))) (h0 : J [] W) :
    CallsIn Fence.wide n Try.prog 41 #[.func (.yield l) #[] #[], .pointer (some ⟨bs, 0, none⟩), .pointer (some ⟨bn, 0, none⟩)] W fun e W' => (∃ v, e = .returned v) ∧
      ((∃ ys : List (PartU2 N), ys.map (·.1) = List.range ((N + 1) / 2) ∧ J ys W') ∨ (∃ pre, True ∧ Jx pre W')) := by
  refine callsIn_of_wp Try.func41 rfl trivial ?_ rfl
  simp only [Try.ntmps41, List.size_toArray, List.length_cons, List.length_nil, Nat.reduceAdd, Nat.reduceSub, Array.replicate_succ, Array.replicate_zero, List.push_toArray, List.append_toArray, List.nil_append, List.cons_append]
  gi_wp2
  gi_loopw [4] (fun iv wr => ∃ (i k : Nat) (ys : List (PartU2 N)), iv = .int .i64 (i : Int) ∧ Hid (i = 2 * k) ∧ i ≤ N + 1 ∧ Hid (ys.map (·.1) = List.range k) ∧ J ys wr ∧ Hid (wr.heap[bs]? = some (.cells #[.slice oa N cap] 26 (0, 0)) ∧ wr.heap[bn]? = some (.cells #[.int .i64 2] 3 (0, 0)))) (fun iv _ => N + 2 - (intOf iv).toNat)
  case atStart => exact ⟨0, 0, [], rfl, Lib.hid rfl, by omega, Lib.hid rfl, h0, Lib.hid ⟨hs, hb⟩⟩
  case round =>
    obtain ⟨i, k, ys, rfl, HI, hi, HY, hJ, HB⟩ := hrel
    have c1 := cell_at HB.out.1 0
    have c2 := cell_at HB.out.2 0
    by_cases hlt : i < N
    · obtain rfl := hoa (by omega)
      have hlt1 : (i : Int) < (N : Int) := by omega
      obtain ⟨m, hm2⟩ : ∃ m, m = N - i := ⟨_, rfl⟩
      obtain ⟨j, hj⟩ : ∃ j, j = min 2 m := ⟨_, rfl⟩
      obtain ⟨q, hq⟩ : ∃ q, q = i + j := ⟨_, rfl⟩
      have h1 := slice_c32_from g o N cap i m hlt hm2 hcap
      have h2 := slice_c32_part g o N cap i q j hq (by omega) (by omega)
      have hkn : (if (m : Int) < 2 then (m : Int) else 2) = (j : Int) := by split <;> omega
      have hkb : ∀ (ts : Array TypeId) (t : TypeId) (w : World), (Builtin.min_ ts t #[.int .i64 2, .int .i64 (m : Int)]).run Try.prog w = .ok (.int .i64 (j : Int)) w := fun ts t w => by rw [run_min_int2, hkn]
      have hq1 : (i : Int) + (j : Int) = (q : Int) := by omega
      have hq2 : IntKind.i64.wrap ((i : Int) + (j : Int)) = (q : Int) := by rw [hq1]; exact IntWalk.i64_in _ (by omega)
      have hk4 : 2 * k < N := by have := HI.out; omega
      have hqb : q ≤ N := by omega
      have hjb : 0 < j := by omega
      have hiq : i ≤ q := by omega
      have hpv : partU2 g o N k = .slice (some ⟨g, o + i, none⟩) j j := by
        have := HI.out
        unfold partU2
        rw [← this, show min 2 (N - i) = j by omega]
      have HPV := Lib.hid hpv
      obtain ⟨p, hp⟩ : ∃ p, p = i + 2 := ⟨_, rfl⟩
      have hp1 : (i : Int) + 2 = (p : Int) := by omega
      have hp2 : IntKind.i64.wrap ((i : Int) + 2) = (p : Int) := by rw [hp1]; exact IntWalk.i64_in _ (by omega)
      have HNI := Lib.hid (show p = 2 * (k + 1) by have := HI.out; omega)
      have hpb : p ≤ N + 1 := by omega
      have hpi : i < p := by omega
      clear hpv hm2 hj hq hkn hp
      gi_wp2
      refine wpIn_wide.2 ?_
      have d1 : ∀ m' : Nat, (wr.drewN m').cell? ⟨bs, 0, none⟩ = some (.slice (some ⟨g, o, none⟩) N cap) := fun _ => c1
      have d2 : ∀ m' : Nat, (wr.drewN m').cell? ⟨bn, 0, none⟩ = some (.int .i64 2) := fun _ => c2
      go_quiet (fail)
      rename Nat => nq
      have hJ2 : J ys (wr.drewN nq) := hA ys wr _ none hJ (drew_grown wr nq) (fun r e => by cases e)
      have hlen : ys.length < (N + 1) / 2 := by
        have h1 := congrArg List.length HY.out
        rw [List.length_map, List.length_range] at h1
        omega
      obtain ⟨fn, tmps, assign, body, hy, hR⟩ := hY ys ⟨k, hk4⟩ (wr.drewN nq) hJ2 hlen
      dsimp only at hy
      rw [HPV.out] at hy
      have c3 := d1 nq
      have c4 := d2 nq
      have HB3 := Lib.hid (show (wr.drewN nq).heap[bs]? = some (.cells #[.slice (some ⟨g, o, none⟩) N cap] 26 (0, 0)) ∧ (wr.drewN nq).heap[bn]? = some (.cells #[.int .i64 2] 3 (0, 0)) from HB.out)
      have HR := Lib.hid hR
      clear d1 d2 c1 c2 hJ hJ2 hR
      generalize wr.drewN nq = wd at hy HB3 HR c3 c4 ⊢
      gi_wp2
      refine HR.out.mono ?_
      rintro e W3 (⟨rfl, hJ3, hk3⟩ | ⟨rfl, hJx3⟩)
      · have HB4 := Lib.hid (show W3.heap[bs]? = some (.cells #[.slice (some ⟨g, o, none⟩) N cap] 26 (0, 0)) ∧ W3.heap[bn]? = some (.cells #[.int .i64 2] 3 (0, 0)) from ⟨hk3.2.1.trans HB3.out.1, hk3.2.2.trans HB3.out.2⟩)
        have c5 := cell_at HB4.out.2 0
        clear c3 c4
        gi_wp2
        go_roundw
        case rel => exact ⟨p, k + 1, ys ++ [⟨k, hk4⟩], rfl, HNI, hpb, Lib.hid (by rw [List.map_append, HY.out, List.range_succ]; rfl), hJ3, HB4⟩
        case measure => simp [intOf]; omega
      · gi_wp2
        refine bodyPost_ret (results_none rfl _ _ _) rfl ?_
        exact ⟨⟨_, rfl⟩, .inr ⟨_, trivial, hJx3⟩⟩
    · obtain ⟨hK, hR⟩ : k = (N + 1) / 2 ∧ True := ⟨by have := HI.out; omega, trivial⟩
      gi_wp2
      go_end0
      exact ⟨⟨_, rfl⟩, .inl ⟨ys, by rw [HY.out, hK], hJ⟩⟩
set_option maxRecDepth 100000 in
theorem chunkU2_stops (n : Nat) (hn : 1 ≤ n) (bs bn : Nat) (oa : Option Addr) (g o N cap : Nat) (hoa : 0 < N → oa = some ⟨g, o, none⟩) (hcap : N ≤ cap) (hN : N ≤ 1000000) (w : World)
    (hs : w.heap[bs]? = some (.cells #[.slice oa N cap] 26 (0, 0))) (hb : w.heap[bn]? = some (.cells #[.int .i64 2] 3 (0, 0))) :
    SeqStopsK Fence.wide n Try.prog 41 #[.pointer (some ⟨bs, 0, none⟩), .pointer (some ⟨bn, 0, none⟩)] (fun x : PartU2 N => #[partU2 g o N x.1]) (KeepTwo bs bn) (fun ys => ys.map (·.1) = List.range ((N + 1) / 2)) (fun _ => True) ((N + 1) / 2) w := fun l J Jx W hW hA _ hY h0 =>
  chunkU2_at n hn l bs bn oa g o N cap hoa hcap hN J Jx W hA hY (block_below hs hW) (block_below hb hW) h0
end Go.Proofs.Ytpmhkmakkeckkaa

namespace Go.Proofs.Ytpmhkmakkeckkaa
open Go.RowKit Go.Shelf Go.Deep

attribute [local go_sem] Oper.semAt_some

def lessB (x y : Int) : Bool := decide (x < y)
set_option maxRecDepth 100000 in
set_option maxHeartbeats 1000000 in
theorem lands_nan (w : World) (x : Int) : Calls Try.prog 59 #[.int .i64 x] w fun e w' => e = .returned (.bool false) ∧ w' = w := by
  have h : ((x : Int) != x) = false := by simp
  go_enter Try.func59, Try.ntmps59
  go_wp2_with fail
  go_ret
  exact ⟨rfl, rfl⟩
set_option maxRecDepth 100000 in
set_option maxHeartbeats 1000000 in
theorem lands_less (w : World) (x y : Int) : Calls Try.prog 56 #[.int .i64 x, .int .i64 y] w fun e w' => e = .returned (.bool (lessB x y)) ∧ w' = w := by
  have HN := Lib.hid lands_nan
  by_cases h : x < y
  · have HR := Lib.hid (show lessB x y = true from decide_eq_true h)
    go_enter Try.func56, Try.ntmps56
    go_wp2_with fail
    refine (HN.out _ _).mono ?_; rintro e w1 ⟨rfl, hw⟩
    subst hw
    go_wp2_with fail
    go_ret
    exact ⟨by rw [HR.out]; rfl, rfl⟩
  · clear h
    go_enter Try.func56, Try.ntmps56
    go_wp2_with fail
    refine (HN.out _ _).mono ?_; rintro e w1 ⟨rfl, hw⟩
    subst hw
    go_wp2_with fail
    go_ret
    exact ⟨rfl, rfl⟩
set_option maxRecDepth 100000 in
theorem sortedB_iff : ∀ (l : List Int), sortedB l = true ↔ ∀ j, j + 1 < l.length → l.getD j 0 ≤ l.getD (j + 1) 0
  | [] => by simp [sortedB]
  | [a] => by simp [sortedB]
  | a :: b :: r => by
    have ih := sortedB_iff (b :: r)
    rw [sortedB, Bool.and_eq_true, ih, decide_eq_true_eq]
    constructor
    · rintro ⟨h1, h2⟩ j hj
      cases j with
      | zero => exact h1
      | succ j => exact h2 j (by simpa using hj)
    · intro h
      exact ⟨h 0 (by simp), fun j hj => h (j + 1) (by simpa using hj)⟩
set_option maxRecDepth 100000 in
set_option maxHeartbeats 4000000 in
theorem lands_sorted (W : World) (oa : Option Addr) (c N : Nat) (xl : List Int) (en : xl.length = N) (ha : ReadZ W oa xl) (hl : N ≤ 1000000) :
    Calls Try.prog 53 #[.slice oa N c] W fun e w' => e = .returned (.bool (sortedB xl)) ∧ ∃ t, w' = W.drewN t := by
  have HA := Lib.hid ha
  have HN := Lib.hid en
  have HLess := Lib.hid lands_less
  obtain ⟨i0, hi0⟩ : ∃ i0 : Int, (N : Int) - 1 = i0 := ⟨_, rfl⟩
  have hi1 : IntKind.i64.wrap ((N : Int) - 1) = i0 := by rw [hi0]; exact IntWalk.i64_in _ (by omega)
  have hi2 : IntKind.i64.wrap i0 = i0 := IntWalk.i64_in _ (by omega)
  have HI0 := Lib.hid hi0
  have hib : -1 ≤ i0 ∧ i0 ≤ 1000000 := by omega
  clear ha en
  go_enter Try.func53, Try.ntmps53
  go_wp2_with fail
  go_loopw [3] (fun iv wr => ∃ i : Int, -1 ≤ i ∧ i ≤ i0 ∧ iv = .int .i64 i ∧ Hid (∀ jx : Nat, i ≤ jx → jx + 1 < xl.length → xl.getD jx 0 ≤ xl.getD (jx + 1) 0) ∧ ∃ t, wr = W.drewN t) (fun iv _ => (intOf iv + 1).toNat)
  case atStart => exact ⟨i0, by omega, by omega, rfl, Lib.hid (fun jx h1 h2 => absurd h2 (by have := HN.out; have := HI0.out; omega)), 0, rfl⟩
  case round =>
    obtain ⟨i, h0, h1, rfl, HU, t, rfl⟩ := hrel
    by_cases hp : 0 < i
    · obtain ⟨n, hn⟩ : ∃ n : Nat, i = (n : Int) := Int.eq_ofNat_of_zero_le (by omega)
      subst hn
      obtain ⟨jx, hj⟩ : ∃ jx, n = jx + 1 := ⟨n - 1, by omega⟩
      have hnN : n < N := by have := HI0.out; omega
      have hjN : jx < N := by omega
      obtain ⟨x, hx⟩ : ∃ x, xl[n]? = some x := ⟨_, List.getElem?_eq_getElem (by rw [HN.out]; exact hnN)⟩
      obtain ⟨y, hy⟩ : ∃ y, xl[jx]? = some y := ⟨_, List.getElem?_eq_getElem (by rw [HN.out]; exact hjN)⟩
      obtain ⟨g, oo, hoa, cx⟩ := HA.out n x hx
      obtain ⟨g2, o2, hoa2, cy⟩ := HA.out jx y hy
      subst hoa
      injection hoa2 with hoa2
      injection hoa2 with e1 e2
      subst e1 e2
      have HXY := Lib.hid (show xl.getD jx 0 = y ∧ xl.getD (jx + 1) 0 = x by rw [← hj, List.getD_eq_getElem?_getD, List.getD_eq_getElem?_getD, hx, hy]; exact ⟨rfl, rfl⟩)
      have q1 : (n : Int) - 1 = (jx : Int) := by omega
      have q2 : IntKind.i64.wrap ((n : Int) - 1) = (jx : Int) := by rw [q1]; exact IntWalk.i64_in _ (by omega)
      have q3 : IntKind.i64.wrap (jx : Int) = (jx : Int) := IntWalk.i64_in _ (by omega)
      have hjn : jx < n := by omega
      have hjn2 : n ≤ jx + 1 := by omega
      have HJ := Lib.hid hj
      clear hx hy hj
      obtain ⟨bb, hbb⟩ : ∃ bb : Bool, lessB x y = bb := ⟨_, rfl⟩
      have HBB := Lib.hid hbb
      have HCx := Lib.hid (And.intro cx cy)
      clear hbb cx cy
      go_wp2_with fail
      refine wp_region_cl (fun (p : Unit) jz => [.slice (some ⟨g, oo, none⟩) N c, .int .i64 (n : Int), .pointer (some ⟨g, oo + n, none⟩), .int .i64 x, .slice (some ⟨g, oo, none⟩) N c, .int .i64 (n : Int), .int .i64 (jx : Int), .pointer (some ⟨g, oo + jx, none⟩), .int .i64 y, .bool bb].getD jz undef)
        (fun p l wx => wx = (W.drewN t).drew)
        (by kernel_rfl) (by kernel_rfl) (fun q => by simp only [putTo, dstOf, Act.put, List.size_toArray, List.length_cons, List.length_nil, List.getElem?_toArray, Nat.reduceAdd, Option.bind_some, List.getElem?_cons_zero, List.getElem?_cons_succ, List.setIfInBounds_toArray, List.set_cons_zero, List.set_cons_succ, List.getD_cons_zero, List.getD_cons_succ]; exact rfl) () ?_ ?_ ?_
      · rfl
      · intro i o ho p l wx hR hl he hcl K hK
        rcases i with _ | _ | _ | _ | _ | _ | _ | _ | _ | _ | i
        · obtain rfl : _ = o := Option.some.inj ho
          subst hR
          go_simp
          exact hK p _ (fun _ _ => rfl) rfl
        · obtain rfl : _ = o := Option.some.inj ho
          subst hR
          go_simp
          exact hK p _ (fun _ _ => rfl) rfl
        · obtain rfl : _ = o := Option.some.inj ho
          subst hR
          go_simp
          exact hK p _ (fun _ _ => rfl) rfl
        · obtain rfl : _ = o := Option.some.inj ho
          subst hR
          have q := show W.cell? ⟨g, oo + n, none⟩ = some (.int .i64 x) from HCx.out.1
          go_simp
          exact hK p _ (fun _ _ => rfl) rfl
        · obtain rfl : _ = o := Option.some.inj ho
          subst hR
          go_simp
          exact hK p _ (fun _ _ => rfl) rfl
        · obtain rfl : _ = o := Option.some.inj ho
          subst hR
          go_simp
          exact hK p _ (fun _ _ => rfl) rfl
        · obtain rfl : _ = o := Option.some.inj ho
          subst hR
          go_simp
          exact hK p _ (fun _ _ => rfl) rfl
        · obtain rfl : _ = o := Option.some.inj ho
          subst hR
          go_simp
          exact hK p _ (fun _ _ => rfl) rfl
        · obtain rfl : _ = o := Option.some.inj ho
          subst hR
          have q := show W.cell? ⟨g, oo + jx, none⟩ = some (.int .i64 y) from HCx.out.2
          go_simp
          exact hK p _ (fun _ _ => rfl) rfl
        · obtain rfl : _ = o := Option.some.inj ho
          subst hR
          go_simp
          refine (HLess.out _ x y).mono ?_; rintro e w2 ⟨rfl, rfl⟩
          rw [HBB.out]
          exact hK p _ (fun _ _ => rfl) rfl
        · simp at ho
      · intro p l wx hl hR
        subst hR
        have hd : (W.drewN t).drew = W.drewN (t + 1) := by simp [World.drewN, World.drew, Nat.add_assoc]
        rw [hd]
        clear hl
        cases bb with
        | true =>
          have HNo := Lib.hid (show sortedB xl = false from by
            cases h : sortedB xl with
            | false => rfl
            | true =>
              have h3 := (sortedB_iff xl).1 h jx (by have := HN.out; have := HJ.out; omega)
              rw [HXY.out.1, HXY.out.2] at h3
              have := of_decide_eq_true HBB.out
              omega)
          go_wp2_with fail
          go_ret
          exact ⟨by rw [HNo.out]; rfl, _, rfl⟩
        | false =>
          have HNx := Lib.hid (show ∀ k : Nat, (jx : Int) ≤ k → k + 1 < xl.length → xl.getD k 0 ≤ xl.getD (k + 1) 0 from fun k hk hkl => by
            by_cases hkj : k = jx
            · subst hkj
              rw [HXY.out.1, HXY.out.2]
              have := of_decide_eq_false HBB.out
              omega
            · exact HU.out k (by omega) hkl)
          go_wp2_with fail
          go_roundw
          case rel => exact ⟨(jx : Int), by omega, by omega, rfl, HNx, _, rfl⟩
          case measure => simp [intOf]; omega
    · have HYes := Lib.hid (show sortedB xl = true from (sortedB_iff xl).2 fun jx hj => HU.out jx (by omega) hj)
      go_wp2_with fail
      go_ret
      exact ⟨by rw [HYes.out]; rfl, t, rfl⟩
end Go.Proofs.Ytpmhkmakkeckkaa

namespace Go.Proofs.Ytpmhkmakkeckkaa
open Go.RowKit Go.Shelf Go.Deep

attribute [local go_sem] Oper.semAt_some

/-- Where the cells of the list k begin, by what is told of the lists. -/
def bnd (at_ : Int) (Hh : List Nat) (k : Nat) : Int := (Hh.getD (2 * k + 1) 0 : Int) - at_
def bndsZ (at_ : Int) (Hh : List Nat) (t lst : Nat) : List Int := (List.range t).map (bnd at_ Hh) ++ [(lst : Int)]
def cutB (fr : Nat) (B : List Int) : Bool := decide (B.getD 0 0 = (fr : Int)) && sortedB B
structure CutI (W w2 : World) (b1 M : Nat) (at_ : Int) (Hh : List Nat) (pre : List (PartU2 M)) (w : World) : Prop where
  mod : Mod (fun k => k = b1) w2 w
  low : Below W.heap.size W w
  vars : ∃ vc n, pre.length = n ∧ Boxed w b1 50 vc ∧ w.ownsRow w2.heap.size 3 1 vc n (zC ((pre.map (·.1)).map (bnd at_ Hh)))
set_option maxRecDepth 100000 in
theorem cutI_own {W w2 : World} {b1 M : Nat} {at_ : Int} {Hh : List Nat} (hW : W.heap.size ≤ w2.heap.size) : OwnFrom w2.heap.size (CutI W w2 b1 M at_ Hh) := by
  rintro s X Y row ⟨hm, hl, vc, n, h0, h1, h2⟩ hg hr
  have hr2 : ∀ r, row = some r → ∃ o : Obj, X.heap[r]? = some o ∧ o.isCells = false := fun r e => (hr r e).2
  exact ⟨hm.grown hg (fun k hk => .inl (hr k hk).1), hl.grown hg hl.size (fun k hk => Nat.le_trans hW (hr k hk).1), vc, n, h0, box_turn h1 hg hr2, own_turn h2 hg hr2⟩
set_option maxRecDepth 100000 in
theorem zC_own {w : World} {b base n : Nat} {v : Value} {l : List Int} (h : w.ownsRow b 3 1 v n (zC l)) (hb : base ≤ b) : n = l.length ∧ OwnZ w base v l := by
  have hl : n = l.length := by have := h.1; rw [zC_length, Nat.mul_one] at this; exact this.symm
  subst hl
  refine ⟨rfl, h.1, ?_⟩
  rcases h.2 with h2 | ⟨g, cap, cur, h1, h2, h3⟩
  · exact .inl h2
  · exact .inr ⟨g, cap, cur, h1, Nat.le_trans hb h2, h3⟩

set_option maxRecDepth 100000 in
set_option maxHeartbeats 4000000 in
theorem lands_cut (W : World) (at_ : Int) (oa : Option Addr) (c M tt : Nat) (Hh : List Nat) (en : Hh.length = M) (hM : M = 2 * tt) (ha : ReadN .u32 W oa Hh) (hc : M ≤ c) (hl : M ≤ 1000) (hx : ∀ x ∈ Hh, x < 4294967296) (h0 : 0 ≤ at_) (h1 : at_ ≤ 65536) (fr lst : Nat) :
    Calls Try.prog 42 #[.int .i64 at_, .slice oa M c, .int .i64 (fr : Int), .int .i64 (lst : Int)] W fun e w' => ∃ v, e = .returned (.tuple #[v, .bool (cutB fr (bndsZ at_ Hh tt lst))]) ∧ OwnZ w' W.heap.size v (bndsZ at_ Hh tt lst) ∧ Below W.heap.size W w' := by
  refine (callsIn_wide (n := 5)).1 ?_
  refine callsIn_of_wp_marks Try.func42 rfl trivial ?_ rfl
  simp only [Try.ntmps42, List.size_toArray, List.length_cons, List.length_nil, Nat.reduceAdd, Nat.reduceSub, Array.replicate_succ, Array.replicate_zero, List.push_toArray, List.append_toArray, List.nil_append, List.cons_append]
  obtain ⟨i8, e80, e81, e82, e83⟩ := info_parts info_z
  have HI8 := Lib.hid (And.intro e80 (And.intro e81 (And.intro e82 e83)))
  have HA := Lib.hid ha
  have HN := Lib.hid en
  have HX := Lib.hid hx
  have HSorted := Lib.hid lands_sorted
  have HM2 := Lib.hid hM
  clear hM
  clear e80 e81 e82 e83 ha en hx
  refine wpIn_wide.2 ?_
  go_wp2_with fail
  refine callsIn_wide.1 ((chunkU2_in 5 oa M c _).mono ?_); rintro e w2 ⟨rfl, hw2⟩
  obtain ⟨wB, hwB⟩ : ∃ wB, wB = (W.alloc (.cells #[.int .i64 at_] 3)).alloc (.cells #[.slice none 0 0] 50) := ⟨_, rfl⟩
  have hs3 : wB.heap.size = W.heap.size + 2 := by rw [hwB]; simp
  have hlowB : Below W.heap.size W wB := by rw [hwB]; exact below_al2
  have bA : Boxed wB W.heap.size 3 (.int .i64 at_) := by rw [hwB]; exact heap2_0 W _ _
  have bC : Boxed wB (W.heap.size + 1) 50 (.slice none 0 0) := by rw [hwB]; exact heap2_1 W _ _
  rw [← hwB] at hw2 ⊢
  have bS : Boxed w2 wB.heap.size 26 (.slice oa M c) := by rw [hw2]; exact heap2_0 wB _ _
  have bN : Boxed w2 (wB.heap.size + 1) 3 (.int .i64 2) := by rw [hw2]; exact heap2_1 wB _ _
  have hb2 : Below wB.heap.size wB w2 := by rw [hw2]; exact below_al2
  have hs4 : w2.heap.size = wB.heap.size + 2 := by rw [hw2]; simp
  have bA2 : Boxed w2 W.heap.size 3 (.int .i64 at_) := block_below bA hb2
  have bC2 : Boxed w2 (W.heap.size + 1) 50 (.slice none 0 0) := block_below bC hb2
  have hlow := low_more hlowB hb2
  clear bA bC
  obtain ⟨b0, hb0⟩ : ∃ b0, b0 = W.heap.size := ⟨_, rfl⟩
  obtain ⟨b1, hb1⟩ : ∃ b1, b1 = W.heap.size + 1 := ⟨_, rfl⟩
  obtain ⟨bs, hbs⟩ : ∃ bs, bs = wB.heap.size := ⟨_, rfl⟩
  obtain ⟨bn, hbn⟩ : ∃ bn, bn = wB.heap.size + 1 := ⟨_, rfl⟩
  rw [← hb1] at bC2
  rw [← hb0] at bA2
  rw [← hbs] at bS
  rw [← hbn] at bN
  rw [← hb1, ← hb0, ← hbs, show bs + 1 = bn by omega]
  have HI := Lib.hid (show CutI W w2 b1 M at_ Hh [] w2 from ⟨Mod.refl _ _, hlow, .slice none 0 0, 0, rfl, bC2, World.ownsRow_nil _ _ _ _⟩)
  have HBx := Lib.hid (And.intro bS (And.intro bN bA2))
  have HD := Lib.hid (show b0 < b1 ∧ b1 < bs ∧ bs < bn ∧ bn < w2.heap.size ∧ W.heap.size ≤ b0 by omega)
  have HLow2 := Lib.hid hlow
  clear hwB hs3 hlowB hw2 bS bN hb2 hs4 bA2 bC2 hlow hb0 hb1 hbs hbn
  go_wp2_with fail
  obtain ⟨g, oo, hgo⟩ : ∃ g oo, 0 < M → oa = some ⟨g, oo, none⟩ := by
    by_cases h0 : 0 < M
    · obtain ⟨g, oo, h, _⟩ := HA.out 0 _ (List.getElem?_eq_getElem (by rw [HN.out]; exact h0))
      exact ⟨g, oo, fun _ => h⟩
    · exact ⟨0, 0, fun h => absurd h h0⟩
  have HGO := Lib.hid hgo
  clear hgo
  refine (wpIn_wide (n := 5)).1 ?_
  refine wpIn_rangeFunc_ownG rfl (by omega) (gf := 41) (lb := #[.pointer (some ⟨bs, 0, none⟩), .pointer (some ⟨bn, 0, none⟩)]) rfl trivial (enters_of Try.func41 (by kernel_rfl) rfl)
    (chunkU2_stops 4 (by omega) bs bn oa g oo M c HGO.out hc (by omega) w2 HBx.out.1 HBx.out.2.1) (fun h k => ⟨Nat.le_trans h.1 k.1, k.2.1.trans h.2.1, k.2.2.trans h.2.2⟩)
    (fun W' l' o1 o2 hl' h _ _ => ⟨(grownBy_putObj' W' l' o2).size, World.putObj_heap_other (by have := HD.out; omega), World.putObj_heap_other (by have := HD.out; omega)⟩) (Below.refl _ _) (fun _ => rfl)
    (CutI W w2 b1 M at_ Hh) (fun _ _ _ => False) (cutI_own (by have := HD.out; omega)) (fun _ _ _ _ _ hs _ _ => hs) HI.out
    (fun x => { tmps := #[.int .i64 at_, .slice oa M c, .int .i64 (fr : Int), .int .i64 (lst : Int), .pointer (some ⟨b0, 0, none⟩), undef, undef, undef, .slice none 0 0, .bool false, .pointer (some ⟨b1, 0, none⟩), partU2 g oo M x.1, .slice oa M c, .func (.func 41) #[] #[.pointer (some ⟨bs, 0, none⟩), .pointer (some ⟨bn, 0, none⟩)], partU2 g oo M x.1, undef, undef, undef, undef, undef, undef, undef, undef, undef, undef, undef, undef, undef, undef, undef, undef, undef, undef, undef, undef, undef, undef, undef], defers := [] }) ?assign ?body ?done ?stop
  case assign =>
    intro l' x W' K hK
    gi_wp2
    exact hK
  case stop =>
    rintro D c' pre W' _ _ h _
    exact h.elim
  case body =>
    rintro l' pre ⟨k, hk⟩ W' ⟨hmod, hlow, vc, nn, hpn, hbox, hown⟩ hlt
    have hM := HM2.out
    obtain ⟨off, hoff⟩ : ∃ off, off = oo + 2 * k := ⟨_, rfl⟩
    have hpv : partU2 g oo M k = .slice (some ⟨g, off, none⟩) 2 2 := by unfold partU2; rw [hoff, show min 2 (M - 2 * k) = 2 by omega]
    obtain ⟨x, hxk⟩ : ∃ x, Hh[2 * k + 1]? = some x := ⟨_, List.getElem?_eq_getElem (by rw [HN.out]; omega)⟩
    obtain ⟨g', o', hgo', cx⟩ := HA.out _ _ hxk
    rw [HGO.out (by omega)] at hgo'
    injection hgo' with hgo'
    injection hgo' with hg1 hg2
    subst hg1 hg2
    rw [show oo + (2 * k + 1) = off + 1 by omega] at cx
    have hxb : x < 4294967296 := HX.out x (List.mem_of_getElem? hxk)
    obtain ⟨z, hz⟩ : ∃ z : Int, (x : Int) - at_ = z := ⟨_, rfl⟩
    have z1 : IntKind.i64.wrap ((x : Int) - at_) = z := by rw [hz]; exact IntWalk.i64_in _ (by omega)
    have z2 : IntKind.i64.wrap (x : Int) = (x : Int) := IntWalk.i64_in _ (by omega)
    have z3 : IntKind.i64.wrap z = z := IntWalk.i64_in _ (by omega)
    have HZ := Lib.hid (show bnd at_ Hh k = z by unfold bnd; rw [List.getD_eq_getElem?_getD, hxk]; exact hz)
    have HP := Lib.hid hpn
    have hnb : nn ≤ 1000 := by rw [← hpn]; omega
    obtain ⟨xs, hxs⟩ : ∃ xs, zC ((pre.map (·.1)).map (bnd at_ Hh)) = xs := ⟨_, rfl⟩
    rw [hxs] at hown
    have HXs := Lib.hid hxs
    have HReg := Lib.hid (show RowReg W W' w2 b1 50 3 1 nn vc xs [.int .i64 z] false false false false 0 undef W'.drew from RowReg.start (KeepsOthers.drew _) hlow.drew hmod.drew hbox (owned_below hown (Below.refl _ _).drew))
    have HCx := Lib.hid cx
    have HMod0 := Lib.hid hmod
    have hbw : W.heap.size ≤ w2.heap.size := by have := HD.out; omega
    have hb1w : b1 < w2.heap.size := by have := HD.out; omega
    have hb1W : W.heap.size ≤ b1 := by have := HD.out; omega
    have hb01 : b0 < w2.heap.size ∧ ¬ b0 = b1 := by have := HD.out; omega
    have hsl : ∃ ov cv, vc = .slice ov nn cv := by
      rcases hown.2 with ⟨h, h2⟩ | ⟨gq, cq, cur, h, _⟩
      · exact ⟨none, 0, by rw [h, h2]⟩
      · exact ⟨_, _, h⟩
    obtain ⟨ov, cv, rfl⟩ := hsl
    have HSz := Lib.hid (And.intro hbw (And.intro hb1w (And.intro hb1W hb01)))
    clear hM hoff hxk cx hz hpn hxs hmod hlow hbox hown hbw hb1w hb1W hb01 hxb
    dsimp only
    rw [hpv]
    clear hpv
    gi_wp2
    refine wpIn_region_cl (fun (p : Nat × Value) jz => [.slice ov nn cv, .slice (some ⟨g, off, none⟩) 2 2, .pointer (some ⟨g, off + 1, none⟩), .int .u32 (x : Int), .int .i64 (x : Int), .int .i64 at_, .int .i64 z, .slice (some ⟨p.1, 0, none⟩) 1 1, p.2, undef].getD jz undef)
      (fun p l wx => RowReg W W' w2 b1 50 3 1 nn (.slice ov nn cv) xs [.int .i64 z] (l 0) (l 7) (l 8) (l 9) p.1 p.2 wx ∧ (l 8 = true → ∃ g9 c9, p.2 = .slice (some ⟨g9, 0, none⟩) (nn + 1) c9))
      (by kernel_rfl) (by kernel_rfl) (by kernel_rfl) (fun q => by simp only [putTo, dstOf, Act.put, List.size_toArray, List.length_cons, List.length_nil, List.getElem?_toArray, Nat.reduceAdd, Option.bind_some, List.getElem?_cons_zero, List.getElem?_cons_succ, List.setIfInBounds_toArray, List.set_cons_zero, List.set_cons_succ, List.getD_cons_zero, List.getD_cons_succ]; exact rfl) (0, undef) ?_ ?_ ?_
    · exact ⟨HReg.out, fun h => (by cases h)⟩
    · intro i o ho p l wx hR hl he hcl K hK
      rcases i with _ | _ | _ | _ | _ | _ | _ | _ | _ | _ | i
      · obtain rfl : _ = o := Option.some.inj ho
        have hld := hR.1.loaded hl
        have q := hld.2
        have HR := Lib.hid (And.intro hld.1 hR.2)
        clear hR hld
        go_simp
        exact hK p wx (fun _ _ => rfl) HR.out
      · obtain rfl : _ = o := Option.some.inj ho
        have HR := Lib.hid hR
        clear hR
        go_simp
        exact hK p wx (fun _ _ => rfl) HR.out
      · obtain rfl : _ = o := Option.some.inj ho
        have HR := Lib.hid hR
        clear hR
        go_simp
        exact hK p wx (fun _ _ => rfl) HR.out
      · obtain rfl : _ = o := Option.some.inj ho
        have q := below_cell HCx.out hR.1.low
        have HR := Lib.hid hR
        clear hR
        go_simp
        exact hK p wx (fun _ _ => rfl) HR.out
      · obtain rfl : _ = o := Option.some.inj ho
        have HR := Lib.hid hR
        clear hR
        go_simp
        exact hK p wx (fun _ _ => rfl) HR.out
      · obtain rfl : _ = o := Option.some.inj ho
        have q : wx.cell? ⟨b0, 0, none⟩ = some (.int .i64 at_) := cell_at ((hR.1.mod.block b0 HSz.out.2.2.2.1 HSz.out.2.2.2.2).trans HBx.out.2.2) 0
        have HR := Lib.hid hR
        clear hR
        go_simp
        exact hK p wx (fun _ _ => rfl) HR.out
      · obtain rfl : _ = o := Option.some.inj ho
        have HR := Lib.hid hR
        clear hR
        go_simp
        exact hK p wx (fun _ _ => rfl) HR.out
      · obtain rfl : _ = o := Option.some.inj ho
        have HR := Lib.hid hR
        clear hR
        have h8 : l 8 = false := by
          cases h : l 8 with
          | false => rfl
          | true => exact absurd (HR.out.1.o87 h) (by rw [hl]; decide)
        have h9 : l 9 = false := by
          cases h : l 9 with
          | false => rfl
          | true => exact absurd (HR.out.1.o98 h) (by rw [h8]; decide)
        have HM := Lib.hid (HR.out.1.made hl _ rfl)
        go_simp
        refine hK (wx.heap.size, p.2) _ (fun j hj => ?_) ⟨HM.out, HR.out.2⟩
        rcases j with _ | _ | _ | _ | _ | _ | _ | _ | _ | _ | j
        all_goals first | rfl | (rw [hl] at hj; cases hj) | (rw [h8] at hj; cases hj)
      · obtain rfl : _ = o := Option.some.inj ho
        have h7 : l 7 = true := he ⟨7, .data⟩ (by simp) rfl
        have h0 : l 0 = true := he ⟨0, .data⟩ (by simp) rfl
        have hlit := (hR.1.lit h7).resolve_right (by rw [hl]; decide)
        have hcells : ∀ (j : Nat) (u : Value), [Value.int .i64 z][j]? = some u → wx.cell? ((⟨p.1, 0, none⟩ : Addr).add j) = some u := fun j u hj => by
          rw [Addr.add_lit, cell_at hlit]
          rcases j with _ | j
          · simpa using hj
          · simp at hj
        have hsz : w2.heap.size ≤ wx.heap.size := hR.1.mod.size
        have HR := Lib.hid hR
        clear hR
        refine wp_append_own wx (.tmp 15) (.tmp 22) 50 rfl w2.heap.size 3 i8 _ 1 8 Try.underlying50 HI8.out.1 HI8.out.2.1 HI8.out.2.2.1 HI8.out.2.2.2 rfl (by decide) _ nn xs rfl (HR.out.1.own hl) ⟨p.1, 0, none⟩ 1 1 [.int .i64 z] rfl rfl hcells (by simp [Value.oneCell']) (by unfold maxLen; omega) (by omega) hsz ?_
        intro v' w' ho hg _
        obtain ⟨gq, cq, hq⟩ := slice_of (show 0 < nn + 1 by omega) ho
        have h9 : l 9 = false := by
          cases h : l 9 with
          | false => rfl
          | true => exact absurd (HR.out.1.o98 h) (by rw [hl]; decide)
        refine hK (p.1, v') w' (fun j hj => ?_) ⟨HR.out.1.put h0 h7 hl HSz.out.2.1 HSz.out.1 ho hg, fun _ => ⟨gq, cq, hq⟩⟩
        rcases j with _ | _ | _ | _ | _ | _ | _ | _ | _ | _ | j
        all_goals first | rfl | (rw [hl] at hj; cases hj) | (rw [h9] at hj; cases hj)
      · obtain rfl : _ = o := Option.some.inj ho
        have h8 : l 8 = true := he ⟨8, .data⟩ (by simp) rfl
        obtain ⟨g9, c9, hq⟩ := hR.2 h8
        have hbx := hR.1.box hl
        have q := hbx.cell
        have f := hbx.frozen
        have HR := Lib.hid hR
        have H8 := Lib.hid h8
        clear hR hbx h8
        obtain ⟨p1, p2⟩ := p
        dsimp only at hq
        subst hq
        have HS := Lib.hid (HR.out.1.store H8.out hl (by decide) HSz.out.2.2.1)
        go_simp
        exact hK (p1, _) _ (fun _ _ => rfl) ⟨HS.out, HR.out.2⟩
      · simp at ho
    · intro p l wx hl hR
      have HE9 := Lib.hid hR.1
      have h8 := hl 8 (by decide)
      have h9 := hl 9 (by decide)
      have HB9 := Lib.hid (HE9.out.box2 h9)
      have HO9 := Lib.hid (HE9.out.own2 h8)
      clear hR hl h8 h9
      gi_wp2
      exact ⟨HE9.out.keep.from _, ⟨HE9.out.keep.size, (HE9.out.mod.block bs (by have := HD.out; omega) (by have := HD.out; omega)).trans (HMod0.out.block bs (by have := HD.out; omega) (by have := HD.out; omega)).symm, (HE9.out.mod.block bn (by have := HD.out; omega) (by have := HD.out; omega)).trans (HMod0.out.block bn (by have := HD.out; omega) (by have := HD.out; omega)).symm⟩, ⟨HE9.out.mod, HE9.out.low, _, nn + 1, by rw [List.length_append, HP.out]; rfl, HB9.out, by rw [List.map_append, List.map_append, List.map_singleton, List.map_singleton, HZ.out, zC_snoc, HXs.out]; exact HO9.out⟩⟩
  case done =>
    rintro D ys W' hDl hys ⟨hmod, hlow, vc, nn, hpn, hbox, hown⟩ hK
    obtain ⟨to1, hto1⟩ : ∃ B0, (List.range tt).map (bnd at_ Hh) = B0 := ⟨_, rfl⟩
    have hys2 : ys.map (·.1) = List.range tt := by rw [hys]; congr 1; have := HM2.out; omega
    rw [hys2, hto1] at hown
    obtain ⟨hnl, hownZ⟩ := zC_own hown (by have := HD.out; omega : W.heap.size ≤ w2.heap.size)
    have HBnd := Lib.hid (show bndsZ at_ Hh tt lst = to1 ++ [(lst : Int)] by unfold bndsZ; rw [hto1])
    have hnn : nn = tt := by rw [hnl, ← hto1]; simp
    subst hnn
    have hsl : ∃ ov cv, vc = .slice ov nn cv := by
      rcases hown.2 with ⟨h, h2⟩ | ⟨gq, cq, cur, h, _⟩
      · exact ⟨none, 0, by rw [h, h2]⟩
      · exact ⟨_, _, h⟩
    obtain ⟨ov, cv, rfl⟩ := hsl
    have hnnb : nn ≤ 1000 := by have := HM2.out; omega
    have HK := Lib.hid hK
    have HDl := Lib.hid (Nat.le_trans (by have := HD.out; omega : W.heap.size ≤ w2.heap.size) hDl)
    have c0 := hbox.cell
    have hb1W : W.heap.size ≤ b1 := by have := HD.out; omega
    have HOa := Lib.hid (show (W'.alloc (.cells #[.int .i64 (lst : Int)] 3)).ownsRow w2.heap.size 3 1 (.slice ov nn cv) nn (zC to1) from World.ownsRow.alloc hown _)
    have HBox := Lib.hid hbox
    have HLw := Lib.hid (low_new (o := .cells #[.int .i64 (lst : Int)] 3) hlow)
    have HSzW := Lib.hid (show w2.heap.size ≤ (W'.alloc (.cells #[.int .i64 (lst : Int)] 3)).heap.size from by have := hmod.size; simp; omega)
    have HSzb := Lib.hid (show b1 < w2.heap.size ∧ W.heap.size ≤ w2.heap.size by have := HD.out; omega)
    clear hmod hlow hbox hown hownZ hys hys2 hK hDl hto1 hpn hnl
    go_wp2_with (at_builtin; refine wpList_append_own _ rfl (.tmp 24) (.tmp 26) 50 rfl w2.heap.size 3 i8 _ 1 8 Try.underlying50 HI8.out.1 HI8.out.2.1 HI8.out.2.2.1 HI8.out.2.2.2 rfl (by decide) _ nn (zC to1) rfl HOa.out ⟨_, 0, none⟩ 1 1 [.int .i64 (lst : Int)] rfl rfl one_cell (by simp [Value.oneCell']) (by unfold maxLen; omega) (by omega) HSzW.out ?_; intro v' w1' ho hg _; obtain ⟨g5, c5, rfl⟩ := ownsRow_succ ho; have hbx := ((HBox.out).alloc (.cells #[.int .i64 (lst : Int)] 3)).kept hg (fun e => by have := (World.ownsRow.lt HOa.out b1 e.symm).1; have := HSzb.out; omega); have e1 := hbx.cell; have e2 := hbx.frozen; have HOn := Lib.hid (row_set (u2 := .slice (some ⟨g5, 0, none⟩) (nn + 1) c5) ho hbx (by decide)); have HBn := Lib.hid (hbx.set (.slice (some ⟨g5, 0, none⟩) (nn + 1) c5)); have HLn := Lib.hid ((HLw.out.grown hg HLw.out.size (fun k hk => by have := (World.ownsRow.lt HOa.out k hk).1; have := HSzb.out; omega)).setCell (p := ⟨b1, 0, none⟩) hb1W (.slice (some ⟨g5, 0, none⟩) (nn + 1) c5)); have HKn := Lib.hid (((KeepsOthers.alloc W' (.cells #[.int .i64 (lst : Int)] 3)).trans (keeps_grown HOa.out hg)).trans (KeepsOthers.setCell _ ⟨b1, 0, none⟩ (.slice (some ⟨g5, 0, none⟩) (nn + 1) c5))); clear ho hg hbx)
    have HDd := Lib.hid (HKn.out.same D _ HK.out rfl)
    clear e1 e2 c0
    generalize World.setCell _ _ _ = w8 at HOn HBn HLn HDd HKn ⊢
    obtain ⟨B, hB⟩ : ∃ B, to1 ++ [(lst : Int)] = B := ⟨_, rfl⟩
    have hOn : OwnZ w8 W.heap.size (.slice (some ⟨g5, 0, none⟩) (nn + 1) c5) B ∧ nn + 1 = B.length := by
      have h := HOn.out
      rw [show zC to1 ++ [Value.int .i64 (lst : Int)] = zC B by rw [← hB, zC_snoc]] at h
      have := zC_own h HSzb.out.2
      exact ⟨this.2, this.1⟩
    have HBnd := Lib.hid (HBnd.out.trans hB)
    have HOw := Lib.hid hOn.1
    have HBl := Lib.hid hOn.2
    obtain ⟨oa9, ca9, hv9, _, _, _, hrd9⟩ := hOn.1.reads
    rw [← hOn.2] at hv9
    injection hv9 with hv9 hv9a hv9b
    clear hv9a hv9b
    rw [← hv9] at hrd9
    have HRd := Lib.hid hrd9
    obtain ⟨d, hd⟩ : ∃ d, B[0]? = some d := ⟨_, List.getElem?_eq_getElem (by omega)⟩
    obtain ⟨g6, o6, hg6, cd⟩ := hrd9 0 d hd
    injection hg6 with hg6
    injection hg6 with hg7 hg8
    subst hg7 hg8
    have HD0 := Lib.hid (show B.getD 0 0 = d by rw [List.getD_eq_getElem?_getD, hd]; rfl)
    have HCd := Lib.hid cd
    obtain ⟨sb, hsb⟩ : ∃ sb, sortedB B = sb := ⟨_, rfl⟩
    have HSb := Lib.hid hsb
    clear hOn hv9 hrd9 hd cd hB hsb
    by_cases hdf : d = (fr : Int)
    · have HRes := Lib.hid (show cutB fr B = sb by unfold cutB; rw [HD0.out, decide_eq_true hdf, HSb.out]; rfl)
      have hdb : ((d : Int) == (fr : Int)) = true := beq_iff_eq.2 hdf
      clear hdf
      go_wp2_with fail
      refine wp_region_cl (fun (p : Unit) jz => [.slice (some ⟨g5, 0, none⟩) (nn + 1) c5, .slice (some ⟨g5, 0, none⟩) (nn + 1) c5, .pointer (some ⟨g5, 0, none⟩), .int .i64 d, .int .i64 (fr : Int), .bool true, .bool true, .slice (some ⟨g5, 0, none⟩) (nn + 1) c5, .bool sb, .bool sb, .slice (some ⟨g5, 0, none⟩) (nn + 1) c5, .bool sb].getD jz undef)
        (fun p l wx => ∃ m : Nat, wx = w8.drewN m)
        (by kernel_rfl) (by kernel_rfl) (fun q => by simp only [putTo, dstOf, Act.put, List.size_toArray, List.length_cons, List.length_nil, List.getElem?_toArray, Nat.reduceAdd, Option.bind_some, List.getElem?_cons_zero, List.getElem?_cons_succ, List.setIfInBounds_toArray, List.set_cons_zero, List.set_cons_succ, List.getD_cons_zero, List.getD_cons_succ]; exact rfl) () ?_ ?_ ?_
      · exact ⟨1, rfl⟩
      · intro i o ho p l wx hR hl he hcl K hK
        rcases i with _ | _ | _ | _ | _ | _ | _ | _ | _ | _ | _ | _ | i
        · obtain rfl : _ = o := Option.some.inj ho
          obtain ⟨m, rfl⟩ := hR
          have q : w8.cell? ⟨b1, 0, none⟩ = some (.slice (some ⟨g5, 0, none⟩) (nn + 1) c5) := HBn.out.cell
          go_simp
          exact hK p _ (fun _ _ => rfl) ⟨m, rfl⟩
        · obtain rfl : _ = o := Option.some.inj ho
          obtain ⟨m, rfl⟩ := hR
          have q : w8.cell? ⟨b1, 0, none⟩ = some (.slice (some ⟨g5, 0, none⟩) (nn + 1) c5) := HBn.out.cell
          go_simp
          exact hK p _ (fun _ _ => rfl) ⟨m, rfl⟩
        · obtain rfl : _ = o := Option.some.inj ho
          obtain ⟨m, rfl⟩ := hR
          go_simp
          exact hK p _ (fun _ _ => rfl) ⟨m, rfl⟩
        · obtain rfl : _ = o := Option.some.inj ho
          obtain ⟨m, rfl⟩ := hR
          have q : w8.cell? ⟨g5, 0, none⟩ = some (.int .i64 d) := HCd.out
          go_simp
          exact hK p _ (fun _ _ => rfl) ⟨m, rfl⟩
        · obtain rfl : _ = o := Option.some.inj ho
          obtain ⟨m, rfl⟩ := hR
          go_simp
          exact hK p _ (fun _ _ => rfl) ⟨m, rfl⟩
        · obtain rfl : _ = o := Option.some.inj ho
          obtain ⟨m, rfl⟩ := hR
          go_simp
          exact hK p _ (fun _ _ => rfl) ⟨m, rfl⟩
        · obtain rfl : _ = o := Option.some.inj ho
          obtain ⟨m, rfl⟩ := hR
          go_simp
          exact hK p _ (fun _ _ => rfl) ⟨m, rfl⟩
        · obtain rfl : _ = o := Option.some.inj ho
          obtain ⟨m, rfl⟩ := hR
          have q : w8.cell? ⟨b1, 0, none⟩ = some (.slice (some ⟨g5, 0, none⟩) (nn + 1) c5) := HBn.out.cell
          go_simp
          exact hK p _ (fun _ _ => rfl) ⟨m, rfl⟩
        · obtain rfl : _ = o := Option.some.inj ho
          obtain ⟨m, rfl⟩ := hR
          go_simp
          refine (HSorted.out (w8.drewN m) (some ⟨g5, 0, none⟩) c5 (nn + 1) B HBl.out.symm (HRd.out.below (below_drawn (Below.refl _ _) _)) (by omega)).mono ?_; rintro e w2 ⟨rfl, t9, rfl⟩
          rw [HSb.out]
          exact hK p _ (fun _ _ => rfl) ⟨m + t9, by simp [World.drewN, Nat.add_assoc]⟩
        · obtain rfl : _ = o := Option.some.inj ho
          obtain ⟨m, rfl⟩ := hR
          go_simp
          exact hK p _ (fun _ _ => rfl) ⟨m, rfl⟩
        · obtain rfl : _ = o := Option.some.inj ho
          obtain ⟨m, rfl⟩ := hR
          go_simp
          exact hK p _ (fun _ _ => rfl) ⟨m, rfl⟩
        · obtain rfl : _ = o := Option.some.inj ho
          obtain ⟨m, rfl⟩ := hR
          go_simp
          exact hK p _ (fun _ _ => rfl) ⟨m, rfl⟩
        · simp at ho
      · intro p l wx hl hR
        obtain ⟨m, rfl⟩ := hR
        clear hl
        go_wp2_with fail
        refine ⟨by simp, .inl ⟨_, _, rfl, run_takeDeferred (show (w8.drewN m).heap[D]? = _ from HDd.out), ?_⟩⟩
        refine ⟨_, results_tmp2 rfl _ _ _, .slice (some ⟨g5, 0, none⟩) (nn + 1) c5, ?_, ?_, ?_⟩
        · rw [HBnd.out, HRes.out]; rfl
        · rw [HBnd.out]; exact ownsRow_putObj (show OwnZ (w8.drewN m) W.heap.size (.slice (some ⟨g5, 0, none⟩) (nn + 1) c5) B from HOw.out.below (below_drawn (Below.refl _ _) _)) _ HDd.out rfl
        · exact (below_drawn HLn.out m).trans (belowK_b (w := W) (Nat.le_refl _) _ D _ _ HDl.out (show (w8.drewN m).heap[D]? = _ from HDd.out) rfl rfl)
    · have HRes := Lib.hid (show cutB fr B = false by unfold cutB; rw [HD0.out, decide_eq_false hdf]; rfl)
      have hdb : ((d : Int) == (fr : Int)) = false := beq_eq_false_iff_ne.2 hdf
      clear hdf
      go_wp2_with fail
      refine wp_region_cl (fun (p : Unit) jz => [.slice (some ⟨g5, 0, none⟩) (nn + 1) c5, .slice (some ⟨g5, 0, none⟩) (nn + 1) c5, .pointer (some ⟨g5, 0, none⟩), .int .i64 d, .int .i64 (fr : Int), .bool false, .bool false, undef, undef, .bool false, .slice (some ⟨g5, 0, none⟩) (nn + 1) c5, .bool false].getD jz undef)
        (fun p l wx => ∃ m : Nat, wx = w8.drewN m)
        (by kernel_rfl) (by kernel_rfl) (fun q => by simp only [putTo, dstOf, Act.put, List.size_toArray, List.length_cons, List.length_nil, List.getElem?_toArray, Nat.reduceAdd, Option.bind_some, List.getElem?_cons_zero, List.getElem?_cons_succ, List.setIfInBounds_toArray, List.set_cons_zero, List.set_cons_succ, List.getD_cons_zero, List.getD_cons_succ]; exact rfl) () ?_ ?_ ?_
      · exact ⟨1, rfl⟩
      · intro i o ho p l wx hR hl he hcl K hK
        rcases i with _ | _ | _ | _ | _ | _ | _ | _ | _ | _ | _ | _ | i
        · obtain rfl : _ = o := Option.some.inj ho
          obtain ⟨m, rfl⟩ := hR
          have q : w8.cell? ⟨b1, 0, none⟩ = some (.slice (some ⟨g5, 0, none⟩) (nn + 1) c5) := HBn.out.cell
          go_simp
          exact hK p _ (fun _ _ => rfl) ⟨m, rfl⟩
        · obtain rfl : _ = o := Option.some.inj ho
          obtain ⟨m, rfl⟩ := hR
          have q : w8.cell? ⟨b1, 0, none⟩ = some (.slice (some ⟨g5, 0, none⟩) (nn + 1) c5) := HBn.out.cell
          go_simp
          exact hK p _ (fun _ _ => rfl) ⟨m, rfl⟩
        · obtain rfl : _ = o := Option.some.inj ho
          obtain ⟨m, rfl⟩ := hR
          go_simp
          exact hK p _ (fun _ _ => rfl) ⟨m, rfl⟩
        · obtain rfl : _ = o := Option.some.inj ho
          obtain ⟨m, rfl⟩ := hR
          have q : w8.cell? ⟨g5, 0, none⟩ = some (.int .i64 d) := HCd.out
          go_simp
          exact hK p _ (fun _ _ => rfl) ⟨m, rfl⟩
        · obtain rfl : _ = o := Option.some.inj ho
          obtain ⟨m, rfl⟩ := hR
          go_simp
          exact hK p _ (fun _ _ => rfl) ⟨m, rfl⟩
        · obtain rfl : _ = o := Option.some.inj ho
          obtain ⟨m, rfl⟩ := hR
          go_simp
          exact hK p _ (fun _ _ => rfl) ⟨m, rfl⟩
        · obtain rfl : _ = o := Option.some.inj ho
          obtain ⟨m, rfl⟩ := hR
          go_simp
          exact hK p _ (fun _ _ => rfl) ⟨m, rfl⟩
        · obtain rfl : _ = o := Option.some.inj ho
          obtain ⟨m, rfl⟩ := hR
          go_simp
          exact hK p _ (fun _ _ => rfl) ⟨m, rfl⟩
        · obtain rfl : _ = o := Option.some.inj ho
          obtain ⟨m, rfl⟩ := hR
          go_simp
          exact hK p _ (fun _ _ => rfl) ⟨m, rfl⟩
        · obtain rfl : _ = o := Option.some.inj ho
          obtain ⟨m, rfl⟩ := hR
          go_simp
          exact hK p _ (fun _ _ => rfl) ⟨m, rfl⟩
        · obtain rfl : _ = o := Option.some.inj ho
          obtain ⟨m, rfl⟩ := hR
          go_simp
          exact hK p _ (fun _ _ => rfl) ⟨m, rfl⟩
        · obtain rfl : _ = o := Option.some.inj ho
          obtain ⟨m, rfl⟩ := hR
          go_simp
          exact hK p _ (fun _ _ => rfl) ⟨m, rfl⟩
        · simp at ho
      · intro p l wx hl hR
        obtain ⟨m, rfl⟩ := hR
        clear hl
        go_wp2_with fail
        refine ⟨by simp, .inl ⟨_, _, rfl, run_takeDeferred (show (w8.drewN m).heap[D]? = _ from HDd.out), ?_⟩⟩
        refine ⟨_, results_tmp2 rfl _ _ _, .slice (some ⟨g5, 0, none⟩) (nn + 1) c5, ?_, ?_, ?_⟩
        · rw [HBnd.out, HRes.out]; rfl
        · rw [HBnd.out]; exact ownsRow_putObj (show OwnZ (w8.drewN m) W.heap.size (.slice (some ⟨g5, 0, none⟩) (nn + 1) c5) B from HOw.out.below (below_drawn (Below.refl _ _) _)) _ HDd.out rfl
        · exact (below_drawn HLn.out m).trans (belowK_b (w := W) (Nat.le_refl _) _ D _ _ HDl.out (show (w8.drewN m).heap[D]? = _ from HDd.out) rfl rfl)
end Go.Proofs.Ytpmhkmakkeckkaa

namespace Go.Proofs.Ytpmhkmakkeckkaa
open Go.RowKit Go.Shelf Go.Deep

set_option maxRecDepth 100000 in
theorem slice32_part {W : World} {oa : Option Addr} {L : List Nat} (n c a m b : Nat) (hn : L.length = n) (hb : a + m = b) (hbn : b ≤ n) (hc : n ≤ c) (hm : c ≤ maxLen) (h : ReadN .u32 W oa L) :
    ∃ ob d, (∀ w : World, (Instr.slice 26 (.slice oa n c) (some (.int .i64 (a : Int))) (some (.int .i64 (b : Int))) none).run Try.prog w = .ok (.slice ob m d) w) ∧ m ≤ d ∧ d ≤ maxLen ∧ ReadN .u32 W ob ((L.drop a).take m) := by
  refine ⟨if c = a then oa else oa.map (·.add a), c - a, fun w => ?_, by omega, by omega, ?_⟩
  · rw [run_slice_lh w 26 oa n c under_words .i64 .i64 (a : Int) (b : Int) (by omega) (by omega) (by omega), elem_words, size_word]
    have e : ((a : Int)).toNat = a := by omega
    have e1 : ((b : Int)).toNat = b := by omega
    have e2 : b - a = m := by omega
    simp [Result.andThen, sliced, e, e1, e2]
  · intro j x hj
    rw [List.getElem?_take] at hj
    split at hj
    · have hj2 : L[a + j]? = some x := by rw [List.getElem?_drop] at hj; exact hj
      have hlt := (List.getElem?_eq_some_iff.1 hj2).1
      obtain ⟨g, o, rfl, hc2⟩ := h _ x hj2
      rw [if_neg (by omega)]
      exact ⟨g, o + a, by rw [Option.map_some, Addr.add_lit], by rw [show o + a + j = o + (a + j) by omega]; exact hc2⟩
    · cases hj
set_option maxRecDepth 100000 in
theorem bnds_eq (at_ : Int) (C : List Nat) (h t : Nat) : bndsZ at_ ((C.drop h).take (2 * t)) t C.length = boundsI at_ C (pairsI C h t) := by
  unfold bndsZ boundsI pairsI
  rw [List.map_map]
  congr 1
  refine List.map_congr_left fun k hk => ?_
  have hk := List.mem_range.1 hk
  simp only [Function.comp, bnd]
  rw [List.getD_eq_getElem?_getD, List.getElem?_take, if_pos (by omega), List.getElem?_drop, List.getD_eq_getElem?_getD, show h + (2 * k + 1) = h + 2 * k + 1 by omega]
set_option maxRecDepth 100000 in
theorem end_step {at_ : Int} {C : List Nat} {H : List (Nat × Nat)} {i : Nat} (hs : sortedB (boundsI at_ C H) = true) (hi : i < H.length) : endI at_ C (H.drop i) ≤ endI at_ C (H.drop (i + 1)) := by
  have h := sorted_drop at_ C i H hs
  rw [List.drop_eq_getElem_cons hi, bounds_cons, sorted_cons, Bool.and_eq_true] at h
  rw [List.drop_eq_getElem_cons hi]
  exact of_decide_eq_true h.1
set_option maxRecDepth 100000 in
theorem end_first {at_ : Int} {C : List Nat} {H : List (Nat × Nat)} (hs : sortedB (boundsI at_ C H) = true) : ∀ i, i ≤ H.length → endI at_ C H ≤ endI at_ C (H.drop i)
  | 0, _ => by rw [List.drop_zero]; exact Int.le_refl _
  | i + 1, hi => Int.le_trans (end_first hs i (by omega)) (end_step hs (by omega))
set_option maxRecDepth 100000 in
theorem end_last {at_ : Int} {C : List Nat} {H : List (Nat × Nat)} (hs : sortedB (boundsI at_ C H) = true) (i : Nat) : endI at_ C (H.drop i) ≤ C.length := sorted_le _ _ _ (sorted_drop at_ C i H hs)
def rdOk (o : Option (List Li)) : Bool := o.isSome
def rdLs (o : Option (List Li)) : List Li := o.getD []
/-- What the rest makes is what the whole makes. -/
def RestI (whole : Option (List Li)) (Dn : List Li) (o : Option (List Li)) : Prop := whole = o.map (Dn ++ ·)
set_option maxRecDepth 100000 in
theorem parts_end (at_ : Int) (n : Nat) (C : List Nat) (H : List (Nat × Nat)) (i : Nat) (hi : i < H.length) (p : Nat × Nat) (hp : H[i]? = some p) (hs : sortedB (boundsI at_ C H) = true) {whole : Option (List Li)} {Dn : List Li} (hr : RestI whole Dn (partsR at_ n C (H.drop i) (endI at_ C (H.drop i)))) :
    (listR n p.1 (cutC C (endI at_ C (H.drop i)) (endI at_ C (H.drop (i + 1)))) = none → whole = none) ∧ ∀ l, listR n p.1 (cutC C (endI at_ C (H.drop i)) (endI at_ C (H.drop (i + 1)))) = some l → RestI whole (Dn ++ [⟨ByteArray.empty, p.1, l⟩]) (partsR at_ n C (H.drop (i + 1)) (endI at_ C (H.drop (i + 1)))) := by
  obtain ⟨_, hp2⟩ := List.getElem?_eq_some_iff.1 hp
  have hs2 := sorted_drop at_ C i H hs
  rw [List.drop_eq_getElem_cons hi, hp2] at hr hs2 ⊢
  have hst := parts_step at_ n C p (H.drop (i + 1)) hs2
  unfold RestI at hr ⊢
  show (listR n p.1 (cutC C ((p.2 : Int) - at_) _) = none → _) ∧ ∀ l, listR n p.1 (cutC C ((p.2 : Int) - at_) _) = some l → _
  rw [show endI at_ C (p :: H.drop (i + 1)) = (p.2 : Int) - at_ from rfl, hst] at hr
  refine ⟨fun h => by rw [h] at hr; exact hr, fun l h => ?_⟩
  rw [h] at hr
  rw [hr]
  cases partsR at_ n C (H.drop (i + 1)) (endI at_ C (H.drop (i + 1))) with
  | none => rfl
  | some m => simp
set_option maxRecDepth 100000 in
theorem OwnZ.base {w : World} {b b2 : Nat} {v : Value} {l : List Int} (h : OwnZ w b2 v l) (hb : b ≤ b2) : OwnZ w b v l := by
  refine ⟨h.1, ?_⟩
  rcases h.2 with h2 | ⟨g, cap, cur, h1, h2, h3⟩
  · exact .inl h2
  · exact .inr ⟨g, cap, cur, h1, Nat.le_trans hb h2, h3⟩
set_option maxRecDepth 100000 in
theorem OwnZ.rd {w : World} {base n c : Nat} {oa : Option Addr} {l : List Int} (h : OwnZ w base (.slice oa n c) l) : ReadZ w oa l := by
  obtain ⟨oa', cap, he, _, _, _, hr⟩ := h.reads
  injection he with h1 _ _
  rw [h1]
  exact hr
set_option maxRecDepth 100000 in
theorem listR_eq {n r : Nat} {C : List Nat} {l : List En} {er : Int} (h : decS C = (l, er)) : listR n r C = if er = 0 ∧ okR n r l then some l else none := by
  unfold listR okR
  rw [h]
  have : (er = 0 ∧ 0 < l.length ∧ lastDoc l < n ∧ 1 ≤ r ∧ r ≤ 65535) ↔ (er = 0 ∧ 1 ≤ (r : Int) ∧ (r : Int) ≤ 65535 ∧ 0 < l.length ∧ lastDoc l < n) := by
    constructor
    · rintro ⟨h1, h2, h3, h4, h5⟩
      exact ⟨h1, by omega, by omega, h2, h3⟩
    · rintro ⟨h1, h2, h3, h4, h5⟩
      exact ⟨h1, h4, h5, by omega, by omega⟩
  dsimp only
  by_cases hh : er = 0 ∧ 0 < l.length ∧ lastDoc l < n ∧ 1 ≤ r ∧ r ≤ 65535
  · rw [if_pos hh, if_pos (this.1 hh)]
  · rw [if_neg hh, if_neg (fun k => hh (this.2 k))]

set_option maxRecDepth 100000 in
set_option maxHeartbeats 4000000 in
theorem lands_read14 (W : World) (at_ : Int) (oa : Option Addr) (c N n tt k : Nat) (C : List Nat) (en : C.length = N) (ha : ReadN .u32 W oa C) (hc : N ≤ c) (hm : c ≤ maxLen) (hl : N ≤ 200000) (hx : ∀ x ∈ C, x < 4294967296) (h0 : 0 ≤ at_) (h1 : at_ ≤ 65536) (hn : n ≤ 64) (ht : tt ≤ 256) (hk : 2 + 4 * n + 2 * tt = k) (hkN : k ≤ N) :
    Calls Try.prog 29 #[.int .i64 at_, .slice oa N c, .int .i64 (n : Int), .int .i64 (tt : Int)] W fun e w' => ∃ v, e = .returned (.tuple #[v, .bool (rdOk (partsR at_ n C (pairsI C (2 + 4 * n) tt) (k : Int)))]) ∧ OwnLi w' W.heap.size v (rdLs (partsR at_ n C (pairsI C (2 + 4 * n) tt) (k : Int))) ∧ Below W.heap.size W w' := by
  obtain ⟨hh, hhh⟩ : ∃ h, 2 + 4 * n = h := ⟨_, rfl⟩
  obtain ⟨M, hM⟩ : ∃ M, 2 * tt = M := ⟨_, rfl⟩
  rw [hhh]
  obtain ⟨H, hH⟩ : ∃ H, pairsI C hh tt = H := ⟨_, rfl⟩
  have HHl := Lib.hid (show H.length = tt by rw [← hH, pairsI_length])
  obtain ⟨Hh, hHh⟩ : ∃ Hh, (C.drop hh).take M = Hh := ⟨_, rfl⟩
  have hHl : Hh.length = M := by rw [← hHh, List.length_take, List.length_drop]; omega
  have hbe := bnds_eq at_ C hh tt
  rw [hM, hHh, hH, en] at hbe
  obtain ⟨oh, dh, hs, hs1, hs2, hs3⟩ := slice32_part N c hh M k en (by omega) hkN hc hm ha
  rw [hHh] at hs3
  have HCut := Lib.hid (fun (w : World) (h : ReadN .u32 w oh Hh) => lands_cut w at_ oh dh M tt Hh hHl hM.symm h hs1 (by omega) (fun x hx1 => hx x (by rw [← hHh] at hx1; exact List.mem_of_mem_drop (List.mem_of_mem_take hx1))) h0 h1 k N)
  rw [hbe] at HCut
  obtain ⟨B, hB⟩ : ∃ B, boundsI at_ C H = B := ⟨_, rfl⟩
  obtain ⟨P, hP⟩ : ∃ P, partsR at_ n C H (k : Int) = P := ⟨_, rfl⟩
  rw [hB] at HCut
  rw [hH, hP]
  have HB := Lib.hid hB
  have HP := Lib.hid hP
  have HH := Lib.hid hH
  have HHh := Lib.hid hHh
  have HNum := Lib.hid (show 2 + 4 * n = hh ∧ 2 * tt = M ∧ hh + M = k by omega)
  have HA1 := Lib.hid (fun w => lands_ahead w n 0 hh (by omega) (by omega) (by omega))
  have HA2 := Lib.hid (fun w => lands_ahead w n tt k (by omega) (by omega) (by omega))
  have HSl := Lib.hid hs
  have HRh := Lib.hid hs3
  have HA := Lib.hid ha
  have HN := Lib.hid en
  have HX := Lib.hid hx
  have HM := Lib.hid hm
  obtain ⟨iL, eL0, eL1, eL2, eL3⟩ := info_parts info_list
  have HIL := Lib.hid (And.intro eL0 (And.intro eL1 (And.intro eL2 eL3)))
  clear eL0 eL1 eL2 eL3
  have hMb : M ≤ 512 := by omega
  have hkb : k ≤ 1000 ∧ hh ≤ 300 := by omega
  have hs0 := hs
  clear hk hhh hM hH hHh hHl hbe hs hs3 hB hP ha en hx hm h0 h1 hs1 hs2
  go_enter Try.func29, Try.ntmps29
  go_wp2_with fail
  refine (HA1.out _).mono ?_; rintro e w1 ⟨rfl, hw⟩
  subst hw
  go_wp2_with fail
  refine (HA2.out _).mono ?_; rintro e w2 ⟨rfl, hw⟩
  subst hw
  go_wp2_with fail
  refine (HA2.out _).mono ?_; rintro e w3 ⟨rfl, hw⟩
  subst hw
  go_wp2_with fail
  refine (HCut.out _ HRh.out).mono ?_; rintro e w4 ⟨vB, rfl, hoB, hbB⟩
  have HLow4 := Lib.hid hbB
  have HOB := Lib.hid hoB
  clear hbB hs0
  cases hcut : cutB k B with
  | false =>
    have HNone := Lib.hid (show P = none from by
      cases hp : P with
      | none => rfl
      | some L =>
        obtain ⟨p1, p2⟩ := parts_bounds at_ n C H k L (HP.out.trans hp)
        rw [HB.out] at p1 p2
        unfold cutB at hcut
        rw [p2, show B.getD 0 0 = (k : Int) from p1] at hcut
        simp at hcut)
    clear hcut hoB
    go_wp2_with fail
    go_ret2
    exact ⟨.slice none 0 0, by rw [HNone.out]; rfl, by rw [HNone.out]; exact OwnLi.nil _ _, HLow4.out⟩
  | true =>
    have hcc : B.getD 0 0 = (k : Int) ∧ sortedB B = true := by
      unfold cutB at hcut
      rw [Bool.and_eq_true] at hcut
      exact ⟨of_decide_eq_true hcut.1, hcut.2⟩
    have HSorted := Lib.hid (show sortedB (boundsI at_ C H) = true by rw [HB.out]; exact hcc.2)
    have HFirst := Lib.hid (show endI at_ C H = (k : Int) by rw [← headB_bounds, HB.out]; exact hcc.1)
    have HLen := Lib.hid (show B.length = tt + 1 by rw [← HB.out, boundsI_length, HHl.out])
    have HGet := Lib.hid (show ∀ i, i ≤ tt → B[i]? = some (endI at_ C (H.drop i)) from fun i hi => by rw [← HB.out]; exact bounds_get (by rw [HHl.out]; exact hi))
    obtain ⟨t1, ht1⟩ : ∃ t1, B.length = t1 := ⟨_, rfl⟩
    obtain ⟨ob, cb, hvB, _, _, _, hrB⟩ := hoB.reads
    rw [ht1] at hvB
    subst hvB
    have HRB := Lib.hid hrB
    have ht1b : t1 = tt + 1 := by rw [← ht1]; exact HLen.out
    have HT1 := Lib.hid ht1b
    obtain ⟨gb, obb, hob, _⟩ := hrB 0 _ (HGet.out 0 (by omega))
    subst hob
    have htN : tt < t1 := by omega
    have HRest0 := Lib.hid (show RestI P [] (partsR at_ n C (H.drop 0) (endI at_ C (H.drop 0))) from by
      unfold RestI
      rw [List.drop_zero, HFirst.out, HP.out]
      cases P <;> simp)
    clear hcut hcc hoB hrB ht1 ht1b
    go_wp2_with fail
    go_loopw [13, 39] (fun lv iv wr => ∃ (i : Nat) (Dn : List Li), i ≤ tt ∧ iv = .int .i64 (i : Int) ∧ Hid (Dn.length = i ∧ RestI P Dn (partsR at_ n C (H.drop i) (endI at_ C (H.drop i)))) ∧ OwnLi wr w3.heap.size lv Dn ∧ Below w3.heap.size w3 wr ∧ OwnZ wr w3.heap.size (.slice (some ⟨gb, obb, none⟩) t1 cb) B) (fun _ iv _ => tt - (intOf iv).toNat)
    case atStart => exact ⟨0, [], by omega, rfl, Lib.hid ⟨rfl, HRest0.out⟩, OwnLi.nil _ _, HLow4.out, HOB.out⟩
    case round =>
      obtain ⟨ix, Dn, hi, rfl, HRest, hown, hlow, hoz⟩ := hrel
      have hrz := hoz.rd
      obtain ⟨dn, hdn⟩ : ∃ dn, Dn.length = dn := ⟨_, rfl⟩
      obtain ⟨ov, cv, hv13, _, _, _, _⟩ := hown.reads
      rw [hdn] at hv13
      subst hv13
      have HDn := Lib.hid hdn
      clear hdn
      have HO := Lib.hid hown
      have HL := Lib.hid hlow
      have HZ := Lib.hid hoz
      by_cases hlt : ix < tt
      · have hlt1 : (ix : Int) < (tt : Int) := by omega
        have hil : ix < H.length := by rw [HHl.out]; exact hlt
        obtain ⟨e0, he0⟩ : ∃ e, endI at_ C (H.drop ix) = e := ⟨_, rfl⟩
        obtain ⟨e1, he1⟩ : ∃ e, endI at_ C (H.drop (ix + 1)) = e := ⟨_, rfl⟩
        have hf := end_first HSorted.out ix (by omega)
        have hst := end_step HSorted.out hil
        have hla := end_last HSorted.out (ix + 1)
        rw [HFirst.out, he0] at hf
        rw [he0, he1] at hst
        rw [he1, HN.out] at hla
        obtain ⟨a0, ha0⟩ : ∃ a : Nat, e0 = (a : Int) := Int.eq_ofNat_of_zero_le (by omega)
        obtain ⟨a1, ha1⟩ : ∃ a : Nat, e1 = (a : Int) := Int.eq_ofNat_of_zero_le (by omega)
        obtain ⟨m, hm⟩ : ∃ m, a1 - a0 = m := ⟨_, rfl⟩
        have g0 := HGet.out ix (by omega)
        have g1 := HGet.out (ix + 1) (by omega)
        rw [he0, ha0] at g0
        rw [he1, ha1] at g1
        obtain ⟨_, _, hq0, c0⟩ := hrz ix _ g0
        injection hq0 with hq0
        injection hq0 with hq1 hq2
        subst hq1 hq2
        obtain ⟨_, _, hq0, c1⟩ := hrz (ix + 1) _ g1
        injection hq0 with hq0
        injection hq0 with hq1 hq2
        subst hq1 hq2
        obtain ⟨oz, dz, hz, hz1, hz2, hz3⟩ := slice32_part N c a0 m a1 HN.out (by omega) (by omega) (by omega) HM.out (HA.out.below hlow)
        have hcz : cutC C (endI at_ C (H.drop ix)) (endI at_ C (H.drop (ix + 1))) = (C.drop a0).take m := by
          unfold cutC
          rw [he0, he1, ha0, ha1, show ((a0 : Nat) : Int).toNat = a0 by omega, show ((a1 : Int) - (a0 : Int)).toNat = m by omega]
        obtain ⟨Z, hZ⟩ : ∃ Z, (C.drop a0).take m = Z := ⟨_, rfl⟩
        rw [hZ] at hz3 hcz
        have hZl : Z.length = m := by rw [← hZ, List.length_take, List.length_drop, HN.out]; omega
        obtain ⟨⟨es, er⟩, hD⟩ : ∃ r, decS Z = r := ⟨_, rfl⟩
        have hdn : decN Z = (es, er) := by rw [dec_same, hD]
        have HDec := Lib.hid (fun (w : World) (h : ReadN .u32 w oz Z) => lands_decode13 w oz dz m Z hZl h hz1 hz2 (by omega) (fun x hx1 => HX.out x (by rw [← hZ] at hx1; exact List.mem_of_mem_drop (List.mem_of_mem_take hx1))))
        rw [hdn] at HDec
        have HRz := Lib.hid hz3
        obtain ⟨⟨pr, pa⟩, hpp⟩ : ∃ p, H[ix]? = some p := ⟨_, List.getElem?_eq_getElem hil⟩
        obtain ⟨hE1, hE2⟩ := parts_end at_ n C H ix hil _ hpp HSorted.out HRest.out.2
        rw [hcz, listR_eq hD] at hE1 hE2
        dsimp only at hE1 hE2
        have HE1 := Lib.hid hE1
        have HE2 := Lib.hid hE2
        have hhd : Hh[2 * ix]? = some pr := by
          rw [← HH.out, pairsI_get hlt] at hpp
          injection hpp with hpp
          injection hpp with hpp _
          rw [← HHh.out, List.getElem?_take, if_pos (by have := HNum.out; omega), List.getElem?_drop]
          rw [List.getD_eq_getElem?_getD] at hpp
          obtain ⟨y, hy⟩ : ∃ y, C[hh + 2 * ix]? = some y := ⟨_, List.getElem?_eq_getElem (by have := HN.out; have := HNum.out; omega)⟩
          rw [hy] at hpp ⊢
          exact congrArg some hpp
        obtain ⟨gh, ohh, hoh, ch⟩ := HRh.out _ _ hhd
        subst hoh
        have HCh := Lib.hid ch
        have hprb : pr < 4294967296 := HX.out pr (by
          have := List.mem_of_getElem? hhd
          rw [← HHh.out] at this
          exact List.mem_of_mem_drop (List.mem_of_mem_take this))
        obtain ⟨i2, hi2⟩ : ∃ i2, 2 * ix = i2 := ⟨_, rfl⟩
        rw [hi2] at HCh
        have hi2M : i2 < M := by have := HNum.out; omega
        have r1 : 2 * (ix : Int) = (i2 : Int) := by omega
        have r2 : IntKind.i64.wrap (2 * (ix : Int)) = (i2 : Int) := by rw [r1]; exact IntWalk.i64_in _ (by omega)
        have r3 : IntKind.i64.wrap (i2 : Int) = (i2 : Int) := IntWalk.i64_in _ (by omega)
        have r4 : IntKind.i64.wrap (pr : Int) = (pr : Int) := IntWalk.i64_in _ (by omega)
        obtain ⟨ne, hne⟩ : ∃ ne, es.length = ne := ⟨_, rfl⟩
        have hneb : ne ≤ 64 := by
          rcases dec_casesI hD with ⟨rfl, _⟩ | ⟨hM, _, _⟩
          · simp at hne; omega
          · have := hM.1; omega
        have HNe := Lib.hid hne
        have HC0 := Lib.hid (And.intro c0 c1)
        have HDl := Lib.hid HRest.out.1
        obtain ⟨ix1, hix1⟩ : ∃ j, ix + 1 = j := ⟨_, rfl⟩
        rw [hix1] at HC0 HE2
        have s1 : (ix : Int) + 1 = (ix1 : Int) := by omega
        have s2 : IntKind.i64.wrap ((ix : Int) + 1) = (ix1 : Int) := by rw [s1]; exact IntWalk.i64_in _ (by omega)
        have s3 : IntKind.i64.wrap (ix1 : Int) = (ix1 : Int) := IntWalk.i64_in _ (by omega)
        have s4 : ix1 < t1 ∧ ix < t1 := by have := HT1.out; omega
        have s5 : ix1 ≤ tt := by omega
        have HIx := Lib.hid hix1
        clear hown hlow hrz hoz hf hst hla ha0 ha1 hm g0 g1 c0 c1 hz3 hcz hZ hZl hD hdn hpp hE1 hE2 hhd ch hi2 hne hil he0 he1 hix1
        obtain ⟨s4a, s4b⟩ := s4
        go_wp2_with fail
        refine wp_region_cl (fun (p : Value) jz => [.slice oa N c, .slice (some ⟨gb, obb, none⟩) t1 cb, .int .i64 (ix : Int), .pointer (some ⟨gb, obb + ix, none⟩), .int .i64 (a0 : Int), .slice (some ⟨gb, obb, none⟩) t1 cb, .int .i64 (ix : Int), .int .i64 (ix1 : Int), .pointer (some ⟨gb, obb + ix1, none⟩), .int .i64 (a1 : Int), .slice oz m dz, .tuple #[p, .int .i64 er], .tuple #[p, .int .i64 er], p, .int .i64 er, p, .int .i64 er].getD jz undef)
          (fun p l wx => (l 11 = false → wx = wr.drew) ∧ Below wr.heap.size wr wx ∧ (l 11 = true → OwnE wx wr.heap.size p es))
          (by kernel_rfl) (by kernel_rfl) (fun q => by simp only [putTo, dstOf, Act.put, List.size_toArray, List.length_cons, List.length_nil, List.getElem?_toArray, Nat.reduceAdd, Option.bind_some, List.getElem?_cons_zero, List.getElem?_cons_succ, List.setIfInBounds_toArray, List.set_cons_zero, List.set_cons_succ, List.getD_cons_zero, List.getD_cons_succ]; exact rfl) undef ?_ ?_ ?_
        · exact ⟨fun _ => rfl, (Below.refl _ _).drew, fun h => (by cases h)⟩
        · intro i o ho p l wx hR hl he hcl K hK
          rcases i with _ | _ | _ | _ | _ | _ | _ | _ | _ | _ | _ | _ | _ | _ | _ | _ | _ | i
          · obtain rfl : _ = o := Option.some.inj ho
            have HR := Lib.hid hR
            clear hR
            go_simp
            exact hK p wx (fun _ _ => rfl) HR.out
          · obtain rfl : _ = o := Option.some.inj ho
            have HR := Lib.hid hR
            clear hR
            go_simp
            exact hK p wx (fun _ _ => rfl) HR.out
          · obtain rfl : _ = o := Option.some.inj ho
            have HR := Lib.hid hR
            clear hR
            go_simp
            exact hK p wx (fun _ _ => rfl) HR.out
          · obtain rfl : _ = o := Option.some.inj ho
            have HR := Lib.hid hR
            clear hR
            go_simp
            exact hK p wx (fun _ _ => rfl) HR.out
          · obtain rfl : _ = o := Option.some.inj ho
            have q := below_cell HC0.out.1 hR.2.1
            have HR := Lib.hid hR
            clear hR
            go_simp
            exact hK p wx (fun _ _ => rfl) HR.out
          · obtain rfl : _ = o := Option.some.inj ho
            have HR := Lib.hid hR
            clear hR
            go_simp
            exact hK p wx (fun _ _ => rfl) HR.out
          · obtain rfl : _ = o := Option.some.inj ho
            have HR := Lib.hid hR
            clear hR
            go_simp
            exact hK p wx (fun _ _ => rfl) HR.out
          · obtain rfl : _ = o := Option.some.inj ho
            have HR := Lib.hid hR
            clear hR
            go_simp
            exact hK p wx (fun _ _ => rfl) HR.out
          · obtain rfl : _ = o := Option.some.inj ho
            have HR := Lib.hid hR
            clear hR
            go_simp
            exact hK p wx (fun _ _ => rfl) HR.out
          · obtain rfl : _ = o := Option.some.inj ho
            have q := below_cell HC0.out.2 hR.2.1
            have HR := Lib.hid hR
            clear hR
            go_simp
            exact hK p wx (fun _ _ => rfl) HR.out
          · obtain rfl : _ = o := Option.some.inj ho
            have HR := Lib.hid hR
            clear hR
            have q := hz wx
            go_simp
            exact hK p wx (fun _ _ => rfl) HR.out
          · obtain rfl : _ = o := Option.some.inj ho
            have HR := Lib.hid hR
            clear hR
            go_simp
            refine (HDec.out wx (HRz.out.below HR.out.2.1)).mono ?_; rintro e w5 ⟨v5, rfl, ho5, hb5⟩
            refine hK v5 w5 (fun j hj => ?_) ⟨(fun h => by cases h), low_more HR.out.2.1 hb5, fun _ => ho5.base HR.out.2.1.size⟩
            rcases j with _ | _ | _ | _ | _ | _ | _ | _ | _ | _ | _ | _ | _ | _ | _ | _ | _ | j
            all_goals first | rfl | (rw [hl] at hj; cases hj) | (exact absurd (hcl 12 _ rfl hj ⟨11, .data⟩ (by simp) rfl) (by rw [hl]; decide)) | (exact absurd (hcl 12 _ rfl (hcl 13 _ rfl hj ⟨12, .data⟩ (by simp) rfl) ⟨11, .data⟩ (by simp) rfl) (by rw [hl]; decide)) | (exact absurd (hcl 12 _ rfl (hcl 14 _ rfl hj ⟨12, .data⟩ (by simp) rfl) ⟨11, .data⟩ (by simp) rfl) (by rw [hl]; decide)) | (exact absurd (hcl 12 _ rfl (hcl 13 _ rfl (hcl 15 _ rfl hj ⟨13, .data⟩ (by simp) rfl) ⟨12, .data⟩ (by simp) rfl) ⟨11, .data⟩ (by simp) rfl) (by rw [hl]; decide)) | (exact absurd (hcl 12 _ rfl (hcl 14 _ rfl (hcl 16 _ rfl hj ⟨14, .data⟩ (by simp) rfl) ⟨12, .data⟩ (by simp) rfl) ⟨11, .data⟩ (by simp) rfl) (by rw [hl]; decide))
          · obtain rfl : _ = o := Option.some.inj ho
            have HR := Lib.hid hR
            clear hR
            go_simp
            exact hK p wx (fun _ _ => rfl) HR.out
          · obtain rfl : _ = o := Option.some.inj ho
            have HR := Lib.hid hR
            clear hR
            go_simp
            exact hK p wx (fun _ _ => rfl) HR.out
          · obtain rfl : _ = o := Option.some.inj ho
            have HR := Lib.hid hR
            clear hR
            go_simp
            exact hK p wx (fun _ _ => rfl) HR.out
          · obtain rfl : _ = o := Option.some.inj ho
            have HR := Lib.hid hR
            clear hR
            go_simp
            exact hK p wx (fun _ _ => rfl) HR.out
          · obtain rfl : _ = o := Option.some.inj ho
            have HR := Lib.hid hR
            clear hR
            go_simp
            exact hK p wx (fun _ _ => rfl) HR.out
          · simp at ho
        · intro p l wx hl hR
          have HO5 := Lib.hid (hR.2.2 (hl 11 (by decide)))
          have HB5 := Lib.hid hR.2.1
          clear hR hl
          obtain ⟨oe, ce, hpv, _, _, _, hRe⟩ := HO5.out.reads
          rw [HNe.out] at hpv
          have HPv := Lib.hid hpv
          have HRe := Lib.hid hRe
          subst hpv
          have HL5 := Lib.hid (low_more HL.out HB5.out)
          have HO9 := Lib.hid (HO.out.below HB5.out)
          have HZ5 := Lib.hid (HZ.out.below HB5.out)
          have ch5 := below_cell HCh.out HL5.out
          have HNew := Lib.hid (heap_alloc_new wx (.cells #[.string ByteArray.empty, .int .i64 (pr : Int), .slice oe ne ce] 44))
          have HBn := Lib.hid (below_one (w := wx) (A := .cells #[.string ByteArray.empty, .int .i64 (pr : Int), .slice oe ne ce] 44))
          have HBel := Lib.hid (fun (w : World) (h : ReadE w oe es) => lands_belongs w ByteArray.empty (pr : Int) oe ce ne n es HNe.out h (by omega))
          have HE0 := Lib.hid (HO5.out.base HL.out.size)
          clear hRe
          by_cases her : er = 0
          · by_cases hok : okR n (pr : Int) es
            · rw [show okRB n (pr : Int) es = true from decide_eq_true hok] at HBel
              have HNx := Lib.hid (HE2.out es (if_pos ⟨her, hok⟩))
              have herb : ((er : Int) != 0) = false := by rw [her]; rfl
              clear her hok
              go_wp2_with fail
              refine (HBel.out _ (HRe.out.below HBn.out)).mono ?_; rintro e w6 ⟨rfl, hb6⟩
              have hb6a := low_more HBn.out hb6
              have HL6 := Lib.hid (low_more HL5.out hb6a)
              have HZ6 := Lib.hid (HZ5.out.below hb6a)
              have HO6 := Lib.hid (HO9.out.below hb6a)
              have HE6 := Lib.hid (HE0.out.below hb6a)
              have hnew6 := block_below HNew.out hb6
              have c60 := cell_at hnew6 0
              have c61 := cell_at hnew6 1
              have c62 := cell_at hnew6 2
              clear hb6 hb6a hnew6 ch5
              obtain ⟨ps, o1, o2, o3⟩ := HO6.out.below (below_one (w := w6) (A := .cells #[.string ByteArray.empty, .int .i64 (pr : Int), .slice oe ne ce] 44))
              have HW7 := Lib.hid (low_new (o := .cells #[.string ByteArray.empty, .int .i64 (pr : Int), .slice oe ne ce] 44) HL6.out)
              have HE7 := Lib.hid (HE6.out.below (below_one (w := w6) (A := .cells #[.string ByteArray.empty, .int .i64 (pr : Int), .slice oe ne ce] 44)))
              have HZ7 := Lib.hid (HZ6.out.below (below_one (w := w6) (A := .cells #[.string ByteArray.empty, .int .i64 (pr : Int), .slice oe ne ce] 44)))
              have HO7 := Lib.hid (And.intro o1 (And.intro o2 o3))
              have hdnb : dn ≤ 256 := by have := HDl.out; have := HDn.out; omega
              have hrow := o2
              rw [HDn.out] at hrow
              have HRow := Lib.hid hrow
              have hcl : ∀ (jq : Nat) (u : Value), [Value.string ByteArray.empty, .int .i64 (pr : Int), .slice oe ne ce][jq]? = some u → (w6.alloc (.cells #[.string ByteArray.empty, .int .i64 (pr : Int), .slice oe ne ce] 44)).cell? ((⟨w6.heap.size, 0, none⟩ : Addr).add jq) = some u := fun jq u hj => by
                rw [Addr.add_lit, cell_at (heap_alloc_new w6 _)]
                simpa using hj
              have HCl := Lib.hid hcl
              clear hrow o1 o2 o3 hcl
              go_wp2_with (at_builtin; refine wpList_append_own _ rfl (.tmp 73) (.tmp 75) 23 rfl w3.heap.size 44 iL _ 3 48 Try.underlying23 HIL.out.1 HIL.out.2.1 HIL.out.2.2.1 HIL.out.2.2.2 rfl (by decide) _ dn (liC Dn ps) rfl HRow.out ⟨_, 0, none⟩ 1 1 [.string ByteArray.empty, .int .i64 (pr : Int), .slice oe ne ce] rfl rfl HCl.out (by simp [Value.oneCell']) (by unfold maxLen; omega) (by omega) HW7.out.size ?_; intro v' w8 ho hg _; have HP8 := Lib.hid (OwnLi.push (l := ⟨ByteArray.empty, (pr : Int), es⟩) HW7.out.size HW7.out HO7.out.1 HO7.out.2.1 HO7.out.2.2 HE7.out (HDn.out ▸ ho) hg); have HZ8 := Lib.hid (show OwnZ w8 w3.heap.size (.slice (some ⟨gb, obb, none⟩) t1 cb) B from row_grown HRow.out hg HZ7.out (by decide)); clear ho hg)
              go_roundw
              case rel => exact ⟨ix1, Dn ++ [⟨ByteArray.empty, (pr : Int), es⟩], s5, by go_num, Lib.hid ⟨by rw [List.length_append, HDl.out]; exact HIx.out, by have := HIx.out; subst this; exact HNx.out⟩, HP8.out.1, HP8.out.2, HZ8.out⟩
              case measure => simp [intOf]; have := HIx.out; omega
            · rw [show okRB n (pr : Int) es = false from decide_eq_false hok] at HBel
              have HNone := Lib.hid (HE1.out (if_neg (fun h => hok h.2)))
              have herb : ((er : Int) != 0) = false := by rw [her]; rfl
              clear her hok
              go_wp2_with fail
              refine (HBel.out _ (HRe.out.below HBn.out)).mono ?_; rintro e w6 ⟨rfl, hb6⟩
              have HL6 := Lib.hid (low_more HL5.out (low_more HBn.out hb6))
              clear hb6 ch5
              go_wp2_with fail
              go_ret2
              exact ⟨.slice none 0 0, by rw [HNone.out]; rfl, by rw [HNone.out]; exact OwnLi.nil _ _, HL6.out⟩
          · have HNone := Lib.hid (HE1.out (if_neg (fun h => her h.1)))
            have herb : ((er : Int) != 0) = true := bne_iff_ne.2 her
            have HL6 := Lib.hid (low_more HL5.out HBn.out)
            clear her
            go_wp2_with fail
            go_ret2
            exact ⟨.slice none 0 0, by rw [HNone.out]; rfl, by rw [HNone.out]; exact OwnLi.nil _ _, HL6.out⟩
      · obtain rfl : ix = tt := by omega
        have HSome := Lib.hid (show P = some Dn from by
          have := HRest.out.2
          unfold RestI at this
          rw [this, List.drop_eq_nil_of_le (by rw [HHl.out]; exact Nat.le_refl _)]
          show Option.map _ (if (C.length : Int) = C.length then some [] else none) = _
          rw [if_pos rfl]
          simp)
        clear hown hlow hrz hoz
        go_wp2_with fail
        go_ret2
        exact ⟨_, by rw [HSome.out]; rfl, by rw [HSome.out]; exact HO.out, HL.out⟩
end Go.Proofs.Ytpmhkmakkeckkaa

namespace Go.Proofs.Ytpmhkmakkeckkaa
open Go.RowKit Go.Shelf Go.Deep

attribute [local go_sem] Oper.semAt_some

set_option maxRecDepth 100000 in
theorem results_tmp3 {P : Program} {fn : Func} {p q r : Tmp} (h : fn.results = #[.tmp p, .tmp q, .tmp r]) (tmps : Array Value) (w : World) : (results fn tmps).run P w = .ok (.tuple #[tmps.getD p undef, tmps.getD q undef, tmps.getD r undef]) w := by
  simp [results, h]
def row4 (F : List Nat) (k : Nat) : List Nat := [F.getD (4 * k) 0, F.getD (4 * k + 1) 0, F.getD (4 * k + 2) 0, F.getD (4 * k + 3) 0]
def rowsF (F : List Nat) (ks : List Nat) : List Nat := ks.flatMap (row4 F)
set_option maxRecDepth 100000 in
theorem rowsF_snoc (F : List Nat) (ks : List Nat) (k : Nat) : rowsF F (ks ++ [k]) = rowsF F ks ++ row4 F k := by simp [rowsF]
set_option maxRecDepth 100000 in
theorem rowsF_range {F : List Nat} {n : Nat} (hF : F.length = 4 * n) : ∀ i, i ≤ n → rowsF F (List.range i) = F.take (4 * i)
  | 0, _ => by simp [rowsF]
  | i + 1, h => by
    obtain ⟨a, b, c, d, h1, h2, h3, h4, h5⟩ := take4 hF (show i < n by omega)
    rw [List.range_succ, rowsF_snoc, rowsF_range hF i (by omega), h5]
    unfold row4
    simp only [List.getD_eq_getElem?_getD, h1, h2, h3, h4, Option.getD_some]
structure RwI (W w2 : World) (b1 M : Nat) (F : List Nat) (pre : List (PartU4 M)) (w : World) : Prop where
  mod : Mod (fun k => k = b1) w2 w
  low : Below W.heap.size W w
  vars : ∃ vc n, pre.length = n ∧ Boxed w b1 22 vc ∧ w.ownsRow w2.heap.size 54 4 vc n (numC .u32 (rowsF F (pre.map (·.1))))
set_option maxRecDepth 100000 in
theorem rwI_own {W w2 : World} {b1 M : Nat} {F : List Nat} (hW : W.heap.size ≤ w2.heap.size) : OwnFrom w2.heap.size (RwI W w2 b1 M F) := by
  rintro s X Y row ⟨hm, hl, vc, n, h0, h1, h2⟩ hg hr
  have hr2 : ∀ r, row = some r → ∃ o : Obj, X.heap[r]? = some o ∧ o.isCells = false := fun r e => (hr r e).2
  exact ⟨hm.grown hg (fun k hk => .inl (hr k hk).1), hl.grown hg hl.size (fun k hk => Nat.le_trans hW (hr k hk).1), vc, n, h0, box_turn h1 hg hr2, own_turn h2 hg hr2⟩
def rdE (o : Option (List Nat × List Li)) : Int := if o.isSome then 0 else 11
def rdF (o : Option (List Nat × List Li)) : List Nat := (o.getD ([], [])).1
def rdL (o : Option (List Nat × List Li)) : List Li := (o.getD ([], [])).2
set_option maxRecDepth 100000 in
theorem OwnE.turn {W W' : World} {row : Option Nat} {base : Nat} {v : Value} {l : List En} (h : OwnE W base v l) (hg : W.grownBy W' row) (hrow : ∀ r, row = some r → ∃ o : Obj, W.heap[r]? = some o ∧ o.isCells = false) : OwnE W' base v l := by
  obtain ⟨ps, h1, h2, h3⟩ := h
  refine ⟨ps, h1, own_turn h2 hg hrow, fun j e hj => ?_⟩
  obtain ⟨u, h4, h5⟩ := h3 j e hj
  exact ⟨u, h4, own_turn h5 hg hrow⟩
set_option maxRecDepth 100000 in
theorem OwnLi.turn {W W' : World} {row : Option Nat} {base : Nat} {v : Value} {L : List Li} (h : OwnLi W base v L) (hg : W.grownBy W' row) (hrow : ∀ r, row = some r → ∃ o : Obj, W.heap[r]? = some o ∧ o.isCells = false) : OwnLi W' base v L := by
  obtain ⟨ps, h1, h2, h3⟩ := h
  refine ⟨ps, h1, own_turn h2 hg hrow, fun j e hj => ?_⟩
  obtain ⟨u, h4, h5⟩ := h3 j e hj
  exact ⟨u, h4, h5.turn hg hrow⟩
set_option maxRecDepth 100000 in
theorem OwnLi.base {w : World} {b b2 : Nat} {v : Value} {L : List Li} (h : OwnLi w b2 v L) (hb : b ≤ b2) : OwnLi w b v L := by
  obtain ⟨ps, h1, h2, h3⟩ := h
  refine ⟨ps, h1, own_base h2 hb, fun j e hj => ?_⟩
  obtain ⟨u, h4, h5⟩ := h3 j e hj
  exact ⟨u, h4, h5.base hb⟩
/-- What Read answers. -/
def ReadDone (W : World) (o : Option (List Nat × List Li)) (e : Ending) (w' : World) : Prop := ∃ v1 v2 n, e = .returned (.tuple #[v1, v2, .int .i64 (rdE o)]) ∧ OwnRw w' W.heap.size v1 n (rdF o) ∧ OwnLi w' W.heap.size v2 (rdL o) ∧ Below W.heap.size W w'
set_option maxRecDepth 100000 in
theorem ReadDone.no {W w' : World} {o : Option (List Nat × List Li)} {e : Ending} (ho : o = none) (he : e = .returned (.tuple #[.slice none 0 0, .slice none 0 0, .int .i64 11])) (hb : Below W.heap.size W w') : ReadDone W o e w' := by
  subst ho he
  exact ⟨_, _, 0, rfl, OwnRw.nil _ _, OwnLi.nil _ _, hb⟩

set_option maxRecDepth 100000 in
set_option maxHeartbeats 4000000 in
theorem lands_Read14 (W : World) (at_ : Int) (oa : Option Addr) (c N : Nat) (C : List Nat) (en : C.length = N) (ha : ReadN .u32 W oa C) (hc : N ≤ c) (hm : c ≤ maxLen) (hl : N ≤ 200000) (hx : ∀ x ∈ C, x < 4294967296) :
    Calls Try.prog 16 #[.int .i64 at_, .slice oa N c] W fun e w' => ReadDone W (readI at_ C) e w' := by
  refine (callsIn_wide (n := 5)).1 ?_
  refine callsIn_of_wp_marks Try.func16 rfl trivial ?_ rfl
  simp only [Try.ntmps16, List.size_toArray, List.length_cons, List.length_nil, Nat.reduceAdd, Nat.reduceSub, Array.replicate_succ, Array.replicate_zero, List.push_toArray, List.append_toArray, List.nil_append, List.cons_append]
  have HStand := Lib.hid (fun w => lands_stands w at_)
  refine wpIn_wide.2 ?_
  by_cases h1 : 0 ≤ at_ ∧ at_ ≤ 65536
  case neg =>
    have HSt := Lib.hid (show standsB at_ = false from decide_eq_false h1)
    have HNo := Lib.hid (show readI at_ C = none from if_pos (.inl (by unfold badI; omega)))
    rw [HSt.out] at HStand
    clear ha hx h1 en
    go_wp2_with fail
    refine (HStand.out _).mono ?_; rintro e w1 ⟨rfl, hw⟩
    subst hw
    go_wp2_with fail
    refine ⟨_, results_tmp3 rfl _ _, ?_⟩
    exact ReadDone.no HNo.out rfl (Below.refl _ _)
  have HSt := Lib.hid (show standsB at_ = true from decide_eq_true h1)
  rw [HSt.out] at HStand
  have HAt := Lib.hid h1
  by_cases h2 : 2 ≤ N
  case neg =>
    have HNo := Lib.hid (show readI at_ C = none from if_pos (.inl (by unfold badI; omega)))
    have h2i : (N : Int) < 2 := by omega
    clear ha hx h1 en
    go_wp2_with fail
    refine (HStand.out _).mono ?_; rintro e w1 ⟨rfl, hw⟩
    subst hw
    go_wp2_with fail
    refine ⟨_, results_tmp3 rfl _ _, ?_⟩
    exact ReadDone.no HNo.out rfl (Below.refl _ _)
  have h2i : ¬ (N : Int) < 2 := by omega
  obtain ⟨x0, hx0⟩ : ∃ x, C[0]? = some x := ⟨_, List.getElem?_eq_getElem (by omega)⟩
  obtain ⟨x1, hx1⟩ : ∃ x, C[1]? = some x := ⟨_, List.getElem?_eq_getElem (by omega)⟩
  have e0 : C.getD 0 0 = x0 := by rw [List.getD_eq_getElem?_getD, hx0]; rfl
  have e1 : C.getD 1 0 = x1 := by rw [List.getD_eq_getElem?_getD, hx1]; rfl
  have hb0 : x0 < 4294967296 := hx x0 (List.mem_of_getElem? hx0)
  have hb1 : x1 < 4294967296 := hx x1 (List.mem_of_getElem? hx1)
  obtain ⟨g, oo, hoa, c0⟩ := ha 0 x0 hx0
  obtain ⟨_, _, hq, c1⟩ := ha 1 x1 hx1
  rw [hoa] at hq
  injection hq with hq
  injection hq with hq1 hq2
  subst hq1 hq2 hoa
  rw [Nat.add_zero] at c0
  have h2n : 0 < N := by omega
  have h2m : 1 < N := by omega
  by_cases h3 : x0 < 1
  case pos =>
    have HNo := Lib.hid (show readI at_ C = none from if_pos (.inl (by unfold badI; omega)))
    have h3i : (x0 : Int) < 1 := by omega
    clear ha hx h1 en hx0 hx1 e0 e1
    go_wp2_with fail
    refine (HStand.out _).mono ?_; rintro e w1 ⟨rfl, hw⟩
    subst hw
    go_wp2_with fail
    refine ⟨_, results_tmp3 rfl _ _, ?_⟩
    exact ReadDone.no HNo.out rfl (Below.refl _ _)
  have h3i : ¬ (x0 : Int) < 1 := by omega
  by_cases h4 : 65 < x0
  case pos =>
    have HNo := Lib.hid (show readI at_ C = none from if_pos (.inl (by unfold badI; omega)))
    have h4i : (65 : Int) < (x0 : Int) := by omega
    clear ha hx h1 en hx0 hx1 e0 e1
    go_wp2_with fail
    refine (HStand.out _).mono ?_; rintro e w1 ⟨rfl, hw⟩
    subst hw
    go_wp2_with fail
    refine ⟨_, results_tmp3 rfl _ _, ?_⟩
    exact ReadDone.no HNo.out rfl (Below.refl _ _)
  have h4i : ¬ (65 : Int) < (x0 : Int) := by omega
  by_cases h5 : 256 < x1
  case pos =>
    have HNo := Lib.hid (show readI at_ C = none from if_pos (.inl (by unfold badI; omega)))
    have h5i : (256 : Int) < (x1 : Int) := by omega
    clear ha hx h1 en hx0 hx1 e0 e1
    go_wp2_with fail
    refine (HStand.out _).mono ?_; rintro e w1 ⟨rfl, hw⟩
    subst hw
    go_wp2_with fail
    refine ⟨_, results_tmp3 rfl _ _, ?_⟩
    exact ReadDone.no HNo.out rfl (Below.refl _ _)
  have h5i : ¬ (256 : Int) < (x1 : Int) := by omega
  obtain ⟨n, hn⟩ : ∃ n, x0 - 1 = n := ⟨_, rfl⟩
  have n1 : (x0 : Int) - 1 = (n : Int) := by omega
  have n2 : IntKind.u32.wrap ((x0 : Int) - 1) = (n : Int) := by rw [n1]; exact IntWalk.u32_in _ (by omega)
  have n3 : IntKind.i64.wrap (n : Int) = (n : Int) := IntWalk.i64_in _ (by omega)
  have n4 : IntKind.i64.wrap (x1 : Int) = (x1 : Int) := IntWalk.i64_in _ (by omega)
  have n5 : IntKind.u32.wrap (n : Int) = (n : Int) := IntWalk.u32_in _ (by omega)
  have hnb : n ≤ 64 := by omega
  have htb : x1 ≤ 256 := by omega
  obtain ⟨k, hk⟩ : ∃ k, 2 + 4 * n + 2 * x1 = k := ⟨_, rfl⟩
  obtain ⟨hh, hhh⟩ : ∃ h, 2 + 4 * n = h := ⟨_, rfl⟩
  have HA1 := Lib.hid (fun w => lands_ahead w n 0 hh (by omega) (by omega) (by omega))
  have HA2 := Lib.hid (fun w => lands_ahead w n x1 k (by omega) (by omega) (by omega))
  have hah : aheadI C = k := by unfold aheadI; rw [e0, e1, hn]; exact hk
  have HBadI := Lib.hid (show ¬ badI at_ C from by unfold badI; rw [e0, e1]; omega)
  have d0 : ∀ m : Nat, (W.drewN m).cell? ⟨g, oo, none⟩ = some (.int .u32 (x0 : Int)) := fun _ => c0
  have d1 : ∀ m : Nat, (W.drewN m).cell? ⟨g, oo + 1, none⟩ = some (.int .u32 (x1 : Int)) := fun _ => c1
  by_cases h6 : N < k
  case pos =>
    have HNo := Lib.hid (show readI at_ C = none from if_pos (.inr (by omega)))
    have h6i : (N : Int) < (k : Int) := by omega
    clear ha hx h1 en hx0 hx1 e0 e1 hn n1 hk hhh hah h3 h4 h5 h2
    go_wp2_with fail
    refine (HStand.out _).mono ?_; rintro e w1 ⟨rfl, hw⟩
    subst hw
    go_wp2_with fail
    go_quiet (fail)
    rename Nat => nq
    clear d0 d1
    have HBq := Lib.hid (below_drawn (Below.refl w1.heap.size w1) nq)
    generalize w1.drewN nq = wd at HBq ⊢
    go_wp2_with fail
    refine (HA2.out _).mono ?_; rintro e w2 ⟨rfl, hw⟩
    subst hw
    go_wp2_with fail
    refine ⟨_, results_tmp3 rfl _ _, ?_⟩
    exact ReadDone.no HNo.out rfl HBq.out
  have h6i : ¬ (N : Int) < (k : Int) := by omega
  obtain ⟨M, hM⟩ : ∃ M, 4 * n = M := ⟨_, rfl⟩
  obtain ⟨F, hF⟩ : ∃ F, (C.drop 2).take M = F := ⟨_, rfl⟩
  have hFl : F.length = 4 * n := by rw [← hF, List.length_take, List.length_drop]; omega
  obtain ⟨P, hP⟩ : ∃ P, partsR at_ n C (pairsI C hh x1) (k : Int) = P := ⟨_, rfl⟩
  have HRd := Lib.hid (show readI at_ C = P.map (fun L => (F, L)) from by
    unfold readI
    rw [if_neg (by rintro (c | c); exact HBadI.out c; omega), e0, e1, hn, hah, hhh, hP, hM, hF]
    cases P <;> rfl)
  have HRead := Lib.hid (fun (w : World) (h : ReadN .u32 w (some ⟨g, oo, none⟩) C) => lands_read14 w at_ (some ⟨g, oo, none⟩) c N n x1 k C en h hc hm hl hx h1.1 h1.2 hnb htb hk (by omega))
  rw [hhh, hP] at HRead
  obtain ⟨oh, dh, hs, hs1, _, hs3⟩ := slice32_part N c 2 M hh en (by omega) (by omega) hc hm ha
  rw [hF] at hs3
  have hs : ∀ w : World, (Instr.slice 26 (.slice (some ⟨g, oo, none⟩) N c) (some (.int .i64 2)) (some (.int .i64 (hh : Int))) none).run Try.prog w = .ok (.slice oh M dh) w := hs
  have g2 : decide ((N : Int) < 2) = false := decide_eq_false h2i
  have g3 : decide ((x0 : Int) < 1) = false := decide_eq_false h3i
  have g4 : decide ((65 : Int) < (x0 : Int)) = false := decide_eq_false h4i
  have g5 : decide ((256 : Int) < (x1 : Int)) = false := decide_eq_false h5i
  have g6 : decide ((N : Int) < (k : Int)) = false := decide_eq_false h6i
  have HRh := Lib.hid hs3
  have HA := Lib.hid ha
  have HFl := Lib.hid (show F.length = M by omega)
  have HMn := Lib.hid (show M = 4 * n by omega)
  have HFx := Lib.hid (show ∀ x ∈ F, x < 4294967296 from fun x h => hx x (by rw [← hF] at h; exact List.mem_of_mem_drop (List.mem_of_mem_take h)))
  obtain ⟨iR, eR0, eR1, eR2, eR3⟩ := info_parts info_row
  have HIR := Lib.hid (And.intro eR0 (And.intro eR1 (And.intro eR2 eR3)))
  have hMb : M ≤ 256 := by omega
  have HSl := Lib.hid hs
  clear ha hx h1 en hx0 hx1 e0 e1 hn n1 hk hhh hah h3 h4 h5 h2 hM hF hP hFl hs3 eR0 eR1 eR2 eR3
  go_wp2_with fail
  refine (HStand.out _).mono ?_; rintro e w1 ⟨rfl, hw⟩
  subst hw
  go_wp2_with fail
  go_quiet (fail)
  rename Nat => nq
  clear d0 d1 c0 c1
  have hBq := below_drawn (Below.refl w1.heap.size w1) nq
  have hBq2 : (w1.drewN nq).heap.size = w1.heap.size := rfl
  generalize w1.drewN nq = wd at hBq hBq2 ⊢
  go_wp2_with fail
  refine (HA2.out _).mono ?_; rintro e w2 ⟨rfl, hw⟩
  subst hw
  go_wp2_with fail
  refine (HA1.out _).mono ?_; rintro e w3 ⟨rfl, hw⟩
  subst hw
  go_wp2_with fail
  refine callsIn_wide.1 ((chunkU4_in 5 oh M dh _).mono ?_); rintro e w4 ⟨rfl, hw4⟩
  obtain ⟨wB, hwB⟩ : ∃ wB, wB = w2.alloc (.cells #[.slice none 0 0] 22) := ⟨_, rfl⟩
  have hs3 : wB.heap.size = w2.heap.size + 1 := by rw [hwB]; simp
  have hlowB : Below w1.heap.size w1 wB := by rw [hwB]; exact hBq.alloc hBq.size _
  have bC : Boxed wB w1.heap.size 22 (.slice none 0 0) := by rw [hwB, ← hBq2]; exact heap_alloc_new w2 _
  rw [← hwB] at hw4 ⊢
  have bS : Boxed w4 wB.heap.size 26 (.slice oh M dh) := by rw [hw4]; exact heap2_0 wB _ _
  have bN : Boxed w4 (wB.heap.size + 1) 3 (.int .i64 4) := by rw [hw4]; exact heap2_1 wB _ _
  have hb2 : Below wB.heap.size wB w4 := by rw [hw4]; exact below_al2
  have hs4 : w4.heap.size = wB.heap.size + 2 := by rw [hw4]; simp
  have bC2 : Boxed w4 w1.heap.size 22 (.slice none 0 0) := block_below bC hb2
  have hlow := low_more hlowB hb2
  clear bC
  obtain ⟨b1, hb1⟩ : ∃ b1, b1 = w1.heap.size := ⟨_, rfl⟩
  obtain ⟨bs, hbs⟩ : ∃ bs, bs = wB.heap.size := ⟨_, rfl⟩
  obtain ⟨bn, hbn⟩ : ∃ bn, bn = wB.heap.size + 1 := ⟨_, rfl⟩
  rw [← hb1] at bC2
  rw [← hbs] at bS
  rw [← hbn] at bN
  have hD := (show b1 < bs ∧ bs < bn ∧ bn < w4.heap.size ∧ w1.heap.size ≤ b1 by omega)
  rw [← hb1, ← hbs, show bs + 1 = bn by omega]
  have HI := Lib.hid (show RwI w1 w4 b1 M F [] w4 from ⟨Mod.refl _ _, hlow, .slice none 0 0, 0, rfl, bC2, World.ownsRow_nil _ _ _ _⟩)
  have HBx := Lib.hid (And.intro bS bN)
  have HD := Lib.hid hD
  clear hwB hs3 hlowB hw4 bS bN hb2 hs4 bC2 hlow hb1 hbs hbn hBq hBq2 hD hs
  go_wp2_with fail
  obtain ⟨gh, ohh, hgo⟩ : ∃ gh ohh, 0 < M → oh = some ⟨gh, ohh, none⟩ := by
    by_cases h0 : 0 < M
    · obtain ⟨gh, ohh, h, _⟩ := HRh.out 0 _ (List.getElem?_eq_getElem (by rw [HFl.out]; exact h0))
      exact ⟨gh, ohh, fun _ => h⟩
    · exact ⟨0, 0, fun h => absurd h h0⟩
  have HGO := Lib.hid hgo
  clear hgo
  refine (wpIn_wide (n := 5)).1 ?_
  refine wpIn_rangeFunc_ownG rfl (by omega) (gf := 41) (lb := #[.pointer (some ⟨bs, 0, none⟩), .pointer (some ⟨bn, 0, none⟩)]) rfl trivial (enters_of Try.func41 (by kernel_rfl) rfl)
    (chunkU4_stops 4 (by omega) bs bn oh gh ohh M dh HGO.out hs1 (by omega) w4 HBx.out.1 HBx.out.2) (fun h k => ⟨Nat.le_trans h.1 k.1, k.2.1.trans h.2.1, k.2.2.trans h.2.2⟩)
    (fun W' l' o1 o2 hl' h _ _ => ⟨(grownBy_putObj' W' l' o2).size, World.putObj_heap_other (by have := HD.out; omega), World.putObj_heap_other (by have := HD.out; omega)⟩) (Below.refl _ _) (fun _ => rfl)
    (RwI w1 w4 b1 M F) (fun _ _ _ => False) (rwI_own (by have := HD.out; omega)) (fun _ _ _ _ _ hs _ _ => hs) HI.out
    (fun x => { tmps := #[.int .i64 at_, .slice (some ⟨g, oo, none⟩) N c, undef, undef, .slice none 0 0, .slice none 0 0, .int .i64 0, .int .i64 (n : Int), .int .i64 (x1 : Int), .pointer (some ⟨b1, 0, none⟩), partU4 gh ohh M x.1, undef, undef, .int .i64 at_, .bool true, .bool false, .bool false, .slice (some ⟨g, oo, none⟩) N c, .int .i64 (N : Int), .bool false, .bool false, .bool false, .slice (some ⟨g, oo, none⟩) N c, .pointer (some ⟨g, oo, none⟩), .int .u32 (x0 : Int), .bool false, .bool false, .bool false, .slice (some ⟨g, oo, none⟩) N c, .pointer (some ⟨g, oo, none⟩), .int .u32 (x0 : Int), .bool false, .bool false, .bool false, .slice (some ⟨g, oo, none⟩) N c, .pointer (some ⟨g, oo + 1, none⟩), .int .u32 (x1 : Int), .bool false, .bool false, .slice (some ⟨g, oo, none⟩) N c, .pointer (some ⟨g, oo, none⟩), .int .u32 (x0 : Int), .int .u32 (n : Int), .int .i64 (n : Int), .slice (some ⟨g, oo, none⟩) N c, .pointer (some ⟨g, oo + 1, none⟩), .int .u32 (x1 : Int), .int .i64 (x1 : Int), .int .i64 (n : Int), .int .i64 (x1 : Int), .int .i64 (k : Int), .slice (some ⟨g, oo, none⟩) N c, .int .i64 (N : Int), .bool false, .slice (some ⟨g, oo, none⟩) N c, .int .i64 (n : Int), .int .i64 (hh : Int), .slice oh M dh, .func (.func 41) #[] #[.pointer (some ⟨bs, 0, none⟩), .pointer (some ⟨bn, 0, none⟩)], partU4 gh ohh M x.1, undef, undef, undef, undef, undef, undef, undef, undef, undef, undef, undef, undef, undef, undef, undef, undef, undef, undef, undef, undef, undef, undef, undef, undef, undef, undef, undef, undef], defers := [] }) ?assign ?body ?done ?stop
  case assign =>
    intro l' x W' K hK
    gi_wp2
    exact hK
  case stop =>
    rintro D c' pre W' _ _ h _
    exact h.elim
  case body =>
    rintro l' pre ⟨kx, hk⟩ W' ⟨hmod, hlow, vc, nn, hpn, hbox, hown⟩ hlt
    have hM4 := HMn.out
    obtain ⟨off, hoff⟩ : ∃ off, off = ohh + 4 * kx := ⟨_, rfl⟩
    have hpv : partU4 gh ohh M kx = .slice (some ⟨gh, off, none⟩) 4 4 := by unfold partU4; rw [hoff, show min 4 (M - 4 * kx) = 4 by omega]
    obtain ⟨xa, xb, xc, xd, f0, f1, f2, f3, _⟩ := take4 (F := F) (n := n) (by rw [HFl.out, hM4]) (show kx < n by omega)
    obtain ⟨_, _, hg0, k0⟩ := HRh.out _ _ f0
    rw [HGO.out (by omega)] at hg0
    injection hg0 with hg0; injection hg0 with hg1 hg2; subst hg1 hg2
    obtain ⟨_, _, hg0, k1⟩ := HRh.out _ _ f1
    rw [HGO.out (by omega)] at hg0
    injection hg0 with hg0; injection hg0 with hg1 hg2; subst hg1 hg2
    obtain ⟨_, _, hg0, k2⟩ := HRh.out _ _ f2
    rw [HGO.out (by omega)] at hg0
    injection hg0 with hg0; injection hg0 with hg1 hg2; subst hg1 hg2
    obtain ⟨_, _, hg0, k3⟩ := HRh.out _ _ f3
    rw [HGO.out (by omega)] at hg0
    injection hg0 with hg0; injection hg0 with hg1 hg2; subst hg1 hg2
    rw [← hoff] at k0
    rw [show ohh + (4 * kx + 1) = off + 1 by omega] at k1
    rw [show ohh + (4 * kx + 2) = off + 2 by omega] at k2
    rw [show ohh + (4 * kx + 3) = off + 3 by omega] at k3
    have HRw := Lib.hid (show row4 F kx = [xa, xb, xc, xd] by unfold row4; simp only [List.getD_eq_getElem?_getD, f0, f1, f2, f3, Option.getD_some])
    have HP := Lib.hid hpn
    have hnb2 : nn ≤ 64 := by rw [← hpn]; omega
    obtain ⟨xs, hxs⟩ : ∃ xs, numC .u32 (rowsF F (pre.map (·.1))) = xs := ⟨_, rfl⟩
    rw [hxs] at hown
    have HXs := Lib.hid hxs
    have HReg := Lib.hid (show RowReg w1 W' w4 b1 22 54 4 nn vc xs [.int .u32 (xa : Int), .int .u32 (xb : Int), .int .u32 (xc : Int), .int .u32 (xd : Int)] false false false false 0 undef W'.drew from RowReg.start (KeepsOthers.drew _) hlow.drew hmod.drew hbox (owned_below hown (Below.refl _ _).drew))
    have HCx := Lib.hid (And.intro k0 (And.intro k1 (And.intro k2 k3)))
    have HMod0 := Lib.hid hmod
    have hbw : w1.heap.size ≤ w4.heap.size := by have := HD.out; omega
    have hb1w : b1 < w4.heap.size := by have := HD.out; omega
    have hb1W : w1.heap.size ≤ b1 := by have := HD.out; omega
    have hsl : ∃ ov cv, vc = .slice ov nn cv := by
      rcases hown.2 with ⟨h, h2⟩ | ⟨gq, cq, cur, h, _⟩
      · exact ⟨none, 0, by rw [h, h2]⟩
      · exact ⟨_, _, h⟩
    obtain ⟨ov, cv, rfl⟩ := hsl
    have HSz := Lib.hid (And.intro hbw (And.intro hb1w hb1W))
    clear hM4 hoff f0 f1 f2 f3 k0 k1 k2 k3 hpn hxs hmod hlow hbox hown hbw hb1w hb1W
    dsimp only
    rw [hpv]
    clear hpv
    gi_wp2
    refine wpIn_region_cl (fun (p : Nat × Value) jz => [.slice ov nn cv, .slice (some ⟨gh, off, none⟩) 4 4, .pointer (some ⟨gh, off, none⟩), .int .u32 (xa : Int), .slice (some ⟨gh, off, none⟩) 4 4, .pointer (some ⟨gh, off + 1, none⟩), .int .u32 (xb : Int), .slice (some ⟨gh, off, none⟩) 4 4, .pointer (some ⟨gh, off + 2, none⟩), .int .u32 (xc : Int), .slice (some ⟨gh, off, none⟩) 4 4, .pointer (some ⟨gh, off + 3, none⟩), .int .u32 (xd : Int), .agg #[.int .u32 (xa : Int), .int .u32 (xb : Int), .int .u32 (xc : Int), .int .u32 (xd : Int)], .slice (some ⟨p.1, 0, none⟩) 1 1, p.2, undef].getD jz undef)
      (fun p l wx => RowReg w1 W' w4 b1 22 54 4 nn (.slice ov nn cv) xs [.int .u32 (xa : Int), .int .u32 (xb : Int), .int .u32 (xc : Int), .int .u32 (xd : Int)] (l 0) (l 14) (l 15) (l 16) p.1 p.2 wx ∧ (l 15 = true → ∃ g9 c9, p.2 = .slice (some ⟨g9, 0, none⟩) (nn + 1) c9))
      (by kernel_rfl) (by kernel_rfl) (by kernel_rfl) (fun q => by simp only [putTo, dstOf, Act.put, List.size_toArray, List.length_cons, List.length_nil, List.getElem?_toArray, Nat.reduceAdd, Option.bind_some, List.getElem?_cons_zero, List.getElem?_cons_succ, List.setIfInBounds_toArray, List.set_cons_zero, List.set_cons_succ, List.getD_cons_zero, List.getD_cons_succ]; exact rfl) (0, undef) ?_ ?_ ?_
    · exact ⟨HReg.out, fun h => (by cases h)⟩
    · intro i o ho p l wx hR hl he hcl K hK
      rcases i with _ | _ | _ | _ | _ | _ | _ | _ | _ | _ | _ | _ | _ | _ | _ | _ | _ | i
      · obtain rfl : _ = o := Option.some.inj ho
        have hld := hR.1.loaded hl
        have q := hld.2
        have HR := Lib.hid (And.intro hld.1 hR.2)
        clear hR hld
        go_simp
        exact hK p wx (fun _ _ => rfl) HR.out
      · obtain rfl : _ = o := Option.some.inj ho
        have HR := Lib.hid hR
        clear hR
        go_simp
        exact hK p wx (fun _ _ => rfl) HR.out
      · obtain rfl : _ = o := Option.some.inj ho
        have HR := Lib.hid hR
        clear hR
        go_simp
        exact hK p wx (fun _ _ => rfl) HR.out
      · obtain rfl : _ = o := Option.some.inj ho
        have q := below_cell HCx.out.1 hR.1.low
        have HR := Lib.hid hR
        clear hR
        go_simp
        exact hK p wx (fun _ _ => rfl) HR.out
      · obtain rfl : _ = o := Option.some.inj ho
        have HR := Lib.hid hR
        clear hR
        go_simp
        exact hK p wx (fun _ _ => rfl) HR.out
      · obtain rfl : _ = o := Option.some.inj ho
        have HR := Lib.hid hR
        clear hR
        go_simp
        exact hK p wx (fun _ _ => rfl) HR.out
      · obtain rfl : _ = o := Option.some.inj ho
        have q := below_cell HCx.out.2.1 hR.1.low
        have HR := Lib.hid hR
        clear hR
        go_simp
        exact hK p wx (fun _ _ => rfl) HR.out
      · obtain rfl : _ = o := Option.some.inj ho
        have HR := Lib.hid hR
        clear hR
        go_simp
        exact hK p wx (fun _ _ => rfl) HR.out
      · obtain rfl : _ = o := Option.some.inj ho
        have HR := Lib.hid hR
        clear hR
        go_simp
        exact hK p wx (fun _ _ => rfl) HR.out
      · obtain rfl : _ = o := Option.some.inj ho
        have q := below_cell HCx.out.2.2.1 hR.1.low
        have HR := Lib.hid hR
        clear hR
        go_simp
        exact hK p wx (fun _ _ => rfl) HR.out
      · obtain rfl : _ = o := Option.some.inj ho
        have HR := Lib.hid hR
        clear hR
        go_simp
        exact hK p wx (fun _ _ => rfl) HR.out
      · obtain rfl : _ = o := Option.some.inj ho
        have HR := Lib.hid hR
        clear hR
        go_simp
        exact hK p wx (fun _ _ => rfl) HR.out
      · obtain rfl : _ = o := Option.some.inj ho
        have q := below_cell HCx.out.2.2.2 hR.1.low
        have HR := Lib.hid hR
        clear hR
        go_simp
        exact hK p wx (fun _ _ => rfl) HR.out
      · obtain rfl : _ = o := Option.some.inj ho
        have HR := Lib.hid hR
        clear hR
        go_simp
        exact hK p wx (fun _ _ => rfl) HR.out
      · obtain rfl : _ = o := Option.some.inj ho
        have HR := Lib.hid hR
        clear hR
        have h8 : l 15 = false := by
          cases h : l 15 with
          | false => rfl
          | true => exact absurd (HR.out.1.o87 h) (by rw [hl]; decide)
        have h9 : l 16 = false := by
          cases h : l 16 with
          | false => rfl
          | true => exact absurd (HR.out.1.o98 h) (by rw [h8]; decide)
        have HM := Lib.hid (HR.out.1.made hl _ rfl)
        go_simp
        refine hK (wx.heap.size, p.2) _ (fun j hj => ?_) ⟨HM.out, HR.out.2⟩
        rcases j with _ | _ | _ | _ | _ | _ | _ | _ | _ | _ | _ | _ | _ | _ | _ | _ | _ | j
        all_goals first | rfl | (rw [hl] at hj; cases hj) | (rw [h8] at hj; cases hj)
      · obtain rfl : _ = o := Option.some.inj ho
        have h7 : l 14 = true := he ⟨14, .data⟩ (by simp) rfl
        have h0 : l 0 = true := he ⟨0, .data⟩ (by simp) rfl
        have hlit := (hR.1.lit h7).resolve_right (by rw [hl]; decide)
        have hcells : ∀ (j : Nat) (u : Value), ([.int .u32 (xa : Int), .int .u32 (xb : Int), .int .u32 (xc : Int), .int .u32 (xd : Int)] : List Value)[j]? = some u → wx.cell? ((⟨p.1, 0, none⟩ : Addr).add j) = some u := fun j u hj => by
          rw [Addr.add_lit, cell_at hlit]
          simpa using hj
        have hsz : w4.heap.size ≤ wx.heap.size := hR.1.mod.size
        have HR := Lib.hid hR
        clear hR
        refine wp_append_own wx (.tmp 60) (.tmp 74) 22 rfl w4.heap.size 54 iR _ 4 16 Try.underlying22 HIR.out.1 HIR.out.2.1 HIR.out.2.2.1 HIR.out.2.2.2 rfl (by decide) _ nn xs rfl (HR.out.1.own hl) ⟨p.1, 0, none⟩ 1 1 [.int .u32 (xa : Int), .int .u32 (xb : Int), .int .u32 (xc : Int), .int .u32 (xd : Int)] rfl rfl hcells (by simp [Value.oneCell']) (by unfold maxLen; omega) (by omega) hsz ?_
        intro v' w' ho hg _
        obtain ⟨gq, cq, hq⟩ := slice_of (show 0 < nn + 1 by omega) ho
        have h9 : l 16 = false := by
          cases h : l 16 with
          | false => rfl
          | true => exact absurd (HR.out.1.o98 h) (by rw [hl]; decide)
        refine hK (p.1, v') w' (fun j hj => ?_) ⟨HR.out.1.put h0 h7 hl HSz.out.2.1 HSz.out.1 ho hg, fun _ => ⟨gq, cq, hq⟩⟩
        rcases j with _ | _ | _ | _ | _ | _ | _ | _ | _ | _ | _ | _ | _ | _ | _ | _ | _ | j
        all_goals first | rfl | (rw [hl] at hj; cases hj) | (rw [h9] at hj; cases hj)
      · obtain rfl : _ = o := Option.some.inj ho
        have h8 : l 15 = true := he ⟨15, .data⟩ (by simp) rfl
        obtain ⟨g9, c9, hq⟩ := hR.2 h8
        have hbx := hR.1.box hl
        have q := hbx.cell
        have f := hbx.frozen
        have HR := Lib.hid hR
        have H8 := Lib.hid h8
        clear hR hbx h8
        obtain ⟨p1, p2⟩ := p
        dsimp only at hq
        subst hq
        have HS := Lib.hid (HR.out.1.store H8.out hl (by decide) HSz.out.2.2)
        go_simp
        exact hK (p1, _) _ (fun _ _ => rfl) ⟨HS.out, HR.out.2⟩
      · simp at ho
    · intro p l wx hl hR
      have HE9 := Lib.hid hR.1
      have h8 := hl 15 (by decide)
      have h9 := hl 16 (by decide)
      have HB9 := Lib.hid (HE9.out.box2 h9)
      have HO9 := Lib.hid (HE9.out.own2 h8)
      clear hR hl h8 h9
      gi_wp2
      exact ⟨HE9.out.keep.from _, ⟨HE9.out.keep.size, (HE9.out.mod.block bs (by have := HD.out; omega) (by have := HD.out; omega)).trans (HMod0.out.block bs (by have := HD.out; omega) (by have := HD.out; omega)).symm, (HE9.out.mod.block bn (by have := HD.out; omega) (by have := HD.out; omega)).trans (HMod0.out.block bn (by have := HD.out; omega) (by have := HD.out; omega)).symm⟩, ⟨HE9.out.mod, HE9.out.low, _, nn + 1, by rw [List.length_append, HP.out]; rfl, HB9.out, by rw [List.map_append, List.map_singleton, rowsF_snoc, HRw.out, numC_append, HXs.out]; exact HO9.out⟩⟩
  case done =>
    rintro D ys W' hDl hys ⟨hmod, hlow, vc, nn, hpn, hbox, hown⟩ hK
    have hys2 : ys.map (·.1) = List.range n := by rw [hys]; congr 1; have := HMn.out; omega
    rw [hys2, rowsF_range (by rw [HFl.out, HMn.out]) n (Nat.le_refl _), List.take_of_length_le (by have := HFl.out; have := HMn.out; omega)] at hown
    have HOr := Lib.hid (show OwnRw W' w1.heap.size vc nn F from own_base hown (by have := HD.out; omega))
    have HBox := Lib.hid hbox
    have HLw := Lib.hid hlow
    have HK := Lib.hid hK
    have HDl := Lib.hid (Nat.le_trans (by have := HD.out; omega : w1.heap.size ≤ w4.heap.size) hDl)
    clear hmod hlow hbox hown hK hDl hpn hys hys2
    go_wp2_with fail
    refine (HRead.out _ (HA.out.below HLw.out)).mono ?_; rintro e w5 ⟨v5, rfl, ho5, hb5⟩
    have HO5 := Lib.hid (ho5.base HLw.out.size)
    have HR5 := Lib.hid (HOr.out.below hb5)
    have HL5 := Lib.hid (low_more HLw.out hb5)
    have HDd := Lib.hid ((hb5.block D (lt_of_heap HK.out)).trans HK.out)
    have hbx := block_below HBox.out hb5
    have cbx := cell_at hbx 0
    clear ho5 hb5 hbx
    cases P with
    | none =>
      rw [show rdOk (none : Option (List Li)) = false from rfl]
      go_wp2_with fail
      refine ⟨by simp, .inl ⟨_, _, rfl, run_takeDeferred HDd.out, ?_⟩⟩
      refine ⟨_, results_tmp3 rfl _ _, ?_⟩
      exact ReadDone.no HRd.out rfl (HL5.out.trans (belowK_b (w := w1) (Nat.le_refl _) _ D _ _ HDl.out HDd.out rfl rfl))
    | some L =>
      rw [show rdOk (some L) = true from rfl]
      have HRd2 := Lib.hid (show readI at_ C = some (F, L) from HRd.out)
      go_wp2_with fail
      refine ⟨by simp, .inl ⟨_, _, rfl, run_takeDeferred HDd.out, ?_⟩⟩
      refine ⟨_, results_tmp3 rfl _ _, vc, v5, nn, ?_, ?_, ?_, ?_⟩
      · rw [HRd2.out]; rfl
      · rw [HRd2.out]; exact own_turn HR5.out (grownBy_putObj' _ _ _) (fun r e => by injection e with e; subst e; exact ⟨_, HDd.out, rfl⟩)
      · rw [HRd2.out]; exact HO5.out.turn (grownBy_putObj' _ _ _) (fun r e => by injection e with e; subst e; exact ⟨_, HDd.out, rfl⟩)
      · exact HL5.out.trans (belowK_b (w := w1) (Nat.le_refl _) _ D _ _ HDl.out HDd.out rfl rfl)
end Go.Proofs.Ytpmhkmakkeckkaa
