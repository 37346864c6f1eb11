/-
  PROVED: the law MemPlays returns true for every n and ops. No condition.
-/
import Derived.Test.YtonckllhgnngdaaOps
import Derived.Test.YtonckllhgnngdaaMemRef
import Derived.Deep.CutBlock
import Derived.Deep.DeepCutAuto
namespace Go.Proofs.Ytonckllhgnngdaa.memPlays
open Go.ChangeShapes Go.WideShapes Go.ChangeAt Go.RowKit

/-- Behind i rounds: the memory (its record behind its cells, which lie in block x) and the reference's record (in block q) agree. -/
def Rel (w : World) (x q n i : Nat) (wr : World) : Prop := ∃ (cs : List Int) (log : List (Int × Int)) (l s : Int) (lv : Value), MemAt wr (x + 1) x cs l s ∧
  wr.heap[q]? = some (.cells #[.int .i64 n, lv, .int .i64 l] 30 (0, 0)) ∧ LogAt wr lv log ∧ Agrees cs log ∧ (log.length : Int) = s ∧ cs.length = n ∧ 0 ≤ l ∧ l ≤ i ∧ 0 ≤ s ∧ s ≤ i ∧ i ≤ 301 ∧
  w.heap.size ≤ x ∧ w.heap.size ≤ q ∧ q ≠ x ∧ q ≠ x + 1 ∧ Below w.heap.size w wr

theorem memAt_drawn {w : World} {b c : Nat} {cs : List Int} {l s : Int} (h : MemAt w b c cs l s) (n : Nat) : MemAt (w.drewN n) b c cs l s := ⟨h.rec_, h.row⟩
/-- A call that leaves the world alone is quiet, in a world behind draws. -/
theorem quiet_eq {P : Program} {f : FuncId} {args : Array Value} {w : World} {n : Nat} {v : Value} (h : Calls P f args (w.drewN n) fun e w' => e = .returned v ∧ w.drewN n = w') : Calls P f args (w.drewN n) fun e w'' => e = .returned v ∧ ∃ m, w'' = w.drewN m :=
  h.mono fun _ _ ⟨he, hw⟩ => ⟨he, n, hw.symm⟩

theorem slice_of_log {w : World} {lv : Value} {log : List (Int × Int)} (h : LogAt w lv log) : ∃ ao cap, lv = .slice ao log.length cap := by
  rcases h with ⟨rfl, rfl⟩ | ⟨g, cap, cur, rfl, _⟩
  · exact ⟨_, _, rfl⟩
  · exact ⟨_, _, rfl⟩

set_option maxHeartbeats 2000000 in
set_option maxRecDepth 100000 in
theorem walk_all (n : Int) (ao : Option Addr) (len cap : Nat) (E : Nat → OpOf) (w : World) (hn : 0 ≤ n) (hn' : n ≤ 65535) (hops : OpsAt w ao len E) :
    Calls Try.prog 3 #[.int .u16 n, .slice ao len cap] w fun e w' => e = .returned (.bool true) ∧ Below w.heap.size w w' := by
  obtain ⟨k, rfl⟩ := Int.eq_ofNat_of_zero_le hn
  have hshort := hops.short
  unfold maxLen at hshort
  go_enter Try.func3, Try.ntmps3
  go_wp2_with fail
  refine (new_int _ _ (by omega) (by omega)).mono ?_; rintro e w1 ⟨rfl, hm1, hb1⟩
  obtain ⟨x, hx⟩ : ∃ x, x = w.heap.size := ⟨_, rfl⟩
  rw [← hx] at hm1
  rw [← hx]
  have HX := Lib.hid hx
  clear hx
  go_wp2_with fail
  refine (ref_new_ok _ _ (by omega) (by omega)).mono ?_; rintro e w2 ⟨rfl, hb2⟩
  go_wp2_with fail
  refine (fixed_any _).mono ?_; rintro e w3 ⟨rfl, hb3⟩
  obtain ⟨q, hq⟩ : ∃ q, q = w2.heap.size := ⟨_, rfl⟩
  have hr : Rel w x q (1 + k) 0 w3 := by
    have s1 := hb1.size
    have s2 := hb2.size
    have s3 := lt_of_heap hm1.rec_
    have hx := HX.out
    have hm2 := hm1.below hb2
    have hbox := heap_alloc_new w2 (.cells #[.int .i64 (1 + k : Nat), .slice none 0 0, .int .i64 0] 30)
    have hmb : Below w2.heap.size w2 (w2.alloc (.cells #[.int .i64 (1 + k : Nat), .slice none 0 0, .int .i64 0] 30)) := (Below.refl _ _).alloc (Nat.le_refl _) _
    have hb3' : Below (w2.alloc (.cells #[.int .i64 (1 + k : Nat), .slice none 0 0, .int .i64 0] 30)).heap.size (w2.alloc (.cells #[.int .i64 (1 + k : Nat), .slice none 0 0, .int .i64 0] 30)) w3 := by
      rw [show ((1 + k : Nat) : Int) = 1 + (k : Int) by omega]; exact hb3
    refine ⟨List.replicate (1 + k) 0, [], 0, 0, .slice none 0 0, ?_, ?_, .inl ⟨rfl, rfl⟩, agrees_new _, rfl, by simp, by omega, by omega, by omega, by omega, by omega, by omega, by omega, by omega, by omega, ?_⟩
    · have := (hm2.below hmb).below hb3'
      simpa [show (1 + (k : Int)).toNat = 1 + k by omega] using this
    · rw [hq, hb3'.block _ (by simp)]
      exact hbox
    · exact ((hb1.trans (hb2.mono s1)).trans (hmb.mono (by omega))).trans (hb3'.mono (by simp; omega))
  rw [← hq]
  obtain ⟨K, hK⟩ : ∃ K, K = 1 + k := ⟨_, rfl⟩
  have HK := Lib.hid hK
  rw [← hK] at hr
  clear hm1 hb1 hb2 hb3 hq hK
  go_upto_block 0 with fail
  go_cut [] (fun wx => ∃ j, Rel w x q K j wx)
  case first =>
    go_wp2_with fail
    go_loopw [43] (fun i wr => ∃ k' : Nat, k' ≤ len ∧ i = .int .i64 k' ∧ Rel w x q K k' wr) (fun i _ => len - (intOf i).toNat)
    case atStart => exact ⟨0, Nat.zero_le _, rfl, hr⟩
    case round =>
      obtain ⟨j, hj, rfl, hrel⟩ := hrel
      by_cases hlt : j < len
      · obtain ⟨b, off, rfl, hb, h0, h1, h2⟩ := hops.cell j hlt
        obtain ⟨cs, log, l, s, lv, hm, hq, hlog, hag, hlen, hcs, hl0, hl1, hs0, hs1, hi, hwx, hwq, hqx, hqx1, hbel⟩ := hrel
        have h0' := (hbel.cell (p := ⟨b, off + j * 3, none⟩) hb).trans h0
        have h1' := (hbel.cell (p := ⟨b, off + j * 3 + 1, none⟩) hb).trans h1
        have h2' := (hbel.cell (p := ⟨b, off + j * 3 + 2, none⟩) hb).trans h2
        obtain ⟨ld, hld⟩ : ∃ ld, ld = (E j).load := ⟨_, rfl⟩
        obtain ⟨a, ha⟩ : ∃ a, a = (E j).a := ⟨_, rfl⟩
        obtain ⟨v, hv⟩ : ∃ v, v = (E j).v := ⟨_, rfl⟩
        rw [← hld] at h0'
        rw [← ha] at h1'
        rw [← hv] at h2'
        clear h0 h1 h2 hld ha hv
        obtain ⟨wo, hwo⟩ : ∃ wo, wo = wr.alloc (.cells #[.bool ld, .int .i64 a, .int .u32 v] 36) := ⟨_, rfl⟩
        have HWO := Lib.hid hwo
        clear hwo
        go_upto_region 9 with fail
        rw [← HWO.out]
        have hbo : Below wr.heap.size wr wo := by rw [HWO.out]; exact (Below.refl _ _).alloc (Nat.le_refl _) _
        have ho : wo.heap[wr.heap.size]? = some (.cells #[.bool ld, .int .i64 a, .int .u32 v] 36 (0, 0)) := by rw [HWO.out]; exact heap_alloc_new _ _
        obtain ⟨p, hp⟩ : ∃ p, p = wr.heap.size := ⟨_, rfl⟩
        have hmo := hm.below hbo
        have hqo := (hbo.block q (lt_of_heap hq)).trans hq
        have hlo := hlog.below hbo
        have hbelo := hbel.trans (hbo.mono hbel.size)
        have hpq : p ≠ q := by have := lt_of_heap hq; omega
        have hpx : p ≠ x := by have := lt_of_heap hm.row; omega
        have hpx1 : p ≠ x + 1 := by have := lt_of_heap hm.rec_; omega
        have hpw : w.heap.size ≤ p := by have := hbel.size; omega
        rw [← hp] at ho
        rw [← hp]
        clear HWO hbo hp hm hq hlog hbel h0' h1' h2'
        obtain ⟨ao2, cap2, rfl⟩ := slice_of_log hlo
        have o0 := cell_at ho 0
        have o1 := cell_at ho 1
        have o2 := cell_at ho 2
        have HO := Lib.hid ho
        have HQ := Lib.hid hqo
        clear ho hqo
        by_cases h3 : j ≤ 300
        · cases ld with
          | true =>
            by_cases hin : 0 ≤ a ∧ a < K
            · obtain ⟨ha0, ha1⟩ := hin
              obtain ⟨a, rfl⟩ := Int.eq_ofNat_of_zero_le ha0
              go_wp2_with fail
              refine (load_z hmo a (look log a) (hag a (by omega)) hl0 (by omega)).mono ?_; rintro e w4 ⟨rfl, hm4, hx4⟩
              have hq4 := Lib.hid ((hx4.block q (lt_of_heap HQ.out) (by assumption)).trans HQ.out)
              have hlog4 := hlo.mod hx4 (fun k hk => hmo.no_log k (.inl hk))
              have hbel4 : Below w.heap.size w w4 := hbelo.trans (hx4.below hbelo.size (fun k hk h => by omega))
              have o1' := cell_at ((hx4.block p (lt_of_heap HO.out) (by assumption)).trans HO.out) 1
              have q0 := cell_at hq4.out 0
              have q1 := cell_at hq4.out 1
              have q2 := cell_at hq4.out 2
              clear o0 o1 o2 hmo hlo hbelo hx4
              go_wp2_with fail
              refine (at_in w4 K _ l a log hlog4 (by omega) ha0 ha1).mono ?_; rintro e w5 ⟨rfl, hb5⟩
              have hq5 := Lib.hid ((hb5.block q (lt_of_heap hq4.out)).trans hq4.out)
              have hr5 : MemAt w5 (x + 1) x cs (l + 1) s ∧ LogAt w5 (.slice ao2 log.length cap2) log ∧ Below w.heap.size w w5 := ⟨hm4.below hb5, hlog4.below hb5, hbel4.trans (hb5.mono hbel4.size)⟩
              have HR5 := Lib.hid hr5
              clear hr5 hm4 hlog4 hbel4 hb5 o1' q0 q1 q2
              have q2 := cell_at hq5.out 2
              have f2 := free_at hq5.out 2
              go_wp2_with fail
              go_roundw
              case rel =>
                obtain ⟨hm5, hl5, hb5⟩ := HR5.out
                have hx6 : Mod (fun k => k = q) w5 (w5.setCell ⟨q, 2, none⟩ (.int .i64 (l + 1))) := Mod.setCell (S := fun k => k = q) (Mod.refl _ _) (.inr rfl) _
                refine ⟨j + 1, by omega, by go_num, cs, log, l + 1, s, _, hm5.mod hx6 (by omega) (by omega), ?_, hl5.mod hx6 ?_, hag, hlen, hcs, by omega, by omega, hs0, by omega, by omega, hwx, hwq, hqx, hqx1, hb5.setCell hwq _⟩
                · rw [heap_setCell_same _ _ _ _ _ _ hq5.out]; rfl
                · rintro k rfl xs fr hk
                  rw [hq5.out] at hk; simp at hk
              case measure => simp [intOf]; omega
            · have hout : a < 0 ∨ (K : Int) ≤ a := by omega
              have q0 := cell_at HQ.out 0
              have q1 := cell_at HQ.out 1
              have q2 := cell_at HQ.out 2
              go_wp2_with fail
              refine (load_out hmo a (by omega)).mono ?_; rintro e w4 ⟨rfl, rfl⟩
              go_wp2_with fail
              refine (at_out wo K _ l a log hlo hout).mono ?_; rintro e w5 ⟨rfl, hb5⟩
              have hq5 := Lib.hid ((hb5.block q (lt_of_heap HQ.out)).trans HQ.out)
              have hr5 : MemAt w5 (x + 1) x cs l s ∧ LogAt w5 (.slice ao2 log.length cap2) log ∧ Below w.heap.size w w5 := ⟨hmo.below hb5, hlo.below hb5, hbelo.trans (hb5.mono hbelo.size)⟩
              have HR5 := Lib.hid hr5
              clear hr5 hmo hlo hbelo hb5 o0 o1 o2 q0 q1 q2
              go_wp2_with fail
              go_roundw
              case rel =>
                obtain ⟨hm5, hl5, hb5⟩ := HR5.out
                exact ⟨j + 1, by omega, by go_num, cs, log, l, s, _, hm5, hq5.out, hl5, hag, hlen, hcs, hl0, by omega, hs0, by omega, by omega, hwx, hwq, hqx, hqx1, hb5⟩
              case measure => simp [intOf]; omega
          | false =>
            have q0 := cell_at HQ.out 0
            have q1 := cell_at HQ.out 1
            have q2 := cell_at HQ.out 2
            by_cases hin : 0 ≤ a ∧ a < K
            · obtain ⟨ha0, ha1⟩ := hin
              obtain ⟨a, rfl⟩ := Int.eq_ofNat_of_zero_le ha0
              go_wp2_with fail
              refine (ref_store_in wo K _ l a v log hlo (by omega) ha0 ha1).mono ?_; rintro e w4 ⟨lv4, rfl, hlog4, hb4⟩
              obtain ⟨ao4, cap4, rfl⟩ := slice_of_log hlog4
              have hq4 := Lib.hid ((hb4.block q (lt_of_heap HQ.out)).trans HQ.out)
              have ho4 := Lib.hid ((hb4.block p (lt_of_heap HO.out)).trans HO.out)
              have hr4 : MemAt w4 (x + 1) x cs l s ∧ LogAt w4 (.slice ao4 (log ++ [((a : Int), v)]).length cap4) (log ++ [((a : Int), v)]) ∧ Below w.heap.size w w4 := ⟨hmo.below hb4, hlog4, hbelo.trans (hb4.mono hbelo.size)⟩
              have HR4 := Lib.hid hr4
              clear hr4 hmo hlo hbelo hb4 hlog4 o0 o1 o2 q0 q1 q2
              have q0 := cell_at hq4.out 0
              have q1 := cell_at hq4.out 1
              have q2 := cell_at hq4.out 2
              have f0 := free_at hq4.out 0
              have f1 := free_at hq4.out 1
              have f2 := free_at hq4.out 2
              have o1 := cell_at ho4.out 1
              have o2 := cell_at ho4.out 2
              go_upto_region 19 with fail
              obtain ⟨w5, hw5⟩ : ∃ w5, w5 = ((w4.setCell ⟨q, 0, none⟩ (.int .i64 K)).setCell ⟨q, 1, none⟩ (.slice ao4 (log.length + 1) cap4)).setCell ⟨q, 2, none⟩ (.int .i64 l) := ⟨_, rfl⟩
              have hx5 : Mod (fun k => k = q) w4 w5 := by
                rw [hw5]
                exact Mod.setCell (S := fun k => k = q) (Mod.setCell (S := fun k => k = q) (Mod.setCell (S := fun k => k = q) (Mod.refl _ _) (.inr rfl) _) (.inr rfl) _) (.inr rfl) _
              have hq5 : w5.heap[q]? = some (.cells #[.int .i64 K, .slice ao4 (log.length + 1) cap4, .int .i64 l] 30 (0, 0)) := by
                rw [hw5, heap_setCell_same _ _ _ _ _ _ (heap_setCell_same _ _ _ _ _ _ (heap_setCell_same _ _ _ _ _ _ hq4.out))]; rfl
              rw [← hw5]
              obtain ⟨hm4, hlog4, hb4⟩ := HR4.out
              have hm5 := hm4.mod hx5 (by omega) (by omega)
              have hlog5 := hlog4.mod hx5 (by rintro k rfl xs fr hk; rw [hq4.out] at hk; simp at hk)
              have hb5 := hb4.trans (hx5.below hb4.size (fun k hk h => by omega))
              have ho5 := (hx5.block p (lt_of_heap ho4.out) (by assumption)).trans ho4.out
              have HQ5 := Lib.hid hq5
              have HL5 := Lib.hid hlog5
              clear hw5 hx5 HR4 hm4 hlog4 hb4 hq4 ho4 q0 q1 q2 f0 f1 f2 o1 o2 hq5 hlog5
              have o1 := cell_at ho5 1
              have o2 := cell_at ho5 2
              clear ho5
              go_wp2_with fail
              refine (store_in hm5 a v (by omega) hs0 (by omega)).mono ?_; rintro e w6 ⟨rfl, hm6, hx6⟩
              have hr6 : Rel w x q K (j + 1) w6 := by
                refine ⟨_, log ++ [((a : Int), v)], l, s + 1, _, hm6, (hx6.block q (lt_of_heap HQ5.out) (by omega)).trans HQ5.out, ?_, ?_, ?_, by simpa using hcs, hl0, by omega, by omega, by omega, by omega, hwx, hwq, hqx, hqx1, hb5.trans (hx6.below hb5.size (fun k hk h => by omega))⟩
                · have := HL5.out.mod hx6 hm5.no_log
                  simpa using this
                · have := agrees_put hag (a : Int) v ha0
                  simpa using this
                · simp [hlen]
              clear hm6 hx6 hm5 hb5 o1 o2
              go_wp2_with fail
              go_roundw
              case rel => exact ⟨j + 1, by omega, by go_num, hr6⟩
              case measure => simp [intOf]; omega
            · have hout : a < 0 ∨ (K : Int) ≤ a := by omega
              go_wp2_with fail
              refine (ref_store_out wo K _ l a v log hlo hout).mono ?_; rintro e w4 ⟨rfl, hb4⟩
              have hq4 := Lib.hid ((hb4.block q (lt_of_heap HQ.out)).trans HQ.out)
              have ho4 := Lib.hid ((hb4.block p (lt_of_heap HO.out)).trans HO.out)
              have hr4 : MemAt w4 (x + 1) x cs l s ∧ LogAt w4 (.slice ao2 log.length cap2) log ∧ Below w.heap.size w w4 := ⟨hmo.below hb4, hlo.below hb4, hbelo.trans (hb4.mono hbelo.size)⟩
              have HR4 := Lib.hid hr4
              clear hr4 hmo hlo hbelo hb4 o0 o1 o2 q0 q1 q2
              have q0 := cell_at hq4.out 0
              have q1 := cell_at hq4.out 1
              have q2 := cell_at hq4.out 2
              have f0 := free_at hq4.out 0
              have f1 := free_at hq4.out 1
              have f2 := free_at hq4.out 2
              have o1 := cell_at ho4.out 1
              have o2 := cell_at ho4.out 2
              go_upto_region 19 with fail
              obtain ⟨w5, hw5⟩ : ∃ w5, w5 = ((w4.setCell ⟨q, 0, none⟩ (.int .i64 K)).setCell ⟨q, 1, none⟩ (.slice ao2 log.length cap2)).setCell ⟨q, 2, none⟩ (.int .i64 l) := ⟨_, rfl⟩
              have hx5 : Mod (fun k => k = q) w4 w5 := by
                rw [hw5]
                exact Mod.setCell (S := fun k => k = q) (Mod.setCell (S := fun k => k = q) (Mod.setCell (S := fun k => k = q) (Mod.refl _ _) (.inr rfl) _) (.inr rfl) _) (.inr rfl) _
              have hq5 : w5.heap[q]? = some (.cells #[.int .i64 K, .slice ao2 log.length cap2, .int .i64 l] 30 (0, 0)) := by
                rw [hw5, heap_setCell_same _ _ _ _ _ _ (heap_setCell_same _ _ _ _ _ _ (heap_setCell_same _ _ _ _ _ _ hq4.out))]; rfl
              rw [← hw5]
              obtain ⟨hm4, hlog4, hb4⟩ := HR4.out
              have hm5 := hm4.mod hx5 (by omega) (by omega)
              have hlog5 := hlog4.mod hx5 (by rintro k rfl xs fr hk; rw [hq4.out] at hk; simp at hk)
              have hb5 := hb4.trans (hx5.below hb4.size (fun k hk h => by omega))
              have ho5 := (hx5.block p (lt_of_heap ho4.out) (by assumption)).trans ho4.out
              have hr5 : Rel w x q K (j + 1) w5 := ⟨_, log, l, s, _, hm5, hq5, hlog5, hag, hlen, hcs, hl0, by omega, hs0, by omega, by omega, hwx, hwq, hqx, hqx1, hb5⟩
              clear hw5 hx5 HR4 hm4 hlog4 hb4 hq4 ho4 q0 q1 q2 f0 f1 f2 o1 o2 hq5 hlog5
              have o1 := cell_at ho5 1
              have o2 := cell_at ho5 2
              clear ho5
              go_wp2_with fail
              refine (store_out hm5 a v (by omega)).mono ?_; rintro e w6 ⟨rfl, rfl⟩
              clear hm5 hb5 o1 o2
              go_wp2_with fail
              go_roundw
              case rel => exact ⟨j + 1, by omega, by go_num, hr5⟩
              case measure => simp [intOf]; omega
        · go_wp2_with fail
          go_meet
          exact ⟨j, cs, log, l, s, _, hmo, HQ.out, hlo, hag, hlen, hcs, hl0, hl1, hs0, hs1, hi, hwx, hwq, hqx, hqx1, hbelo⟩
      · go_wp2_with fail
        go_meet
        exact ⟨j, hrel⟩
  case rest =>
    obtain ⟨j, cs, log, l, s, lv, hm, hq, hlog, hag, hlen, hcs, hl0, hl1, hs0, hs1, hi, hwx, hwq, hqx, hqx1, hbel⟩ := hcut
    obtain ⟨ao2, cap2, rfl⟩ := slice_of_log hlog
    have q0 := cell_at hq 0
    have q1 := cell_at hq 1
    have q2 := cell_at hq 2
    have hk1 : ((K : Int) == 1 + (k : Int)) = true := by have := HK.out; simp; omega
    go_wp2_with fail
    go_quiet ((first
      | (go_at_call 15; exact quiet_eq (len_at (memAt_drawn hm _)))
      | (go_at_call 16; exact quiet_eq (loads_at (memAt_drawn hm _)))
      | (go_at_call 17; exact quiet_eq (stores_at (memAt_drawn hm _)))))
    go_wp2_with fail
    go_ret
    exact ⟨rfl, below_drawn hbel _⟩

set_option linter.unusedVariables false in
theorem walk {H : Type} {enc : TypeId × Value → H} (W : World) (args : Array Value) (ds : List (DataW H)) (hin : ArgsIn enc Try.prog Try.f3.params.toList W args ds) :
    Calls Try.prog 3 args W fun e W' => e = .returned (.bool true) ∧ Below W.heap.size W W' := by
  obtain ⟨⟨p, hA, hlt⟩, ⟨base, hval⟩, hsz⟩ := hin
  rw [Try.params3] at hA hval hsz
  obtain ⟨v0, vs0, d0, ds0, p0, q0, hargs, rfl, rfl, h0, r0⟩ := trodAll_cons hA
  obtain ⟨v1, vs1, d1, ds1, p1, q1, rfl, rfl, rfl, h1, r1⟩ := trodAll_cons r0
  obtain ⟨rfl, rfl, rfl⟩ := trodAll_nil r1
  obtain rfl : args = #[v0, v1] := by cases args; simp_all
  obtain ⟨a0, rfl, rfl, rfl, w0⟩ := open_int Try.underlying22 (hval 0 22 v0 rfl rfl) h0
  obtain ⟨ao,len,cap,E,rfl,hops⟩ := open_ops (hval 1 23 v1 rfl rfl) h1
  exact walk_all a0 ao len cap E W (u16_lo w0) (u16_hi w0) hops

set_option maxRecDepth 100000 in
theorem proved : Rows.MemPlaysSaid :=
  OpenClaim.holds_of_wide 3 Try.f3 rfl rfl rfl rfl rfl rfl rfl ⟨rfl, rfl, rfl, rfl, rfl⟩ rfl rfl rfl rfl rfl (by kernel_rfl) Try.func3 (by kernel_rfl)
    (of_decide_eq_true (by kernel_rfl)) (by unfold Func.isWrapper; first | (rw [if_pos (by decide +kernel)]; kernel_rfl) | (rw [if_neg (by decide +kernel)]; exact ⟨rfl, rfl⟩))
    (fun os started H enc _ => law_lifted (s := Rows.memPlaysSpec) own started (by kernel_rfl) Try.func3 laidOut (by kernel_rfl) (by kernel_rfl) Try.underlying4 rfl
      (ChangeSpec.witness6 (enc := enc) (C := Try.checked) false ⟨#[], #[.int .u16 0, .slice none 0 0], []⟩ 8 (by kernel_rfl) (by kernel_rfl) (by kernel_rfl) (by kernel_rfl))
      (fun ds h => match ds, h with | [_, _], _ => rfl) walk)
#print axioms proved
end Go.Proofs.Ytonckllhgnngdaa.memPlays
