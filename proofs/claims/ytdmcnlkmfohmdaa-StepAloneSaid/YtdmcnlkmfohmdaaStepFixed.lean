/-
  The laws' own example comes out as the chapter says. Over the program's own text.
-/
import Derived.Test.YtdmcnlkmfohmdaaStepF
namespace Go.Proofs.Ytdmcnlkmfohmdaa
open Go.RowKit

set_option maxRecDepth 100000 in
set_option maxHeartbeats 1000000 in
theorem fixed_any (w : World) : Calls Try.prog 9 #[] w fun e w' => e = .returned (.bool true) ∧ Below w.heap.size w w' := by
  go_enter Try.func9, Try.ntmps9
  go_wp2_with fail
  obtain ⟨wa, hwa⟩ : ∃ wa, wa = w.alloc (.cells #[.int .i64 1, .int .i64 1, .int .u32 5, .int .i64 0, .int .i64 1, .int .u32 0, .int .i64 3, .int .i64 2, .int .u32 0] 51) := ⟨_, rfl⟩
  rw [show w.alloc (.cells #[.int .i64 1, .int .i64 1, .int .u32 5, .int .i64 0, .int .i64 1, .int .u32 0, .int .i64 3, .int .i64 2, .int .u32 0] 51) = wa from hwa.symm]
  have hi : wa.heap[w.heap.size]? = some (.cells #[.int .i64 1, .int .i64 1, .int .u32 5, .int .i64 0, .int .i64 1, .int .u32 0, .int .i64 3, .int .i64 2, .int .u32 0] 51 (0, 0)) := by rw [hwa]; exact heap_alloc_new w _
  have hba : Below w.heap.size w wa := by rw [hwa]; exact below_one
  have hI := exIns hi
  have hia := lt_of_heap hi
  obtain ⟨ib, hib⟩ : ∃ ib, ib = w.heap.size := ⟨_, rfl⟩
  rw [← hib] at hI hia ⊢
  rw [← hib] at hba
  have HW := Lib.hid hib
  clear hwa hi hib
  refine (new_ok wa 3 (by omega) (by omega)).mono ?_; rintro e w1 ⟨rfl, hm1, hb1⟩
  obtain ⟨mb, hmb⟩ : ∃ mb, mb = wa.heap.size + 1 := ⟨_, rfl⟩
  obtain ⟨cb, hcb⟩ : ∃ cb, cb = wa.heap.size := ⟨_, rfl⟩
  rw [← hmb] at hm1 ⊢
  rw [← hcb] at hm1
  have hI := hI.below hb1
  have hba := hba.trans (hb1.mono (by omega))
  have hl1 := lt_of_heap hm1.rec_
  have hl2 := lt_of_heap hm1.row
  have HI := Lib.hid hI
  have HB := Lib.hid hba
  have HM := Lib.hid hm1
  have hmi : ib < mb := by omega
  have hci : ib < cb := by omega
  clear hI hba hm1 hb1 hmb hcb hia
  go_wp2_with fail
  refine (new_run w1 mb).mono ?_; rintro e w2 ⟨rfl, hr2, hb2⟩
  have hr := (show RM w2 w1.heap.size mb cb none false ex0 from RM.new HM.out hb2 hr2)
  have hr2l := lt_of_heap hr2.rec_
  have hfeet : ∀ k, Feet w1.heap.size mb cb none k → ib < k := by
    rintro k (e | e | e | e)
    · omega
    · cases e
    · omega
    · omega
  have hC : Ctx w w2 w1.heap.size mb cb none ex0 (· = ib) (some ⟨ib, 0, none⟩) 3 exE := ⟨hr, by rw [← HW.out]; exact HB.out.trans (hb2.mono (by omega)), fun k hk => by rw [← HW.out]; exact Nat.le_of_lt (hfeet k hk), HI.out.below hb2, fun k hk e => by have := hfeet k e; omega, fun k hk => by omega⟩
  have HC := Lib.hid hC
  obtain ⟨rb, hrb⟩ : ∃ rb, rb = w1.heap.size := ⟨_, rfl⟩
  rw [← hrb] at HC ⊢
  clear hC hr hr2 hb2 hrb HM hl1 hl2 hfeet hr2l HI HB hmi hci
  go_wp2_with fail
  refine (HC.out.program 3).mono ?_; rintro e w3 ⟨lb, rfl, hC, hL, _⟩
  have HC := Lib.hid hC
  have HL := Lib.hid hL
  clear hC hL
  go_wp2_with fail
  refine (HC.out.step HL.out (B := 100) (by omega) ok_ex.1 (by omega)).mono ?_
  rw [ex_1]
  rintro e w4 ⟨rfl, go4, hC, hA⟩
  have hm := hC.rm.mem
  have HC := Lib.hid hC
  have HL := Lib.hid (HL.out.adv hA)
  clear hC hA
  go_wp2_with fail
  refine (store_in hm 1 9 (by decide) (by decide) (by decide)).mono ?_; rintro e w5 ⟨rfl, hm5, hx5⟩
  obtain ⟨hC, hA⟩ := HC.out.turn hm5 hx5 (fun k hk => hk)
  have HC := Lib.hid (show Ctx w w5 rb mb cb go4 ex1' (· = ib) (some ⟨ib, 0, none⟩) 3 exE from hC)
  have HL := Lib.hid (HL.out.adv hA)
  clear hC hA hm hm5 hx5
  go_wp2_with fail
  refine (HC.out.step HL.out (B := 100) (by omega) ok_ex.2.1 (by omega)).mono ?_
  rw [ex_2]
  rintro e w6 ⟨rfl, go6, hC, hA⟩
  have HC := Lib.hid hC
  have HL := Lib.hid (HL.out.adv hA)
  clear hC hA
  go_wp2_with fail
  refine (HC.out.step HL.out (B := 100) (by omega) ok_ex.2.2 (by omega)).mono ?_
  rw [ex_3]
  rintro e w7 ⟨rfl, go7, hC, hA⟩
  have hm := hC.rm.mem
  have HC := Lib.hid hC
  clear hC hA
  go_wp2_with fail
  refine (load_z hm 2 9 rfl (by decide) (by decide)).mono ?_; rintro e w8 ⟨rfl, hm8, hx8⟩
  obtain ⟨hC, hA⟩ := HC.out.turn hm8 hx8 (fun k hk => .inl hk)
  obtain ⟨cap8, h8⟩ := hC.rm.run
  have HH := Lib.hid h8
  have HC := Lib.hid hC
  clear hC hA hm hm8 hx8 h8
  go_wp2_with (first
    | (go_at_call 15; refine (over_at HH.out).mono ?_; rintro e w9 ⟨rfl, rfl⟩)
    | (go_at_call 17; refine (count_at HH.out).mono ?_; rintro e w9 ⟨rfl, rfl⟩))
  go_ret
  exact ⟨rfl, HC.out.low⟩
end Go.Proofs.Ytdmcnlkmfohmdaa
