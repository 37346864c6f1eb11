/-
  What the landed code's functions of layer 6 keep, further: a run's term, which terms are stop words. Over the program's own text.
-/
import Derived.Test.YtaaeooimalglaaaDoorTokLandA
namespace Go.Proofs.YtaaeooimalglaaaDoor
open Go.RowKit

/-- The first i of a row folded, the rest still 0. -/
def fillF (q : List Nat) (i j : Nat) : Value := if j < i then .int .i32 (foldZ ((q.getD j 0 : Nat) : Int)) else .int .i32 0
set_option maxRecDepth 100000 in
theorem info_rune : (Tryd.prog.info? 21).map (fun i => (i.zero, i.size, i.bytes)) = some (some (.int .i32 0), 1, 4) := by kernel_rfl
set_option maxRecDepth 100000 in
theorem make_runes (k : Nat) (hk : k ≤ 16) (w : World) : (Instr.makeSlice 34 (.int .i64 k) (.int .i64 k)).run Tryd.prog w = .ok (.slice (some ⟨w.heap.size, 0, none⟩) k k) (w.alloc (.cells (madeCells #[.int .i32 0] k) 21)) :=
  run_make_row' 34 21 (.int .i32 0) 4 Tryd.underlying34 info_rune rfl .i64 .i64 k (by omega) (by omega) w
set_option maxRecDepth 100000 in
theorem fill_read {w : World} {g : Nat} {t : TypeId} {q : List Nat} {k : Nat} (hk : k ≤ q.length) (ho : ∀ r ∈ q, okR r) (h : w.rowIs g t k (fillF q k)) : ReadI w (some ⟨g, 0, none⟩) (ints ((q.take k).map foldN)) := by
  intro j r hj
  refine ⟨_, rfl, ?_⟩
  have hlt := (List.getElem?_eq_some_iff.1 hj).1
  rw [ints_length, List.length_map, List.length_take] at hlt
  rw [Addr.add_lit, Nat.zero_add, h.cell (by omega)]
  unfold fillF
  rw [if_pos (by omega)]
  have hq : q[j]? = some (q.getD j 0) := by
    rw [List.getD_eq_getElem?_getD, List.getElem?_eq_getElem (by omega)]; rfl
  have hr : r = ((foldN (q.getD j 0) : Nat) : Int) := by
    unfold ints at hj
    rw [List.getElem?_map, List.getElem?_map, List.getElem?_take, if_pos (by omega), hq] at hj
    exact (Option.some.inj hj).symm
  rw [hr, (fold_ok (ho _ (List.mem_of_getElem? hq))).1]

set_option maxRecDepth 100000 in
set_option maxHeartbeats 2000000 in
theorem lands_term (W : World) (oa : Option Addr) (c m : Nat) (q : List Nat) (hm : q.length = m) (hT : TabsIn W) (hR : ReadI W oa (ints q)) (hc : m ≤ c) (hm6 : m ≤ 1000000) (hl : lettersP q) (ho : ∀ r ∈ q, okR r) :
    Calls Tryd.prog 80 #[.slice oa m c] W fun e w' => e = .returned (.string (byteText (termB q))) ∧ Below W.heap.size W w' := by
  obtain ⟨k, hk⟩ : ∃ k, k = min m 16 := ⟨_, rfl⟩
  have HE := Lib.hid (term_fit (q := q) (k := k) (by rw [hm]; exact hk) hl ho)
  have hk16 : k ≤ 16 := by omega
  have hkc : k ≤ c := by omega
  have hkm : k ≤ m := by omega
  have hkn : (if (16 : Int) < (m : Int) then (16 : Int) else (m : Int)) = (k : Int) := by split <;> omega
  have hkb : ∀ (ts : Array TypeId) (t : TypeId) (w : World), (Builtin.min_ ts t #[.int .i64 (m : Int), .int .i64 16]).run Tryd.prog w = .ok (.int .i64 (k : Int)) w := fun ts t w => by rw [run_min_int2, hkn]
  have hto := slice_to oa m c k hkc
  have hmk := make_runes k hk16
  have HT := Lib.hid hT
  have HRd := Lib.hid hR
  have HQ := Lib.hid hm
  have HOk := Lib.hid ho
  have HLen : Hid ((ints ((q.take k).map foldN)).length = k) := Lib.hid (by rw [ints_length, List.length_map, List.length_take]; omega)
  have HTx : Hid (∀ (w : World) (a : Addr), ReadI w (some a) (ints ((q.take k).map foldN)) → Calls Tryd.prog 43 #[.slice (some a) k k] w fun e w' => e = .returned (.string (textZ (ints ((q.take k).map foldN)))) ∧ Below w.heap.size w w') := Lib.hid (fun w a h => by
    have h1 := lands_text w (some a) k (ints ((q.take k).map foldN)) (by rw [HLen.out]; omega) h (by
      refine ints_i32 fun x hx => ?_
      obtain ⟨r, hr, rfl⟩ := List.mem_map.1 hx
      exact (fold_ok (ho r (List.mem_of_mem_take hr))).2)
    rw [HLen.out] at h1
    exact h1)
  have HFt : Hid (∀ w : World, Calls Tryd.prog 85 #[.string (textZ (ints ((q.take k).map foldN))), .int .i64 16] w fun e w' => e = .returned (.string (byteText (termB q))) ∧ Below w.heap.size w w') := Lib.hid (fun w => by
    have h1 := lands_fit w (textZ (ints ((q.take k).map foldN))) 16 (by
      have := textB_le (ints ((q.take k).map foldN))
      rw [HLen.out] at this
      rw [textZ_size]
      omega) (by decide) (by decide)
    rw [HE.out] at h1
    exact h1)
  have HFr := Lib.hid (fun w (h : World.rowIs w W.heap.size 21 k (fillF q k)) => fill_read (w := w) (q := q) (k := k) (by omega) ho h)
  generalize textZ (ints ((q.take k).map foldN)) = tx at HTx HFt
  clear hm hT hR hl ho hk HE
  go_enter Tryd.func80, Tryd.ntmps80
  go_wp2_with fail
  obtain ⟨g, hg⟩ : ∃ g, g = W.heap.size := ⟨_, rfl⟩
  have HRow := Lib.hid (show (W.alloc (.cells (madeCells #[.int .i32 0] k) 21)).rowIs W.heap.size 21 k (fillF q 0) from (World.rowIs_made W (.int .i32 0) k 21).congr fun j _ => rfl)
  have HB := Lib.hid (show Below W.heap.size W (W.alloc (.cells (madeCells #[.int .i32 0] k) 21)) from below_one)
  generalize W.alloc (.cells (madeCells #[.int .i32 0] k) 21) = w1 at HRow HB
  go_loopw [17] (fun iv wr => ∃ i : Nat, i ≤ k ∧ iv = .int .i64 i ∧ wr.rowIs W.heap.size 21 k (fillF q i) ∧ Below W.heap.size W wr) (fun iv _ => k - (intOf iv).toNat)
  case atStart => exact ⟨0, by omega, rfl, HRow.out, HB.out⟩
  case round =>
    obtain ⟨i, hi, rfl, hrow, hlow⟩ := hrel
    have HR := Lib.hid hrow
    have HL := Lib.hid hlow
    clear hrow hlow
    by_cases hlt : i < k
    · have hq : q[i]? = some (q.getD i 0) := by
        rw [List.getD_eq_getElem?_getD, List.getElem?_eq_getElem (by rw [HQ.out]; omega)]; rfl
      obtain ⟨r, hr⟩ : ∃ r, r = q.getD i 0 := ⟨_, rfl⟩
      rw [← hr] at hq
      have hok := HOk.out r (List.mem_of_getElem? hq)
      obtain ⟨ad, rfl, hcell⟩ := (HRd.out.below HL.out) i (r : Int) (by unfold ints; simp [hq])
      have hrr : r ≤ 1114111 := by unfold okR at hok; omega
      have HFo := Lib.hid (fold_tab wr (r : Int) (by omega) (by omega) (HT.out.below HL.out))
      have HX := Lib.hid hr
      clear hq hok hr
      go_wp2_with fail
      refine HFo.out.mono ?_; rintro e w5 ⟨rfl, hb5⟩
      have HR5 := Lib.hid (HR.out.of_block (hb5.block _ HR.out.lt))
      have HL5 := Lib.hid (HL.out.trans (hb5.mono HL.out.size))
      clear hb5 hcell HR HL
      have hc5 := HR5.out.cell hlt
      have hf5 := HR5.out.frozen i
      go_wp2_with fail
      go_roundw
      case rel =>
        refine ⟨i + 1, by omega, by go_num, (HR5.out.set i _).congr fun j hj => ?_, HL5.out.setCell (Nat.le_refl _) _⟩
        unfold fillF
        by_cases hji : j = i
        · rw [if_pos hji, if_pos (by omega), hji, ← HX.out]
        · rw [if_neg hji]
          by_cases hj2 : j < i
          · rw [if_pos hj2, if_pos (by omega)]
          · rw [if_neg hj2, if_neg (by omega)]
      case measure => simp [intOf]; omega
    · have hi' : k = i := by omega
      have HRe := Lib.hid (HFr.out wr (by rw [hi']; rw [hi'] at HR; exact HR.out))
      clear HR HFr hi'
      go_wp2_with fail
      refine (HTx.out _ _ HRe.out).mono ?_; rintro e w5 ⟨rfl, hb5⟩
      have HL5 := Lib.hid (HL.out.trans (hb5.mono HL.out.size))
      clear hb5
      go_wp2_with fail
      refine (HFt.out _).mono ?_; rintro e w6 ⟨rfl, hb6⟩
      have HL6 := Lib.hid (HL5.out.trans (hb6.mono HL5.out.size))
      clear hb6
      go_wp2_with fail
      go_ret
      exact ⟨rfl, HL6.out⟩

/-! ### Stop words -/
set_option maxRecDepth 100000 in
theorem toList_of {s : ByteArray} {l : List UInt8} (h : s = ⟨l.toArray⟩) : s.toList = l := by
  subst h
  rw [ByteArray.toList_eq]
set_option maxRecDepth 100000 in
set_option maxHeartbeats 4000000 in
theorem lands_stop (w : World) (s : ByteArray) : Calls Tryd.prog 81 #[.string s] w fun e w' => e = .returned (.bool (stopB (bytesL s))) ∧ w' = w := by
  by_cases hs : s ∈ stopS
  · have HS := (stop_mem s).1 hs
    rw [HS]
    unfold stopS stopsL at hs
    simp only [List.map_cons, List.map_nil, List.mem_cons, List.not_mem_nil, or_false] at hs
    clear HS
    rcases hs with e | e | e | e | e | e | e | e | e | e | e | e | e | e | e | e | e
    all_goals
      have h := toList_of (e.trans rfl)
      first | have t0 : (s.toList == [97]) = false := by rw [h]; decide | have t0 : (s.toList == [97]) = true := by rw [h]; decide
      first | have t1 : (s.toList == [97, 110]) = false := by rw [h]; decide | have t1 : (s.toList == [97, 110]) = true := by rw [h]; decide
      first | have t2 : (s.toList == [97, 110, 100]) = false := by rw [h]; decide | have t2 : (s.toList == [97, 110, 100]) = true := by rw [h]; decide
      first | have t3 : (s.toList == [97, 114, 101]) = false := by rw [h]; decide | have t3 : (s.toList == [97, 114, 101]) = true := by rw [h]; decide
      first | have t4 : (s.toList == [97, 115]) = false := by rw [h]; decide | have t4 : (s.toList == [97, 115]) = true := by rw [h]; decide
      first | have t5 : (s.toList == [97, 116]) = false := by rw [h]; decide | have t5 : (s.toList == [97, 116]) = true := by rw [h]; decide
      first | have t6 : (s.toList == [98, 101]) = false := by rw [h]; decide | have t6 : (s.toList == [98, 101]) = true := by rw [h]; decide
      first | have t7 : (s.toList == [98, 121]) = false := by rw [h]; decide | have t7 : (s.toList == [98, 121]) = true := by rw [h]; decide
      first | have t8 : (s.toList == [102, 111, 114]) = false := by rw [h]; decide | have t8 : (s.toList == [102, 111, 114]) = true := by rw [h]; decide
      first | have t9 : (s.toList == [105, 110]) = false := by rw [h]; decide | have t9 : (s.toList == [105, 110]) = true := by rw [h]; decide
      first | have t10 : (s.toList == [105, 115]) = false := by rw [h]; decide | have t10 : (s.toList == [105, 115]) = true := by rw [h]; decide
      first | have t11 : (s.toList == [105, 116]) = false := by rw [h]; decide | have t11 : (s.toList == [105, 116]) = true := by rw [h]; decide
      first | have t12 : (s.toList == [111, 102]) = false := by rw [h]; decide | have t12 : (s.toList == [111, 102]) = true := by rw [h]; decide
      first | have t13 : (s.toList == [111, 110]) = false := by rw [h]; decide | have t13 : (s.toList == [111, 110]) = true := by rw [h]; decide
      first | have t14 : (s.toList == [111, 114]) = false := by rw [h]; decide | have t14 : (s.toList == [111, 114]) = true := by rw [h]; decide
      first | have t15 : (s.toList == [116, 104, 101]) = false := by rw [h]; decide | have t15 : (s.toList == [116, 104, 101]) = true := by rw [h]; decide
      first | have t16 : (s.toList == [116, 111]) = false := by rw [h]; decide | have t16 : (s.toList == [116, 111]) = true := by rw [h]; decide
      clear h e
      go_enter Tryd.func81, Tryd.ntmps81
      go_wp2_with fail
      go_ret
      exact ⟨rfl, rfl⟩
  · have HS : stopB (bytesL s) = false := by
      cases h : stopB (bytesL s) with
      | false => rfl
      | true => exact absurd ((stop_mem s).2 h) hs
    rw [HS]
    have key : ∀ (n : List Nat) (l : List UInt8), byteText n = ⟨l.toArray⟩ → byteText n ∈ stopS → (s.toList == l) = false := fun n l e hx => by
      have := list_ne (x := s) (s := byteText n) fun e => hs (e ▸ hx)
      rwa [toList_of e] at this
    have t0 := key [97] [97] rfl (by simp [stopS, stopsL])
    have t1 := key [97, 110] [97, 110] rfl (by simp [stopS, stopsL])
    have t2 := key [97, 110, 100] [97, 110, 100] rfl (by simp [stopS, stopsL])
    have t3 := key [97, 114, 101] [97, 114, 101] rfl (by simp [stopS, stopsL])
    have t4 := key [97, 115] [97, 115] rfl (by simp [stopS, stopsL])
    have t5 := key [97, 116] [97, 116] rfl (by simp [stopS, stopsL])
    have t6 := key [98, 101] [98, 101] rfl (by simp [stopS, stopsL])
    have t7 := key [98, 121] [98, 121] rfl (by simp [stopS, stopsL])
    have t8 := key [102, 111, 114] [102, 111, 114] rfl (by simp [stopS, stopsL])
    have t9 := key [105, 110] [105, 110] rfl (by simp [stopS, stopsL])
    have t10 := key [105, 115] [105, 115] rfl (by simp [stopS, stopsL])
    have t11 := key [105, 116] [105, 116] rfl (by simp [stopS, stopsL])
    have t12 := key [111, 102] [111, 102] rfl (by simp [stopS, stopsL])
    have t13 := key [111, 110] [111, 110] rfl (by simp [stopS, stopsL])
    have t14 := key [111, 114] [111, 114] rfl (by simp [stopS, stopsL])
    have t15 := key [116, 104, 101] [116, 104, 101] rfl (by simp [stopS, stopsL])
    have t16 := key [116, 111] [116, 111] rfl (by simp [stopS, stopsL])
    clear HS hs key
    go_enter Tryd.func81, Tryd.ntmps81
    go_wp2_with fail
    go_ret
    exact ⟨rfl, rfl⟩
end Go.Proofs.YtaaeooimalglaaaDoor
