/-
  The reference of layer 14: May. Over the program's own text.
  The landed code of layer 14: its small functions. Over the program's own text.
  Two rows of cells of one's own that grow by turns. Over the program's own text.
  The landed code of layer 14: Make, Size. Over the program's own text.
  A row held by a variable grows by one element within a region that draws its order. Over the program's own text.
  A row held by a slot grows within a region that draws its order, and the slot is turned last. Over the program's own text.
  The reference of layer 14: Make, Size. Over the program's own text.
-/
import Derived.Test.YtkjimgidlpocbaaFndAllB
import Derived.Laws.Cover1
import Derived.Test.YtkjimgidlpocbaaLists
import Derived.Test.YtkjimgidlpocbaaFndAllA
import Derived.Deep.AppendLies
namespace Go.Proofs.Ytkjimgidlpocbaa
open Go.RowKit

def mayIB (n : Nat) (L : List Li) : Bool := decide (MayI n L)
set_option maxRecDepth 100000 in
set_option maxHeartbeats 8000000 in
theorem ref_may14 (W : World) (oF : Option Addr) (cF n : Nat) (oL : Option Addr) (cL tt : Nat) (L : List Li) (en : L.length = tt) (hL : ReadLi W oL L) (hE : ∀ l ∈ L, l.ents.length ≤ 1000000 ∧ l.key.size ≤ reachBytes) :
    Calls Try.prog 40 #[.slice oF n cF, .slice oL tt cL] W fun e w' => e = .returned (.bool (mayIB n L)) ∧ Below W.heap.size W w' := by
  by_cases h1 : 64 < n
  · have HNo := Lib.hid (show mayIB n L = false from decide_eq_false fun h => by have := h.1; omega)
    have h1i : (64 : Int) < (n : Int) := by omega
    clear hL hE en h1
    go_enter Try.func40, Try.ntmps40
    go_wp2_with fail
    go_ret
    exact ⟨by rw [HNo.out]; rfl, Below.refl _ _⟩
  have h1i : ¬ (64 : Int) < (n : Int) := by omega
  by_cases h2 : 256 < tt
  · have HNo := Lib.hid (show mayIB n L = false from decide_eq_false fun h => by have := h.2.1; omega)
    have h2i : (256 : Int) < (tt : Int) := by omega
    clear hL hE en h2
    go_enter Try.func40, Try.ntmps40
    go_wp2_with fail
    go_ret
    exact ⟨by rw [HNo.out]; rfl, Below.refl _ _⟩
  have h2i : ¬ (256 : Int) < (tt : Int) := by omega
  have g1 : decide ((64 : Int) < (n : Int)) = false := decide_eq_false h1i
  have g2 : decide ((256 : Int) < (tt : Int)) = false := decide_eq_false h2i
  have HL := Lib.hid hL
  have HE := Lib.hid hE
  have HN := Lib.hid en
  have HLess := Lib.hid ref_less
  have HMay := Lib.hid ref_may13
  clear hL hE en
  go_enter Try.func40, Try.ntmps40
  go_wp2_with fail
  go_loopw [18] (fun iv wr => ∃ ix : Nat, ix ≤ tt ∧ iv = .int .i64 (ix : Int) ∧ Hid (∀ j, j < ix → upK L j ∧ okLi n (liAt L j)) ∧ Below W.heap.size W wr) (fun iv _ => tt - (intOf iv).toNat)
  case atStart => exact ⟨0, by omega, rfl, Lib.hid (fun j hj => absurd hj (by omega)), Below.refl _ _⟩
  case round =>
    obtain ⟨ix, hi, rfl, HOk, hlow⟩ := hrel
    have HW := Lib.hid hlow
    by_cases hlt : ix < tt
    · have hlt1 : (ix : Int) < (tt : Int) := by omega
      obtain ⟨x, hx⟩ : ∃ x, L[ix]? = some x := ⟨_, List.getElem?_eq_getElem (by rw [HN.out]; exact hlt)⟩
      obtain ⟨g, oo, hoL, c0, c1, p0, c2, pa, pc, rfl, r1, r2, r3, r4⟩ := HL.out ix x hx
      subst hoL
      have c0 := below_cell c0 hlow
      have c1 := below_cell c1 hlow
      have c2 := below_cell c2 hlow
      have hex := HE.out x (List.mem_of_getElem? hx)
      obtain ⟨kk, rr, es⟩ := x
      dsimp only at c0 c1 c2 r1 r4 hex
      obtain ⟨m, hm⟩ : ∃ m, es.length = m := ⟨_, rfl⟩
      rw [hm] at c2 r1 hex
      have HRe := Lib.hid r4
      have HM := Lib.hid hm
      have HAt := Lib.hid (liAt_some hx)
      have HKs := Lib.hid hex.2
      have hmb : m ≤ 1000000 := hex.1
      have HNot := Lib.hid (show ¬ okLi n ⟨kk, rr, es⟩ → mayIB n L = false from fun h => decide_eq_false fun hM => h (by have := hM.2.2.2 ix (by rw [HN.out]; exact hlt); rwa [HAt.out] at this))
      have HNotK := Lib.hid (show ¬ upK L ix → mayIB n L = false from fun h => decide_eq_false fun hM => h (hM.2.2.1 ix (by rw [HN.out]; exact hlt)))
      have HWa := Lib.hid (low_new (o := .cells #[.string kk, .int .i64 rr, .slice pa m pc] 34) hlow)
      have HEa := Lib.hid (heap_alloc_new wr (.cells #[.string kk, .int .i64 rr, .slice pa m pc] 34))
      clear hx r4 hm hex hlow r1 r2 r3
      go_upto_region 7 with fail
      obtain ⟨be, hbe⟩ : ∃ be, be = wr.heap.size := ⟨_, rfl⟩
      rw [← hbe] at HEa ⊢
      have HBe := Lib.hid (show W.heap.size ≤ be by rw [hbe]; exact HW.out.size)
      generalize wr.alloc (.cells #[.string kk, .int .i64 rr, .slice pa m pc] 34) = wa at HWa HEa ⊢
      have HC0 := Lib.hid (cell_at HEa.out 0)
      have HC1 := Lib.hid (cell_at HEa.out 1)
      have HC2 := Lib.hid (cell_at HEa.out 2)
      clear c0 c1 c2 hbe
      by_cases hi0 : ix = 0
      · subst hi0
        have HUp := Lib.hid (show upK L 0 from fun h => absurd h (by omega))
        by_cases hr1 : rr < 1
        · have HBad := Lib.hid (HNot.out fun h => by have := h.1; dsimp only at this; omega)
          have hr1b : decide (rr < 1) = true := decide_eq_true hr1
          refine wp_region_cl (fun (p : Unit) jz => [.int .i64 0, .bool false, .bool false, undef, undef, undef, undef, undef, undef, undef, undef, undef, undef, .bool false, .bool false, .pointer (some ⟨be, 1, none⟩), .int .i64 rr, .bool true, .bool true, .bool true, undef, undef, undef, .bool true, .bool true, undef, undef, undef, undef, .bool true, .bool true, undef, undef, undef, undef, .bool true].getD jz undef)
            (fun p l wx => Below wa.heap.size wa wx)
            (by kernel_rfl) (by kernel_rfl) (fun q => by simp only [putTo, dstOf, Act.put, List.size_toArray, List.length_cons, List.length_nil, List.getElem?_toArray, Nat.reduceAdd, Option.bind_some, List.getElem?_cons_zero, List.getElem?_cons_succ, List.setIfInBounds_toArray, List.set_cons_zero, List.set_cons_succ, List.getD_cons_zero, List.getD_cons_succ]; exact rfl) () ?_ ?_ ?_
          · exact (Below.refl _ _).drew
          · intro i o ho p l wx hR hl he hcl K hK
            rcases i with _ | _ | _ | _ | _ | _ | _ | _ | _ | _ | _ | _ | _ | _ | _ | _ | _ | _ | _ | _ | _ | _ | _ | _ | _ | _ | _ | _ | _ | _ | _ | _ | _ | _ | _ | _ | i
            · obtain rfl : _ = o := Option.some.inj ho
              have HR := Lib.hid hR
              clear hR
              go_simp
              exact hK p wx (fun _ _ => rfl) HR.out
            · obtain rfl : _ = o := Option.some.inj ho
              have HR := Lib.hid hR
              clear hR
              go_simp
              exact hK p wx (fun _ _ => rfl) HR.out
            · obtain rfl : _ = o := Option.some.inj ho
              have HR := Lib.hid hR
              clear hR
              go_simp
              exact hK p wx (fun _ _ => rfl) HR.out
            · obtain rfl : _ = o := Option.some.inj ho
              have HR := Lib.hid hR
              clear hR
              go_simp
              exact hK p wx (fun _ _ => rfl) HR.out
            · obtain rfl : _ = o := Option.some.inj ho
              have HR := Lib.hid hR
              clear hR
              go_simp
              exact hK p wx (fun _ _ => rfl) HR.out
            · obtain rfl : _ = o := Option.some.inj ho
              have HR := Lib.hid hR
              clear hR
              go_simp
              exact hK p wx (fun _ _ => rfl) HR.out
            · obtain rfl : _ = o := Option.some.inj ho
              have HR := Lib.hid hR
              clear hR
              go_simp
              exact hK p wx (fun _ _ => rfl) HR.out
            · obtain rfl : _ = o := Option.some.inj ho
              have HR := Lib.hid hR
              clear hR
              go_simp
              exact hK p wx (fun _ _ => rfl) HR.out
            · obtain rfl : _ = o := Option.some.inj ho
              have HR := Lib.hid hR
              clear hR
              go_simp
              exact hK p wx (fun _ _ => rfl) HR.out
            · obtain rfl : _ = o := Option.some.inj ho
              have HR := Lib.hid hR
              clear hR
              go_simp
              exact hK p wx (fun _ _ => rfl) HR.out
            · obtain rfl : _ = o := Option.some.inj ho
              have HR := Lib.hid hR
              clear hR
              go_simp
              exact hK p wx (fun _ _ => rfl) HR.out
            · obtain rfl : _ = o := Option.some.inj ho
              have HR := Lib.hid hR
              clear hR
              go_simp
              exact hK p wx (fun _ _ => rfl) HR.out
            · obtain rfl : _ = o := Option.some.inj ho
              have HR := Lib.hid hR
              clear hR
              go_simp
              exact hK p wx (fun _ _ => rfl) HR.out
            · obtain rfl : _ = o := Option.some.inj ho
              have HR := Lib.hid hR
              clear hR
              go_simp
              exact hK p wx (fun _ _ => rfl) HR.out
            · obtain rfl : _ = o := Option.some.inj ho
              have HR := Lib.hid hR
              clear hR
              go_simp
              exact hK p wx (fun _ _ => rfl) HR.out
            · obtain rfl : _ = o := Option.some.inj ho
              have HR := Lib.hid hR
              clear hR
              go_simp
              exact hK p wx (fun _ _ => rfl) HR.out
            · obtain rfl : _ = o := Option.some.inj ho
              have q := below_cell HC1.out hR
              have HR := Lib.hid hR
              clear hR
              go_simp
              exact hK p wx (fun _ _ => rfl) HR.out
            · obtain rfl : _ = o := Option.some.inj ho
              have HR := Lib.hid hR
              clear hR
              go_simp
              exact hK p wx (fun _ _ => rfl) HR.out
            · obtain rfl : _ = o := Option.some.inj ho
              have HR := Lib.hid hR
              clear hR
              go_simp
              exact hK p wx (fun _ _ => rfl) HR.out
            · obtain rfl : _ = o := Option.some.inj ho
              have HR := Lib.hid hR
              clear hR
              go_simp
              exact hK p wx (fun _ _ => rfl) HR.out
            · obtain rfl : _ = o := Option.some.inj ho
              have HR := Lib.hid hR
              clear hR
              go_simp
              exact hK p wx (fun _ _ => rfl) HR.out
            · obtain rfl : _ = o := Option.some.inj ho
              have HR := Lib.hid hR
              clear hR
              go_simp
              exact hK p wx (fun _ _ => rfl) HR.out
            · obtain rfl : _ = o := Option.some.inj ho
              have HR := Lib.hid hR
              clear hR
              go_simp
              exact hK p wx (fun _ _ => rfl) HR.out
            · obtain rfl : _ = o := Option.some.inj ho
              have HR := Lib.hid hR
              clear hR
              go_simp
              exact hK p wx (fun _ _ => rfl) HR.out
            · obtain rfl : _ = o := Option.some.inj ho
              have HR := Lib.hid hR
              clear hR
              go_simp
              exact hK p wx (fun _ _ => rfl) HR.out
            · obtain rfl : _ = o := Option.some.inj ho
              have HR := Lib.hid hR
              clear hR
              go_simp
              exact hK p wx (fun _ _ => rfl) HR.out
            · obtain rfl : _ = o := Option.some.inj ho
              have HR := Lib.hid hR
              clear hR
              go_simp
              exact hK p wx (fun _ _ => rfl) HR.out
            · obtain rfl : _ = o := Option.some.inj ho
              have HR := Lib.hid hR
              clear hR
              go_simp
              exact hK p wx (fun _ _ => rfl) HR.out
            · obtain rfl : _ = o := Option.some.inj ho
              have HR := Lib.hid hR
              clear hR
              go_simp
              exact hK p wx (fun _ _ => rfl) HR.out
            · obtain rfl : _ = o := Option.some.inj ho
              have HR := Lib.hid hR
              clear hR
              go_simp
              exact hK p wx (fun _ _ => rfl) HR.out
            · obtain rfl : _ = o := Option.some.inj ho
              have HR := Lib.hid hR
              clear hR
              go_simp
              exact hK p wx (fun _ _ => rfl) HR.out
            · obtain rfl : _ = o := Option.some.inj ho
              have HR := Lib.hid hR
              clear hR
              go_simp
              exact hK p wx (fun _ _ => rfl) HR.out
            · obtain rfl : _ = o := Option.some.inj ho
              have HR := Lib.hid hR
              clear hR
              go_simp
              exact hK p wx (fun _ _ => rfl) HR.out
            · obtain rfl : _ = o := Option.some.inj ho
              have HR := Lib.hid hR
              clear hR
              go_simp
              exact hK p wx (fun _ _ => rfl) HR.out
            · obtain rfl : _ = o := Option.some.inj ho
              have HR := Lib.hid hR
              clear hR
              go_simp
              exact hK p wx (fun _ _ => rfl) HR.out
            · obtain rfl : _ = o := Option.some.inj ho
              have HR := Lib.hid hR
              clear hR
              go_simp
              exact hK p wx (fun _ _ => rfl) HR.out
            · simp at ho
          · intro p l wx hl hR
            have HWx := Lib.hid (low_more HWa.out hR)
            clear hl hR
            go_wp2_with fail
            go_ret
            exact ⟨by rw [HBad.out]; rfl, HWx.out⟩
        have hr1b : decide (rr < 1) = false := decide_eq_false hr1
        by_cases hr2 : 65535 < rr
        · have HBad := Lib.hid (HNot.out fun h => by have := h.2.1; dsimp only at this; omega)
          have hr2b : decide (65535 < rr) = true := decide_eq_true hr2
          refine wp_region_cl (fun (p : Unit) jz => [.int .i64 0, .bool false, .bool false, undef, undef, undef, undef, undef, undef, undef, undef, undef, undef, .bool false, .bool false, .pointer (some ⟨be, 1, none⟩), .int .i64 rr, .bool false, .bool false, .bool false, .pointer (some ⟨be, 1, none⟩), .int .i64 rr, .bool true, .bool true, .bool true, undef, undef, undef, undef, .bool true, .bool true, undef, undef, undef, undef, .bool true].getD jz undef)
            (fun p l wx => Below wa.heap.size wa wx)
            (by kernel_rfl) (by kernel_rfl) (fun q => by simp only [putTo, dstOf, Act.put, List.size_toArray, List.length_cons, List.length_nil, List.getElem?_toArray, Nat.reduceAdd, Option.bind_some, List.getElem?_cons_zero, List.getElem?_cons_succ, List.setIfInBounds_toArray, List.set_cons_zero, List.set_cons_succ, List.getD_cons_zero, List.getD_cons_succ]; exact rfl) () ?_ ?_ ?_
          · exact (Below.refl _ _).drew
          · intro i o ho p l wx hR hl he hcl K hK
            rcases i with _ | _ | _ | _ | _ | _ | _ | _ | _ | _ | _ | _ | _ | _ | _ | _ | _ | _ | _ | _ | _ | _ | _ | _ | _ | _ | _ | _ | _ | _ | _ | _ | _ | _ | _ | _ | i
            · obtain rfl : _ = o := Option.some.inj ho
              have HR := Lib.hid hR
              clear hR
              go_simp
              exact hK p wx (fun _ _ => rfl) HR.out
            · obtain rfl : _ = o := Option.some.inj ho
              have HR := Lib.hid hR
              clear hR
              go_simp
              exact hK p wx (fun _ _ => rfl) HR.out
            · obtain rfl : _ = o := Option.some.inj ho
              have HR := Lib.hid hR
              clear hR
              go_simp
              exact hK p wx (fun _ _ => rfl) HR.out
            · obtain rfl : _ = o := Option.some.inj ho
              have HR := Lib.hid hR
              clear hR
              go_simp
              exact hK p wx (fun _ _ => rfl) HR.out
            · obtain rfl : _ = o := Option.some.inj ho
              have HR := Lib.hid hR
              clear hR
              go_simp
              exact hK p wx (fun _ _ => rfl) HR.out
            · obtain rfl : _ = o := Option.some.inj ho
              have HR := Lib.hid hR
              clear hR
              go_simp
              exact hK p wx (fun _ _ => rfl) HR.out
            · obtain rfl : _ = o := Option.some.inj ho
              have HR := Lib.hid hR
              clear hR
              go_simp
              exact hK p wx (fun _ _ => rfl) HR.out
            · obtain rfl : _ = o := Option.some.inj ho
              have HR := Lib.hid hR
              clear hR
              go_simp
              exact hK p wx (fun _ _ => rfl) HR.out
            · obtain rfl : _ = o := Option.some.inj ho
              have HR := Lib.hid hR
              clear hR
              go_simp
              exact hK p wx (fun _ _ => rfl) HR.out
            · obtain rfl : _ = o := Option.some.inj ho
              have HR := Lib.hid hR
              clear hR
              go_simp
              exact hK p wx (fun _ _ => rfl) HR.out
            · obtain rfl : _ = o := Option.some.inj ho
              have HR := Lib.hid hR
              clear hR
              go_simp
              exact hK p wx (fun _ _ => rfl) HR.out
            · obtain rfl : _ = o := Option.some.inj ho
              have HR := Lib.hid hR
              clear hR
              go_simp
              exact hK p wx (fun _ _ => rfl) HR.out
            · obtain rfl : _ = o := Option.some.inj ho
              have HR := Lib.hid hR
              clear hR
              go_simp
              exact hK p wx (fun _ _ => rfl) HR.out
            · obtain rfl : _ = o := Option.some.inj ho
              have HR := Lib.hid hR
              clear hR
              go_simp
              exact hK p wx (fun _ _ => rfl) HR.out
            · obtain rfl : _ = o := Option.some.inj ho
              have HR := Lib.hid hR
              clear hR
              go_simp
              exact hK p wx (fun _ _ => rfl) HR.out
            · obtain rfl : _ = o := Option.some.inj ho
              have HR := Lib.hid hR
              clear hR
              go_simp
              exact hK p wx (fun _ _ => rfl) HR.out
            · obtain rfl : _ = o := Option.some.inj ho
              have q := below_cell HC1.out hR
              have HR := Lib.hid hR
              clear hR
              go_simp
              exact hK p wx (fun _ _ => rfl) HR.out
            · obtain rfl : _ = o := Option.some.inj ho
              have HR := Lib.hid hR
              clear hR
              go_simp
              exact hK p wx (fun _ _ => rfl) HR.out
            · obtain rfl : _ = o := Option.some.inj ho
              have HR := Lib.hid hR
              clear hR
              go_simp
              exact hK p wx (fun _ _ => rfl) HR.out
            · obtain rfl : _ = o := Option.some.inj ho
              have HR := Lib.hid hR
              clear hR
              go_simp
              exact hK p wx (fun _ _ => rfl) HR.out
            · obtain rfl : _ = o := Option.some.inj ho
              have HR := Lib.hid hR
              clear hR
              go_simp
              exact hK p wx (fun _ _ => rfl) HR.out
            · obtain rfl : _ = o := Option.some.inj ho
              have q := below_cell HC1.out hR
              have HR := Lib.hid hR
              clear hR
              go_simp
              exact hK p wx (fun _ _ => rfl) HR.out
            · obtain rfl : _ = o := Option.some.inj ho
              have HR := Lib.hid hR
              clear hR
              go_simp
              exact hK p wx (fun _ _ => rfl) HR.out
            · obtain rfl : _ = o := Option.some.inj ho
              have HR := Lib.hid hR
              clear hR
              go_simp
              exact hK p wx (fun _ _ => rfl) HR.out
            · obtain rfl : _ = o := Option.some.inj ho
              have HR := Lib.hid hR
              clear hR
              go_simp
              exact hK p wx (fun _ _ => rfl) HR.out
            · obtain rfl : _ = o := Option.some.inj ho
              have HR := Lib.hid hR
              clear hR
              go_simp
              exact hK p wx (fun _ _ => rfl) HR.out
            · obtain rfl : _ = o := Option.some.inj ho
              have HR := Lib.hid hR
              clear hR
              go_simp
              exact hK p wx (fun _ _ => rfl) HR.out
            · obtain rfl : _ = o := Option.some.inj ho
              have HR := Lib.hid hR
              clear hR
              go_simp
              exact hK p wx (fun _ _ => rfl) HR.out
            · obtain rfl : _ = o := Option.some.inj ho
              have HR := Lib.hid hR
              clear hR
              go_simp
              exact hK p wx (fun _ _ => rfl) HR.out
            · obtain rfl : _ = o := Option.some.inj ho
              have HR := Lib.hid hR
              clear hR
              go_simp
              exact hK p wx (fun _ _ => rfl) HR.out
            · obtain rfl : _ = o := Option.some.inj ho
              have HR := Lib.hid hR
              clear hR
              go_simp
              exact hK p wx (fun _ _ => rfl) HR.out
            · obtain rfl : _ = o := Option.some.inj ho
              have HR := Lib.hid hR
              clear hR
              go_simp
              exact hK p wx (fun _ _ => rfl) HR.out
            · obtain rfl : _ = o := Option.some.inj ho
              have HR := Lib.hid hR
              clear hR
              go_simp
              exact hK p wx (fun _ _ => rfl) HR.out
            · obtain rfl : _ = o := Option.some.inj ho
              have HR := Lib.hid hR
              clear hR
              go_simp
              exact hK p wx (fun _ _ => rfl) HR.out
            · obtain rfl : _ = o := Option.some.inj ho
              have HR := Lib.hid hR
              clear hR
              go_simp
              exact hK p wx (fun _ _ => rfl) HR.out
            · obtain rfl : _ = o := Option.some.inj ho
              have HR := Lib.hid hR
              clear hR
              go_simp
              exact hK p wx (fun _ _ => rfl) HR.out
            · simp at ho
          · intro p l wx hl hR
            have HWx := Lib.hid (low_more HWa.out hR)
            clear hl hR
            go_wp2_with fail
            go_ret
            exact ⟨by rw [HBad.out]; rfl, HWx.out⟩
        have hr2b : decide (65535 < rr) = false := decide_eq_false hr2
        by_cases hm0 : m = 0
        · have HBad := Lib.hid (HNot.out fun h => by have := h.2.2.1; dsimp only at this; rw [HM.out] at this; omega)
          have hm0b : ((m : Int) == 0) = true := by simp [hm0]
          clear hm0
          refine wp_region_cl (fun (p : Unit) jz => [.int .i64 0, .bool false, .bool false, undef, undef, undef, undef, undef, undef, undef, undef, undef, undef, .bool false, .bool false, .pointer (some ⟨be, 1, none⟩), .int .i64 rr, .bool false, .bool false, .bool false, .pointer (some ⟨be, 1, none⟩), .int .i64 rr, .bool false, .bool false, .bool false, .pointer (some ⟨be, 2, none⟩), .slice pa m pc, .int .i64 (m : Int), .bool true, .bool true, .bool true, undef, undef, undef, undef, .bool true].getD jz undef)
            (fun p l wx => Below wa.heap.size wa wx)
            (by kernel_rfl) (by kernel_rfl) (fun q => by simp only [putTo, dstOf, Act.put, List.size_toArray, List.length_cons, List.length_nil, List.getElem?_toArray, Nat.reduceAdd, Option.bind_some, List.getElem?_cons_zero, List.getElem?_cons_succ, List.setIfInBounds_toArray, List.set_cons_zero, List.set_cons_succ, List.getD_cons_zero, List.getD_cons_succ]; exact rfl) () ?_ ?_ ?_
          · exact (Below.refl _ _).drew
          · intro i o ho p l wx hR hl he hcl K hK
            rcases i with _ | _ | _ | _ | _ | _ | _ | _ | _ | _ | _ | _ | _ | _ | _ | _ | _ | _ | _ | _ | _ | _ | _ | _ | _ | _ | _ | _ | _ | _ | _ | _ | _ | _ | _ | _ | i
            · obtain rfl : _ = o := Option.some.inj ho
              have HR := Lib.hid hR
              clear hR
              go_simp
              exact hK p wx (fun _ _ => rfl) HR.out
            · obtain rfl : _ = o := Option.some.inj ho
              have HR := Lib.hid hR
              clear hR
              go_simp
              exact hK p wx (fun _ _ => rfl) HR.out
            · obtain rfl : _ = o := Option.some.inj ho
              have HR := Lib.hid hR
              clear hR
              go_simp
              exact hK p wx (fun _ _ => rfl) HR.out
            · obtain rfl : _ = o := Option.some.inj ho
              have HR := Lib.hid hR
              clear hR
              go_simp
              exact hK p wx (fun _ _ => rfl) HR.out
            · obtain rfl : _ = o := Option.some.inj ho
              have HR := Lib.hid hR
              clear hR
              go_simp
              exact hK p wx (fun _ _ => rfl) HR.out
            · obtain rfl : _ = o := Option.some.inj ho
              have HR := Lib.hid hR
              clear hR
              go_simp
              exact hK p wx (fun _ _ => rfl) HR.out
            · obtain rfl : _ = o := Option.some.inj ho
              have HR := Lib.hid hR
              clear hR
              go_simp
              exact hK p wx (fun _ _ => rfl) HR.out
            · obtain rfl : _ = o := Option.some.inj ho
              have HR := Lib.hid hR
              clear hR
              go_simp
              exact hK p wx (fun _ _ => rfl) HR.out
            · obtain rfl : _ = o := Option.some.inj ho
              have HR := Lib.hid hR
              clear hR
              go_simp
              exact hK p wx (fun _ _ => rfl) HR.out
            · obtain rfl : _ = o := Option.some.inj ho
              have HR := Lib.hid hR
              clear hR
              go_simp
              exact hK p wx (fun _ _ => rfl) HR.out
            · obtain rfl : _ = o := Option.some.inj ho
              have HR := Lib.hid hR
              clear hR
              go_simp
              exact hK p wx (fun _ _ => rfl) HR.out
            · obtain rfl : _ = o := Option.some.inj ho
              have HR := Lib.hid hR
              clear hR
              go_simp
              exact hK p wx (fun _ _ => rfl) HR.out
            · obtain rfl : _ = o := Option.some.inj ho
              have HR := Lib.hid hR
              clear hR
              go_simp
              exact hK p wx (fun _ _ => rfl) HR.out
            · obtain rfl : _ = o := Option.some.inj ho
              have HR := Lib.hid hR
              clear hR
              go_simp
              exact hK p wx (fun _ _ => rfl) HR.out
            · obtain rfl : _ = o := Option.some.inj ho
              have HR := Lib.hid hR
              clear hR
              go_simp
              exact hK p wx (fun _ _ => rfl) HR.out
            · obtain rfl : _ = o := Option.some.inj ho
              have HR := Lib.hid hR
              clear hR
              go_simp
              exact hK p wx (fun _ _ => rfl) HR.out
            · obtain rfl : _ = o := Option.some.inj ho
              have q := below_cell HC1.out hR
              have HR := Lib.hid hR
              clear hR
              go_simp
              exact hK p wx (fun _ _ => rfl) HR.out
            · obtain rfl : _ = o := Option.some.inj ho
              have HR := Lib.hid hR
              clear hR
              go_simp
              exact hK p wx (fun _ _ => rfl) HR.out
            · obtain rfl : _ = o := Option.some.inj ho
              have HR := Lib.hid hR
              clear hR
              go_simp
              exact hK p wx (fun _ _ => rfl) HR.out
            · obtain rfl : _ = o := Option.some.inj ho
              have HR := Lib.hid hR
              clear hR
              go_simp
              exact hK p wx (fun _ _ => rfl) HR.out
            · obtain rfl : _ = o := Option.some.inj ho
              have HR := Lib.hid hR
              clear hR
              go_simp
              exact hK p wx (fun _ _ => rfl) HR.out
            · obtain rfl : _ = o := Option.some.inj ho
              have q := below_cell HC1.out hR
              have HR := Lib.hid hR
              clear hR
              go_simp
              exact hK p wx (fun _ _ => rfl) HR.out
            · obtain rfl : _ = o := Option.some.inj ho
              have HR := Lib.hid hR
              clear hR
              go_simp
              exact hK p wx (fun _ _ => rfl) HR.out
            · obtain rfl : _ = o := Option.some.inj ho
              have HR := Lib.hid hR
              clear hR
              go_simp
              exact hK p wx (fun _ _ => rfl) HR.out
            · obtain rfl : _ = o := Option.some.inj ho
              have HR := Lib.hid hR
              clear hR
              go_simp
              exact hK p wx (fun _ _ => rfl) HR.out
            · obtain rfl : _ = o := Option.some.inj ho
              have HR := Lib.hid hR
              clear hR
              go_simp
              exact hK p wx (fun _ _ => rfl) HR.out
            · obtain rfl : _ = o := Option.some.inj ho
              have q := below_cell HC2.out hR
              have HR := Lib.hid hR
              clear hR
              go_simp
              exact hK p wx (fun _ _ => rfl) HR.out
            · obtain rfl : _ = o := Option.some.inj ho
              have HR := Lib.hid hR
              clear hR
              go_simp
              exact hK p wx (fun _ _ => rfl) HR.out
            · obtain rfl : _ = o := Option.some.inj ho
              have HR := Lib.hid hR
              clear hR
              go_simp
              exact hK p wx (fun _ _ => rfl) HR.out
            · obtain rfl : _ = o := Option.some.inj ho
              have HR := Lib.hid hR
              clear hR
              go_simp
              exact hK p wx (fun _ _ => rfl) HR.out
            · obtain rfl : _ = o := Option.some.inj ho
              have HR := Lib.hid hR
              clear hR
              go_simp
              exact hK p wx (fun _ _ => rfl) HR.out
            · obtain rfl : _ = o := Option.some.inj ho
              have HR := Lib.hid hR
              clear hR
              go_simp
              exact hK p wx (fun _ _ => rfl) HR.out
            · obtain rfl : _ = o := Option.some.inj ho
              have HR := Lib.hid hR
              clear hR
              go_simp
              exact hK p wx (fun _ _ => rfl) HR.out
            · obtain rfl : _ = o := Option.some.inj ho
              have HR := Lib.hid hR
              clear hR
              go_simp
              exact hK p wx (fun _ _ => rfl) HR.out
            · obtain rfl : _ = o := Option.some.inj ho
              have HR := Lib.hid hR
              clear hR
              go_simp
              exact hK p wx (fun _ _ => rfl) HR.out
            · obtain rfl : _ = o := Option.some.inj ho
              have HR := Lib.hid hR
              clear hR
              go_simp
              exact hK p wx (fun _ _ => rfl) HR.out
            · simp at ho
          · intro p l wx hl hR
            have HWx := Lib.hid (low_more HWa.out hR)
            clear hl hR
            go_wp2_with fail
            go_ret
            exact ⟨by rw [HBad.out]; rfl, HWx.out⟩
        have hm0b : ((m : Int) == 0) = false := beq_eq_false_iff_ne.2 (by omega)
        by_cases hme : MayE es
        · have HMb := Lib.hid (show mayB es = true from decide_eq_true hme)
          have HMe := Lib.hid hme
          clear hme
          refine wp_region_cl (fun (p : Unit) jz => [.int .i64 0, .bool false, .bool false, undef, undef, undef, undef, undef, undef, undef, undef, undef, undef, .bool false, .bool false, .pointer (some ⟨be, 1, none⟩), .int .i64 rr, .bool false, .bool false, .bool false, .pointer (some ⟨be, 1, none⟩), .int .i64 rr, .bool false, .bool false, .bool false, .pointer (some ⟨be, 2, none⟩), .slice pa m pc, .int .i64 (m : Int), .bool false, .bool false, .bool false, .pointer (some ⟨be, 2, none⟩), .slice pa m pc, .bool true, .bool false, .bool false].getD jz undef)
            (fun p l wx => Below wa.heap.size wa wx)
            (by kernel_rfl) (by kernel_rfl) (fun q => by simp only [putTo, dstOf, Act.put, List.size_toArray, List.length_cons, List.length_nil, List.getElem?_toArray, Nat.reduceAdd, Option.bind_some, List.getElem?_cons_zero, List.getElem?_cons_succ, List.setIfInBounds_toArray, List.set_cons_zero, List.set_cons_succ, List.getD_cons_zero, List.getD_cons_succ]; exact rfl) () ?_ ?_ ?_
          · exact (Below.refl _ _).drew
          · intro i o ho p l wx hR hl he hcl K hK
            rcases i with _ | _ | _ | _ | _ | _ | _ | _ | _ | _ | _ | _ | _ | _ | _ | _ | _ | _ | _ | _ | _ | _ | _ | _ | _ | _ | _ | _ | _ | _ | _ | _ | _ | _ | _ | _ | i
            · obtain rfl : _ = o := Option.some.inj ho
              have HR := Lib.hid hR
              clear hR
              go_simp
              exact hK p wx (fun _ _ => rfl) HR.out
            · obtain rfl : _ = o := Option.some.inj ho
              have HR := Lib.hid hR
              clear hR
              go_simp
              exact hK p wx (fun _ _ => rfl) HR.out
            · obtain rfl : _ = o := Option.some.inj ho
              have HR := Lib.hid hR
              clear hR
              go_simp
              exact hK p wx (fun _ _ => rfl) HR.out
            · obtain rfl : _ = o := Option.some.inj ho
              have HR := Lib.hid hR
              clear hR
              go_simp
              exact hK p wx (fun _ _ => rfl) HR.out
            · obtain rfl : _ = o := Option.some.inj ho
              have HR := Lib.hid hR
              clear hR
              go_simp
              exact hK p wx (fun _ _ => rfl) HR.out
            · obtain rfl : _ = o := Option.some.inj ho
              have HR := Lib.hid hR
              clear hR
              go_simp
              exact hK p wx (fun _ _ => rfl) HR.out
            · obtain rfl : _ = o := Option.some.inj ho
              have HR := Lib.hid hR
              clear hR
              go_simp
              exact hK p wx (fun _ _ => rfl) HR.out
            · obtain rfl : _ = o := Option.some.inj ho
              have HR := Lib.hid hR
              clear hR
              go_simp
              exact hK p wx (fun _ _ => rfl) HR.out
            · obtain rfl : _ = o := Option.some.inj ho
              have HR := Lib.hid hR
              clear hR
              go_simp
              exact hK p wx (fun _ _ => rfl) HR.out
            · obtain rfl : _ = o := Option.some.inj ho
              have HR := Lib.hid hR
              clear hR
              go_simp
              exact hK p wx (fun _ _ => rfl) HR.out
            · obtain rfl : _ = o := Option.some.inj ho
              have HR := Lib.hid hR
              clear hR
              go_simp
              exact hK p wx (fun _ _ => rfl) HR.out
            · obtain rfl : _ = o := Option.some.inj ho
              have HR := Lib.hid hR
              clear hR
              go_simp
              exact hK p wx (fun _ _ => rfl) HR.out
            · obtain rfl : _ = o := Option.some.inj ho
              have HR := Lib.hid hR
              clear hR
              go_simp
              exact hK p wx (fun _ _ => rfl) HR.out
            · obtain rfl : _ = o := Option.some.inj ho
              have HR := Lib.hid hR
              clear hR
              go_simp
              exact hK p wx (fun _ _ => rfl) HR.out
            · obtain rfl : _ = o := Option.some.inj ho
              have HR := Lib.hid hR
              clear hR
              go_simp
              exact hK p wx (fun _ _ => rfl) HR.out
            · obtain rfl : _ = o := Option.some.inj ho
              have HR := Lib.hid hR
              clear hR
              go_simp
              exact hK p wx (fun _ _ => rfl) HR.out
            · obtain rfl : _ = o := Option.some.inj ho
              have q := below_cell HC1.out hR
              have HR := Lib.hid hR
              clear hR
              go_simp
              exact hK p wx (fun _ _ => rfl) HR.out
            · obtain rfl : _ = o := Option.some.inj ho
              have HR := Lib.hid hR
              clear hR
              go_simp
              exact hK p wx (fun _ _ => rfl) HR.out
            · obtain rfl : _ = o := Option.some.inj ho
              have HR := Lib.hid hR
              clear hR
              go_simp
              exact hK p wx (fun _ _ => rfl) HR.out
            · obtain rfl : _ = o := Option.some.inj ho
              have HR := Lib.hid hR
              clear hR
              go_simp
              exact hK p wx (fun _ _ => rfl) HR.out
            · obtain rfl : _ = o := Option.some.inj ho
              have HR := Lib.hid hR
              clear hR
              go_simp
              exact hK p wx (fun _ _ => rfl) HR.out
            · obtain rfl : _ = o := Option.some.inj ho
              have q := below_cell HC1.out hR
              have HR := Lib.hid hR
              clear hR
              go_simp
              exact hK p wx (fun _ _ => rfl) HR.out
            · obtain rfl : _ = o := Option.some.inj ho
              have HR := Lib.hid hR
              clear hR
              go_simp
              exact hK p wx (fun _ _ => rfl) HR.out
            · obtain rfl : _ = o := Option.some.inj ho
              have HR := Lib.hid hR
              clear hR
              go_simp
              exact hK p wx (fun _ _ => rfl) HR.out
            · obtain rfl : _ = o := Option.some.inj ho
              have HR := Lib.hid hR
              clear hR
              go_simp
              exact hK p wx (fun _ _ => rfl) HR.out
            · obtain rfl : _ = o := Option.some.inj ho
              have HR := Lib.hid hR
              clear hR
              go_simp
              exact hK p wx (fun _ _ => rfl) HR.out
            · obtain rfl : _ = o := Option.some.inj ho
              have q := below_cell HC2.out hR
              have HR := Lib.hid hR
              clear hR
              go_simp
              exact hK p wx (fun _ _ => rfl) HR.out
            · obtain rfl : _ = o := Option.some.inj ho
              have HR := Lib.hid hR
              clear hR
              go_simp
              exact hK p wx (fun _ _ => rfl) HR.out
            · obtain rfl : _ = o := Option.some.inj ho
              have HR := Lib.hid hR
              clear hR
              go_simp
              exact hK p wx (fun _ _ => rfl) HR.out
            · obtain rfl : _ = o := Option.some.inj ho
              have HR := Lib.hid hR
              clear hR
              go_simp
              exact hK p wx (fun _ _ => rfl) HR.out
            · obtain rfl : _ = o := Option.some.inj ho
              have HR := Lib.hid hR
              clear hR
              go_simp
              exact hK p wx (fun _ _ => rfl) HR.out
            · obtain rfl : _ = o := Option.some.inj ho
              have HR := Lib.hid hR
              clear hR
              go_simp
              exact hK p wx (fun _ _ => rfl) HR.out
            · obtain rfl : _ = o := Option.some.inj ho
              have q := below_cell HC2.out hR
              have HR := Lib.hid hR
              clear hR
              go_simp
              exact hK p wx (fun _ _ => rfl) HR.out
            · obtain rfl : _ = o := Option.some.inj ho
              have HR := Lib.hid hR
              clear hR
              go_simp
              refine (HMay.out wx pa pc m es HM.out (HRe.out.below (low_more HWa.out HR.out)) (by omega)).mono ?_; rintro e w5 ⟨rfl, hb5⟩
              rw [HMb.out]
              exact hK p w5 (fun _ _ => rfl) (low_more HR.out hb5)
            · obtain rfl : _ = o := Option.some.inj ho
              have HR := Lib.hid hR
              clear hR
              go_simp
              exact hK p wx (fun _ _ => rfl) HR.out
            · obtain rfl : _ = o := Option.some.inj ho
              have HR := Lib.hid hR
              clear hR
              go_simp
              exact hK p wx (fun _ _ => rfl) HR.out
            · simp at ho
          · intro p l wx hl hR
            have HWx := Lib.hid (low_more HWa.out hR)
            have HEx := Lib.hid (block_below HEa.out hR)
            clear hl hR
            have cb := cell_at HEx.out 2
            go_wp2_with fail
            go_loopw [64] (fun kv wr => ∃ k : Nat, k ≤ m ∧ kv = .int .i64 (k : Int) ∧ Below W.heap.size W wr ∧ Hid (wr.heap[be]? = some (.cells #[.string kk, .int .i64 rr, .slice pa m pc] 34 (0, 0))) ∧ Hid (∀ s, s < k → (enAt es s).1 < n)) (fun kv _ => m - (intOf kv).toNat)
            case atStart => exact ⟨0, by omega, rfl, HWx.out, Lib.hid HEx.out, Lib.hid fun s hs => absurd hs (by omega)⟩
            case round =>
              obtain ⟨k, hk, rfl, hw2, he2, HD2⟩ := hrel
              have HW2 := Lib.hid hw2
              have cb2 := cell_at he2.out 2
              clear cb
              by_cases hkm : k < m
              · have hkm1 : (k : Int) < (m : Int) := by omega
                obtain ⟨gp, op, hpa, cd, _⟩ := HRe.out k _ (enAt_lt (by rw [HM.out]; exact hkm))
                subst hpa
                obtain ⟨d, hd⟩ : ∃ d, (enAt es k).1 = d := ⟨_, rfl⟩
                rw [hd] at cd
                have cd := below_cell cd hw2
                have HDk := Lib.hid hd
                clear hd hw2
                by_cases hdn : d < (n : Int)
                · have hdn2 : ¬ (n : Int) ≤ d := by omega
                  have hdn3 : decide ((n : Int) ≤ d) = false := decide_eq_false hdn2
                  have hdn4 : decide (d ≥ (n : Int)) = false := decide_eq_false hdn2
                  have HNx := Lib.hid (show ∀ s, s < k + 1 → (enAt es s).1 < n from fun s hs => by
                    by_cases hsk : s < k
                    · exact HD2.out s hsk
                    · obtain rfl : s = k := by omega
                      rw [HDk.out]; exact hdn)
                  go_wp2_with fail
                  go_roundw
                  case rel => exact ⟨k + 1, by omega, by go_num, HW2.out, he2, HNx⟩
                  case measure => simp [intOf]; omega
                · have hdn2 : (n : Int) ≤ d := by omega
                  have HBad := Lib.hid (HNot.out fun h => by
                    obtain ⟨_, _, h3, h4, h5⟩ := h
                    have := (docs_last h4 n h3).2 h5 k (by rw [HM.out]; exact hkm)
                    rw [HDk.out] at this
                    omega)
                  have hdn3 : decide ((n : Int) ≤ d) = true := decide_eq_true hdn2
                  have hdn4 : decide (d ≥ (n : Int)) = true := decide_eq_true hdn2
                  go_wp2_with fail
                  go_ret
                  exact ⟨by rw [HBad.out]; rfl, HW2.out⟩
              · obtain rfl : k = m := by omega
                have HNx := Lib.hid (show ∀ j, j < 0 + 1 → upK L j ∧ okLi n (liAt L j) from fun j hj => by
                  by_cases hji : j < 0
                  · exact HOk.out j hji
                  · obtain rfl : j = 0 := by omega
                    refine ⟨HUp.out, ?_⟩
                    rw [HAt.out]
                    exact ⟨by omega, by omega, by show 0 < es.length; rw [HM.out]; omega, HMe.out, (docs_last HMe.out n (by rw [HM.out]; omega)).1 (fun i hi => HD2.out i (by rw [← HM.out]; exact hi))⟩)
                go_wp2_with fail
                go_roundw
                case rel => exact ⟨0 + 1, by omega, by go_num, HNx, HW2.out⟩
                case measure => simp [intOf]; omega
        · have HMb := Lib.hid (show mayB es = false from decide_eq_false hme)
          have HBad := Lib.hid (HNot.out fun h => hme h.2.2.2.1)
          clear hme
          refine wp_region_cl (fun (p : Unit) jz => [.int .i64 0, .bool false, .bool false, undef, undef, undef, undef, undef, undef, undef, undef, undef, undef, .bool false, .bool false, .pointer (some ⟨be, 1, none⟩), .int .i64 rr, .bool false, .bool false, .bool false, .pointer (some ⟨be, 1, none⟩), .int .i64 rr, .bool false, .bool false, .bool false, .pointer (some ⟨be, 2, none⟩), .slice pa m pc, .int .i64 (m : Int), .bool false, .bool false, .bool false, .pointer (some ⟨be, 2, none⟩), .slice pa m pc, .bool false, .bool true, .bool true].getD jz undef)
            (fun p l wx => Below wa.heap.size wa wx)
            (by kernel_rfl) (by kernel_rfl) (fun q => by simp only [putTo, dstOf, Act.put, List.size_toArray, List.length_cons, List.length_nil, List.getElem?_toArray, Nat.reduceAdd, Option.bind_some, List.getElem?_cons_zero, List.getElem?_cons_succ, List.setIfInBounds_toArray, List.set_cons_zero, List.set_cons_succ, List.getD_cons_zero, List.getD_cons_succ]; exact rfl) () ?_ ?_ ?_
          · exact (Below.refl _ _).drew
          · intro i o ho p l wx hR hl he hcl K hK
            rcases i with _ | _ | _ | _ | _ | _ | _ | _ | _ | _ | _ | _ | _ | _ | _ | _ | _ | _ | _ | _ | _ | _ | _ | _ | _ | _ | _ | _ | _ | _ | _ | _ | _ | _ | _ | _ | i
            · obtain rfl : _ = o := Option.some.inj ho
              have HR := Lib.hid hR
              clear hR
              go_simp
              exact hK p wx (fun _ _ => rfl) HR.out
            · obtain rfl : _ = o := Option.some.inj ho
              have HR := Lib.hid hR
              clear hR
              go_simp
              exact hK p wx (fun _ _ => rfl) HR.out
            · obtain rfl : _ = o := Option.some.inj ho
              have HR := Lib.hid hR
              clear hR
              go_simp
              exact hK p wx (fun _ _ => rfl) HR.out
            · obtain rfl : _ = o := Option.some.inj ho
              have HR := Lib.hid hR
              clear hR
              go_simp
              exact hK p wx (fun _ _ => rfl) HR.out
            · obtain rfl : _ = o := Option.some.inj ho
              have HR := Lib.hid hR
              clear hR
              go_simp
              exact hK p wx (fun _ _ => rfl) HR.out
            · obtain rfl : _ = o := Option.some.inj ho
              have HR := Lib.hid hR
              clear hR
              go_simp
              exact hK p wx (fun _ _ => rfl) HR.out
            · obtain rfl : _ = o := Option.some.inj ho
              have HR := Lib.hid hR
              clear hR
              go_simp
              exact hK p wx (fun _ _ => rfl) HR.out
            · obtain rfl : _ = o := Option.some.inj ho
              have HR := Lib.hid hR
              clear hR
              go_simp
              exact hK p wx (fun _ _ => rfl) HR.out
            · obtain rfl : _ = o := Option.some.inj ho
              have HR := Lib.hid hR
              clear hR
              go_simp
              exact hK p wx (fun _ _ => rfl) HR.out
            · obtain rfl : _ = o := Option.some.inj ho
              have HR := Lib.hid hR
              clear hR
              go_simp
              exact hK p wx (fun _ _ => rfl) HR.out
            · obtain rfl : _ = o := Option.some.inj ho
              have HR := Lib.hid hR
              clear hR
              go_simp
              exact hK p wx (fun _ _ => rfl) HR.out
            · obtain rfl : _ = o := Option.some.inj ho
              have HR := Lib.hid hR
              clear hR
              go_simp
              exact hK p wx (fun _ _ => rfl) HR.out
            · obtain rfl : _ = o := Option.some.inj ho
              have HR := Lib.hid hR
              clear hR
              go_simp
              exact hK p wx (fun _ _ => rfl) HR.out
            · obtain rfl : _ = o := Option.some.inj ho
              have HR := Lib.hid hR
              clear hR
              go_simp
              exact hK p wx (fun _ _ => rfl) HR.out
            · obtain rfl : _ = o := Option.some.inj ho
              have HR := Lib.hid hR
              clear hR
              go_simp
              exact hK p wx (fun _ _ => rfl) HR.out
            · obtain rfl : _ = o := Option.some.inj ho
              have HR := Lib.hid hR
              clear hR
              go_simp
              exact hK p wx (fun _ _ => rfl) HR.out
            · obtain rfl : _ = o := Option.some.inj ho
              have q := below_cell HC1.out hR
              have HR := Lib.hid hR
              clear hR
              go_simp
              exact hK p wx (fun _ _ => rfl) HR.out
            · obtain rfl : _ = o := Option.some.inj ho
              have HR := Lib.hid hR
              clear hR
              go_simp
              exact hK p wx (fun _ _ => rfl) HR.out
            · obtain rfl : _ = o := Option.some.inj ho
              have HR := Lib.hid hR
              clear hR
              go_simp
              exact hK p wx (fun _ _ => rfl) HR.out
            · obtain rfl : _ = o := Option.some.inj ho
              have HR := Lib.hid hR
              clear hR
              go_simp
              exact hK p wx (fun _ _ => rfl) HR.out
            · obtain rfl : _ = o := Option.some.inj ho
              have HR := Lib.hid hR
              clear hR
              go_simp
              exact hK p wx (fun _ _ => rfl) HR.out
            · obtain rfl : _ = o := Option.some.inj ho
              have q := below_cell HC1.out hR
              have HR := Lib.hid hR
              clear hR
              go_simp
              exact hK p wx (fun _ _ => rfl) HR.out
            · obtain rfl : _ = o := Option.some.inj ho
              have HR := Lib.hid hR
              clear hR
              go_simp
              exact hK p wx (fun _ _ => rfl) HR.out
            · obtain rfl : _ = o := Option.some.inj ho
              have HR := Lib.hid hR
              clear hR
              go_simp
              exact hK p wx (fun _ _ => rfl) HR.out
            · obtain rfl : _ = o := Option.some.inj ho
              have HR := Lib.hid hR
              clear hR
              go_simp
              exact hK p wx (fun _ _ => rfl) HR.out
            · obtain rfl : _ = o := Option.some.inj ho
              have HR := Lib.hid hR
              clear hR
              go_simp
              exact hK p wx (fun _ _ => rfl) HR.out
            · obtain rfl : _ = o := Option.some.inj ho
              have q := below_cell HC2.out hR
              have HR := Lib.hid hR
              clear hR
              go_simp
              exact hK p wx (fun _ _ => rfl) HR.out
            · obtain rfl : _ = o := Option.some.inj ho
              have HR := Lib.hid hR
              clear hR
              go_simp
              exact hK p wx (fun _ _ => rfl) HR.out
            · obtain rfl : _ = o := Option.some.inj ho
              have HR := Lib.hid hR
              clear hR
              go_simp
              exact hK p wx (fun _ _ => rfl) HR.out
            · obtain rfl : _ = o := Option.some.inj ho
              have HR := Lib.hid hR
              clear hR
              go_simp
              exact hK p wx (fun _ _ => rfl) HR.out
            · obtain rfl : _ = o := Option.some.inj ho
              have HR := Lib.hid hR
              clear hR
              go_simp
              exact hK p wx (fun _ _ => rfl) HR.out
            · obtain rfl : _ = o := Option.some.inj ho
              have HR := Lib.hid hR
              clear hR
              go_simp
              exact hK p wx (fun _ _ => rfl) HR.out
            · obtain rfl : _ = o := Option.some.inj ho
              have q := below_cell HC2.out hR
              have HR := Lib.hid hR
              clear hR
              go_simp
              exact hK p wx (fun _ _ => rfl) HR.out
            · obtain rfl : _ = o := Option.some.inj ho
              have HR := Lib.hid hR
              clear hR
              go_simp
              refine (HMay.out wx pa pc m es HM.out (HRe.out.below (low_more HWa.out HR.out)) (by omega)).mono ?_; rintro e w5 ⟨rfl, hb5⟩
              rw [HMb.out]
              exact hK p w5 (fun _ _ => rfl) (low_more HR.out hb5)
            · obtain rfl : _ = o := Option.some.inj ho
              have HR := Lib.hid hR
              clear hR
              go_simp
              exact hK p wx (fun _ _ => rfl) HR.out
            · obtain rfl : _ = o := Option.some.inj ho
              have HR := Lib.hid hR
              clear hR
              go_simp
              exact hK p wx (fun _ _ => rfl) HR.out
            · simp at ho
          · intro p l wx hl hR
            have HWx := Lib.hid (low_more HWa.out hR)
            clear hl hR
            go_wp2_with fail
            go_ret
            exact ⟨by rw [HBad.out]; rfl, HWx.out⟩
      · obtain ⟨i1, hi1⟩ : ∃ i1, ix = i1 + 1 := ⟨ix - 1, by omega⟩
        obtain ⟨y, hy⟩ : ∃ y, L[i1]? = some y := ⟨_, List.getElem?_eq_getElem (by rw [HN.out]; omega)⟩
        obtain ⟨_, _, hoL2, d0, _⟩ := HL.out i1 y hy
        injection hoL2 with hoL2
        injection hoL2 with e1 e2
        subst e1 e2
        have hey := (HE.out y (List.mem_of_getElem? hy)).2
        have hup : upK L ix ↔ lessN (keyN y.key) (keyN kk) = true := by
          unfold upK
          rw [show ix - 1 = i1 by omega, liAt_some hy, HAt.out]
          exact ⟨fun h => h (by omega), fun h _ => h⟩
        obtain ⟨ky, hky⟩ : ∃ ky, y.key = ky := ⟨_, rfl⟩
        rw [hky] at hup d0 hey
        have HD0 := Lib.hid (below_cell d0 HWa.out)
        have HUpK := Lib.hid hup
        have HLs := Lib.hid (fun w => HLess.out w ky kk hey HKs.out)
        have z1 : (ix : Int) - 1 = (i1 : Int) := by omega
        have z2 : IntKind.i64.wrap ((ix : Int) - 1) = (i1 : Int) := by rw [z1]; exact IntWalk.i64_in _ (by omega)
        have z3 : IntKind.i64.wrap (i1 : Int) = (i1 : Int) := IntWalk.i64_in _ (by omega)
        have z4 : i1 < tt := by omega
        have z5 : (0 : Int) < (ix : Int) := by omega
        have z6 : 0 < ix := by omega
        clear hy d0 hup hky hi1 hey
        cases hless : lessN (keyN ky) (keyN kk) with
        | false =>
          have HBad := Lib.hid (HNotK.out fun h => by have := HUpK.out.1 h; rw [hless] at this; cases this)
          rw [hless] at HLs
          clear hless
          refine wp_region_cl (fun (p : Unit) jz => [.int .i64 (ix : Int), .bool true, .bool true, .slice (some ⟨g, oo, none⟩) tt cL, .int .i64 (ix : Int), .int .i64 (i1 : Int), .pointer (some ⟨g, oo + i1 * 3, none⟩), .pointer (some ⟨g, oo + i1 * 3, none⟩), .string ky, .pointer (some ⟨be, 0, none⟩), .string kk, .bool false, .bool true, .bool true, .bool true, undef, undef, undef, .bool true, .bool true, undef, undef, undef, .bool true, .bool true, undef, undef, undef, undef, .bool true, .bool true, undef, undef, undef, undef, .bool true].getD jz undef)
            (fun p l wx => Below wa.heap.size wa wx)
            (by kernel_rfl) (by kernel_rfl) (fun q => by simp only [putTo, dstOf, Act.put, List.size_toArray, List.length_cons, List.length_nil, List.getElem?_toArray, Nat.reduceAdd, Option.bind_some, List.getElem?_cons_zero, List.getElem?_cons_succ, List.setIfInBounds_toArray, List.set_cons_zero, List.set_cons_succ, List.getD_cons_zero, List.getD_cons_succ]; exact rfl) () ?_ ?_ ?_
          · exact (Below.refl _ _).drew
          · intro i o ho p l wx hR hl he hcl K hK
            rcases i with _ | _ | _ | _ | _ | _ | _ | _ | _ | _ | _ | _ | _ | _ | _ | _ | _ | _ | _ | _ | _ | _ | _ | _ | _ | _ | _ | _ | _ | _ | _ | _ | _ | _ | _ | _ | i
            · obtain rfl : _ = o := Option.some.inj ho
              have HR := Lib.hid hR
              clear hR
              go_simp
              exact hK p wx (fun _ _ => rfl) HR.out
            · obtain rfl : _ = o := Option.some.inj ho
              have HR := Lib.hid hR
              clear hR
              go_simp
              exact hK p wx (fun _ _ => rfl) HR.out
            · obtain rfl : _ = o := Option.some.inj ho
              have HR := Lib.hid hR
              clear hR
              go_simp
              exact hK p wx (fun _ _ => rfl) HR.out
            · obtain rfl : _ = o := Option.some.inj ho
              have HR := Lib.hid hR
              clear hR
              go_simp
              exact hK p wx (fun _ _ => rfl) HR.out
            · obtain rfl : _ = o := Option.some.inj ho
              have HR := Lib.hid hR
              clear hR
              go_simp
              exact hK p wx (fun _ _ => rfl) HR.out
            · obtain rfl : _ = o := Option.some.inj ho
              have HR := Lib.hid hR
              clear hR
              go_simp
              exact hK p wx (fun _ _ => rfl) HR.out
            · obtain rfl : _ = o := Option.some.inj ho
              have HR := Lib.hid hR
              clear hR
              go_simp
              exact hK p wx (fun _ _ => rfl) HR.out
            · obtain rfl : _ = o := Option.some.inj ho
              have HR := Lib.hid hR
              clear hR
              go_simp
              exact hK p wx (fun _ _ => rfl) HR.out
            · obtain rfl : _ = o := Option.some.inj ho
              have q := below_cell HD0.out hR
              have HR := Lib.hid hR
              clear hR
              go_simp
              exact hK p wx (fun _ _ => rfl) HR.out
            · obtain rfl : _ = o := Option.some.inj ho
              have HR := Lib.hid hR
              clear hR
              go_simp
              exact hK p wx (fun _ _ => rfl) HR.out
            · obtain rfl : _ = o := Option.some.inj ho
              have q := below_cell HC0.out hR
              have HR := Lib.hid hR
              clear hR
              go_simp
              exact hK p wx (fun _ _ => rfl) HR.out
            · obtain rfl : _ = o := Option.some.inj ho
              have HR := Lib.hid hR
              clear hR
              go_simp
              refine (HLs.out wx).mono ?_; rintro e w5 ⟨rfl, t5, rfl⟩
              exact hK p _ (fun _ _ => rfl) (below_drawn HR.out t5)
            · obtain rfl : _ = o := Option.some.inj ho
              have HR := Lib.hid hR
              clear hR
              go_simp
              exact hK p wx (fun _ _ => rfl) HR.out
            · obtain rfl : _ = o := Option.some.inj ho
              have HR := Lib.hid hR
              clear hR
              go_simp
              exact hK p wx (fun _ _ => rfl) HR.out
            · obtain rfl : _ = o := Option.some.inj ho
              have HR := Lib.hid hR
              clear hR
              go_simp
              exact hK p wx (fun _ _ => rfl) HR.out
            · obtain rfl : _ = o := Option.some.inj ho
              have HR := Lib.hid hR
              clear hR
              go_simp
              exact hK p wx (fun _ _ => rfl) HR.out
            · obtain rfl : _ = o := Option.some.inj ho
              have HR := Lib.hid hR
              clear hR
              go_simp
              exact hK p wx (fun _ _ => rfl) HR.out
            · obtain rfl : _ = o := Option.some.inj ho
              have HR := Lib.hid hR
              clear hR
              go_simp
              exact hK p wx (fun _ _ => rfl) HR.out
            · obtain rfl : _ = o := Option.some.inj ho
              have HR := Lib.hid hR
              clear hR
              go_simp
              exact hK p wx (fun _ _ => rfl) HR.out
            · obtain rfl : _ = o := Option.some.inj ho
              have HR := Lib.hid hR
              clear hR
              go_simp
              exact hK p wx (fun _ _ => rfl) HR.out
            · obtain rfl : _ = o := Option.some.inj ho
              have HR := Lib.hid hR
              clear hR
              go_simp
              exact hK p wx (fun _ _ => rfl) HR.out
            · obtain rfl : _ = o := Option.some.inj ho
              have HR := Lib.hid hR
              clear hR
              go_simp
              exact hK p wx (fun _ _ => rfl) HR.out
            · obtain rfl : _ = o := Option.some.inj ho
              have HR := Lib.hid hR
              clear hR
              go_simp
              exact hK p wx (fun _ _ => rfl) HR.out
            · obtain rfl : _ = o := Option.some.inj ho
              have HR := Lib.hid hR
              clear hR
              go_simp
              exact hK p wx (fun _ _ => rfl) HR.out
            · obtain rfl : _ = o := Option.some.inj ho
              have HR := Lib.hid hR
              clear hR
              go_simp
              exact hK p wx (fun _ _ => rfl) HR.out
            · obtain rfl : _ = o := Option.some.inj ho
              have HR := Lib.hid hR
              clear hR
              go_simp
              exact hK p wx (fun _ _ => rfl) HR.out
            · obtain rfl : _ = o := Option.some.inj ho
              have HR := Lib.hid hR
              clear hR
              go_simp
              exact hK p wx (fun _ _ => rfl) HR.out
            · obtain rfl : _ = o := Option.some.inj ho
              have HR := Lib.hid hR
              clear hR
              go_simp
              exact hK p wx (fun _ _ => rfl) HR.out
            · obtain rfl : _ = o := Option.some.inj ho
              have HR := Lib.hid hR
              clear hR
              go_simp
              exact hK p wx (fun _ _ => rfl) HR.out
            · obtain rfl : _ = o := Option.some.inj ho
              have HR := Lib.hid hR
              clear hR
              go_simp
              exact hK p wx (fun _ _ => rfl) HR.out
            · obtain rfl : _ = o := Option.some.inj ho
              have HR := Lib.hid hR
              clear hR
              go_simp
              exact hK p wx (fun _ _ => rfl) HR.out
            · obtain rfl : _ = o := Option.some.inj ho
              have HR := Lib.hid hR
              clear hR
              go_simp
              exact hK p wx (fun _ _ => rfl) HR.out
            · obtain rfl : _ = o := Option.some.inj ho
              have HR := Lib.hid hR
              clear hR
              go_simp
              exact hK p wx (fun _ _ => rfl) HR.out
            · obtain rfl : _ = o := Option.some.inj ho
              have HR := Lib.hid hR
              clear hR
              go_simp
              exact hK p wx (fun _ _ => rfl) HR.out
            · obtain rfl : _ = o := Option.some.inj ho
              have HR := Lib.hid hR
              clear hR
              go_simp
              exact hK p wx (fun _ _ => rfl) HR.out
            · obtain rfl : _ = o := Option.some.inj ho
              have HR := Lib.hid hR
              clear hR
              go_simp
              exact hK p wx (fun _ _ => rfl) HR.out
            · simp at ho
          · intro p l wx hl hR
            have HWx := Lib.hid (low_more HWa.out hR)
            clear hl hR
            go_wp2_with fail
            go_ret
            exact ⟨by rw [HBad.out]; rfl, HWx.out⟩
        | true =>
          have HUp := Lib.hid (HUpK.out.2 hless)
          rw [hless] at HLs
          clear hless
          by_cases hr1 : rr < 1
          · have HBad := Lib.hid (HNot.out fun h => by have := h.1; dsimp only at this; omega)
            have hr1b : decide (rr < 1) = true := decide_eq_true hr1
            refine wp_region_cl (fun (p : Unit) jz => [.int .i64 (ix : Int), .bool true, .bool true, .slice (some ⟨g, oo, none⟩) tt cL, .int .i64 (ix : Int), .int .i64 (i1 : Int), .pointer (some ⟨g, oo + i1 * 3, none⟩), .pointer (some ⟨g, oo + i1 * 3, none⟩), .string ky, .pointer (some ⟨be, 0, none⟩), .string kk, .bool true, .bool false, .bool false, .bool false, .pointer (some ⟨be, 1, none⟩), .int .i64 rr, .bool true, .bool true, .bool true, undef, undef, undef, .bool true, .bool true, undef, undef, undef, undef, .bool true, .bool true, undef, undef, undef, undef, .bool true].getD jz undef)
              (fun p l wx => Below wa.heap.size wa wx)
              (by kernel_rfl) (by kernel_rfl) (fun q => by simp only [putTo, dstOf, Act.put, List.size_toArray, List.length_cons, List.length_nil, List.getElem?_toArray, Nat.reduceAdd, Option.bind_some, List.getElem?_cons_zero, List.getElem?_cons_succ, List.setIfInBounds_toArray, List.set_cons_zero, List.set_cons_succ, List.getD_cons_zero, List.getD_cons_succ]; exact rfl) () ?_ ?_ ?_
            · exact (Below.refl _ _).drew
            · intro i o ho p l wx hR hl he hcl K hK
              rcases i with _ | _ | _ | _ | _ | _ | _ | _ | _ | _ | _ | _ | _ | _ | _ | _ | _ | _ | _ | _ | _ | _ | _ | _ | _ | _ | _ | _ | _ | _ | _ | _ | _ | _ | _ | _ | i
              · obtain rfl : _ = o := Option.some.inj ho
                have HR := Lib.hid hR
                clear hR
                go_simp
                exact hK p wx (fun _ _ => rfl) HR.out
              · obtain rfl : _ = o := Option.some.inj ho
                have HR := Lib.hid hR
                clear hR
                go_simp
                exact hK p wx (fun _ _ => rfl) HR.out
              · obtain rfl : _ = o := Option.some.inj ho
                have HR := Lib.hid hR
                clear hR
                go_simp
                exact hK p wx (fun _ _ => rfl) HR.out
              · obtain rfl : _ = o := Option.some.inj ho
                have HR := Lib.hid hR
                clear hR
                go_simp
                exact hK p wx (fun _ _ => rfl) HR.out
              · obtain rfl : _ = o := Option.some.inj ho
                have HR := Lib.hid hR
                clear hR
                go_simp
                exact hK p wx (fun _ _ => rfl) HR.out
              · obtain rfl : _ = o := Option.some.inj ho
                have HR := Lib.hid hR
                clear hR
                go_simp
                exact hK p wx (fun _ _ => rfl) HR.out
              · obtain rfl : _ = o := Option.some.inj ho
                have HR := Lib.hid hR
                clear hR
                go_simp
                exact hK p wx (fun _ _ => rfl) HR.out
              · obtain rfl : _ = o := Option.some.inj ho
                have HR := Lib.hid hR
                clear hR
                go_simp
                exact hK p wx (fun _ _ => rfl) HR.out
              · obtain rfl : _ = o := Option.some.inj ho
                have q := below_cell HD0.out hR
                have HR := Lib.hid hR
                clear hR
                go_simp
                exact hK p wx (fun _ _ => rfl) HR.out
              · obtain rfl : _ = o := Option.some.inj ho
                have HR := Lib.hid hR
                clear hR
                go_simp
                exact hK p wx (fun _ _ => rfl) HR.out
              · obtain rfl : _ = o := Option.some.inj ho
                have q := below_cell HC0.out hR
                have HR := Lib.hid hR
                clear hR
                go_simp
                exact hK p wx (fun _ _ => rfl) HR.out
              · obtain rfl : _ = o := Option.some.inj ho
                have HR := Lib.hid hR
                clear hR
                go_simp
                refine (HLs.out wx).mono ?_; rintro e w5 ⟨rfl, t5, rfl⟩
                exact hK p _ (fun _ _ => rfl) (below_drawn HR.out t5)
              · obtain rfl : _ = o := Option.some.inj ho
                have HR := Lib.hid hR
                clear hR
                go_simp
                exact hK p wx (fun _ _ => rfl) HR.out
              · obtain rfl : _ = o := Option.some.inj ho
                have HR := Lib.hid hR
                clear hR
                go_simp
                exact hK p wx (fun _ _ => rfl) HR.out
              · obtain rfl : _ = o := Option.some.inj ho
                have HR := Lib.hid hR
                clear hR
                go_simp
                exact hK p wx (fun _ _ => rfl) HR.out
              · obtain rfl : _ = o := Option.some.inj ho
                have HR := Lib.hid hR
                clear hR
                go_simp
                exact hK p wx (fun _ _ => rfl) HR.out
              · obtain rfl : _ = o := Option.some.inj ho
                have q := below_cell HC1.out hR
                have HR := Lib.hid hR
                clear hR
                go_simp
                exact hK p wx (fun _ _ => rfl) HR.out
              · obtain rfl : _ = o := Option.some.inj ho
                have HR := Lib.hid hR
                clear hR
                go_simp
                exact hK p wx (fun _ _ => rfl) HR.out
              · obtain rfl : _ = o := Option.some.inj ho
                have HR := Lib.hid hR
                clear hR
                go_simp
                exact hK p wx (fun _ _ => rfl) HR.out
              · obtain rfl : _ = o := Option.some.inj ho
                have HR := Lib.hid hR
                clear hR
                go_simp
                exact hK p wx (fun _ _ => rfl) HR.out
              · obtain rfl : _ = o := Option.some.inj ho
                have HR := Lib.hid hR
                clear hR
                go_simp
                exact hK p wx (fun _ _ => rfl) HR.out
              · obtain rfl : _ = o := Option.some.inj ho
                have HR := Lib.hid hR
                clear hR
                go_simp
                exact hK p wx (fun _ _ => rfl) HR.out
              · obtain rfl : _ = o := Option.some.inj ho
                have HR := Lib.hid hR
                clear hR
                go_simp
                exact hK p wx (fun _ _ => rfl) HR.out
              · obtain rfl : _ = o := Option.some.inj ho
                have HR := Lib.hid hR
                clear hR
                go_simp
                exact hK p wx (fun _ _ => rfl) HR.out
              · obtain rfl : _ = o := Option.some.inj ho
                have HR := Lib.hid hR
                clear hR
                go_simp
                exact hK p wx (fun _ _ => rfl) HR.out
              · obtain rfl : _ = o := Option.some.inj ho
                have HR := Lib.hid hR
                clear hR
                go_simp
                exact hK p wx (fun _ _ => rfl) HR.out
              · obtain rfl : _ = o := Option.some.inj ho
                have HR := Lib.hid hR
                clear hR
                go_simp
                exact hK p wx (fun _ _ => rfl) HR.out
              · obtain rfl : _ = o := Option.some.inj ho
                have HR := Lib.hid hR
                clear hR
                go_simp
                exact hK p wx (fun _ _ => rfl) HR.out
              · obtain rfl : _ = o := Option.some.inj ho
                have HR := Lib.hid hR
                clear hR
                go_simp
                exact hK p wx (fun _ _ => rfl) HR.out
              · obtain rfl : _ = o := Option.some.inj ho
                have HR := Lib.hid hR
                clear hR
                go_simp
                exact hK p wx (fun _ _ => rfl) HR.out
              · obtain rfl : _ = o := Option.some.inj ho
                have HR := Lib.hid hR
                clear hR
                go_simp
                exact hK p wx (fun _ _ => rfl) HR.out
              · obtain rfl : _ = o := Option.some.inj ho
                have HR := Lib.hid hR
                clear hR
                go_simp
                exact hK p wx (fun _ _ => rfl) HR.out
              · obtain rfl : _ = o := Option.some.inj ho
                have HR := Lib.hid hR
                clear hR
                go_simp
                exact hK p wx (fun _ _ => rfl) HR.out
              · obtain rfl : _ = o := Option.some.inj ho
                have HR := Lib.hid hR
                clear hR
                go_simp
                exact hK p wx (fun _ _ => rfl) HR.out
              · obtain rfl : _ = o := Option.some.inj ho
                have HR := Lib.hid hR
                clear hR
                go_simp
                exact hK p wx (fun _ _ => rfl) HR.out
              · obtain rfl : _ = o := Option.some.inj ho
                have HR := Lib.hid hR
                clear hR
                go_simp
                exact hK p wx (fun _ _ => rfl) HR.out
              · simp at ho
            · intro p l wx hl hR
              have HWx := Lib.hid (low_more HWa.out hR)
              clear hl hR
              go_wp2_with fail
              go_ret
              exact ⟨by rw [HBad.out]; rfl, HWx.out⟩
          have hr1b : decide (rr < 1) = false := decide_eq_false hr1
          by_cases hr2 : 65535 < rr
          · have HBad := Lib.hid (HNot.out fun h => by have := h.2.1; dsimp only at this; omega)
            have hr2b : decide (65535 < rr) = true := decide_eq_true hr2
            refine wp_region_cl (fun (p : Unit) jz => [.int .i64 (ix : Int), .bool true, .bool true, .slice (some ⟨g, oo, none⟩) tt cL, .int .i64 (ix : Int), .int .i64 (i1 : Int), .pointer (some ⟨g, oo + i1 * 3, none⟩), .pointer (some ⟨g, oo + i1 * 3, none⟩), .string ky, .pointer (some ⟨be, 0, none⟩), .string kk, .bool true, .bool false, .bool false, .bool false, .pointer (some ⟨be, 1, none⟩), .int .i64 rr, .bool false, .bool false, .bool false, .pointer (some ⟨be, 1, none⟩), .int .i64 rr, .bool true, .bool true, .bool true, undef, undef, undef, undef, .bool true, .bool true, undef, undef, undef, undef, .bool true].getD jz undef)
              (fun p l wx => Below wa.heap.size wa wx)
              (by kernel_rfl) (by kernel_rfl) (fun q => by simp only [putTo, dstOf, Act.put, List.size_toArray, List.length_cons, List.length_nil, List.getElem?_toArray, Nat.reduceAdd, Option.bind_some, List.getElem?_cons_zero, List.getElem?_cons_succ, List.setIfInBounds_toArray, List.set_cons_zero, List.set_cons_succ, List.getD_cons_zero, List.getD_cons_succ]; exact rfl) () ?_ ?_ ?_
            · exact (Below.refl _ _).drew
            · intro i o ho p l wx hR hl he hcl K hK
              rcases i with _ | _ | _ | _ | _ | _ | _ | _ | _ | _ | _ | _ | _ | _ | _ | _ | _ | _ | _ | _ | _ | _ | _ | _ | _ | _ | _ | _ | _ | _ | _ | _ | _ | _ | _ | _ | i
              · obtain rfl : _ = o := Option.some.inj ho
                have HR := Lib.hid hR
                clear hR
                go_simp
                exact hK p wx (fun _ _ => rfl) HR.out
              · obtain rfl : _ = o := Option.some.inj ho
                have HR := Lib.hid hR
                clear hR
                go_simp
                exact hK p wx (fun _ _ => rfl) HR.out
              · obtain rfl : _ = o := Option.some.inj ho
                have HR := Lib.hid hR
                clear hR
                go_simp
                exact hK p wx (fun _ _ => rfl) HR.out
              · obtain rfl : _ = o := Option.some.inj ho
                have HR := Lib.hid hR
                clear hR
                go_simp
                exact hK p wx (fun _ _ => rfl) HR.out
              · obtain rfl : _ = o := Option.some.inj ho
                have HR := Lib.hid hR
                clear hR
                go_simp
                exact hK p wx (fun _ _ => rfl) HR.out
              · obtain rfl : _ = o := Option.some.inj ho
                have HR := Lib.hid hR
                clear hR
                go_simp
                exact hK p wx (fun _ _ => rfl) HR.out
              · obtain rfl : _ = o := Option.some.inj ho
                have HR := Lib.hid hR
                clear hR
                go_simp
                exact hK p wx (fun _ _ => rfl) HR.out
              · obtain rfl : _ = o := Option.some.inj ho
                have HR := Lib.hid hR
                clear hR
                go_simp
                exact hK p wx (fun _ _ => rfl) HR.out
              · obtain rfl : _ = o := Option.some.inj ho
                have q := below_cell HD0.out hR
                have HR := Lib.hid hR
                clear hR
                go_simp
                exact hK p wx (fun _ _ => rfl) HR.out
              · obtain rfl : _ = o := Option.some.inj ho
                have HR := Lib.hid hR
                clear hR
                go_simp
                exact hK p wx (fun _ _ => rfl) HR.out
              · obtain rfl : _ = o := Option.some.inj ho
                have q := below_cell HC0.out hR
                have HR := Lib.hid hR
                clear hR
                go_simp
                exact hK p wx (fun _ _ => rfl) HR.out
              · obtain rfl : _ = o := Option.some.inj ho
                have HR := Lib.hid hR
                clear hR
                go_simp
                refine (HLs.out wx).mono ?_; rintro e w5 ⟨rfl, t5, rfl⟩
                exact hK p _ (fun _ _ => rfl) (below_drawn HR.out t5)
              · obtain rfl : _ = o := Option.some.inj ho
                have HR := Lib.hid hR
                clear hR
                go_simp
                exact hK p wx (fun _ _ => rfl) HR.out
              · obtain rfl : _ = o := Option.some.inj ho
                have HR := Lib.hid hR
                clear hR
                go_simp
                exact hK p wx (fun _ _ => rfl) HR.out
              · obtain rfl : _ = o := Option.some.inj ho
                have HR := Lib.hid hR
                clear hR
                go_simp
                exact hK p wx (fun _ _ => rfl) HR.out
              · obtain rfl : _ = o := Option.some.inj ho
                have HR := Lib.hid hR
                clear hR
                go_simp
                exact hK p wx (fun _ _ => rfl) HR.out
              · obtain rfl : _ = o := Option.some.inj ho
                have q := below_cell HC1.out hR
                have HR := Lib.hid hR
                clear hR
                go_simp
                exact hK p wx (fun _ _ => rfl) HR.out
              · obtain rfl : _ = o := Option.some.inj ho
                have HR := Lib.hid hR
                clear hR
                go_simp
                exact hK p wx (fun _ _ => rfl) HR.out
              · obtain rfl : _ = o := Option.some.inj ho
                have HR := Lib.hid hR
                clear hR
                go_simp
                exact hK p wx (fun _ _ => rfl) HR.out
              · obtain rfl : _ = o := Option.some.inj ho
                have HR := Lib.hid hR
                clear hR
                go_simp
                exact hK p wx (fun _ _ => rfl) HR.out
              · obtain rfl : _ = o := Option.some.inj ho
                have HR := Lib.hid hR
                clear hR
                go_simp
                exact hK p wx (fun _ _ => rfl) HR.out
              · obtain rfl : _ = o := Option.some.inj ho
                have q := below_cell HC1.out hR
                have HR := Lib.hid hR
                clear hR
                go_simp
                exact hK p wx (fun _ _ => rfl) HR.out
              · obtain rfl : _ = o := Option.some.inj ho
                have HR := Lib.hid hR
                clear hR
                go_simp
                exact hK p wx (fun _ _ => rfl) HR.out
              · obtain rfl : _ = o := Option.some.inj ho
                have HR := Lib.hid hR
                clear hR
                go_simp
                exact hK p wx (fun _ _ => rfl) HR.out
              · obtain rfl : _ = o := Option.some.inj ho
                have HR := Lib.hid hR
                clear hR
                go_simp
                exact hK p wx (fun _ _ => rfl) HR.out
              · obtain rfl : _ = o := Option.some.inj ho
                have HR := Lib.hid hR
                clear hR
                go_simp
                exact hK p wx (fun _ _ => rfl) HR.out
              · obtain rfl : _ = o := Option.some.inj ho
                have HR := Lib.hid hR
                clear hR
                go_simp
                exact hK p wx (fun _ _ => rfl) HR.out
              · obtain rfl : _ = o := Option.some.inj ho
                have HR := Lib.hid hR
                clear hR
                go_simp
                exact hK p wx (fun _ _ => rfl) HR.out
              · obtain rfl : _ = o := Option.some.inj ho
                have HR := Lib.hid hR
                clear hR
                go_simp
                exact hK p wx (fun _ _ => rfl) HR.out
              · obtain rfl : _ = o := Option.some.inj ho
                have HR := Lib.hid hR
                clear hR
                go_simp
                exact hK p wx (fun _ _ => rfl) HR.out
              · obtain rfl : _ = o := Option.some.inj ho
                have HR := Lib.hid hR
                clear hR
                go_simp
                exact hK p wx (fun _ _ => rfl) HR.out
              · obtain rfl : _ = o := Option.some.inj ho
                have HR := Lib.hid hR
                clear hR
                go_simp
                exact hK p wx (fun _ _ => rfl) HR.out
              · obtain rfl : _ = o := Option.some.inj ho
                have HR := Lib.hid hR
                clear hR
                go_simp
                exact hK p wx (fun _ _ => rfl) HR.out
              · obtain rfl : _ = o := Option.some.inj ho
                have HR := Lib.hid hR
                clear hR
                go_simp
                exact hK p wx (fun _ _ => rfl) HR.out
              · obtain rfl : _ = o := Option.some.inj ho
                have HR := Lib.hid hR
                clear hR
                go_simp
                exact hK p wx (fun _ _ => rfl) HR.out
              · obtain rfl : _ = o := Option.some.inj ho
                have HR := Lib.hid hR
                clear hR
                go_simp
                exact hK p wx (fun _ _ => rfl) HR.out
              · simp at ho
            · intro p l wx hl hR
              have HWx := Lib.hid (low_more HWa.out hR)
              clear hl hR
              go_wp2_with fail
              go_ret
              exact ⟨by rw [HBad.out]; rfl, HWx.out⟩
          have hr2b : decide (65535 < rr) = false := decide_eq_false hr2
          by_cases hm0 : m = 0
          · have HBad := Lib.hid (HNot.out fun h => by have := h.2.2.1; dsimp only at this; rw [HM.out] at this; omega)
            have hm0b : ((m : Int) == 0) = true := by simp [hm0]
            clear hm0
            refine wp_region_cl (fun (p : Unit) jz => [.int .i64 (ix : Int), .bool true, .bool true, .slice (some ⟨g, oo, none⟩) tt cL, .int .i64 (ix : Int), .int .i64 (i1 : Int), .pointer (some ⟨g, oo + i1 * 3, none⟩), .pointer (some ⟨g, oo + i1 * 3, none⟩), .string ky, .pointer (some ⟨be, 0, none⟩), .string kk, .bool true, .bool false, .bool false, .bool false, .pointer (some ⟨be, 1, none⟩), .int .i64 rr, .bool false, .bool false, .bool false, .pointer (some ⟨be, 1, none⟩), .int .i64 rr, .bool false, .bool false, .bool false, .pointer (some ⟨be, 2, none⟩), .slice pa m pc, .int .i64 (m : Int), .bool true, .bool true, .bool true, undef, undef, undef, undef, .bool true].getD jz undef)
              (fun p l wx => Below wa.heap.size wa wx)
              (by kernel_rfl) (by kernel_rfl) (fun q => by simp only [putTo, dstOf, Act.put, List.size_toArray, List.length_cons, List.length_nil, List.getElem?_toArray, Nat.reduceAdd, Option.bind_some, List.getElem?_cons_zero, List.getElem?_cons_succ, List.setIfInBounds_toArray, List.set_cons_zero, List.set_cons_succ, List.getD_cons_zero, List.getD_cons_succ]; exact rfl) () ?_ ?_ ?_
            · exact (Below.refl _ _).drew
            · intro i o ho p l wx hR hl he hcl K hK
              rcases i with _ | _ | _ | _ | _ | _ | _ | _ | _ | _ | _ | _ | _ | _ | _ | _ | _ | _ | _ | _ | _ | _ | _ | _ | _ | _ | _ | _ | _ | _ | _ | _ | _ | _ | _ | _ | i
              · obtain rfl : _ = o := Option.some.inj ho
                have HR := Lib.hid hR
                clear hR
                go_simp
                exact hK p wx (fun _ _ => rfl) HR.out
              · obtain rfl : _ = o := Option.some.inj ho
                have HR := Lib.hid hR
                clear hR
                go_simp
                exact hK p wx (fun _ _ => rfl) HR.out
              · obtain rfl : _ = o := Option.some.inj ho
                have HR := Lib.hid hR
                clear hR
                go_simp
                exact hK p wx (fun _ _ => rfl) HR.out
              · obtain rfl : _ = o := Option.some.inj ho
                have HR := Lib.hid hR
                clear hR
                go_simp
                exact hK p wx (fun _ _ => rfl) HR.out
              · obtain rfl : _ = o := Option.some.inj ho
                have HR := Lib.hid hR
                clear hR
                go_simp
                exact hK p wx (fun _ _ => rfl) HR.out
              · obtain rfl : _ = o := Option.some.inj ho
                have HR := Lib.hid hR
                clear hR
                go_simp
                exact hK p wx (fun _ _ => rfl) HR.out
              · obtain rfl : _ = o := Option.some.inj ho
                have HR := Lib.hid hR
                clear hR
                go_simp
                exact hK p wx (fun _ _ => rfl) HR.out
              · obtain rfl : _ = o := Option.some.inj ho
                have HR := Lib.hid hR
                clear hR
                go_simp
                exact hK p wx (fun _ _ => rfl) HR.out
              · obtain rfl : _ = o := Option.some.inj ho
                have q := below_cell HD0.out hR
                have HR := Lib.hid hR
                clear hR
                go_simp
                exact hK p wx (fun _ _ => rfl) HR.out
              · obtain rfl : _ = o := Option.some.inj ho
                have HR := Lib.hid hR
                clear hR
                go_simp
                exact hK p wx (fun _ _ => rfl) HR.out
              · obtain rfl : _ = o := Option.some.inj ho
                have q := below_cell HC0.out hR
                have HR := Lib.hid hR
                clear hR
                go_simp
                exact hK p wx (fun _ _ => rfl) HR.out
              · obtain rfl : _ = o := Option.some.inj ho
                have HR := Lib.hid hR
                clear hR
                go_simp
                refine (HLs.out wx).mono ?_; rintro e w5 ⟨rfl, t5, rfl⟩
                exact hK p _ (fun _ _ => rfl) (below_drawn HR.out t5)
              · obtain rfl : _ = o := Option.some.inj ho
                have HR := Lib.hid hR
                clear hR
                go_simp
                exact hK p wx (fun _ _ => rfl) HR.out
              · obtain rfl : _ = o := Option.some.inj ho
                have HR := Lib.hid hR
                clear hR
                go_simp
                exact hK p wx (fun _ _ => rfl) HR.out
              · obtain rfl : _ = o := Option.some.inj ho
                have HR := Lib.hid hR
                clear hR
                go_simp
                exact hK p wx (fun _ _ => rfl) HR.out
              · obtain rfl : _ = o := Option.some.inj ho
                have HR := Lib.hid hR
                clear hR
                go_simp
                exact hK p wx (fun _ _ => rfl) HR.out
              · obtain rfl : _ = o := Option.some.inj ho
                have q := below_cell HC1.out hR
                have HR := Lib.hid hR
                clear hR
                go_simp
                exact hK p wx (fun _ _ => rfl) HR.out
              · obtain rfl : _ = o := Option.some.inj ho
                have HR := Lib.hid hR
                clear hR
                go_simp
                exact hK p wx (fun _ _ => rfl) HR.out
              · obtain rfl : _ = o := Option.some.inj ho
                have HR := Lib.hid hR
                clear hR
                go_simp
                exact hK p wx (fun _ _ => rfl) HR.out
              · obtain rfl : _ = o := Option.some.inj ho
                have HR := Lib.hid hR
                clear hR
                go_simp
                exact hK p wx (fun _ _ => rfl) HR.out
              · obtain rfl : _ = o := Option.some.inj ho
                have HR := Lib.hid hR
                clear hR
                go_simp
                exact hK p wx (fun _ _ => rfl) HR.out
              · obtain rfl : _ = o := Option.some.inj ho
                have q := below_cell HC1.out hR
                have HR := Lib.hid hR
                clear hR
                go_simp
                exact hK p wx (fun _ _ => rfl) HR.out
              · obtain rfl : _ = o := Option.some.inj ho
                have HR := Lib.hid hR
                clear hR
                go_simp
                exact hK p wx (fun _ _ => rfl) HR.out
              · obtain rfl : _ = o := Option.some.inj ho
                have HR := Lib.hid hR
                clear hR
                go_simp
                exact hK p wx (fun _ _ => rfl) HR.out
              · obtain rfl : _ = o := Option.some.inj ho
                have HR := Lib.hid hR
                clear hR
                go_simp
                exact hK p wx (fun _ _ => rfl) HR.out
              · obtain rfl : _ = o := Option.some.inj ho
                have HR := Lib.hid hR
                clear hR
                go_simp
                exact hK p wx (fun _ _ => rfl) HR.out
              · obtain rfl : _ = o := Option.some.inj ho
                have q := below_cell HC2.out hR
                have HR := Lib.hid hR
                clear hR
                go_simp
                exact hK p wx (fun _ _ => rfl) HR.out
              · obtain rfl : _ = o := Option.some.inj ho
                have HR := Lib.hid hR
                clear hR
                go_simp
                exact hK p wx (fun _ _ => rfl) HR.out
              · obtain rfl : _ = o := Option.some.inj ho
                have HR := Lib.hid hR
                clear hR
                go_simp
                exact hK p wx (fun _ _ => rfl) HR.out
              · obtain rfl : _ = o := Option.some.inj ho
                have HR := Lib.hid hR
                clear hR
                go_simp
                exact hK p wx (fun _ _ => rfl) HR.out
              · obtain rfl : _ = o := Option.some.inj ho
                have HR := Lib.hid hR
                clear hR
                go_simp
                exact hK p wx (fun _ _ => rfl) HR.out
              · obtain rfl : _ = o := Option.some.inj ho
                have HR := Lib.hid hR
                clear hR
                go_simp
                exact hK p wx (fun _ _ => rfl) HR.out
              · obtain rfl : _ = o := Option.some.inj ho
                have HR := Lib.hid hR
                clear hR
                go_simp
                exact hK p wx (fun _ _ => rfl) HR.out
              · obtain rfl : _ = o := Option.some.inj ho
                have HR := Lib.hid hR
                clear hR
                go_simp
                exact hK p wx (fun _ _ => rfl) HR.out
              · obtain rfl : _ = o := Option.some.inj ho
                have HR := Lib.hid hR
                clear hR
                go_simp
                exact hK p wx (fun _ _ => rfl) HR.out
              · obtain rfl : _ = o := Option.some.inj ho
                have HR := Lib.hid hR
                clear hR
                go_simp
                exact hK p wx (fun _ _ => rfl) HR.out
              · simp at ho
            · intro p l wx hl hR
              have HWx := Lib.hid (low_more HWa.out hR)
              clear hl hR
              go_wp2_with fail
              go_ret
              exact ⟨by rw [HBad.out]; rfl, HWx.out⟩
          have hm0b : ((m : Int) == 0) = false := beq_eq_false_iff_ne.2 (by omega)
          by_cases hme : MayE es
          · have HMb := Lib.hid (show mayB es = true from decide_eq_true hme)
            have HMe := Lib.hid hme
            clear hme
            refine wp_region_cl (fun (p : Unit) jz => [.int .i64 (ix : Int), .bool true, .bool true, .slice (some ⟨g, oo, none⟩) tt cL, .int .i64 (ix : Int), .int .i64 (i1 : Int), .pointer (some ⟨g, oo + i1 * 3, none⟩), .pointer (some ⟨g, oo + i1 * 3, none⟩), .string ky, .pointer (some ⟨be, 0, none⟩), .string kk, .bool true, .bool false, .bool false, .bool false, .pointer (some ⟨be, 1, none⟩), .int .i64 rr, .bool false, .bool false, .bool false, .pointer (some ⟨be, 1, none⟩), .int .i64 rr, .bool false, .bool false, .bool false, .pointer (some ⟨be, 2, none⟩), .slice pa m pc, .int .i64 (m : Int), .bool false, .bool false, .bool false, .pointer (some ⟨be, 2, none⟩), .slice pa m pc, .bool true, .bool false, .bool false].getD jz undef)
              (fun p l wx => Below wa.heap.size wa wx)
              (by kernel_rfl) (by kernel_rfl) (fun q => by simp only [putTo, dstOf, Act.put, List.size_toArray, List.length_cons, List.length_nil, List.getElem?_toArray, Nat.reduceAdd, Option.bind_some, List.getElem?_cons_zero, List.getElem?_cons_succ, List.setIfInBounds_toArray, List.set_cons_zero, List.set_cons_succ, List.getD_cons_zero, List.getD_cons_succ]; exact rfl) () ?_ ?_ ?_
            · exact (Below.refl _ _).drew
            · intro i o ho p l wx hR hl he hcl K hK
              rcases i with _ | _ | _ | _ | _ | _ | _ | _ | _ | _ | _ | _ | _ | _ | _ | _ | _ | _ | _ | _ | _ | _ | _ | _ | _ | _ | _ | _ | _ | _ | _ | _ | _ | _ | _ | _ | i
              · obtain rfl : _ = o := Option.some.inj ho
                have HR := Lib.hid hR
                clear hR
                go_simp
                exact hK p wx (fun _ _ => rfl) HR.out
              · obtain rfl : _ = o := Option.some.inj ho
                have HR := Lib.hid hR
                clear hR
                go_simp
                exact hK p wx (fun _ _ => rfl) HR.out
              · obtain rfl : _ = o := Option.some.inj ho
                have HR := Lib.hid hR
                clear hR
                go_simp
                exact hK p wx (fun _ _ => rfl) HR.out
              · obtain rfl : _ = o := Option.some.inj ho
                have HR := Lib.hid hR
                clear hR
                go_simp
                exact hK p wx (fun _ _ => rfl) HR.out
              · obtain rfl : _ = o := Option.some.inj ho
                have HR := Lib.hid hR
                clear hR
                go_simp
                exact hK p wx (fun _ _ => rfl) HR.out
              · obtain rfl : _ = o := Option.some.inj ho
                have HR := Lib.hid hR
                clear hR
                go_simp
                exact hK p wx (fun _ _ => rfl) HR.out
              · obtain rfl : _ = o := Option.some.inj ho
                have HR := Lib.hid hR
                clear hR
                go_simp
                exact hK p wx (fun _ _ => rfl) HR.out
              · obtain rfl : _ = o := Option.some.inj ho
                have HR := Lib.hid hR
                clear hR
                go_simp
                exact hK p wx (fun _ _ => rfl) HR.out
              · obtain rfl : _ = o := Option.some.inj ho
                have q := below_cell HD0.out hR
                have HR := Lib.hid hR
                clear hR
                go_simp
                exact hK p wx (fun _ _ => rfl) HR.out
              · obtain rfl : _ = o := Option.some.inj ho
                have HR := Lib.hid hR
                clear hR
                go_simp
                exact hK p wx (fun _ _ => rfl) HR.out
              · obtain rfl : _ = o := Option.some.inj ho
                have q := below_cell HC0.out hR
                have HR := Lib.hid hR
                clear hR
                go_simp
                exact hK p wx (fun _ _ => rfl) HR.out
              · obtain rfl : _ = o := Option.some.inj ho
                have HR := Lib.hid hR
                clear hR
                go_simp
                refine (HLs.out wx).mono ?_; rintro e w5 ⟨rfl, t5, rfl⟩
                exact hK p _ (fun _ _ => rfl) (below_drawn HR.out t5)
              · obtain rfl : _ = o := Option.some.inj ho
                have HR := Lib.hid hR
                clear hR
                go_simp
                exact hK p wx (fun _ _ => rfl) HR.out
              · obtain rfl : _ = o := Option.some.inj ho
                have HR := Lib.hid hR
                clear hR
                go_simp
                exact hK p wx (fun _ _ => rfl) HR.out
              · obtain rfl : _ = o := Option.some.inj ho
                have HR := Lib.hid hR
                clear hR
                go_simp
                exact hK p wx (fun _ _ => rfl) HR.out
              · obtain rfl : _ = o := Option.some.inj ho
                have HR := Lib.hid hR
                clear hR
                go_simp
                exact hK p wx (fun _ _ => rfl) HR.out
              · obtain rfl : _ = o := Option.some.inj ho
                have q := below_cell HC1.out hR
                have HR := Lib.hid hR
                clear hR
                go_simp
                exact hK p wx (fun _ _ => rfl) HR.out
              · obtain rfl : _ = o := Option.some.inj ho
                have HR := Lib.hid hR
                clear hR
                go_simp
                exact hK p wx (fun _ _ => rfl) HR.out
              · obtain rfl : _ = o := Option.some.inj ho
                have HR := Lib.hid hR
                clear hR
                go_simp
                exact hK p wx (fun _ _ => rfl) HR.out
              · obtain rfl : _ = o := Option.some.inj ho
                have HR := Lib.hid hR
                clear hR
                go_simp
                exact hK p wx (fun _ _ => rfl) HR.out
              · obtain rfl : _ = o := Option.some.inj ho
                have HR := Lib.hid hR
                clear hR
                go_simp
                exact hK p wx (fun _ _ => rfl) HR.out
              · obtain rfl : _ = o := Option.some.inj ho
                have q := below_cell HC1.out hR
                have HR := Lib.hid hR
                clear hR
                go_simp
                exact hK p wx (fun _ _ => rfl) HR.out
              · obtain rfl : _ = o := Option.some.inj ho
                have HR := Lib.hid hR
                clear hR
                go_simp
                exact hK p wx (fun _ _ => rfl) HR.out
              · obtain rfl : _ = o := Option.some.inj ho
                have HR := Lib.hid hR
                clear hR
                go_simp
                exact hK p wx (fun _ _ => rfl) HR.out
              · obtain rfl : _ = o := Option.some.inj ho
                have HR := Lib.hid hR
                clear hR
                go_simp
                exact hK p wx (fun _ _ => rfl) HR.out
              · obtain rfl : _ = o := Option.some.inj ho
                have HR := Lib.hid hR
                clear hR
                go_simp
                exact hK p wx (fun _ _ => rfl) HR.out
              · obtain rfl : _ = o := Option.some.inj ho
                have q := below_cell HC2.out hR
                have HR := Lib.hid hR
                clear hR
                go_simp
                exact hK p wx (fun _ _ => rfl) HR.out
              · obtain rfl : _ = o := Option.some.inj ho
                have HR := Lib.hid hR
                clear hR
                go_simp
                exact hK p wx (fun _ _ => rfl) HR.out
              · obtain rfl : _ = o := Option.some.inj ho
                have HR := Lib.hid hR
                clear hR
                go_simp
                exact hK p wx (fun _ _ => rfl) HR.out
              · obtain rfl : _ = o := Option.some.inj ho
                have HR := Lib.hid hR
                clear hR
                go_simp
                exact hK p wx (fun _ _ => rfl) HR.out
              · obtain rfl : _ = o := Option.some.inj ho
                have HR := Lib.hid hR
                clear hR
                go_simp
                exact hK p wx (fun _ _ => rfl) HR.out
              · obtain rfl : _ = o := Option.some.inj ho
                have HR := Lib.hid hR
                clear hR
                go_simp
                exact hK p wx (fun _ _ => rfl) HR.out
              · obtain rfl : _ = o := Option.some.inj ho
                have q := below_cell HC2.out hR
                have HR := Lib.hid hR
                clear hR
                go_simp
                exact hK p wx (fun _ _ => rfl) HR.out
              · obtain rfl : _ = o := Option.some.inj ho
                have HR := Lib.hid hR
                clear hR
                go_simp
                refine (HMay.out wx pa pc m es HM.out (HRe.out.below (low_more HWa.out HR.out)) (by omega)).mono ?_; rintro e w5 ⟨rfl, hb5⟩
                rw [HMb.out]
                exact hK p w5 (fun _ _ => rfl) (low_more HR.out hb5)
              · obtain rfl : _ = o := Option.some.inj ho
                have HR := Lib.hid hR
                clear hR
                go_simp
                exact hK p wx (fun _ _ => rfl) HR.out
              · obtain rfl : _ = o := Option.some.inj ho
                have HR := Lib.hid hR
                clear hR
                go_simp
                exact hK p wx (fun _ _ => rfl) HR.out
              · simp at ho
            · intro p l wx hl hR
              have HWx := Lib.hid (low_more HWa.out hR)
              have HEx := Lib.hid (block_below HEa.out hR)
              clear hl hR
              have cb := cell_at HEx.out 2
              go_wp2_with fail
              go_loopw [64] (fun kv wr => ∃ k : Nat, k ≤ m ∧ kv = .int .i64 (k : Int) ∧ Below W.heap.size W wr ∧ Hid (wr.heap[be]? = some (.cells #[.string kk, .int .i64 rr, .slice pa m pc] 34 (0, 0))) ∧ Hid (∀ s, s < k → (enAt es s).1 < n)) (fun kv _ => m - (intOf kv).toNat)
              case atStart => exact ⟨0, by omega, rfl, HWx.out, Lib.hid HEx.out, Lib.hid fun s hs => absurd hs (by omega)⟩
              case round =>
                obtain ⟨k, hk, rfl, hw2, he2, HD2⟩ := hrel
                have HW2 := Lib.hid hw2
                have cb2 := cell_at he2.out 2
                clear cb
                by_cases hkm : k < m
                · have hkm1 : (k : Int) < (m : Int) := by omega
                  obtain ⟨gp, op, hpa, cd, _⟩ := HRe.out k _ (enAt_lt (by rw [HM.out]; exact hkm))
                  subst hpa
                  obtain ⟨d, hd⟩ : ∃ d, (enAt es k).1 = d := ⟨_, rfl⟩
                  rw [hd] at cd
                  have cd := below_cell cd hw2
                  have HDk := Lib.hid hd
                  clear hd hw2
                  by_cases hdn : d < (n : Int)
                  · have hdn2 : ¬ (n : Int) ≤ d := by omega
                    have hdn3 : decide ((n : Int) ≤ d) = false := decide_eq_false hdn2
                    have hdn4 : decide (d ≥ (n : Int)) = false := decide_eq_false hdn2
                    have HNx := Lib.hid (show ∀ s, s < k + 1 → (enAt es s).1 < n from fun s hs => by
                      by_cases hsk : s < k
                      · exact HD2.out s hsk
                      · obtain rfl : s = k := by omega
                        rw [HDk.out]; exact hdn)
                    go_wp2_with fail
                    go_roundw
                    case rel => exact ⟨k + 1, by omega, by go_num, HW2.out, he2, HNx⟩
                    case measure => simp [intOf]; omega
                  · have hdn2 : (n : Int) ≤ d := by omega
                    have HBad := Lib.hid (HNot.out fun h => by
                      obtain ⟨_, _, h3, h4, h5⟩ := h
                      have := (docs_last h4 n h3).2 h5 k (by rw [HM.out]; exact hkm)
                      rw [HDk.out] at this
                      omega)
                    have hdn3 : decide ((n : Int) ≤ d) = true := decide_eq_true hdn2
                    have hdn4 : decide (d ≥ (n : Int)) = true := decide_eq_true hdn2
                    go_wp2_with fail
                    go_ret
                    exact ⟨by rw [HBad.out]; rfl, HW2.out⟩
                · obtain rfl : k = m := by omega
                  have HNx := Lib.hid (show ∀ j, j < ix + 1 → upK L j ∧ okLi n (liAt L j) from fun j hj => by
                    by_cases hji : j < ix
                    · exact HOk.out j hji
                    · obtain rfl : j = ix := by omega
                      refine ⟨HUp.out, ?_⟩
                      rw [HAt.out]
                      exact ⟨by omega, by omega, by show 0 < es.length; rw [HM.out]; omega, HMe.out, (docs_last HMe.out n (by rw [HM.out]; omega)).1 (fun i hi => HD2.out i (by rw [← HM.out]; exact hi))⟩)
                  go_wp2_with fail
                  go_roundw
                  case rel => exact ⟨ix + 1, by omega, by go_num, HNx, HW2.out⟩
                  case measure => simp [intOf]; omega
          · have HMb := Lib.hid (show mayB es = false from decide_eq_false hme)
            have HBad := Lib.hid (HNot.out fun h => hme h.2.2.2.1)
            clear hme
            refine wp_region_cl (fun (p : Unit) jz => [.int .i64 (ix : Int), .bool true, .bool true, .slice (some ⟨g, oo, none⟩) tt cL, .int .i64 (ix : Int), .int .i64 (i1 : Int), .pointer (some ⟨g, oo + i1 * 3, none⟩), .pointer (some ⟨g, oo + i1 * 3, none⟩), .string ky, .pointer (some ⟨be, 0, none⟩), .string kk, .bool true, .bool false, .bool false, .bool false, .pointer (some ⟨be, 1, none⟩), .int .i64 rr, .bool false, .bool false, .bool false, .pointer (some ⟨be, 1, none⟩), .int .i64 rr, .bool false, .bool false, .bool false, .pointer (some ⟨be, 2, none⟩), .slice pa m pc, .int .i64 (m : Int), .bool false, .bool false, .bool false, .pointer (some ⟨be, 2, none⟩), .slice pa m pc, .bool false, .bool true, .bool true].getD jz undef)
              (fun p l wx => Below wa.heap.size wa wx)
              (by kernel_rfl) (by kernel_rfl) (fun q => by simp only [putTo, dstOf, Act.put, List.size_toArray, List.length_cons, List.length_nil, List.getElem?_toArray, Nat.reduceAdd, Option.bind_some, List.getElem?_cons_zero, List.getElem?_cons_succ, List.setIfInBounds_toArray, List.set_cons_zero, List.set_cons_succ, List.getD_cons_zero, List.getD_cons_succ]; exact rfl) () ?_ ?_ ?_
            · exact (Below.refl _ _).drew
            · intro i o ho p l wx hR hl he hcl K hK
              rcases i with _ | _ | _ | _ | _ | _ | _ | _ | _ | _ | _ | _ | _ | _ | _ | _ | _ | _ | _ | _ | _ | _ | _ | _ | _ | _ | _ | _ | _ | _ | _ | _ | _ | _ | _ | _ | i
              · obtain rfl : _ = o := Option.some.inj ho
                have HR := Lib.hid hR
                clear hR
                go_simp
                exact hK p wx (fun _ _ => rfl) HR.out
              · obtain rfl : _ = o := Option.some.inj ho
                have HR := Lib.hid hR
                clear hR
                go_simp
                exact hK p wx (fun _ _ => rfl) HR.out
              · obtain rfl : _ = o := Option.some.inj ho
                have HR := Lib.hid hR
                clear hR
                go_simp
                exact hK p wx (fun _ _ => rfl) HR.out
              · obtain rfl : _ = o := Option.some.inj ho
                have HR := Lib.hid hR
                clear hR
                go_simp
                exact hK p wx (fun _ _ => rfl) HR.out
              · obtain rfl : _ = o := Option.some.inj ho
                have HR := Lib.hid hR
                clear hR
                go_simp
                exact hK p wx (fun _ _ => rfl) HR.out
              · obtain rfl : _ = o := Option.some.inj ho
                have HR := Lib.hid hR
                clear hR
                go_simp
                exact hK p wx (fun _ _ => rfl) HR.out
              · obtain rfl : _ = o := Option.some.inj ho
                have HR := Lib.hid hR
                clear hR
                go_simp
                exact hK p wx (fun _ _ => rfl) HR.out
              · obtain rfl : _ = o := Option.some.inj ho
                have HR := Lib.hid hR
                clear hR
                go_simp
                exact hK p wx (fun _ _ => rfl) HR.out
              · obtain rfl : _ = o := Option.some.inj ho
                have q := below_cell HD0.out hR
                have HR := Lib.hid hR
                clear hR
                go_simp
                exact hK p wx (fun _ _ => rfl) HR.out
              · obtain rfl : _ = o := Option.some.inj ho
                have HR := Lib.hid hR
                clear hR
                go_simp
                exact hK p wx (fun _ _ => rfl) HR.out
              · obtain rfl : _ = o := Option.some.inj ho
                have q := below_cell HC0.out hR
                have HR := Lib.hid hR
                clear hR
                go_simp
                exact hK p wx (fun _ _ => rfl) HR.out
              · obtain rfl : _ = o := Option.some.inj ho
                have HR := Lib.hid hR
                clear hR
                go_simp
                refine (HLs.out wx).mono ?_; rintro e w5 ⟨rfl, t5, rfl⟩
                exact hK p _ (fun _ _ => rfl) (below_drawn HR.out t5)
              · obtain rfl : _ = o := Option.some.inj ho
                have HR := Lib.hid hR
                clear hR
                go_simp
                exact hK p wx (fun _ _ => rfl) HR.out
              · obtain rfl : _ = o := Option.some.inj ho
                have HR := Lib.hid hR
                clear hR
                go_simp
                exact hK p wx (fun _ _ => rfl) HR.out
              · obtain rfl : _ = o := Option.some.inj ho
                have HR := Lib.hid hR
                clear hR
                go_simp
                exact hK p wx (fun _ _ => rfl) HR.out
              · obtain rfl : _ = o := Option.some.inj ho
                have HR := Lib.hid hR
                clear hR
                go_simp
                exact hK p wx (fun _ _ => rfl) HR.out
              · obtain rfl : _ = o := Option.some.inj ho
                have q := below_cell HC1.out hR
                have HR := Lib.hid hR
                clear hR
                go_simp
                exact hK p wx (fun _ _ => rfl) HR.out
              · obtain rfl : _ = o := Option.some.inj ho
                have HR := Lib.hid hR
                clear hR
                go_simp
                exact hK p wx (fun _ _ => rfl) HR.out
              · obtain rfl : _ = o := Option.some.inj ho
                have HR := Lib.hid hR
                clear hR
                go_simp
                exact hK p wx (fun _ _ => rfl) HR.out
              · obtain rfl : _ = o := Option.some.inj ho
                have HR := Lib.hid hR
                clear hR
                go_simp
                exact hK p wx (fun _ _ => rfl) HR.out
              · obtain rfl : _ = o := Option.some.inj ho
                have HR := Lib.hid hR
                clear hR
                go_simp
                exact hK p wx (fun _ _ => rfl) HR.out
              · obtain rfl : _ = o := Option.some.inj ho
                have q := below_cell HC1.out hR
                have HR := Lib.hid hR
                clear hR
                go_simp
                exact hK p wx (fun _ _ => rfl) HR.out
              · obtain rfl : _ = o := Option.some.inj ho
                have HR := Lib.hid hR
                clear hR
                go_simp
                exact hK p wx (fun _ _ => rfl) HR.out
              · obtain rfl : _ = o := Option.some.inj ho
                have HR := Lib.hid hR
                clear hR
                go_simp
                exact hK p wx (fun _ _ => rfl) HR.out
              · obtain rfl : _ = o := Option.some.inj ho
                have HR := Lib.hid hR
                clear hR
                go_simp
                exact hK p wx (fun _ _ => rfl) HR.out
              · obtain rfl : _ = o := Option.some.inj ho
                have HR := Lib.hid hR
                clear hR
                go_simp
                exact hK p wx (fun _ _ => rfl) HR.out
              · obtain rfl : _ = o := Option.some.inj ho
                have q := below_cell HC2.out hR
                have HR := Lib.hid hR
                clear hR
                go_simp
                exact hK p wx (fun _ _ => rfl) HR.out
              · obtain rfl : _ = o := Option.some.inj ho
                have HR := Lib.hid hR
                clear hR
                go_simp
                exact hK p wx (fun _ _ => rfl) HR.out
              · obtain rfl : _ = o := Option.some.inj ho
                have HR := Lib.hid hR
                clear hR
                go_simp
                exact hK p wx (fun _ _ => rfl) HR.out
              · obtain rfl : _ = o := Option.some.inj ho
                have HR := Lib.hid hR
                clear hR
                go_simp
                exact hK p wx (fun _ _ => rfl) HR.out
              · obtain rfl : _ = o := Option.some.inj ho
                have HR := Lib.hid hR
                clear hR
                go_simp
                exact hK p wx (fun _ _ => rfl) HR.out
              · obtain rfl : _ = o := Option.some.inj ho
                have HR := Lib.hid hR
                clear hR
                go_simp
                exact hK p wx (fun _ _ => rfl) HR.out
              · obtain rfl : _ = o := Option.some.inj ho
                have q := below_cell HC2.out hR
                have HR := Lib.hid hR
                clear hR
                go_simp
                exact hK p wx (fun _ _ => rfl) HR.out
              · obtain rfl : _ = o := Option.some.inj ho
                have HR := Lib.hid hR
                clear hR
                go_simp
                refine (HMay.out wx pa pc m es HM.out (HRe.out.below (low_more HWa.out HR.out)) (by omega)).mono ?_; rintro e w5 ⟨rfl, hb5⟩
                rw [HMb.out]
                exact hK p w5 (fun _ _ => rfl) (low_more HR.out hb5)
              · obtain rfl : _ = o := Option.some.inj ho
                have HR := Lib.hid hR
                clear hR
                go_simp
                exact hK p wx (fun _ _ => rfl) HR.out
              · obtain rfl : _ = o := Option.some.inj ho
                have HR := Lib.hid hR
                clear hR
                go_simp
                exact hK p wx (fun _ _ => rfl) HR.out
              · simp at ho
            · intro p l wx hl hR
              have HWx := Lib.hid (low_more HWa.out hR)
              clear hl hR
              go_wp2_with fail
              go_ret
              exact ⟨by rw [HBad.out]; rfl, HWx.out⟩
    · obtain rfl : ix = tt := by omega
      have HYes := Lib.hid (show mayIB n L = true from decide_eq_true ⟨by omega, by rw [HN.out]; omega, fun j hj => (HOk.out j (by rw [← HN.out]; exact hj)).1, fun j hj => (HOk.out j (by rw [← HN.out]; exact hj)).2⟩)
      go_wp2_with fail
      go_ret
      exact ⟨by rw [HYes.out]; rfl, HW.out⟩
end Go.Proofs.Ytkjimgidlpocbaa

namespace Go.Proofs.Ytkjimgidlpocbaa
open Go.RowKit

def standsB (a : Int) : Bool := decide (0 ≤ a ∧ a ≤ 65536)
def riseKB (L : List Li) : Bool := decide (RiseK L)
theorem drewN_add14 (w : World) (a b : Nat) : (w.drewN a).drewN b = w.drewN (a + b) := by simp [World.drewN, Nat.add_assoc]
theorem leq_key (a b : ByteArray) : (Op.bytesLess a.toList b.toList || a.toList == b.toList) = !lessN (keyN b) (keyN a) := by
  rw [ByteArray.toList_eq, ByteArray.toList_eq]
  exact less_leq a b
def okR (n : Nat) (r : Int) (l : List En) : Prop := 1 ≤ r ∧ r ≤ 65535 ∧ 0 < l.length ∧ lastDoc l < n
instance (n : Nat) (r : Int) (l : List En) : Decidable (okR n r l) := by unfold okR; exact inferInstance
def okRB (n : Nat) (r : Int) (l : List En) : Bool := decide (okR n r l)
end Go.Proofs.Ytkjimgidlpocbaa

namespace Go.Proofs.Ytkjimgidlpocbaa
open Go.RowKit Go.Deep

structure P32 (W : World) (va vb : Value) (A B : List Nat) (w : World) : Prop where
  a : OwnN 52 .u32 w W.heap.size va A
  b : OwnN 52 .u32 w W.heap.size vb B
  ne : va.ownBlock = none ∨ vb.ownBlock = none ∨ va.ownBlock ≠ vb.ownBlock
  low : Below W.heap.size W w
theorem P32.swap {W w : World} {va vb : Value} {A B : List Nat} (h : P32 W va vb A B w) : P32 W vb va B A w :=
  ⟨h.b, h.a, by rcases h.ne with e | e | e; exact .inr (.inl e); exact .inl e; exact .inr (.inr (Ne.symm e)), h.low⟩
theorem P32.below {W w w' : World} {va vb : Value} {A B : List Nat} (h : P32 W va vb A B w) (hb : Below w.heap.size w w') : P32 W va vb A B w' :=
  ⟨h.a.below hb, h.b.below hb, h.ne, low_more h.low hb⟩
theorem P32.more {W w w' : World} {va vb : Value} {A B Z : List Nat} {g cap : Nat} (h : P32 W va vb A B w)
    (ho : w'.ownsRow W.heap.size 52 1 (.slice (some ⟨g, 0, none⟩) (A.length + Z.length) cap) (A.length + Z.length) (numC .u32 A ++ numC .u32 Z)) (hg : w.grownBy w' va.ownBlock) (hl : va.ownBlock = some g ∨ g = w.heap.size) :
    P32 W (.slice (some ⟨g, 0, none⟩) (A.length + Z.length) cap) vb (A ++ Z) B w' := by
  refine ⟨by unfold OwnN; rw [numC_append, List.length_append]; exact ho, World.ownsRow.kept h.b hg ?_, ?_, h.low.grown hg h.low.size (fun k hk => (World.ownsRow.lt h.a k hk).1)⟩
  · rcases h.ne with e | e | e
    · rw [e]
      cases hv : vb.ownBlock with
      | none => exact .inl rfl
      | some k => exact .inr (by simp)
    · exact .inl e
    · exact .inr (Ne.symm e)
  · cases hv : vb.ownBlock with
    | none => exact .inr (.inl rfl)
    | some k =>
      refine .inr (.inr ?_)
      have hk := (World.ownsRow.lt h.b k hv).2
      rcases hl with e | e
      · rcases h.ne with e2 | e2 | e2
        · rw [e2] at e; cases e
        · rw [e2] at hv; cases hv
        · rw [e, hv] at e2
          simpa [Value.ownBlock] using e2
      · simp only [Value.ownBlock]
        intro e3
        injection e3 with e3
        omega
/-- Cells behind the first of two rows. -/
theorem append_pair {w W : World} {ops : Array Oper} {rest : List Oper} {o : Oper} {a : Act} {Q : Exit → Act → World → Prop} (hgd : o.guard = none) (s x : Operand) (hop : o.op = .call { callee := .builtin .append, args := #[s, x], argTypes := #[26, 26] })
    (va vb : Value) (A B : List Nat) (hp : P32 W va vb A B w) (hs : a.eval s = va) (na : Nat) (hna : A.length = na) (ad : Addr) (c n : Nat) (Z : List Nat) (hn : Z.length = n) (hx : a.eval x = .slice (some ad) n c) (hZ : ReadN .u32 w (some ad) Z) (h0 : 0 < n) (hl : na + n ≤ 1000000)
    (h : ∀ g cap w', P32 W (.slice (some ⟨g, 0, none⟩) (na + n) cap) vb (A ++ Z) B w' → w.grownBy w' va.ownBlock → wpList Try.prog ops Q rest (a.put o.dst (.slice (some ⟨g, 0, none⟩) (na + n) cap)) w') : wpList Try.prog ops Q (o :: rest) a w := by
  obtain ⟨i0, hi, hz0, hz1, hz2⟩ := info_parts info_u32
  subst hn hna
  refine wpList_append_lies w hgd s x 26 hop W.heap.size 52 i0 _ 1 4 Try.underlying26 hi hz0 hz1 hz2 rfl (by decide) va A.length (numC .u32 A) hs hp.a ad Z.length c (numC .u32 Z) hx (by rw [numC_length, Nat.mul_one]) hZ.cells (numC_one .u32 Z) h0 (by unfold maxLen; omega) (by omega) hp.low.size _ rfl ?_
  intro g cap w' ho hg hl2 _
  exact h g cap w' (hp.more ho hg hl2) hg
/-- A row whose base lies behind a block stays where that block grows. -/
theorem kept_base {w w' : World} {v u : Value} {b2 m sz : Nat} {t : TypeId} {ys : List Value} (hg : w.grownBy w' v.ownBlock) (hu : w.ownsRow b2 t sz u m ys) (hb : ∀ k, v.ownBlock = some k → k < b2) : w'.ownsRow b2 t sz u m ys := by
  refine hu.kept hg ?_
  rcases hu.2 with ⟨rfl, _⟩ | ⟨g2, cap2, cur2, rfl, hge, hgb2, _⟩
  · exact .inl rfl
  · refine .inr fun e' => ?_
    have := hb g2 (by simpa [Value.ownBlock] using e'.symm)
    omega
end Go.Proofs.Ytkjimgidlpocbaa

namespace Go.Proofs.Ytkjimgidlpocbaa
open Go.RowKit

theorem take4 {F : List Nat} {n i : Nat} (hF : F.length = 4 * n) (hi : i < n) : ∃ a b c d, F[4 * i]? = some a ∧ F[4 * i + 1]? = some b ∧ F[4 * i + 2]? = some c ∧ F[4 * i + 3]? = some d ∧ F.take (4 * (i + 1)) = F.take (4 * i) ++ [a, b, c, d] := by
  refine ⟨_, _, _, _, List.getElem?_eq_getElem (by omega), List.getElem?_eq_getElem (by omega), List.getElem?_eq_getElem (by omega), List.getElem?_eq_getElem (by omega), ?_⟩
  rw [show 4 * (i + 1) = 4 * i + 1 + 1 + 1 + 1 by omega, List.take_add_one, List.take_add_one, List.take_add_one, List.take_add_one, List.getElem?_eq_getElem (by omega), List.getElem?_eq_getElem (by omega), List.getElem?_eq_getElem (by omega), List.getElem?_eq_getElem (by omega)]
  simp only [Option.toList, List.append_assoc, List.cons_append, List.nil_append]
theorem okAll_take {n : Nat} {L : List Li} {i : Nat} {l : Li} (h : okAll n (L.take i)) (hl : L[i]? = some l) (hk : okLi n l) : okAll n (L.take (i + 1)) := by
  intro j hj
  rw [li_take hl] at hj ⊢
  have hil := (List.getElem?_eq_some_iff.1 hl).1
  rw [List.length_append, List.length_take, List.length_singleton] at hj
  by_cases hji : j < i
  · have := h j (by rw [List.length_take]; omega)
    unfold liAt at this ⊢
    rw [List.getD_eq_getElem?_getD, List.getElem?_append_left (by rw [List.length_take]; omega), ← List.getD_eq_getElem?_getD]
    exact this
  · unfold liAt
    rw [List.getD_eq_getElem?_getD, List.getElem?_append_right (by rw [List.length_take]; omega), List.length_take, show j - min i L.length = 0 by omega]
    exact hk
theorem okAll_at {n : Nat} {L : List Li} {i : Nat} {l : Li} (h : okAll n L) (hl : L[i]? = some l) : okLi n l := by
  have := h i (List.getElem?_eq_some_iff.1 hl).1
  rwa [liAt_some hl] at this
theorem okAll_whole {n : Nat} {L : List Li} {t : Nat} (h : okAll n (L.take t)) (ht : L.length = t) : okAll n L := by rwa [List.take_of_length_le (by omega)] at h
def okMkB (at_ : Int) (n : Nat) (L : List Li) : Bool := decide (okMk at_ n L)

end Go.Proofs.Ytkjimgidlpocbaa

namespace Go.Proofs.Ytkjimgidlpocbaa
open Go.RowKit Go.Shelf Go.Deep

theorem Mod.grown {S : Nat → Prop} {a w w1 : World} {row : Option Nat} (h : Mod S a w) (hg : w.grownBy w1 row) (hr : ∀ k, row = some k → a.heap.size ≤ k ∨ S k) : Mod S a w1 :=
  ⟨hg.os.trans h.os, hg.tape.trans h.tape, hg.output.trans h.output, Nat.le_trans h.size hg.size, fun k hk hs => by
    refine (hg.block k (Nat.lt_of_lt_of_le hk h.size) fun e => ?_).trans (h.block k hk hs)
    rcases hr k e.symm with h1 | h1
    · omega
    · exact hs h1⟩
/-- Where a region stands that reads a variable (operation 0), lays an element (its literal), appends it, and stores the row. -/
structure RowReg (Wo W' w2 : World) (b1 : Nat) (te e : TypeId) (size n : Nat) (vc : Value) (xs news : List Value) (l0 l7 l8 l9 : Bool) (pb : Nat) (pv : Value) (wx : World) : Prop where
  keep : KeepsOthers W' wx
  low : Below Wo.heap.size Wo wx
  mod : Mod (fun k => k = b1) w2 wx
  box : l9 = false → Boxed wx b1 te vc
  own : l8 = false → wx.ownsRow w2.heap.size e size vc n xs
  lit : l7 = true → wx.heap[pb]? = some (.cells news.toArray e (0, 0)) ∨ l8 = true
  own2 : l8 = true → wx.ownsRow w2.heap.size e size pv (n + 1) (xs ++ news)
  box2 : l9 = true → Boxed wx b1 te pv
  o87 : l8 = true → l7 = true
  o98 : l9 = true → l8 = true
  o80 : l8 = true → l0 = true
theorem RowReg.start {Wo W' w2 wx : World} {b1 : Nat} {te e : TypeId} {size n : Nat} {vc : Value} {xs news : List Value} {pb : Nat} {pv : Value} (keep : KeepsOthers W' wx) (low : Below Wo.heap.size Wo wx) (mod : Mod (fun k => k = b1) w2 wx) (box : Boxed wx b1 te vc) (own : wx.ownsRow w2.heap.size e size vc n xs) :
    RowReg Wo W' w2 b1 te e size n vc xs news false false false false pb pv wx :=
  ⟨keep, low, mod, fun _ => box, fun _ => own, fun h => (by cases h), fun h => (by cases h), fun h => (by cases h), fun h => (by cases h), fun h => (by cases h), fun h => (by cases h)⟩
section
variable {Wo W' w2 wx : World} {b1 : Nat} {te e : TypeId} {size n : Nat} {vc : Value} {xs news : List Value} {l0 l7 l8 l9 : Bool} {pb : Nat} {pv : Value}
theorem RowReg.not9 (h : RowReg Wo W' w2 b1 te e size n vc xs news l0 l7 l8 l9 pb pv wx) (h0 : l0 = false) : l9 = false := by
  cases h9 : l9 with
  | false => rfl
  | true => have := h.o80 (h.o98 h9); rw [h0] at this; cases this
theorem RowReg.loaded (h : RowReg Wo W' w2 b1 te e size n vc xs news l0 l7 l8 l9 pb pv wx) (h0 : l0 = false) : RowReg Wo W' w2 b1 te e size n vc xs news true l7 l8 l9 pb pv wx ∧ wx.cell? ⟨b1, 0, none⟩ = some vc :=
  ⟨⟨h.keep, h.low, h.mod, h.box, h.own, h.lit, h.own2, h.box2, h.o87, h.o98, fun _ => rfl⟩, (h.box (h.not9 h0)).cell⟩
theorem RowReg.made (h : RowReg Wo W' w2 b1 te e size n vc xs news l0 l7 l8 l9 pb pv wx) (h7 : l7 = false) (pb2 : Nat) (hp : pb2 = wx.heap.size) : RowReg Wo W' w2 b1 te e size n vc xs news l0 true l8 l9 pb2 pv (wx.alloc (.cells news.toArray e)) := by
  have h8 : l8 = false := by
    cases h8 : l8 with
    | false => rfl
    | true => have := h.o87 h8; rw [h7] at this; cases this
  have h9 : l9 = false := by
    cases h9 : l9 with
    | false => rfl
    | true => have := h.o98 h9; rw [h8] at this; cases this
  subst hp
  exact ⟨h.keep.trans (KeepsOthers.alloc _ _), h.low.alloc h.low.size _, h.mod.alloc _, fun k => (h.box k).alloc _, fun k => World.ownsRow.alloc (h.own k) _, fun _ => .inl (heap_alloc_new _ _), fun k => (by rw [h8] at k; cases k), fun k => (by rw [h9] at k; cases k), fun _ => rfl, h.o98, h.o80⟩
theorem RowReg.put (h : RowReg Wo W' w2 b1 te e size n vc xs news l0 l7 l8 l9 pb pv wx) (h0 : l0 = true) (h7 : l7 = true) (h8 : l8 = false) (hb1 : b1 < w2.heap.size) (hWo : Wo.heap.size ≤ w2.heap.size) {v' : Value} {w' : World} (ho : w'.ownsRow w2.heap.size e size v' (n + 1) (xs ++ news)) (hg : wx.grownBy w' vc.ownBlock) :
    RowReg Wo W' w2 b1 te e size n vc xs news l0 l7 true l9 pb v' w' := by
  have h9 : l9 = false := by
    cases h9 : l9 with
    | false => rfl
    | true => have := h.o98 h9; rw [h8] at this; cases this
  have hlt : ∀ k, vc.ownBlock = some k → w2.heap.size ≤ k := fun k hk => (World.ownsRow.lt (h.own h8) k hk).1
  exact ⟨h.keep.trans (keeps_grown (h.own h8) hg), h.low.grown hg h.low.size (fun k hk => Nat.le_trans hWo (hlt k hk)), h.mod.grown hg (fun k hk => .inl (hlt k hk)), fun k => (h.box k).kept hg (fun e => by have := hlt b1 e.symm; omega), fun k => (by cases k), fun _ => .inr rfl, fun _ => ho, fun k => (by rw [h9] at k; cases k), fun _ => h7, fun k => rfl, fun _ => h0⟩
theorem RowReg.store (h : RowReg Wo W' w2 b1 te e size n vc xs news l0 l7 l8 l9 pb pv wx) (h8 : l8 = true) (h9 : l9 = false) (ht : te ≠ e) (hWo : Wo.heap.size ≤ b1) : RowReg Wo W' w2 b1 te e size n vc xs news l0 l7 l8 true pb pv (wx.setCell ⟨b1, 0, none⟩ pv) :=
  ⟨h.keep.trans (KeepsOthers.setCell _ _ _), h.low.setCell (p := ⟨b1, 0, none⟩) hWo _, h.mod.setCell (p := ⟨b1, 0, none⟩) (.inr rfl) _, fun k => (by cases k), fun k => (by rw [h8] at k; cases k), fun _ => .inr h8, fun k => row_set13 (h.own2 k) (h.box h9) ht, fun _ => (h.box h9).set pv, h.o87, fun _ => h8, h.o80⟩
end
end Go.Proofs.Ytkjimgidlpocbaa

namespace Go.Proofs.Ytkjimgidlpocbaa
open Go.RowKit Go.Deep

structure RowLate (Wo : World) (e : TypeId) (size n m : Nat) (vo : Value) (xs news : List Value) (l0 l7 l8 l9 : Bool) (pb : Nat) (pv cur : Value) (wx : World) : Prop where
  low : Below Wo.heap.size Wo wx
  own : l8 = false → wx.ownsRow Wo.heap.size e size vo n xs
  lit : l7 = true → wx.heap[pb]? = some (.cells news.toArray e (0, 0)) ∨ l8 = true
  own2 : l8 = true → wx.ownsRow Wo.heap.size e size pv (n + m) (xs ++ news)
  cur0 : l9 = false → cur = vo
  cur1 : l9 = true → cur = pv
  o87 : l8 = true → l7 = true
  o98 : l9 = true → l8 = true
  o80 : l8 = true → l0 = true
section
variable {Wo wx : World} {e : TypeId} {size n m : Nat} {vo : Value} {xs news : List Value} {l0 l7 l8 l9 : Bool} {pb : Nat} {pv cur : Value}
theorem RowLate.start (low : Below Wo.heap.size Wo wx) (own : wx.ownsRow Wo.heap.size e size vo n xs) : RowLate Wo e size n m vo xs news false false false false pb pv vo wx :=
  ⟨low, fun _ => own, fun h => (by cases h), fun h => (by cases h), fun _ => rfl, fun h => (by cases h), fun h => (by cases h), fun h => (by cases h), fun h => (by cases h)⟩
theorem RowLate.not8 (h : RowLate Wo e size n m vo xs news l0 l7 l8 l9 pb pv cur wx) (h0 : l0 = false) : l8 = false := by
  cases h8 : l8 with
  | false => rfl
  | true => have := h.o80 h8; rw [h0] at this; cases this
theorem RowLate.not9 (h : RowLate Wo e size n m vo xs news l0 l7 l8 l9 pb pv cur wx) (h8 : l8 = false) : l9 = false := by
  cases h9 : l9 with
  | false => rfl
  | true => have := h.o98 h9; rw [h8] at this; cases this
theorem RowLate.loaded (h : RowLate Wo e size n m vo xs news l0 l7 l8 l9 pb pv cur wx) (h0 : l0 = false) : RowLate Wo e size n m vo xs news true l7 l8 l9 pb pv cur wx ∧ cur = vo :=
  ⟨⟨h.low, h.own, h.lit, h.own2, h.cur0, h.cur1, h.o87, h.o98, fun _ => rfl⟩, h.cur0 (h.not9 (h.not8 h0))⟩
theorem RowLate.made (h : RowLate Wo e size n m vo xs news l0 l7 l8 l9 pb pv cur wx) (h7 : l7 = false) (pb2 : Nat) (hp : pb2 = wx.heap.size) : RowLate Wo e size n m vo xs news l0 true l8 l9 pb2 pv cur (wx.alloc (.cells news.toArray e)) := by
  have h8 : l8 = false := by
    cases h8 : l8 with
    | false => rfl
    | true => have := h.o87 h8; rw [h7] at this; cases this
  subst hp
  exact ⟨h.low.alloc h.low.size _, fun k => World.ownsRow.alloc (h.own k) _, fun _ => .inl (heap_alloc_new _ _), fun k => (by rw [h8] at k; cases k), h.cur0, h.cur1, fun _ => rfl, h.o98, h.o80⟩
theorem RowLate.put (h : RowLate Wo e size n m vo xs news l0 l7 l8 l9 pb pv cur wx) (h0 : l0 = true) (h7 : l7 = true) (h8 : l8 = false) {v' : Value} {w' : World} (ho : w'.ownsRow Wo.heap.size e size v' (n + m) (xs ++ news)) (hg : wx.grownBy w' vo.ownBlock) : RowLate Wo e size n m vo xs news l0 l7 true l9 pb v' cur w' := by
  have h9 := h.not9 h8
  exact ⟨h.low.grown hg h.low.size (fun k hk => (World.ownsRow.lt (h.own h8) k hk).1), fun k => (by cases k), fun _ => .inr rfl, fun _ => ho, h.cur0, fun k => (by rw [h9] at k; cases k), fun _ => h7, fun _ => rfl, fun _ => h0⟩
theorem RowLate.set (h : RowLate Wo e size n m vo xs news l0 l7 l8 l9 pb pv cur wx) (h8 : l8 = true) : RowLate Wo e size n m vo xs news l0 l7 l8 true pb pv pv wx :=
  ⟨h.low, h.own, h.lit, h.own2, fun k => (by cases k), fun _ => rfl, h.o87, fun _ => h8, h.o80⟩
end
end Go.Proofs.Ytkjimgidlpocbaa

namespace Go.Proofs.Ytkjimgidlpocbaa
open Go.RowKit

set_option maxRecDepth 100000 in
set_option maxHeartbeats 4000000 in
theorem ref_make14 (W : World) (at_ : Int) (oF : Option Addr) (cF n : Nat) (F : List Nat) (oL : Option Addr) (cL t : Nat) (L : List Li) (hF : F.length = 4 * n) (hr : ReadN .u32 W oF F) (en : L.length = t) (hL : ReadLi W oL L)
    (hS : ∀ i, i ≤ t → okAll n (L.take i) → (bodyI (L.take i)).length ≤ 200000) (hE : ∀ l ∈ L, l.ents.length ≤ 100000 ∧ l.key.size ≤ reachBytes) :
    Calls Try.prog 30 #[.int .i64 at_, .slice oF n cF, .slice oL t cL] W fun e w' => ∃ v, e = .returned (.tuple #[v, .int .i64 (mkE at_ n L)]) ∧ OwnN 52 .u32 w' W.heap.size v (mkX at_ n F L) ∧ Below W.heap.size W w' := by
  have HMay := Lib.hid (ref_may14 W oF cF n oL cL t L en hL (fun l h => ⟨by have := (hE l h).1; omega, (hE l h).2⟩))
  by_cases h4 : MayI n L
  case neg =>
    have HNo := Lib.hid (show ¬ okMk at_ n L from fun h => h4 h.1)
    have HK := Lib.hid (show mayIB n L = false from decide_eq_false h4)
    rw [HK.out] at HMay
    clear hr hL hS hE h4
    go_enter Try.func30, Try.ntmps30
    go_wp2_with fail
    refine HMay.out.mono ?_; rintro e w2 ⟨rfl, hb⟩
    have HB := Lib.hid hb
    clear hb
    go_wp2_with fail
    go_ret2
    exact ⟨.slice none 0 0, by rw [show mkE at_ n L = 1 from if_neg HNo.out]; rfl, by rw [show mkX at_ n F L = [] from if_neg HNo.out]; exact OwnN.nil _ _ _ _, HB.out⟩
  have HK := Lib.hid (show mayIB n L = true from decide_eq_true h4)
  rw [HK.out] at HMay
  by_cases h1 : at_ < 0
  case pos =>
    have HNo := Lib.hid (show ¬ okMk at_ n L from fun h => by have := h.2; omega)
    have h1b : decide (at_ < 0) = true := decide_eq_true h1
    clear hr hL hS hE h4
    go_enter Try.func30, Try.ntmps30
    go_wp2_with fail
    refine HMay.out.mono ?_; rintro e w2 ⟨rfl, hb⟩
    have HB := Lib.hid hb
    clear hb
    go_wp2_with fail
    go_ret2
    exact ⟨.slice none 0 0, by rw [show mkE at_ n L = 1 from if_neg HNo.out]; rfl, by rw [show mkX at_ n F L = [] from if_neg HNo.out]; exact OwnN.nil _ _ _ _, HB.out⟩
  have h1b : decide (at_ < 0) = false := decide_eq_false h1
  by_cases h2 : 65536 < at_
  case pos =>
    have HNo := Lib.hid (show ¬ okMk at_ n L from fun h => by have := h.2; omega)
    have h2b : decide (65536 < at_) = true := decide_eq_true h2
    clear hr hL hS hE h4
    go_enter Try.func30, Try.ntmps30
    go_wp2_with fail
    refine HMay.out.mono ?_; rintro e w2 ⟨rfl, hb⟩
    have HB := Lib.hid hb
    clear hb
    go_wp2_with fail
    go_ret2
    exact ⟨.slice none 0 0, by rw [show mkE at_ n L = 1 from if_neg HNo.out]; rfl, by rw [show mkX at_ n F L = [] from if_neg HNo.out]; exact OwnN.nil _ _ _ _, HB.out⟩
  have h2b : decide (65536 < at_) = false := decide_eq_false h2
  have HYes := Lib.hid (show okMk at_ n L from ⟨h4, by omega, by omega⟩)
  have HOkAll := Lib.hid h4.2.2.2
  have h64 : n ≤ 64 := h4.1
  have ht256 : t ≤ 256 := by have := h4.2.1; omega
  have HL := Lib.hid hL
  have HR := Lib.hid hr
  have HN := Lib.hid en
  have HS := Lib.hid hS
  have HE := Lib.hid hE
  have HFl := Lib.hid hF
  have HEnc := Lib.hid ref_encode13
  obtain ⟨at0, hat0⟩ : ∃ a : Nat, at_ = (a : Int) := Int.eq_ofNat_of_zero_le (by omega)
  subst hat0
  have hat0b : at0 ≤ 65536 := by omega
  obtain ⟨n1, hn1⟩ : ∃ n1, n + 1 = n1 := ⟨_, rfl⟩
  obtain ⟨a2, ha2⟩ : ∃ a2, at0 + 2 = a2 := ⟨_, rfl⟩
  obtain ⟨n4, hn4⟩ : ∃ n4, 4 * n = n4 := ⟨_, rfl⟩
  obtain ⟨a3, ha3⟩ : ∃ a3, a2 + n4 = a3 := ⟨_, rfl⟩
  obtain ⟨t2, ht2⟩ : ∃ t2, 2 * t = t2 := ⟨_, rfl⟩
  obtain ⟨b0, hb0⟩ : ∃ b0, a3 + t2 = b0 := ⟨_, rfl⟩
  have HBase := Lib.hid (show baseI at0 n t = b0 by unfold baseI; omega)
  have p1 : (n : Int) + 1 = (n1 : Int) := by omega
  have p2 : IntKind.i64.wrap ((n : Int) + 1) = (n1 : Int) := by rw [p1]; exact IntWalk.i64_in _ (by omega)
  have p3 : IntKind.u32.wrap (n1 : Int) = (n1 : Int) := IntWalk.u32_in _ (by omega)
  have p4 : IntKind.u32.wrap (t : Int) = (t : Int) := IntWalk.u32_in _ (by omega)
  have p5 : IntKind.i64.wrap (n1 : Int) = (n1 : Int) := IntWalk.i64_in _ (by omega)
  have q1 : (at0 : Int) + 2 = (a2 : Int) := by omega
  have q2 : IntKind.i64.wrap ((at0 : Int) + 2) = (a2 : Int) := by rw [q1]; exact IntWalk.i64_in _ (by omega)
  have q3 : 4 * (n : Int) = (n4 : Int) := by omega
  have q4 : IntKind.i64.wrap (4 * (n : Int)) = (n4 : Int) := by rw [q3]; exact IntWalk.i64_in _ (by omega)
  have q5 : (a2 : Int) + (n4 : Int) = (a3 : Int) := by omega
  have q6 : IntKind.i64.wrap ((a2 : Int) + (n4 : Int)) = (a3 : Int) := by rw [q5]; exact IntWalk.i64_in _ (by omega)
  have q7 : 2 * (t : Int) = (t2 : Int) := by omega
  have q8 : IntKind.i64.wrap (2 * (t : Int)) = (t2 : Int) := by rw [q7]; exact IntWalk.i64_in _ (by omega)
  have q9 : (a3 : Int) + (t2 : Int) = (b0 : Int) := by omega
  have q10 : IntKind.i64.wrap ((a3 : Int) + (t2 : Int)) = (b0 : Int) := by rw [q9]; exact IntWalk.i64_in _ (by omega)
  have r1 : IntKind.i64.wrap (a2 : Int) = (a2 : Int) := IntWalk.i64_in _ (by omega)
  have r2 : IntKind.i64.wrap (n4 : Int) = (n4 : Int) := IntWalk.i64_in _ (by omega)
  have r3 : IntKind.i64.wrap (a3 : Int) = (a3 : Int) := IntWalk.i64_in _ (by omega)
  have r4 : IntKind.i64.wrap (t2 : Int) = (t2 : Int) := IntWalk.i64_in _ (by omega)
  have r5 : IntKind.i64.wrap (b0 : Int) = (b0 : Int) := IntWalk.i64_in _ (by omega)
  have HNum := Lib.hid (show n1 = n + 1 ∧ b0 ≤ 70000 by omega)
  obtain ⟨i4, e40, e41, e42, e43⟩ := info_parts info_u32
  have HI4 := Lib.hid (And.intro e40 (And.intro e41 (And.intro e42 e43)))
  clear hr hL hS hE h4 hn1 ha2 hn4 ha3 ht2 hb0 en hF h1 h2 e40 e41 e42 e43
  go_enter Try.func30, Try.ntmps30
  go_wp2_with fail
  refine HMay.out.mono ?_; rintro e w2 ⟨rfl, hb⟩
  have HO := Lib.hid (show OwnN 52 .u32 (w2.alloc (.cells #[.int .u32 (n1 : Int), .int .u32 (t : Int)] 52)) W.heap.size (.slice (some ⟨w2.heap.size, 0, none⟩) 2 2) [n1, t] from World.ownsRow_lit (base := W.heap.size) (e := 52) (size := 1) w2 #[.int .u32 (n1 : Int), .int .u32 (t : Int)] 2 hb.size (by decide) (by simp))
  have HB2 := Lib.hid (low_new (o := .cells #[.int .u32 (n1 : Int), .int .u32 (t : Int)] 52) hb)
  clear hb
  go_wp2_with fail
  go_loopw [8, 37] (fun cv iv wr => ∃ i : Nat, i ≤ n ∧ iv = .int .i64 (i : Int) ∧ OwnN 52 .u32 wr W.heap.size cv (n1 :: t :: F.take (4 * i)) ∧ Below W.heap.size W wr) (fun _ iv _ => n - (intOf iv).toNat)
  case atStart => exact ⟨0, by omega, rfl, HO.out, HB2.out⟩
  case round =>
    obtain ⟨ix, hi, rfl, hown, hlow⟩ := hrel
    have HOw := Lib.hid hown
    have HLw := Lib.hid hlow
    by_cases hlt : ix < n
    · have hlt1 : (ix : Int) < (n : Int) := by omega
      obtain ⟨g, oo, xa, xb, xc, xd, hoF, ⟨f0, f1, f2, f3⟩, c0, c1, c2, c3⟩ := row_cells HFl.out HR.out hlt
      subst hoF
      have HC := Lib.hid (And.intro (below_cell c0 hlow) (And.intro (below_cell c1 hlow) (And.intro (below_cell c2 hlow) (below_cell c3 hlow))))
      have HC0 := Lib.hid (And.intro c0 (And.intro c1 (And.intro c2 c3)))
      obtain ⟨_, _, _, _, g0, g1, g2, g3, f4⟩ := take4 HFl.out hlt
      rw [f0] at g0; injection g0 with g0
      rw [f1] at g1; injection g1 with g1
      rw [f2] at g2; injection g2 with g2
      rw [f3] at g3; injection g3 with g3
      rw [← g0, ← g1, ← g2, ← g3] at f4
      obtain ⟨na, hna⟩ : ∃ na, (n1 :: t :: F.take (4 * ix)).length = na := ⟨_, rfl⟩
      have HNa := Lib.hid hna
      have hnab : na ≤ 300 := by rw [← hna, List.length_cons, List.length_cons, List.length_take]; omega
      obtain ⟨oc, cc, rfl⟩ := hown.slice na hna
      have HT := Lib.hid (show n1 :: t :: F.take (4 * (ix + 1)) = (n1 :: t :: F.take (4 * ix)) ++ [xa, xb, xc, xd] by rw [f4]; rfl)
      obtain ⟨A, hA⟩ : ∃ A, n1 :: t :: F.take (4 * ix) = A := ⟨_, rfl⟩
      rw [hA] at HOw HNa HT
      have HRw := Lib.hid (show wr.ownsRow W.heap.size 52 1 (.slice oc na cc) na (numC .u32 A) from HNa.out ▸ HOw.out)
      clear f0 f1 f2 f3 f4 g0 g1 g2 g3 hna hown hlow hA c0 c1 c2 c3
      go_wp2_with fail
      refine wp_region_late (fun (p : Nat × Value × Value) jz => [.slice oc na cc, .slice (some ⟨g, oo, none⟩) n cF, .int .i64 (ix : Int), .pointer (some ⟨g, oo + ix * 4, none⟩), .pointer (some ⟨g, oo + ix * 4, none⟩), .int .u32 (xa : Int), .slice (some ⟨g, oo, none⟩) n cF, .int .i64 (ix : Int), .pointer (some ⟨g, oo + ix * 4, none⟩), .pointer (some ⟨g, oo + ix * 4 + 1, none⟩), .int .u32 (xb : Int), .slice (some ⟨g, oo, none⟩) n cF, .int .i64 (ix : Int), .pointer (some ⟨g, oo + ix * 4, none⟩), .pointer (some ⟨g, oo + ix * 4 + 2, none⟩), .int .u32 (xc : Int), .slice (some ⟨g, oo, none⟩) n cF, .int .i64 (ix : Int), .pointer (some ⟨g, oo + ix * 4, none⟩), .pointer (some ⟨g, oo + ix * 4 + 3, none⟩), .int .u32 (xd : Int), .slice (some ⟨p.1, 0, none⟩) 4 4, p.2.1, p.2.2].getD jz undef)
        (fun p l wx => RowLate W 52 1 na 4 (.slice oc na cc) (numC .u32 A) [.int .u32 (xa : Int), .int .u32 (xb : Int), .int .u32 (xc : Int), .int .u32 (xd : Int)] (l 0) (l 21) (l 22) (l 23) p.1 p.2.1 p.2.2 wx ∧ (l 22 = true → ∃ g9 c9, p.2.1 = .slice (some ⟨g9, 0, none⟩) (na + 4) c9))
        _ (by kernel_rfl) (fun i j => i == 0 && j == 23) (by kernel_rfl) (fun q => by simp only [putTo, dstOf, Act.put, List.size_toArray, List.length_cons, List.length_nil, List.getElem?_toArray, Nat.reduceAdd, Option.bind_some, List.getElem?_cons_zero, List.getElem?_cons_succ, List.setIfInBounds_toArray, List.set_cons_zero, List.set_cons_succ, List.getD_cons_zero, List.getD_cons_succ]; exact rfl) (0, undef, (.slice oc na cc)) ?_ ?_ ?_ ?_ ?_
      · exact ⟨RowLate.start HLw.out.drew (owned_below HRw.out (Below.refl _ _).drew), fun h => (by cases h)⟩
      · intro l hc i' j' hL hj
        obtain ⟨rfl, rfl⟩ : i' = 0 ∧ j' = 23 := by simpa using hL
        exact hc 22 _ rfl (hc 23 _ rfl hj ⟨22, .data⟩ (by simp) rfl) ⟨0, .data⟩ (by simp) rfl
      · intro q l wx hR i' j' d hL hd hj
        obtain ⟨rfl, rfl⟩ : i' = 0 ∧ j' = 23 := by simpa using hL
        obtain rfl : 8 = d := Option.some.inj hd
        have hcur := hR.1.cur0 hj
        show some (.slice oc na cc) = some q.2.2
        rw [hcur]
      · intro i o ho p l wx hR hl he K hK
        rcases i with _ | _ | _ | _ | _ | _ | _ | _ | _ | _ | _ | _ | _ | _ | _ | _ | _ | _ | _ | _ | _ | _ | _ | _ | i
        · obtain rfl : _ = o := Option.some.inj ho
          have hld := hR.1.loaded hl
          have hcur := hld.2
          have HR := Lib.hid (And.intro hld.1 hR.2)
          clear hR hld
          obtain ⟨pb, pv, pc⟩ := p
          dsimp only at hcur
          subst hcur
          go_simp
          exact hK (pb, pv, _) wx (fun _ _ => rfl) HR.out
        · obtain rfl : _ = o := Option.some.inj ho
          have HR := Lib.hid hR
          clear hR
          go_simp
          exact hK p wx (fun _ _ => rfl) HR.out
        · obtain rfl : _ = o := Option.some.inj ho
          have HR := Lib.hid hR
          clear hR
          go_simp
          exact hK p wx (fun _ _ => rfl) HR.out
        · obtain rfl : _ = o := Option.some.inj ho
          have HR := Lib.hid hR
          clear hR
          go_simp
          exact hK p wx (fun _ _ => rfl) HR.out
        · obtain rfl : _ = o := Option.some.inj ho
          have HR := Lib.hid hR
          clear hR
          go_simp
          exact hK p wx (fun _ _ => rfl) HR.out
        · obtain rfl : _ = o := Option.some.inj ho
          have q := below_cell HC0.out.1 hR.1.low
          have HR := Lib.hid hR
          clear hR
          go_simp
          exact hK p wx (fun _ _ => rfl) HR.out
        · obtain rfl : _ = o := Option.some.inj ho
          have HR := Lib.hid hR
          clear hR
          go_simp
          exact hK p wx (fun _ _ => rfl) HR.out
        · obtain rfl : _ = o := Option.some.inj ho
          have HR := Lib.hid hR
          clear hR
          go_simp
          exact hK p wx (fun _ _ => rfl) HR.out
        · obtain rfl : _ = o := Option.some.inj ho
          have HR := Lib.hid hR
          clear hR
          go_simp
          exact hK p wx (fun _ _ => rfl) HR.out
        · obtain rfl : _ = o := Option.some.inj ho
          have HR := Lib.hid hR
          clear hR
          go_simp
          exact hK p wx (fun _ _ => rfl) HR.out
        · obtain rfl : _ = o := Option.some.inj ho
          have q := below_cell HC0.out.2.1 hR.1.low
          have HR := Lib.hid hR
          clear hR
          go_simp
          exact hK p wx (fun _ _ => rfl) HR.out
        · obtain rfl : _ = o := Option.some.inj ho
          have HR := Lib.hid hR
          clear hR
          go_simp
          exact hK p wx (fun _ _ => rfl) HR.out
        · obtain rfl : _ = o := Option.some.inj ho
          have HR := Lib.hid hR
          clear hR
          go_simp
          exact hK p wx (fun _ _ => rfl) HR.out
        · obtain rfl : _ = o := Option.some.inj ho
          have HR := Lib.hid hR
          clear hR
          go_simp
          exact hK p wx (fun _ _ => rfl) HR.out
        · obtain rfl : _ = o := Option.some.inj ho
          have HR := Lib.hid hR
          clear hR
          go_simp
          exact hK p wx (fun _ _ => rfl) HR.out
        · obtain rfl : _ = o := Option.some.inj ho
          have q := below_cell HC0.out.2.2.1 hR.1.low
          have HR := Lib.hid hR
          clear hR
          go_simp
          exact hK p wx (fun _ _ => rfl) HR.out
        · obtain rfl : _ = o := Option.some.inj ho
          have HR := Lib.hid hR
          clear hR
          go_simp
          exact hK p wx (fun _ _ => rfl) HR.out
        · obtain rfl : _ = o := Option.some.inj ho
          have HR := Lib.hid hR
          clear hR
          go_simp
          exact hK p wx (fun _ _ => rfl) HR.out
        · obtain rfl : _ = o := Option.some.inj ho
          have HR := Lib.hid hR
          clear hR
          go_simp
          exact hK p wx (fun _ _ => rfl) HR.out
        · obtain rfl : _ = o := Option.some.inj ho
          have HR := Lib.hid hR
          clear hR
          go_simp
          exact hK p wx (fun _ _ => rfl) HR.out
        · obtain rfl : _ = o := Option.some.inj ho
          have q := below_cell HC0.out.2.2.2 hR.1.low
          have HR := Lib.hid hR
          clear hR
          go_simp
          exact hK p wx (fun _ _ => rfl) HR.out
        · obtain rfl : _ = o := Option.some.inj ho
          have HR := Lib.hid hR
          clear hR
          have h8 : l 22 = false := by
            cases h : l 22 with
            | false => rfl
            | true => exact absurd (HR.out.1.o87 h) (by rw [hl]; decide)
          have HM := Lib.hid (HR.out.1.made hl _ rfl)
          go_simp
          refine hK (wx.heap.size, p.2) _ (fun j hj => ?_) ⟨HM.out, HR.out.2⟩
          rcases j with _ | _ | _ | _ | _ | _ | _ | _ | _ | _ | _ | _ | _ | _ | _ | _ | _ | _ | _ | _ | _ | _ | _ | _ | j
          all_goals first | rfl | (rw [hl] at hj; cases hj) | (rw [h8] at hj; cases hj)
        · obtain rfl : _ = o := Option.some.inj ho
          have h7 : l 21 = true := he ⟨21, .data⟩ (by simp) rfl
          have h0 : l 0 = true := he ⟨0, .data⟩ (by simp) rfl
          have hlit := (hR.1.lit h7).resolve_right (by rw [hl]; decide)
          have hcells : ∀ (j : Nat) (u : Value), ([.int .u32 (xa : Int), .int .u32 (xb : Int), .int .u32 (xc : Int), .int .u32 (xd : Int)] : List Value)[j]? = some u → wx.cell? ((⟨p.1, 0, none⟩ : Addr).add j) = some u := fun j u hj => by
            rw [Addr.add_lit, cell_at hlit]
            simpa using hj
          have HR := Lib.hid hR
          clear hR
          refine wp_append_own wx (.tmp 40) (.tmp 61) 26 rfl W.heap.size 52 i4 _ 1 4 Try.underlying26 HI4.out.1 HI4.out.2.1 HI4.out.2.2.1 HI4.out.2.2.2 rfl (by decide) _ na (numC .u32 A) rfl (HR.out.1.own hl) ⟨p.1, 0, none⟩ 4 4 [.int .u32 (xa : Int), .int .u32 (xb : Int), .int .u32 (xc : Int), .int .u32 (xd : Int)] rfl rfl hcells (by simp [Value.oneCell']) (by unfold maxLen; omega) (by omega) HR.out.1.low.size ?_
          intro v' w' ho hg _
          obtain ⟨gq, cq, hq⟩ := slice_of (show 0 < na + 4 by omega) ho
          have h9 := HR.out.1.not9 hl
          refine hK (p.1, v', p.2.2) w' (fun j hj => ?_) ⟨HR.out.1.put h0 h7 hl ho hg, fun _ => ⟨gq, cq, hq⟩⟩
          rcases j with _ | _ | _ | _ | _ | _ | _ | _ | _ | _ | _ | _ | _ | _ | _ | _ | _ | _ | _ | _ | _ | _ | _ | _ | j
          all_goals first | rfl | (rw [hl] at hj; cases hj) | (rw [h9] at hj; cases hj)
        · obtain rfl : _ = o := Option.some.inj ho
          have h8 : l 22 = true := he ⟨22, .data⟩ (by simp) rfl
          obtain ⟨g9, c9, hq⟩ := hR.2 h8
          have HS := Lib.hid (hR.1.set h8)
          have HR := Lib.hid hR.2
          clear hR h8
          obtain ⟨pb, pv, pc⟩ := p
          dsimp only at hq HS
          subst hq
          go_simp
          refine hK (pb, _, .slice (some ⟨g9, 0, none⟩) (na + 4) c9) wx (fun j hj => ?_) ⟨HS.out, HR.out⟩
          rcases j with _ | _ | _ | _ | _ | _ | _ | _ | _ | _ | _ | _ | _ | _ | _ | _ | _ | _ | _ | _ | _ | _ | _ | _ | j
          all_goals first | rfl | (rw [hl] at hj; cases hj)
        · simp at ho
      · intro p l wx hl hR
        have HO5 := Lib.hid (hR.1.own2 (hl 22 (by decide)))
        have HB5 := Lib.hid hR.1.low
        have hcur := hR.1.cur1 (hl 23 (by decide))
        obtain ⟨g9, c9, hq⟩ := hR.2 (hl 22 (by decide))
        clear hR hl
        obtain ⟨pb, pv, pc⟩ := p
        dsimp only at hcur hq HO5
        subst hcur hq
        have HO6 := Lib.hid (show OwnN 52 .u32 wx W.heap.size (.slice (some ⟨g9, 0, none⟩) (na + 4) c9) (A ++ [xa, xb, xc, xd]) from by
          unfold OwnN
          rw [List.length_append, HNa.out, numC_append]
          exact HO5.out)
        go_wp2_with fail
        go_roundw
        case rel => exact ⟨ix + 1, by omega, by go_num, by rw [HT.out]; exact HO6.out, HB5.out⟩
        case measure => simp [intOf]; omega
    · obtain rfl : ix = n := by omega
      have HT := Lib.hid (show n1 :: t :: F.take (4 * ix) = n1 :: t :: F by rw [List.take_of_length_le (by have := HFl.out; omega)])
      obtain ⟨A0, hA0⟩ : ∃ A, n1 :: t :: F = A := ⟨_, rfl⟩
      have HA0 := Lib.hid hA0
      rw [HT.out, hA0] at HOw
      have hA0l : A0.length = 2 + 4 * ix := by rw [← hA0, List.length_cons, List.length_cons, HFl.out]; omega
      have HA0l := Lib.hid hA0l
      obtain ⟨m0, hm0⟩ : ∃ m0, A0.length = m0 := ⟨_, rfl⟩
      obtain ⟨oc0, cc0, rfl⟩ := HOw.out.slice m0 hm0
      have HP := Lib.hid (show P32 W (.slice oc0 m0 cc0) (.slice (some ⟨wr.heap.size, 0, none⟩) 0 0) (A0 ++ headsI b0 (L.take 0)) (bodyI (L.take 0)) (wr.alloc (.cells #[] 52)) from ⟨by rw [List.take_zero, headsI, List.append_nil]; exact HOw.out.below below_one, OwnN.new _ _ _ _ HLw.out.size, .inr (.inr fun e => by
        have := (World.ownsRow.lt HOw.out wr.heap.size (by rw [e]; rfl)).2
        omega), low_new HLw.out⟩)
      clear hown hlow HT hA0 hA0l hm0
      go_wp2_with fail
      go_loopw [8, 10, 77] (fun cv bv jv wr => ∃ j : Nat, j ≤ t ∧ jv = .int .i64 (j : Int) ∧ P32 W cv bv (A0 ++ headsI b0 (L.take j)) (bodyI (L.take j)) wr) (fun _ _ jv _ => t - (intOf jv).toNat)
      case atStart => exact ⟨0, by omega, rfl, HP.out⟩
      case round =>
        obtain ⟨j, hj, rfl, hp⟩ := hrel
        have HP := Lib.hid hp
        have HOk := Lib.hid (show okAll ix (L.take j) from fun s hs => by
          have h1 := HOkAll.out s (by rw [List.length_take] at hs; omega)
          unfold liAt at h1 ⊢
          rw [List.getD_eq_getElem?_getD] at h1 ⊢
          rw [List.getElem?_take, if_pos (by rw [List.length_take] at hs; omega)]
          exact h1)
        by_cases hjt : j < t
        · have hjt1 : (j : Int) < (t : Int) := by omega
          obtain ⟨l, hl⟩ : ∃ l, L[j]? = some l := ⟨_, List.getElem?_eq_getElem (by rw [HN.out]; exact hjt)⟩
          obtain ⟨g, o, hoL, c0, c1, p, c2, pa, pc, rfl, r1, r2, r3, r4⟩ := HL.out j l hl
          subst hoL
          have hokl := okAll_at HOkAll.out hl
          have HCe := Lib.hid c2
          have c1 := below_cell c1 hp.low
          obtain ⟨kk, rr, es⟩ := l
          dsimp only at c0 c1 c2 r1 r4
          obtain ⟨m, hm⟩ : ∃ m, es.length = m := ⟨_, rfl⟩
          rw [hm] at r1 c2
          have hmb : m ≤ 100000 := by have := (HE.out _ (List.mem_of_getElem? hl)).1; dsimp only at this; omega
          have HEn := Lib.hid (fun (w : World) (h : ReadE w pa es) => HEnc.out w pa pc m es hm h hmb)
          have hme : MayE es := hokl.2.2.2.1
          rw [show encE es = 0 from if_pos hme, show encX es = encN es from if_pos hme] at HEn
          have hzp := encN_pos es
          have hzb := encN_lenI hme
          obtain ⟨Z, hZ⟩ : ∃ Z, encN es = Z := ⟨_, rfl⟩
          rw [hZ] at HEn hzp hzb
          obtain ⟨zl, hzl⟩ : ∃ zl, Z.length = zl := ⟨_, rfl⟩
          rw [hzl] at hzp hzb
          have HZ := Lib.hid (And.intro hZ hzl)
          have HRe := Lib.hid r4
          have HC2 := Lib.hid c2
          have HLj := Lib.hid hl
          have HOk2 := Lib.hid (okAll_take HOk.out hl hokl)
          obtain ⟨rn, hrn⟩ : ∃ r : Nat, rr = (r : Int) := Int.eq_ofNat_of_zero_le (by have := hokl.1; dsimp only at this; omega)
          have hrb : rn ≤ 65535 := by have := hokl.2.1; dsimp only at this; omega
          subst hrn
          have x1 : IntKind.u32.wrap (rn : Int) = (rn : Int) := IntWalk.u32_in _ (by omega)
          have hbd := HS.out (j + 1) (by omega) HOk2.out
          rw [li_take HLj.out, bodyI_snoc] at hbd
          dsimp only at hbd
          rw [HZ.out.1, List.length_append, HZ.out.2] at hbd
          obtain ⟨nb, hnb⟩ : ∃ nb, (bodyI (L.take j)).length = nb := ⟨_, rfl⟩
          rw [hnb] at hbd
          obtain ⟨na, hna⟩ : ∃ na, (A0 ++ headsI b0 (L.take j)).length = na := ⟨_, rfl⟩
          have hnab : na ≤ 800 := by rw [← hna, List.length_append, headsI_length, HA0l.out, List.length_take]; omega
          obtain ⟨x, hx⟩ : ∃ x, b0 + nb = x := ⟨_, rfl⟩
          have x2 : (b0 : Int) + (nb : Int) = (x : Int) := by omega
          have hxb : x ≤ 300000 := by have := HNum.out.2; omega
          have x3 : IntKind.i64.wrap ((b0 : Int) + (nb : Int)) = (x : Int) := by rw [x2]; exact IntWalk.i64_in _ (by omega)
          have x4 : IntKind.u32.wrap (x : Int) = (x : Int) := IntWalk.u32_in _ (by omega)
          have x5 : IntKind.i64.wrap (x : Int) = (x : Int) := IntWalk.i64_in _ (by omega)
          have HHd := Lib.hid (show A0 ++ headsI b0 (L.take (j + 1)) = (A0 ++ headsI b0 (L.take j)) ++ [rn, x] by rw [li_take HLj.out, headsI_snoc, hnb, hx, List.append_assoc]; rfl)
          have HBd := Lib.hid (show bodyI (L.take (j + 1)) = bodyI (L.take j) ++ Z by rw [li_take HLj.out, bodyI_snoc]; dsimp only; rw [HZ.out.1])
          obtain ⟨A, hA⟩ : ∃ A, A0 ++ headsI b0 (L.take j) = A := ⟨_, rfl⟩
          obtain ⟨B, hB⟩ : ∃ B, bodyI (L.take j) = B := ⟨_, rfl⟩
          rw [hA] at hna HHd HP
          rw [hB] at hnb HBd HP
          obtain ⟨oc, cc, rfl⟩ := HP.out.a.slice na hna
          obtain ⟨ob, cb, rfl⟩ := HP.out.b.slice nb hnb
          have HNa := Lib.hid (And.intro hna hnb)
          have hbd2 : nb + zl ≤ 200000 := hbd
          have HP6 := Lib.hid (HP.out.below (below_one (w := wr) (A := .cells #[.int .u32 (rn : Int), .int .u32 (x : Int)] 52)))
          have HR6 := Lib.hid (readN_new .u32 wr [rn, x] 52)
          clear hl r4 hm hp c0 c2 hokl hme hZ hzl hx hA hB hna hnb hbd r1 r2 r3
          go_wp2_with (at_builtin; refine append_pair (W := W) rfl (.tmp 80) (.tmp 92) rfl _ _ A B HP6.out rfl na HNa.out.1 _ 2 2 [rn, x] rfl rfl HR6.out (by omega) (by omega) ?_; intro g7 cap7 w7 hp7 hg7; have HP7 := Lib.hid hp7; clear hp7 hg7; clear c1; have c2 := below_cell HC2.out HP7.out.low)
          refine (HEn.out _ (HRe.out.below HP7.out.low)).mono ?_; rintro e w5 ⟨v5, rfl, ho5, hb5⟩
          have HP8 := Lib.hid (HP7.out.below hb5)
          obtain ⟨oz, cz, rfl, z1, _, z3, hz5⟩ := ho5.reads_of zl HZ.out.2
          obtain ⟨gz, oz2, hoz, _⟩ := hz5 0 _ (List.getElem?_eq_getElem (by rw [HZ.out.2]; exact hzp))
          subst hoz
          have HR5 := Lib.hid hz5
          clear ho5 hb5 hz5 c2
          go_wp2_with (at_builtin; refine append_pair (W := W) rfl (.tmp 103) (.tmp 104) rfl _ _ B _ HP8.out.swap rfl nb HNa.out.2 _ _ zl Z HZ.out.2 rfl HR5.out (by omega) (by omega) ?_; intro g8 cap8 w8 hp8 hg8; have HP9 := Lib.hid hp8.swap; clear hp8 hg8)
          go_roundw
          case rel => exact ⟨j + 1, by omega, by go_num, by rw [HHd.out, HBd.out]; exact HP9.out⟩
          case measure => simp [intOf]; omega
        · obtain rfl : j = t := by omega
          have hbd := HS.out j (Nat.le_refl _) HOk.out
          have htk : L.take j = L := List.take_of_length_le (by have := HN.out; omega)
          rw [htk] at HP hbd
          have HImg := Lib.hid (show mkX (at0 : Int) ix F L = (A0 ++ headsI b0 L) ++ bodyI L from by
            unfold mkX
            rw [if_pos HYes.out]
            unfold imgN
            rw [show ((at0 : Nat) : Int).toNat = at0 by omega, HN.out, HBase.out, ← HA0.out, ← HNum.out.1, List.append_assoc]
            rfl)
          obtain ⟨nb, hnb⟩ : ∃ nb, (bodyI L).length = nb := ⟨_, rfl⟩
          obtain ⟨na, hna⟩ : ∃ na, (A0 ++ headsI b0 L).length = na := ⟨_, rfl⟩
          have hnab : na ≤ 800 := by rw [← hna, List.length_append, headsI_length, HA0l.out]; have := HN.out; omega
          obtain ⟨A, hA⟩ : ∃ A, A0 ++ headsI b0 L = A := ⟨_, rfl⟩
          obtain ⟨B, hB⟩ : ∃ B, bodyI L = B := ⟨_, rfl⟩
          rw [hA] at hna HImg HP
          rw [hB] at hnb HImg HP hbd
          rw [hnb] at hbd
          obtain ⟨oc, cc, rfl⟩ := HP.out.a.slice na hna
          obtain ⟨ob, cb, hbv, y1, _, y2, hrd⟩ := HP.out.b.reads_of nb hnb
          subst hbv
          have HNa := Lib.hid (And.intro hna hnb)
          have HRd := Lib.hid hrd
          clear hp htk hna hnb hA hB hrd
          go_wp2_with (at_builtin; refine append_u32 (W := W) rfl (.tmp 107) (.tmp 108) rfl _ A B rfl HP.out.low HP.out.a ob cb nb HNa.out.2 rfl HRd.out y2 y1 (by rw [HNa.out.1]; omega) ?_; intro v7 w7 ho hg; have HO7 := Lib.hid ho; clear ho hg)
          go_ret2
          exact ⟨_, by rw [show mkE (at0 : Int) ix L = 0 from if_pos HYes.out]; rfl, by rw [HImg.out]; exact HO7.out.1, HO7.out.2⟩
end Go.Proofs.Ytkjimgidlpocbaa
