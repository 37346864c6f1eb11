/-
  The reference of layer 14: May. Over the program's own text.
-/
import Derived.Test.YtpmhkmakkeckkaaImgRefA
namespace Go.Proofs.Ytpmhkmakkeckkaa
open Go.RowKit

def mayIB (n : Nat) (L : List Li) : Bool := decide (MayI n L)
set_option maxRecDepth 100000 in
set_option maxHeartbeats 8000000 in
theorem ref_may14 (W : World) (oF : Option Addr) (cF n : Nat) (oL : Option Addr) (cL tt : Nat) (L : List Li) (en : L.length = tt) (hL : ReadLi W oL L) (hE : ∀ l ∈ L, l.ents.length ≤ 1000000 ∧ l.key.size ≤ reachBytes) :
    Calls Try.prog 20 #[.slice oF n cF, .slice oL tt cL] W fun e w' => e = .returned (.bool (mayIB n L)) ∧ Below W.heap.size W w' := by
  by_cases h1 : 64 < n
  · have HNo := Lib.hid (show mayIB n L = false from decide_eq_false fun h => by have := h.1; omega)
    have h1i : (64 : Int) < (n : Int) := by omega
    clear hL hE en h1
    go_enter Try.func20, Try.ntmps20
    go_wp2_with fail
    go_ret
    exact ⟨by rw [HNo.out]; rfl, Below.refl _ _⟩
  have h1i : ¬ (64 : Int) < (n : Int) := by omega
  by_cases h2 : 256 < tt
  · have HNo := Lib.hid (show mayIB n L = false from decide_eq_false fun h => by have := h.2.1; omega)
    have h2i : (256 : Int) < (tt : Int) := by omega
    clear hL hE en h2
    go_enter Try.func20, Try.ntmps20
    go_wp2_with fail
    go_ret
    exact ⟨by rw [HNo.out]; rfl, Below.refl _ _⟩
  have h2i : ¬ (256 : Int) < (tt : Int) := by omega
  have g1 : decide ((64 : Int) < (n : Int)) = false := decide_eq_false h1i
  have g2 : decide ((256 : Int) < (tt : Int)) = false := decide_eq_false h2i
  have HL := Lib.hid hL
  have HE := Lib.hid hE
  have HN := Lib.hid en
  have HLess := Lib.hid ref_less
  have HMay := Lib.hid ref_may13
  clear hL hE en
  go_enter Try.func20, Try.ntmps20
  go_wp2_with fail
  go_loopw [18] (fun iv wr => ∃ ix : Nat, ix ≤ tt ∧ iv = .int .i64 (ix : Int) ∧ Hid (∀ j, j < ix → upK L j ∧ okLi n (liAt L j)) ∧ Below W.heap.size W wr) (fun iv _ => tt - (intOf iv).toNat)
  case atStart => exact ⟨0, by omega, rfl, Lib.hid (fun j hj => absurd hj (by omega)), Below.refl _ _⟩
  case round =>
    obtain ⟨ix, hi, rfl, HOk, hlow⟩ := hrel
    have HW := Lib.hid hlow
    by_cases hlt : ix < tt
    · have hlt1 : (ix : Int) < (tt : Int) := by omega
      obtain ⟨x, hx⟩ : ∃ x, L[ix]? = some x := ⟨_, List.getElem?_eq_getElem (by rw [HN.out]; exact hlt)⟩
      obtain ⟨g, oo, hoL, c0, c1, p0, c2, pa, pc, rfl, r1, r2, r3, r4⟩ := HL.out ix x hx
      subst hoL
      have c0 := below_cell c0 hlow
      have c1 := below_cell c1 hlow
      have c2 := below_cell c2 hlow
      have hex := HE.out x (List.mem_of_getElem? hx)
      obtain ⟨kk, rr, es⟩ := x
      dsimp only at c0 c1 c2 r1 r4 hex
      obtain ⟨m, hm⟩ : ∃ m, es.length = m := ⟨_, rfl⟩
      rw [hm] at c2 r1 hex
      have HRe := Lib.hid r4
      have HM := Lib.hid hm
      have HAt := Lib.hid (liAt_some hx)
      have HKs := Lib.hid hex.2
      have hmb : m ≤ 1000000 := hex.1
      have HNot := Lib.hid (show ¬ okLi n ⟨kk, rr, es⟩ → mayIB n L = false from fun h => decide_eq_false fun hM => h (by have := hM.2.2.2 ix (by rw [HN.out]; exact hlt); rwa [HAt.out] at this))
      have HNotK := Lib.hid (show ¬ upK L ix → mayIB n L = false from fun h => decide_eq_false fun hM => h (hM.2.2.1 ix (by rw [HN.out]; exact hlt)))
      have HWa := Lib.hid (low_new (o := .cells #[.string kk, .int .i64 rr, .slice pa m pc] 44) hlow)
      have HEa := Lib.hid (heap_alloc_new wr (.cells #[.string kk, .int .i64 rr, .slice pa m pc] 44))
      clear hx r4 hm hex hlow r1 r2 r3
      go_upto_region 7 with fail
      obtain ⟨be, hbe⟩ : ∃ be, be = wr.heap.size := ⟨_, rfl⟩
      rw [← hbe] at HEa ⊢
      have HBe := Lib.hid (show W.heap.size ≤ be by rw [hbe]; exact HW.out.size)
      generalize wr.alloc (.cells #[.string kk, .int .i64 rr, .slice pa m pc] 44) = wa at HWa HEa ⊢
      have HC0 := Lib.hid (cell_at HEa.out 0)
      have HC1 := Lib.hid (cell_at HEa.out 1)
      have HC2 := Lib.hid (cell_at HEa.out 2)
      clear c0 c1 c2 hbe
      by_cases hi0 : ix = 0
      · subst hi0
        have HUp := Lib.hid (show upK L 0 from fun h => absurd h (by omega))
        by_cases hr1 : rr < 1
        · have HBad := Lib.hid (HNot.out fun h => by have := h.1; dsimp only at this; omega)
          have hr1b : decide (rr < 1) = true := decide_eq_true hr1
          refine wp_region_cl (fun (p : Unit) jz => [.int .i64 0, .bool false, .bool false, undef, undef, undef, undef, undef, undef, undef, undef, undef, undef, .bool false, .bool false, .pointer (some ⟨be, 1, none⟩), .int .i64 rr, .bool true, .bool true, .bool true, undef, undef, undef, .bool true, .bool true, undef, undef, undef, undef, .bool true, .bool true, undef, undef, undef, undef, .bool true].getD jz undef)
            (fun p l wx => Below wa.heap.size wa wx)
            (by kernel_rfl) (by kernel_rfl) (fun q => by simp only [putTo, dstOf, Act.put, List.size_toArray, List.length_cons, List.length_nil, List.getElem?_toArray, Nat.reduceAdd, Option.bind_some, List.getElem?_cons_zero, List.getElem?_cons_succ, List.setIfInBounds_toArray, List.set_cons_zero, List.set_cons_succ, List.getD_cons_zero, List.getD_cons_succ]; exact rfl) () ?_ ?_ ?_
          · exact (Below.refl _ _).drew
          · intro i o ho p l wx hR hl he hcl K hK
            rcases i with _ | _ | _ | _ | _ | _ | _ | _ | _ | _ | _ | _ | _ | _ | _ | _ | _ | _ | _ | _ | _ | _ | _ | _ | _ | _ | _ | _ | _ | _ | _ | _ | _ | _ | _ | _ | i
            · obtain rfl : _ = o := Option.some.inj ho
              have HR := Lib.hid hR
              clear hR
              go_simp
              exact hK p wx (fun _ _ => rfl) HR.out
            · obtain rfl : _ = o := Option.some.inj ho
              have HR := Lib.hid hR
              clear hR
              go_simp
              exact hK p wx (fun _ _ => rfl) HR.out
            · obtain rfl : _ = o := Option.some.inj ho
              have HR := Lib.hid hR
              clear hR
              go_simp
              exact hK p wx (fun _ _ => rfl) HR.out
            · obtain rfl : _ = o := Option.some.inj ho
              have HR := Lib.hid hR
              clear hR
              go_simp
              exact hK p wx (fun _ _ => rfl) HR.out
            · obtain rfl : _ = o := Option.some.inj ho
              have HR := Lib.hid hR
              clear hR
              go_simp
              exact hK p wx (fun _ _ => rfl) HR.out
            · obtain rfl : _ = o := Option.some.inj ho
              have HR := Lib.hid hR
              clear hR
              go_simp
              exact hK p wx (fun _ _ => rfl) HR.out
            · obtain rfl : _ = o := Option.some.inj ho
              have HR := Lib.hid hR
              clear hR
              go_simp
              exact hK p wx (fun _ _ => rfl) HR.out
            · obtain rfl : _ = o := Option.some.inj ho
              have HR := Lib.hid hR
              clear hR
              go_simp
              exact hK p wx (fun _ _ => rfl) HR.out
            · obtain rfl : _ = o := Option.some.inj ho
              have HR := Lib.hid hR
              clear hR
              go_simp
              exact hK p wx (fun _ _ => rfl) HR.out
            · obtain rfl : _ = o := Option.some.inj ho
              have HR := Lib.hid hR
              clear hR
              go_simp
              exact hK p wx (fun _ _ => rfl) HR.out
            · obtain rfl : _ = o := Option.some.inj ho
              have HR := Lib.hid hR
              clear hR
              go_simp
              exact hK p wx (fun _ _ => rfl) HR.out
            · obtain rfl : _ = o := Option.some.inj ho
              have HR := Lib.hid hR
              clear hR
              go_simp
              exact hK p wx (fun _ _ => rfl) HR.out
            · obtain rfl : _ = o := Option.some.inj ho
              have HR := Lib.hid hR
              clear hR
              go_simp
              exact hK p wx (fun _ _ => rfl) HR.out
            · obtain rfl : _ = o := Option.some.inj ho
              have HR := Lib.hid hR
              clear hR
              go_simp
              exact hK p wx (fun _ _ => rfl) HR.out
            · obtain rfl : _ = o := Option.some.inj ho
              have HR := Lib.hid hR
              clear hR
              go_simp
              exact hK p wx (fun _ _ => rfl) HR.out
            · obtain rfl : _ = o := Option.some.inj ho
              have HR := Lib.hid hR
              clear hR
              go_simp
              exact hK p wx (fun _ _ => rfl) HR.out
            · obtain rfl : _ = o := Option.some.inj ho
              have q := below_cell HC1.out hR
              have HR := Lib.hid hR
              clear hR
              go_simp
              exact hK p wx (fun _ _ => rfl) HR.out
            · obtain rfl : _ = o := Option.some.inj ho
              have HR := Lib.hid hR
              clear hR
              go_simp
              exact hK p wx (fun _ _ => rfl) HR.out
            · obtain rfl : _ = o := Option.some.inj ho
              have HR := Lib.hid hR
              clear hR
              go_simp
              exact hK p wx (fun _ _ => rfl) HR.out
            · obtain rfl : _ = o := Option.some.inj ho
              have HR := Lib.hid hR
              clear hR
              go_simp
              exact hK p wx (fun _ _ => rfl) HR.out
            · obtain rfl : _ = o := Option.some.inj ho
              have HR := Lib.hid hR
              clear hR
              go_simp
              exact hK p wx (fun _ _ => rfl) HR.out
            · obtain rfl : _ = o := Option.some.inj ho
              have HR := Lib.hid hR
              clear hR
              go_simp
              exact hK p wx (fun _ _ => rfl) HR.out
            · obtain rfl : _ = o := Option.some.inj ho
              have HR := Lib.hid hR
              clear hR
              go_simp
              exact hK p wx (fun _ _ => rfl) HR.out
            · obtain rfl : _ = o := Option.some.inj ho
              have HR := Lib.hid hR
              clear hR
              go_simp
              exact hK p wx (fun _ _ => rfl) HR.out
            · obtain rfl : _ = o := Option.some.inj ho
              have HR := Lib.hid hR
              clear hR
              go_simp
              exact hK p wx (fun _ _ => rfl) HR.out
            · obtain rfl : _ = o := Option.some.inj ho
              have HR := Lib.hid hR
              clear hR
              go_simp
              exact hK p wx (fun _ _ => rfl) HR.out
            · obtain rfl : _ = o := Option.some.inj ho
              have HR := Lib.hid hR
              clear hR
              go_simp
              exact hK p wx (fun _ _ => rfl) HR.out
            · obtain rfl : _ = o := Option.some.inj ho
              have HR := Lib.hid hR
              clear hR
              go_simp
              exact hK p wx (fun _ _ => rfl) HR.out
            · obtain rfl : _ = o := Option.some.inj ho
              have HR := Lib.hid hR
              clear hR
              go_simp
              exact hK p wx (fun _ _ => rfl) HR.out
            · obtain rfl : _ = o := Option.some.inj ho
              have HR := Lib.hid hR
              clear hR
              go_simp
              exact hK p wx (fun _ _ => rfl) HR.out
            · obtain rfl : _ = o := Option.some.inj ho
              have HR := Lib.hid hR
              clear hR
              go_simp
              exact hK p wx (fun _ _ => rfl) HR.out
            · obtain rfl : _ = o := Option.some.inj ho
              have HR := Lib.hid hR
              clear hR
              go_simp
              exact hK p wx (fun _ _ => rfl) HR.out
            · obtain rfl : _ = o := Option.some.inj ho
              have HR := Lib.hid hR
              clear hR
              go_simp
              exact hK p wx (fun _ _ => rfl) HR.out
            · obtain rfl : _ = o := Option.some.inj ho
              have HR := Lib.hid hR
              clear hR
              go_simp
              exact hK p wx (fun _ _ => rfl) HR.out
            · obtain rfl : _ = o := Option.some.inj ho
              have HR := Lib.hid hR
              clear hR
              go_simp
              exact hK p wx (fun _ _ => rfl) HR.out
            · obtain rfl : _ = o := Option.some.inj ho
              have HR := Lib.hid hR
              clear hR
              go_simp
              exact hK p wx (fun _ _ => rfl) HR.out
            · simp at ho
          · intro p l wx hl hR
            have HWx := Lib.hid (low_more HWa.out hR)
            clear hl hR
            go_wp2_with fail
            go_ret
            exact ⟨by rw [HBad.out]; rfl, HWx.out⟩
        have hr1b : decide (rr < 1) = false := decide_eq_false hr1
        by_cases hr2 : 65535 < rr
        · have HBad := Lib.hid (HNot.out fun h => by have := h.2.1; dsimp only at this; omega)
          have hr2b : decide (65535 < rr) = true := decide_eq_true hr2
          refine wp_region_cl (fun (p : Unit) jz => [.int .i64 0, .bool false, .bool false, undef, undef, undef, undef, undef, undef, undef, undef, undef, undef, .bool false, .bool false, .pointer (some ⟨be, 1, none⟩), .int .i64 rr, .bool false, .bool false, .bool false, .pointer (some ⟨be, 1, none⟩), .int .i64 rr, .bool true, .bool true, .bool true, undef, undef, undef, undef, .bool true, .bool true, undef, undef, undef, undef, .bool true].getD jz undef)
            (fun p l wx => Below wa.heap.size wa wx)
            (by kernel_rfl) (by kernel_rfl) (fun q => by simp only [putTo, dstOf, Act.put, List.size_toArray, List.length_cons, List.length_nil, List.getElem?_toArray, Nat.reduceAdd, Option.bind_some, List.getElem?_cons_zero, List.getElem?_cons_succ, List.setIfInBounds_toArray, List.set_cons_zero, List.set_cons_succ, List.getD_cons_zero, List.getD_cons_succ]; exact rfl) () ?_ ?_ ?_
          · exact (Below.refl _ _).drew
          · intro i o ho p l wx hR hl he hcl K hK
            rcases i with _ | _ | _ | _ | _ | _ | _ | _ | _ | _ | _ | _ | _ | _ | _ | _ | _ | _ | _ | _ | _ | _ | _ | _ | _ | _ | _ | _ | _ | _ | _ | _ | _ | _ | _ | _ | i
            · obtain rfl : _ = o := Option.some.inj ho
              have HR := Lib.hid hR
              clear hR
              go_simp
              exact hK p wx (fun _ _ => rfl) HR.out
            · obtain rfl : _ = o := Option.some.inj ho
              have HR := Lib.hid hR
              clear hR
              go_simp
              exact hK p wx (fun _ _ => rfl) HR.out
            · obtain rfl : _ = o := Option.some.inj ho
              have HR := Lib.hid hR
              clear hR
              go_simp
              exact hK p wx (fun _ _ => rfl) HR.out
            · obtain rfl : _ = o := Option.some.inj ho
              have HR := Lib.hid hR
              clear hR
              go_simp
              exact hK p wx (fun _ _ => rfl) HR.out
            · obtain rfl : _ = o := Option.some.inj ho
              have HR := Lib.hid hR
              clear hR
              go_simp
              exact hK p wx (fun _ _ => rfl) HR.out
            · obtain rfl : _ = o := Option.some.inj ho
              have HR := Lib.hid hR
              clear hR
              go_simp
              exact hK p wx (fun _ _ => rfl) HR.out
            · obtain rfl : _ = o := Option.some.inj ho
              have HR := Lib.hid hR
              clear hR
              go_simp
              exact hK p wx (fun _ _ => rfl) HR.out
            · obtain rfl : _ = o := Option.some.inj ho
              have HR := Lib.hid hR
              clear hR
              go_simp
              exact hK p wx (fun _ _ => rfl) HR.out
            · obtain rfl : _ = o := Option.some.inj ho
              have HR := Lib.hid hR
              clear hR
              go_simp
              exact hK p wx (fun _ _ => rfl) HR.out
            · obtain rfl : _ = o := Option.some.inj ho
              have HR := Lib.hid hR
              clear hR
              go_simp
              exact hK p wx (fun _ _ => rfl) HR.out
            · obtain rfl : _ = o := Option.some.inj ho
              have HR := Lib.hid hR
              clear hR
              go_simp
              exact hK p wx (fun _ _ => rfl) HR.out
            · obtain rfl : _ = o := Option.some.inj ho
              have HR := Lib.hid hR
              clear hR
              go_simp
              exact hK p wx (fun _ _ => rfl) HR.out
            · obtain rfl : _ = o := Option.some.inj ho
              have HR := Lib.hid hR
              clear hR
              go_simp
              exact hK p wx (fun _ _ => rfl) HR.out
            · obtain rfl : _ = o := Option.some.inj ho
              have HR := Lib.hid hR
              clear hR
              go_simp
              exact hK p wx (fun _ _ => rfl) HR.out
            · obtain rfl : _ = o := Option.some.inj ho
              have HR := Lib.hid hR
              clear hR
              go_simp
              exact hK p wx (fun _ _ => rfl) HR.out
            · obtain rfl : _ = o := Option.some.inj ho
              have HR := Lib.hid hR
              clear hR
              go_simp
              exact hK p wx (fun _ _ => rfl) HR.out
            · obtain rfl : _ = o := Option.some.inj ho
              have q := below_cell HC1.out hR
              have HR := Lib.hid hR
              clear hR
              go_simp
              exact hK p wx (fun _ _ => rfl) HR.out
            · obtain rfl : _ = o := Option.some.inj ho
              have HR := Lib.hid hR
              clear hR
              go_simp
              exact hK p wx (fun _ _ => rfl) HR.out
            · obtain rfl : _ = o := Option.some.inj ho
              have HR := Lib.hid hR
              clear hR
              go_simp
              exact hK p wx (fun _ _ => rfl) HR.out
            · obtain rfl : _ = o := Option.some.inj ho
              have HR := Lib.hid hR
              clear hR
              go_simp
              exact hK p wx (fun _ _ => rfl) HR.out
            · obtain rfl : _ = o := Option.some.inj ho
              have HR := Lib.hid hR
              clear hR
              go_simp
              exact hK p wx (fun _ _ => rfl) HR.out
            · obtain rfl : _ = o := Option.some.inj ho
              have q := below_cell HC1.out hR
              have HR := Lib.hid hR
              clear hR
              go_simp
              exact hK p wx (fun _ _ => rfl) HR.out
            · obtain rfl : _ = o := Option.some.inj ho
              have HR := Lib.hid hR
              clear hR
              go_simp
              exact hK p wx (fun _ _ => rfl) HR.out
            · obtain rfl : _ = o := Option.some.inj ho
              have HR := Lib.hid hR
              clear hR
              go_simp
              exact hK p wx (fun _ _ => rfl) HR.out
            · obtain rfl : _ = o := Option.some.inj ho
              have HR := Lib.hid hR
              clear hR
              go_simp
              exact hK p wx (fun _ _ => rfl) HR.out
            · obtain rfl : _ = o := Option.some.inj ho
              have HR := Lib.hid hR
              clear hR
              go_simp
              exact hK p wx (fun _ _ => rfl) HR.out
            · obtain rfl : _ = o := Option.some.inj ho
              have HR := Lib.hid hR
              clear hR
              go_simp
              exact hK p wx (fun _ _ => rfl) HR.out
            · obtain rfl : _ = o := Option.some.inj ho
              have HR := Lib.hid hR
              clear hR
              go_simp
              exact hK p wx (fun _ _ => rfl) HR.out
            · obtain rfl : _ = o := Option.some.inj ho
              have HR := Lib.hid hR
              clear hR
              go_simp
              exact hK p wx (fun _ _ => rfl) HR.out
            · obtain rfl : _ = o := Option.some.inj ho
              have HR := Lib.hid hR
              clear hR
              go_simp
              exact hK p wx (fun _ _ => rfl) HR.out
            · obtain rfl : _ = o := Option.some.inj ho
              have HR := Lib.hid hR
              clear hR
              go_simp
              exact hK p wx (fun _ _ => rfl) HR.out
            · obtain rfl : _ = o := Option.some.inj ho
              have HR := Lib.hid hR
              clear hR
              go_simp
              exact hK p wx (fun _ _ => rfl) HR.out
            · obtain rfl : _ = o := Option.some.inj ho
              have HR := Lib.hid hR
              clear hR
              go_simp
              exact hK p wx (fun _ _ => rfl) HR.out
            · obtain rfl : _ = o := Option.some.inj ho
              have HR := Lib.hid hR
              clear hR
              go_simp
              exact hK p wx (fun _ _ => rfl) HR.out
            · obtain rfl : _ = o := Option.some.inj ho
              have HR := Lib.hid hR
              clear hR
              go_simp
              exact hK p wx (fun _ _ => rfl) HR.out
            · obtain rfl : _ = o := Option.some.inj ho
              have HR := Lib.hid hR
              clear hR
              go_simp
              exact hK p wx (fun _ _ => rfl) HR.out
            · simp at ho
          · intro p l wx hl hR
            have HWx := Lib.hid (low_more HWa.out hR)
            clear hl hR
            go_wp2_with fail
            go_ret
            exact ⟨by rw [HBad.out]; rfl, HWx.out⟩
        have hr2b : decide (65535 < rr) = false := decide_eq_false hr2
        by_cases hm0 : m = 0
        · have HBad := Lib.hid (HNot.out fun h => by have := h.2.2.1; dsimp only at this; rw [HM.out] at this; omega)
          have hm0b : ((m : Int) == 0) = true := by simp [hm0]
          clear hm0
          refine wp_region_cl (fun (p : Unit) jz => [.int .i64 0, .bool false, .bool false, undef, undef, undef, undef, undef, undef, undef, undef, undef, undef, .bool false, .bool false, .pointer (some ⟨be, 1, none⟩), .int .i64 rr, .bool false, .bool false, .bool false, .pointer (some ⟨be, 1, none⟩), .int .i64 rr, .bool false, .bool false, .bool false, .pointer (some ⟨be, 2, none⟩), .slice pa m pc, .int .i64 (m : Int), .bool true, .bool true, .bool true, undef, undef, undef, undef, .bool true].getD jz undef)
            (fun p l wx => Below wa.heap.size wa wx)
            (by kernel_rfl) (by kernel_rfl) (fun q => by simp only [putTo, dstOf, Act.put, List.size_toArray, List.length_cons, List.length_nil, List.getElem?_toArray, Nat.reduceAdd, Option.bind_some, List.getElem?_cons_zero, List.getElem?_cons_succ, List.setIfInBounds_toArray, List.set_cons_zero, List.set_cons_succ, List.getD_cons_zero, List.getD_cons_succ]; exact rfl) () ?_ ?_ ?_
          · exact (Below.refl _ _).drew
          · intro i o ho p l wx hR hl he hcl K hK
            rcases i with _ | _ | _ | _ | _ | _ | _ | _ | _ | _ | _ | _ | _ | _ | _ | _ | _ | _ | _ | _ | _ | _ | _ | _ | _ | _ | _ | _ | _ | _ | _ | _ | _ | _ | _ | _ | i
            · obtain rfl : _ = o := Option.some.inj ho
              have HR := Lib.hid hR
              clear hR
              go_simp
              exact hK p wx (fun _ _ => rfl) HR.out
            · obtain rfl : _ = o := Option.some.inj ho
              have HR := Lib.hid hR
              clear hR
              go_simp
              exact hK p wx (fun _ _ => rfl) HR.out
            · obtain rfl : _ = o := Option.some.inj ho
              have HR := Lib.hid hR
              clear hR
              go_simp
              exact hK p wx (fun _ _ => rfl) HR.out
            · obtain rfl : _ = o := Option.some.inj ho
              have HR := Lib.hid hR
              clear hR
              go_simp
              exact hK p wx (fun _ _ => rfl) HR.out
            · obtain rfl : _ = o := Option.some.inj ho
              have HR := Lib.hid hR
              clear hR
              go_simp
              exact hK p wx (fun _ _ => rfl) HR.out
            · obtain rfl : _ = o := Option.some.inj ho
              have HR := Lib.hid hR
              clear hR
              go_simp
              exact hK p wx (fun _ _ => rfl) HR.out
            · obtain rfl : _ = o := Option.some.inj ho
              have HR := Lib.hid hR
              clear hR
              go_simp
              exact hK p wx (fun _ _ => rfl) HR.out
            · obtain rfl : _ = o := Option.some.inj ho
              have HR := Lib.hid hR
              clear hR
              go_simp
              exact hK p wx (fun _ _ => rfl) HR.out
            · obtain rfl : _ = o := Option.some.inj ho
              have HR := Lib.hid hR
              clear hR
              go_simp
              exact hK p wx (fun _ _ => rfl) HR.out
            · obtain rfl : _ = o := Option.some.inj ho
              have HR := Lib.hid hR
              clear hR
              go_simp
              exact hK p wx (fun _ _ => rfl) HR.out
            · obtain rfl : _ = o := Option.some.inj ho
              have HR := Lib.hid hR
              clear hR
              go_simp
              exact hK p wx (fun _ _ => rfl) HR.out
            · obtain rfl : _ = o := Option.some.inj ho
              have HR := Lib.hid hR
              clear hR
              go_simp
              exact hK p wx (fun _ _ => rfl) HR.out
            · obtain rfl : _ = o := Option.some.inj ho
              have HR := Lib.hid hR
              clear hR
              go_simp
              exact hK p wx (fun _ _ => rfl) HR.out
            · obtain rfl : _ = o := Option.some.inj ho
              have HR := Lib.hid hR
              clear hR
              go_simp
              exact hK p wx (fun _ _ => rfl) HR.out
            · obtain rfl : _ = o := Option.some.inj ho
              have HR := Lib.hid hR
              clear hR
              go_simp
              exact hK p wx (fun _ _ => rfl) HR.out
            · obtain rfl : _ = o := Option.some.inj ho
              have HR := Lib.hid hR
              clear hR
              go_simp
              exact hK p wx (fun _ _ => rfl) HR.out
            · obtain rfl : _ = o := Option.some.inj ho
              have q := below_cell HC1.out hR
              have HR := Lib.hid hR
              clear hR
              go_simp
              exact hK p wx (fun _ _ => rfl) HR.out
            · obtain rfl : _ = o := Option.some.inj ho
              have HR := Lib.hid hR
              clear hR
              go_simp
              exact hK p wx (fun _ _ => rfl) HR.out
            · obtain rfl : _ = o := Option.some.inj ho
              have HR := Lib.hid hR
              clear hR
              go_simp
              exact hK p wx (fun _ _ => rfl) HR.out
            · obtain rfl : _ = o := Option.some.inj ho
              have HR := Lib.hid hR
              clear hR
              go_simp
              exact hK p wx (fun _ _ => rfl) HR.out
            · obtain rfl : _ = o := Option.some.inj ho
              have HR := Lib.hid hR
              clear hR
              go_simp
              exact hK p wx (fun _ _ => rfl) HR.out
            · obtain rfl : _ = o := Option.some.inj ho
              have q := below_cell HC1.out hR
              have HR := Lib.hid hR
              clear hR
              go_simp
              exact hK p wx (fun _ _ => rfl) HR.out
            · obtain rfl : _ = o := Option.some.inj ho
              have HR := Lib.hid hR
              clear hR
              go_simp
              exact hK p wx (fun _ _ => rfl) HR.out
            · obtain rfl : _ = o := Option.some.inj ho
              have HR := Lib.hid hR
              clear hR
              go_simp
              exact hK p wx (fun _ _ => rfl) HR.out
            · obtain rfl : _ = o := Option.some.inj ho
              have HR := Lib.hid hR
              clear hR
              go_simp
              exact hK p wx (fun _ _ => rfl) HR.out
            · obtain rfl : _ = o := Option.some.inj ho
              have HR := Lib.hid hR
              clear hR
              go_simp
              exact hK p wx (fun _ _ => rfl) HR.out
            · obtain rfl : _ = o := Option.some.inj ho
              have q := below_cell HC2.out hR
              have HR := Lib.hid hR
              clear hR
              go_simp
              exact hK p wx (fun _ _ => rfl) HR.out
            · obtain rfl : _ = o := Option.some.inj ho
              have HR := Lib.hid hR
              clear hR
              go_simp
              exact hK p wx (fun _ _ => rfl) HR.out
            · obtain rfl : _ = o := Option.some.inj ho
              have HR := Lib.hid hR
              clear hR
              go_simp
              exact hK p wx (fun _ _ => rfl) HR.out
            · obtain rfl : _ = o := Option.some.inj ho
              have HR := Lib.hid hR
              clear hR
              go_simp
              exact hK p wx (fun _ _ => rfl) HR.out
            · obtain rfl : _ = o := Option.some.inj ho
              have HR := Lib.hid hR
              clear hR
              go_simp
              exact hK p wx (fun _ _ => rfl) HR.out
            · obtain rfl : _ = o := Option.some.inj ho
              have HR := Lib.hid hR
              clear hR
              go_simp
              exact hK p wx (fun _ _ => rfl) HR.out
            · obtain rfl : _ = o := Option.some.inj ho
              have HR := Lib.hid hR
              clear hR
              go_simp
              exact hK p wx (fun _ _ => rfl) HR.out
            · obtain rfl : _ = o := Option.some.inj ho
              have HR := Lib.hid hR
              clear hR
              go_simp
              exact hK p wx (fun _ _ => rfl) HR.out
            · obtain rfl : _ = o := Option.some.inj ho
              have HR := Lib.hid hR
              clear hR
              go_simp
              exact hK p wx (fun _ _ => rfl) HR.out
            · obtain rfl : _ = o := Option.some.inj ho
              have HR := Lib.hid hR
              clear hR
              go_simp
              exact hK p wx (fun _ _ => rfl) HR.out
            · simp at ho
          · intro p l wx hl hR
            have HWx := Lib.hid (low_more HWa.out hR)
            clear hl hR
            go_wp2_with fail
            go_ret
            exact ⟨by rw [HBad.out]; rfl, HWx.out⟩
        have hm0b : ((m : Int) == 0) = false := beq_eq_false_iff_ne.2 (by omega)
        by_cases hme : MayE es
        · have HMb := Lib.hid (show mayB es = true from decide_eq_true hme)
          have HMe := Lib.hid hme
          clear hme
          refine wp_region_cl (fun (p : Unit) jz => [.int .i64 0, .bool false, .bool false, undef, undef, undef, undef, undef, undef, undef, undef, undef, undef, .bool false, .bool false, .pointer (some ⟨be, 1, none⟩), .int .i64 rr, .bool false, .bool false, .bool false, .pointer (some ⟨be, 1, none⟩), .int .i64 rr, .bool false, .bool false, .bool false, .pointer (some ⟨be, 2, none⟩), .slice pa m pc, .int .i64 (m : Int), .bool false, .bool false, .bool false, .pointer (some ⟨be, 2, none⟩), .slice pa m pc, .bool true, .bool false, .bool false].getD jz undef)
            (fun p l wx => Below wa.heap.size wa wx)
            (by kernel_rfl) (by kernel_rfl) (fun q => by simp only [putTo, dstOf, Act.put, List.size_toArray, List.length_cons, List.length_nil, List.getElem?_toArray, Nat.reduceAdd, Option.bind_some, List.getElem?_cons_zero, List.getElem?_cons_succ, List.setIfInBounds_toArray, List.set_cons_zero, List.set_cons_succ, List.getD_cons_zero, List.getD_cons_succ]; exact rfl) () ?_ ?_ ?_
          · exact (Below.refl _ _).drew
          · intro i o ho p l wx hR hl he hcl K hK
            rcases i with _ | _ | _ | _ | _ | _ | _ | _ | _ | _ | _ | _ | _ | _ | _ | _ | _ | _ | _ | _ | _ | _ | _ | _ | _ | _ | _ | _ | _ | _ | _ | _ | _ | _ | _ | _ | i
            · obtain rfl : _ = o := Option.some.inj ho
              have HR := Lib.hid hR
              clear hR
              go_simp
              exact hK p wx (fun _ _ => rfl) HR.out
            · obtain rfl : _ = o := Option.some.inj ho
              have HR := Lib.hid hR
              clear hR
              go_simp
              exact hK p wx (fun _ _ => rfl) HR.out
            · obtain rfl : _ = o := Option.some.inj ho
              have HR := Lib.hid hR
              clear hR
              go_simp
              exact hK p wx (fun _ _ => rfl) HR.out
            · obtain rfl : _ = o := Option.some.inj ho
              have HR := Lib.hid hR
              clear hR
              go_simp
              exact hK p wx (fun _ _ => rfl) HR.out
            · obtain rfl : _ = o := Option.some.inj ho
              have HR := Lib.hid hR
              clear hR
              go_simp
              exact hK p wx (fun _ _ => rfl) HR.out
            · obtain rfl : _ = o := Option.some.inj ho
              have HR := Lib.hid hR
              clear hR
              go_simp
              exact hK p wx (fun _ _ => rfl) HR.out
            · obtain rfl : _ = o := Option.some.inj ho
              have HR := Lib.hid hR
              clear hR
              go_simp
              exact hK p wx (fun _ _ => rfl) HR.out
            · obtain rfl : _ = o := Option.some.inj ho
              have HR := Lib.hid hR
              clear hR
              go_simp
              exact hK p wx (fun _ _ => rfl) HR.out
            · obtain rfl : _ = o := Option.some.inj ho
              have HR := Lib.hid hR
              clear hR
              go_simp
              exact hK p wx (fun _ _ => rfl) HR.out
            · obtain rfl : _ = o := Option.some.inj ho
              have HR := Lib.hid hR
              clear hR
              go_simp
              exact hK p wx (fun _ _ => rfl) HR.out
            · obtain rfl : _ = o := Option.some.inj ho
              have HR := Lib.hid hR
              clear hR
              go_simp
              exact hK p wx (fun _ _ => rfl) HR.out
            · obtain rfl : _ = o := Option.some.inj ho
              have HR := Lib.hid hR
              clear hR
              go_simp
              exact hK p wx (fun _ _ => rfl) HR.out
            · obtain rfl : _ = o := Option.some.inj ho
              have HR := Lib.hid hR
              clear hR
              go_simp
              exact hK p wx (fun _ _ => rfl) HR.out
            · obtain rfl : _ = o := Option.some.inj ho
              have HR := Lib.hid hR
              clear hR
              go_simp
              exact hK p wx (fun _ _ => rfl) HR.out
            · obtain rfl : _ = o := Option.some.inj ho
              have HR := Lib.hid hR
              clear hR
              go_simp
              exact hK p wx (fun _ _ => rfl) HR.out
            · obtain rfl : _ = o := Option.some.inj ho
              have HR := Lib.hid hR
              clear hR
              go_simp
              exact hK p wx (fun _ _ => rfl) HR.out
            · obtain rfl : _ = o := Option.some.inj ho
              have q := below_cell HC1.out hR
              have HR := Lib.hid hR
              clear hR
              go_simp
              exact hK p wx (fun _ _ => rfl) HR.out
            · obtain rfl : _ = o := Option.some.inj ho
              have HR := Lib.hid hR
              clear hR
              go_simp
              exact hK p wx (fun _ _ => rfl) HR.out
            · obtain rfl : _ = o := Option.some.inj ho
              have HR := Lib.hid hR
              clear hR
              go_simp
              exact hK p wx (fun _ _ => rfl) HR.out
            · obtain rfl : _ = o := Option.some.inj ho
              have HR := Lib.hid hR
              clear hR
              go_simp
              exact hK p wx (fun _ _ => rfl) HR.out
            · obtain rfl : _ = o := Option.some.inj ho
              have HR := Lib.hid hR
              clear hR
              go_simp
              exact hK p wx (fun _ _ => rfl) HR.out
            · obtain rfl : _ = o := Option.some.inj ho
              have q := below_cell HC1.out hR
              have HR := Lib.hid hR
              clear hR
              go_simp
              exact hK p wx (fun _ _ => rfl) HR.out
            · obtain rfl : _ = o := Option.some.inj ho
              have HR := Lib.hid hR
              clear hR
              go_simp
              exact hK p wx (fun _ _ => rfl) HR.out
            · obtain rfl : _ = o := Option.some.inj ho
              have HR := Lib.hid hR
              clear hR
              go_simp
              exact hK p wx (fun _ _ => rfl) HR.out
            · obtain rfl : _ = o := Option.some.inj ho
              have HR := Lib.hid hR
              clear hR
              go_simp
              exact hK p wx (fun _ _ => rfl) HR.out
            · obtain rfl : _ = o := Option.some.inj ho
              have HR := Lib.hid hR
              clear hR
              go_simp
              exact hK p wx (fun _ _ => rfl) HR.out
            · obtain rfl : _ = o := Option.some.inj ho
              have q := below_cell HC2.out hR
              have HR := Lib.hid hR
              clear hR
              go_simp
              exact hK p wx (fun _ _ => rfl) HR.out
            · obtain rfl : _ = o := Option.some.inj ho
              have HR := Lib.hid hR
              clear hR
              go_simp
              exact hK p wx (fun _ _ => rfl) HR.out
            · obtain rfl : _ = o := Option.some.inj ho
              have HR := Lib.hid hR
              clear hR
              go_simp
              exact hK p wx (fun _ _ => rfl) HR.out
            · obtain rfl : _ = o := Option.some.inj ho
              have HR := Lib.hid hR
              clear hR
              go_simp
              exact hK p wx (fun _ _ => rfl) HR.out
            · obtain rfl : _ = o := Option.some.inj ho
              have HR := Lib.hid hR
              clear hR
              go_simp
              exact hK p wx (fun _ _ => rfl) HR.out
            · obtain rfl : _ = o := Option.some.inj ho
              have HR := Lib.hid hR
              clear hR
              go_simp
              exact hK p wx (fun _ _ => rfl) HR.out
            · obtain rfl : _ = o := Option.some.inj ho
              have q := below_cell HC2.out hR
              have HR := Lib.hid hR
              clear hR
              go_simp
              exact hK p wx (fun _ _ => rfl) HR.out
            · obtain rfl : _ = o := Option.some.inj ho
              have HR := Lib.hid hR
              clear hR
              go_simp
              refine (HMay.out wx pa pc m es HM.out (HRe.out.below (low_more HWa.out HR.out)) (by omega)).mono ?_; rintro e w5 ⟨rfl, hb5⟩
              rw [HMb.out]
              exact hK p w5 (fun _ _ => rfl) (low_more HR.out hb5)
            · obtain rfl : _ = o := Option.some.inj ho
              have HR := Lib.hid hR
              clear hR
              go_simp
              exact hK p wx (fun _ _ => rfl) HR.out
            · obtain rfl : _ = o := Option.some.inj ho
              have HR := Lib.hid hR
              clear hR
              go_simp
              exact hK p wx (fun _ _ => rfl) HR.out
            · simp at ho
          · intro p l wx hl hR
            have HWx := Lib.hid (low_more HWa.out hR)
            have HEx := Lib.hid (block_below HEa.out hR)
            clear hl hR
            have cb := cell_at HEx.out 2
            go_wp2_with fail
            go_loopw [64] (fun kv wr => ∃ k : Nat, k ≤ m ∧ kv = .int .i64 (k : Int) ∧ Below W.heap.size W wr ∧ Hid (wr.heap[be]? = some (.cells #[.string kk, .int .i64 rr, .slice pa m pc] 44 (0, 0))) ∧ Hid (∀ s, s < k → (enAt es s).1 < n)) (fun kv _ => m - (intOf kv).toNat)
            case atStart => exact ⟨0, by omega, rfl, HWx.out, Lib.hid HEx.out, Lib.hid fun s hs => absurd hs (by omega)⟩
            case round =>
              obtain ⟨k, hk, rfl, hw2, he2, HD2⟩ := hrel
              have HW2 := Lib.hid hw2
              have cb2 := cell_at he2.out 2
              clear cb
              by_cases hkm : k < m
              · have hkm1 : (k : Int) < (m : Int) := by omega
                obtain ⟨gp, op, hpa, cd, _⟩ := HRe.out k _ (enAt_lt (by rw [HM.out]; exact hkm))
                subst hpa
                obtain ⟨d, hd⟩ : ∃ d, (enAt es k).1 = d := ⟨_, rfl⟩
                rw [hd] at cd
                have cd := below_cell cd hw2
                have HDk := Lib.hid hd
                clear hd hw2
                by_cases hdn : d < (n : Int)
                · have hdn2 : ¬ (n : Int) ≤ d := by omega
                  have hdn3 : decide ((n : Int) ≤ d) = false := decide_eq_false hdn2
                  have hdn4 : decide (d ≥ (n : Int)) = false := decide_eq_false hdn2
                  have HNx := Lib.hid (show ∀ s, s < k + 1 → (enAt es s).1 < n from fun s hs => by
                    by_cases hsk : s < k
                    · exact HD2.out s hsk
                    · obtain rfl : s = k := by omega
                      rw [HDk.out]; exact hdn)
                  go_wp2_with fail
                  go_roundw
                  case rel => exact ⟨k + 1, by omega, by go_num, HW2.out, he2, HNx⟩
                  case measure => simp [intOf]; omega
                · have hdn2 : (n : Int) ≤ d := by omega
                  have HBad := Lib.hid (HNot.out fun h => by
                    obtain ⟨_, _, h3, h4, h5⟩ := h
                    have := (docs_last h4 n h3).2 h5 k (by rw [HM.out]; exact hkm)
                    rw [HDk.out] at this
                    omega)
                  have hdn3 : decide ((n : Int) ≤ d) = true := decide_eq_true hdn2
                  have hdn4 : decide (d ≥ (n : Int)) = true := decide_eq_true hdn2
                  go_wp2_with fail
                  go_ret
                  exact ⟨by rw [HBad.out]; rfl, HW2.out⟩
              · obtain rfl : k = m := by omega
                have HNx := Lib.hid (show ∀ j, j < 0 + 1 → upK L j ∧ okLi n (liAt L j) from fun j hj => by
                  by_cases hji : j < 0
                  · exact HOk.out j hji
                  · obtain rfl : j = 0 := by omega
                    refine ⟨HUp.out, ?_⟩
                    rw [HAt.out]
                    exact ⟨by omega, by omega, by show 0 < es.length; rw [HM.out]; omega, HMe.out, (docs_last HMe.out n (by rw [HM.out]; omega)).1 (fun i hi => HD2.out i (by rw [← HM.out]; exact hi))⟩)
                go_wp2_with fail
                go_roundw
                case rel => exact ⟨0 + 1, by omega, by go_num, HNx, HW2.out⟩
                case measure => simp [intOf]; omega
        · have HMb := Lib.hid (show mayB es = false from decide_eq_false hme)
          have HBad := Lib.hid (HNot.out fun h => hme h.2.2.2.1)
          clear hme
          refine wp_region_cl (fun (p : Unit) jz => [.int .i64 0, .bool false, .bool false, undef, undef, undef, undef, undef, undef, undef, undef, undef, undef, .bool false, .bool false, .pointer (some ⟨be, 1, none⟩), .int .i64 rr, .bool false, .bool false, .bool false, .pointer (some ⟨be, 1, none⟩), .int .i64 rr, .bool false, .bool false, .bool false, .pointer (some ⟨be, 2, none⟩), .slice pa m pc, .int .i64 (m : Int), .bool false, .bool false, .bool false, .pointer (some ⟨be, 2, none⟩), .slice pa m pc, .bool false, .bool true, .bool true].getD jz undef)
            (fun p l wx => Below wa.heap.size wa wx)
            (by kernel_rfl) (by kernel_rfl) (fun q => by simp only [putTo, dstOf, Act.put, List.size_toArray, List.length_cons, List.length_nil, List.getElem?_toArray, Nat.reduceAdd, Option.bind_some, List.getElem?_cons_zero, List.getElem?_cons_succ, List.setIfInBounds_toArray, List.set_cons_zero, List.set_cons_succ, List.getD_cons_zero, List.getD_cons_succ]; exact rfl) () ?_ ?_ ?_
          · exact (Below.refl _ _).drew
          · intro i o ho p l wx hR hl he hcl K hK
            rcases i with _ | _ | _ | _ | _ | _ | _ | _ | _ | _ | _ | _ | _ | _ | _ | _ | _ | _ | _ | _ | _ | _ | _ | _ | _ | _ | _ | _ | _ | _ | _ | _ | _ | _ | _ | _ | i
            · obtain rfl : _ = o := Option.some.inj ho
              have HR := Lib.hid hR
              clear hR
              go_simp
              exact hK p wx (fun _ _ => rfl) HR.out
            · obtain rfl : _ = o := Option.some.inj ho
              have HR := Lib.hid hR
              clear hR
              go_simp
              exact hK p wx (fun _ _ => rfl) HR.out
            · obtain rfl : _ = o := Option.some.inj ho
              have HR := Lib.hid hR
              clear hR
              go_simp
              exact hK p wx (fun _ _ => rfl) HR.out
            · obtain rfl : _ = o := Option.some.inj ho
              have HR := Lib.hid hR
              clear hR
              go_simp
              exact hK p wx (fun _ _ => rfl) HR.out
            · obtain rfl : _ = o := Option.some.inj ho
              have HR := Lib.hid hR
              clear hR
              go_simp
              exact hK p wx (fun _ _ => rfl) HR.out
            · obtain rfl : _ = o := Option.some.inj ho
              have HR := Lib.hid hR
              clear hR
              go_simp
              exact hK p wx (fun _ _ => rfl) HR.out
            · obtain rfl : _ = o := Option.some.inj ho
              have HR := Lib.hid hR
              clear hR
              go_simp
              exact hK p wx (fun _ _ => rfl) HR.out
            · obtain rfl : _ = o := Option.some.inj ho
              have HR := Lib.hid hR
              clear hR
              go_simp
              exact hK p wx (fun _ _ => rfl) HR.out
            · obtain rfl : _ = o := Option.some.inj ho
              have HR := Lib.hid hR
              clear hR
              go_simp
              exact hK p wx (fun _ _ => rfl) HR.out
            · obtain rfl : _ = o := Option.some.inj ho
              have HR := Lib.hid hR
              clear hR
              go_simp
              exact hK p wx (fun _ _ => rfl) HR.out
            · obtain rfl : _ = o := Option.some.inj ho
              have HR := Lib.hid hR
              clear hR
              go_simp
              exact hK p wx (fun _ _ => rfl) HR.out
            · obtain rfl : _ = o := Option.some.inj ho
              have HR := Lib.hid hR
              clear hR
              go_simp
              exact hK p wx (fun _ _ => rfl) HR.out
            · obtain rfl : _ = o := Option.some.inj ho
              have HR := Lib.hid hR
              clear hR
              go_simp
              exact hK p wx (fun _ _ => rfl) HR.out
            · obtain rfl : _ = o := Option.some.inj ho
              have HR := Lib.hid hR
              clear hR
              go_simp
              exact hK p wx (fun _ _ => rfl) HR.out
            · obtain rfl : _ = o := Option.some.inj ho
              have HR := Lib.hid hR
              clear hR
              go_simp
              exact hK p wx (fun _ _ => rfl) HR.out
            · obtain rfl : _ = o := Option.some.inj ho
              have HR := Lib.hid hR
              clear hR
              go_simp
              exact hK p wx (fun _ _ => rfl) HR.out
            · obtain rfl : _ = o := Option.some.inj ho
              have q := below_cell HC1.out hR
              have HR := Lib.hid hR
              clear hR
              go_simp
              exact hK p wx (fun _ _ => rfl) HR.out
            · obtain rfl : _ = o := Option.some.inj ho
              have HR := Lib.hid hR
              clear hR
              go_simp
              exact hK p wx (fun _ _ => rfl) HR.out
            · obtain rfl : _ = o := Option.some.inj ho
              have HR := Lib.hid hR
              clear hR
              go_simp
              exact hK p wx (fun _ _ => rfl) HR.out
            · obtain rfl : _ = o := Option.some.inj ho
              have HR := Lib.hid hR
              clear hR
              go_simp
              exact hK p wx (fun _ _ => rfl) HR.out
            · obtain rfl : _ = o := Option.some.inj ho
              have HR := Lib.hid hR
              clear hR
              go_simp
              exact hK p wx (fun _ _ => rfl) HR.out
            · obtain rfl : _ = o := Option.some.inj ho
              have q := below_cell HC1.out hR
              have HR := Lib.hid hR
              clear hR
              go_simp
              exact hK p wx (fun _ _ => rfl) HR.out
            · obtain rfl : _ = o := Option.some.inj ho
              have HR := Lib.hid hR
              clear hR
              go_simp
              exact hK p wx (fun _ _ => rfl) HR.out
            · obtain rfl : _ = o := Option.some.inj ho
              have HR := Lib.hid hR
              clear hR
              go_simp
              exact hK p wx (fun _ _ => rfl) HR.out
            · obtain rfl : _ = o := Option.some.inj ho
              have HR := Lib.hid hR
              clear hR
              go_simp
              exact hK p wx (fun _ _ => rfl) HR.out
            · obtain rfl : _ = o := Option.some.inj ho
              have HR := Lib.hid hR
              clear hR
              go_simp
              exact hK p wx (fun _ _ => rfl) HR.out
            · obtain rfl : _ = o := Option.some.inj ho
              have q := below_cell HC2.out hR
              have HR := Lib.hid hR
              clear hR
              go_simp
              exact hK p wx (fun _ _ => rfl) HR.out
            · obtain rfl : _ = o := Option.some.inj ho
              have HR := Lib.hid hR
              clear hR
              go_simp
              exact hK p wx (fun _ _ => rfl) HR.out
            · obtain rfl : _ = o := Option.some.inj ho
              have HR := Lib.hid hR
              clear hR
              go_simp
              exact hK p wx (fun _ _ => rfl) HR.out
            · obtain rfl : _ = o := Option.some.inj ho
              have HR := Lib.hid hR
              clear hR
              go_simp
              exact hK p wx (fun _ _ => rfl) HR.out
            · obtain rfl : _ = o := Option.some.inj ho
              have HR := Lib.hid hR
              clear hR
              go_simp
              exact hK p wx (fun _ _ => rfl) HR.out
            · obtain rfl : _ = o := Option.some.inj ho
              have HR := Lib.hid hR
              clear hR
              go_simp
              exact hK p wx (fun _ _ => rfl) HR.out
            · obtain rfl : _ = o := Option.some.inj ho
              have q := below_cell HC2.out hR
              have HR := Lib.hid hR
              clear hR
              go_simp
              exact hK p wx (fun _ _ => rfl) HR.out
            · obtain rfl : _ = o := Option.some.inj ho
              have HR := Lib.hid hR
              clear hR
              go_simp
              refine (HMay.out wx pa pc m es HM.out (HRe.out.below (low_more HWa.out HR.out)) (by omega)).mono ?_; rintro e w5 ⟨rfl, hb5⟩
              rw [HMb.out]
              exact hK p w5 (fun _ _ => rfl) (low_more HR.out hb5)
            · obtain rfl : _ = o := Option.some.inj ho
              have HR := Lib.hid hR
              clear hR
              go_simp
              exact hK p wx (fun _ _ => rfl) HR.out
            · obtain rfl : _ = o := Option.some.inj ho
              have HR := Lib.hid hR
              clear hR
              go_simp
              exact hK p wx (fun _ _ => rfl) HR.out
            · simp at ho
          · intro p l wx hl hR
            have HWx := Lib.hid (low_more HWa.out hR)
            clear hl hR
            go_wp2_with fail
            go_ret
            exact ⟨by rw [HBad.out]; rfl, HWx.out⟩
      · obtain ⟨i1, hi1⟩ : ∃ i1, ix = i1 + 1 := ⟨ix - 1, by omega⟩
        obtain ⟨y, hy⟩ : ∃ y, L[i1]? = some y := ⟨_, List.getElem?_eq_getElem (by rw [HN.out]; omega)⟩
        obtain ⟨_, _, hoL2, d0, _⟩ := HL.out i1 y hy
        injection hoL2 with hoL2
        injection hoL2 with e1 e2
        subst e1 e2
        have hey := (HE.out y (List.mem_of_getElem? hy)).2
        have hup : upK L ix ↔ lessN (keyN y.key) (keyN kk) = true := by
          unfold upK
          rw [show ix - 1 = i1 by omega, liAt_some hy, HAt.out]
          exact ⟨fun h => h (by omega), fun h _ => h⟩
        obtain ⟨ky, hky⟩ : ∃ ky, y.key = ky := ⟨_, rfl⟩
        rw [hky] at hup d0 hey
        have HD0 := Lib.hid (below_cell d0 HWa.out)
        have HUpK := Lib.hid hup
        have HLs := Lib.hid (fun w => HLess.out w ky kk hey HKs.out)
        have z1 : (ix : Int) - 1 = (i1 : Int) := by omega
        have z2 : IntKind.i64.wrap ((ix : Int) - 1) = (i1 : Int) := by rw [z1]; exact IntWalk.i64_in _ (by omega)
        have z3 : IntKind.i64.wrap (i1 : Int) = (i1 : Int) := IntWalk.i64_in _ (by omega)
        have z4 : i1 < tt := by omega
        have z5 : (0 : Int) < (ix : Int) := by omega
        have z6 : 0 < ix := by omega
        clear hy d0 hup hky hi1 hey
        cases hless : lessN (keyN ky) (keyN kk) with
        | false =>
          have HBad := Lib.hid (HNotK.out fun h => by have := HUpK.out.1 h; rw [hless] at this; cases this)
          rw [hless] at HLs
          clear hless
          refine wp_region_cl (fun (p : Unit) jz => [.int .i64 (ix : Int), .bool true, .bool true, .slice (some ⟨g, oo, none⟩) tt cL, .int .i64 (ix : Int), .int .i64 (i1 : Int), .pointer (some ⟨g, oo + i1 * 3, none⟩), .pointer (some ⟨g, oo + i1 * 3, none⟩), .string ky, .pointer (some ⟨be, 0, none⟩), .string kk, .bool false, .bool true, .bool true, .bool true, undef, undef, undef, .bool true, .bool true, undef, undef, undef, .bool true, .bool true, undef, undef, undef, undef, .bool true, .bool true, undef, undef, undef, undef, .bool true].getD jz undef)
            (fun p l wx => Below wa.heap.size wa wx)
            (by kernel_rfl) (by kernel_rfl) (fun q => by simp only [putTo, dstOf, Act.put, List.size_toArray, List.length_cons, List.length_nil, List.getElem?_toArray, Nat.reduceAdd, Option.bind_some, List.getElem?_cons_zero, List.getElem?_cons_succ, List.setIfInBounds_toArray, List.set_cons_zero, List.set_cons_succ, List.getD_cons_zero, List.getD_cons_succ]; exact rfl) () ?_ ?_ ?_
          · exact (Below.refl _ _).drew
          · intro i o ho p l wx hR hl he hcl K hK
            rcases i with _ | _ | _ | _ | _ | _ | _ | _ | _ | _ | _ | _ | _ | _ | _ | _ | _ | _ | _ | _ | _ | _ | _ | _ | _ | _ | _ | _ | _ | _ | _ | _ | _ | _ | _ | _ | i
            · obtain rfl : _ = o := Option.some.inj ho
              have HR := Lib.hid hR
              clear hR
              go_simp
              exact hK p wx (fun _ _ => rfl) HR.out
            · obtain rfl : _ = o := Option.some.inj ho
              have HR := Lib.hid hR
              clear hR
              go_simp
              exact hK p wx (fun _ _ => rfl) HR.out
            · obtain rfl : _ = o := Option.some.inj ho
              have HR := Lib.hid hR
              clear hR
              go_simp
              exact hK p wx (fun _ _ => rfl) HR.out
            · obtain rfl : _ = o := Option.some.inj ho
              have HR := Lib.hid hR
              clear hR
              go_simp
              exact hK p wx (fun _ _ => rfl) HR.out
            · obtain rfl : _ = o := Option.some.inj ho
              have HR := Lib.hid hR
              clear hR
              go_simp
              exact hK p wx (fun _ _ => rfl) HR.out
            · obtain rfl : _ = o := Option.some.inj ho
              have HR := Lib.hid hR
              clear hR
              go_simp
              exact hK p wx (fun _ _ => rfl) HR.out
            · obtain rfl : _ = o := Option.some.inj ho
              have HR := Lib.hid hR
              clear hR
              go_simp
              exact hK p wx (fun _ _ => rfl) HR.out
            · obtain rfl : _ = o := Option.some.inj ho
              have HR := Lib.hid hR
              clear hR
              go_simp
              exact hK p wx (fun _ _ => rfl) HR.out
            · obtain rfl : _ = o := Option.some.inj ho
              have q := below_cell HD0.out hR
              have HR := Lib.hid hR
              clear hR
              go_simp
              exact hK p wx (fun _ _ => rfl) HR.out
            · obtain rfl : _ = o := Option.some.inj ho
              have HR := Lib.hid hR
              clear hR
              go_simp
              exact hK p wx (fun _ _ => rfl) HR.out
            · obtain rfl : _ = o := Option.some.inj ho
              have q := below_cell HC0.out hR
              have HR := Lib.hid hR
              clear hR
              go_simp
              exact hK p wx (fun _ _ => rfl) HR.out
            · obtain rfl : _ = o := Option.some.inj ho
              have HR := Lib.hid hR
              clear hR
              go_simp
              refine (HLs.out wx).mono ?_; rintro e w5 ⟨rfl, t5, rfl⟩
              exact hK p _ (fun _ _ => rfl) (below_drawn HR.out t5)
            · obtain rfl : _ = o := Option.some.inj ho
              have HR := Lib.hid hR
              clear hR
              go_simp
              exact hK p wx (fun _ _ => rfl) HR.out
            · obtain rfl : _ = o := Option.some.inj ho
              have HR := Lib.hid hR
              clear hR
              go_simp
              exact hK p wx (fun _ _ => rfl) HR.out
            · obtain rfl : _ = o := Option.some.inj ho
              have HR := Lib.hid hR
              clear hR
              go_simp
              exact hK p wx (fun _ _ => rfl) HR.out
            · obtain rfl : _ = o := Option.some.inj ho
              have HR := Lib.hid hR
              clear hR
              go_simp
              exact hK p wx (fun _ _ => rfl) HR.out
            · obtain rfl : _ = o := Option.some.inj ho
              have HR := Lib.hid hR
              clear hR
              go_simp
              exact hK p wx (fun _ _ => rfl) HR.out
            · obtain rfl : _ = o := Option.some.inj ho
              have HR := Lib.hid hR
              clear hR
              go_simp
              exact hK p wx (fun _ _ => rfl) HR.out
            · obtain rfl : _ = o := Option.some.inj ho
              have HR := Lib.hid hR
              clear hR
              go_simp
              exact hK p wx (fun _ _ => rfl) HR.out
            · obtain rfl : _ = o := Option.some.inj ho
              have HR := Lib.hid hR
              clear hR
              go_simp
              exact hK p wx (fun _ _ => rfl) HR.out
            · obtain rfl : _ = o := Option.some.inj ho
              have HR := Lib.hid hR
              clear hR
              go_simp
              exact hK p wx (fun _ _ => rfl) HR.out
            · obtain rfl : _ = o := Option.some.inj ho
              have HR := Lib.hid hR
              clear hR
              go_simp
              exact hK p wx (fun _ _ => rfl) HR.out
            · obtain rfl : _ = o := Option.some.inj ho
              have HR := Lib.hid hR
              clear hR
              go_simp
              exact hK p wx (fun _ _ => rfl) HR.out
            · obtain rfl : _ = o := Option.some.inj ho
              have HR := Lib.hid hR
              clear hR
              go_simp
              exact hK p wx (fun _ _ => rfl) HR.out
            · obtain rfl : _ = o := Option.some.inj ho
              have HR := Lib.hid hR
              clear hR
              go_simp
              exact hK p wx (fun _ _ => rfl) HR.out
            · obtain rfl : _ = o := Option.some.inj ho
              have HR := Lib.hid hR
              clear hR
              go_simp
              exact hK p wx (fun _ _ => rfl) HR.out
            · obtain rfl : _ = o := Option.some.inj ho
              have HR := Lib.hid hR
              clear hR
              go_simp
              exact hK p wx (fun _ _ => rfl) HR.out
            · obtain rfl : _ = o := Option.some.inj ho
              have HR := Lib.hid hR
              clear hR
              go_simp
              exact hK p wx (fun _ _ => rfl) HR.out
            · obtain rfl : _ = o := Option.some.inj ho
              have HR := Lib.hid hR
              clear hR
              go_simp
              exact hK p wx (fun _ _ => rfl) HR.out
            · obtain rfl : _ = o := Option.some.inj ho
              have HR := Lib.hid hR
              clear hR
              go_simp
              exact hK p wx (fun _ _ => rfl) HR.out
            · obtain rfl : _ = o := Option.some.inj ho
              have HR := Lib.hid hR
              clear hR
              go_simp
              exact hK p wx (fun _ _ => rfl) HR.out
            · obtain rfl : _ = o := Option.some.inj ho
              have HR := Lib.hid hR
              clear hR
              go_simp
              exact hK p wx (fun _ _ => rfl) HR.out
            · obtain rfl : _ = o := Option.some.inj ho
              have HR := Lib.hid hR
              clear hR
              go_simp
              exact hK p wx (fun _ _ => rfl) HR.out
            · obtain rfl : _ = o := Option.some.inj ho
              have HR := Lib.hid hR
              clear hR
              go_simp
              exact hK p wx (fun _ _ => rfl) HR.out
            · obtain rfl : _ = o := Option.some.inj ho
              have HR := Lib.hid hR
              clear hR
              go_simp
              exact hK p wx (fun _ _ => rfl) HR.out
            · obtain rfl : _ = o := Option.some.inj ho
              have HR := Lib.hid hR
              clear hR
              go_simp
              exact hK p wx (fun _ _ => rfl) HR.out
            · simp at ho
          · intro p l wx hl hR
            have HWx := Lib.hid (low_more HWa.out hR)
            clear hl hR
            go_wp2_with fail
            go_ret
            exact ⟨by rw [HBad.out]; rfl, HWx.out⟩
        | true =>
          have HUp := Lib.hid (HUpK.out.2 hless)
          rw [hless] at HLs
          clear hless
          by_cases hr1 : rr < 1
          · have HBad := Lib.hid (HNot.out fun h => by have := h.1; dsimp only at this; omega)
            have hr1b : decide (rr < 1) = true := decide_eq_true hr1
            refine wp_region_cl (fun (p : Unit) jz => [.int .i64 (ix : Int), .bool true, .bool true, .slice (some ⟨g, oo, none⟩) tt cL, .int .i64 (ix : Int), .int .i64 (i1 : Int), .pointer (some ⟨g, oo + i1 * 3, none⟩), .pointer (some ⟨g, oo + i1 * 3, none⟩), .string ky, .pointer (some ⟨be, 0, none⟩), .string kk, .bool true, .bool false, .bool false, .bool false, .pointer (some ⟨be, 1, none⟩), .int .i64 rr, .bool true, .bool true, .bool true, undef, undef, undef, .bool true, .bool true, undef, undef, undef, undef, .bool true, .bool true, undef, undef, undef, undef, .bool true].getD jz undef)
              (fun p l wx => Below wa.heap.size wa wx)
              (by kernel_rfl) (by kernel_rfl) (fun q => by simp only [putTo, dstOf, Act.put, List.size_toArray, List.length_cons, List.length_nil, List.getElem?_toArray, Nat.reduceAdd, Option.bind_some, List.getElem?_cons_zero, List.getElem?_cons_succ, List.setIfInBounds_toArray, List.set_cons_zero, List.set_cons_succ, List.getD_cons_zero, List.getD_cons_succ]; exact rfl) () ?_ ?_ ?_
            · exact (Below.refl _ _).drew
            · intro i o ho p l wx hR hl he hcl K hK
              rcases i with _ | _ | _ | _ | _ | _ | _ | _ | _ | _ | _ | _ | _ | _ | _ | _ | _ | _ | _ | _ | _ | _ | _ | _ | _ | _ | _ | _ | _ | _ | _ | _ | _ | _ | _ | _ | i
              · obtain rfl : _ = o := Option.some.inj ho
                have HR := Lib.hid hR
                clear hR
                go_simp
                exact hK p wx (fun _ _ => rfl) HR.out
              · obtain rfl : _ = o := Option.some.inj ho
                have HR := Lib.hid hR
                clear hR
                go_simp
                exact hK p wx (fun _ _ => rfl) HR.out
              · obtain rfl : _ = o := Option.some.inj ho
                have HR := Lib.hid hR
                clear hR
                go_simp
                exact hK p wx (fun _ _ => rfl) HR.out
              · obtain rfl : _ = o := Option.some.inj ho
                have HR := Lib.hid hR
                clear hR
                go_simp
                exact hK p wx (fun _ _ => rfl) HR.out
              · obtain rfl : _ = o := Option.some.inj ho
                have HR := Lib.hid hR
                clear hR
                go_simp
                exact hK p wx (fun _ _ => rfl) HR.out
              · obtain rfl : _ = o := Option.some.inj ho
                have HR := Lib.hid hR
                clear hR
                go_simp
                exact hK p wx (fun _ _ => rfl) HR.out
              · obtain rfl : _ = o := Option.some.inj ho
                have HR := Lib.hid hR
                clear hR
                go_simp
                exact hK p wx (fun _ _ => rfl) HR.out
              · obtain rfl : _ = o := Option.some.inj ho
                have HR := Lib.hid hR
                clear hR
                go_simp
                exact hK p wx (fun _ _ => rfl) HR.out
              · obtain rfl : _ = o := Option.some.inj ho
                have q := below_cell HD0.out hR
                have HR := Lib.hid hR
                clear hR
                go_simp
                exact hK p wx (fun _ _ => rfl) HR.out
              · obtain rfl : _ = o := Option.some.inj ho
                have HR := Lib.hid hR
                clear hR
                go_simp
                exact hK p wx (fun _ _ => rfl) HR.out
              · obtain rfl : _ = o := Option.some.inj ho
                have q := below_cell HC0.out hR
                have HR := Lib.hid hR
                clear hR
                go_simp
                exact hK p wx (fun _ _ => rfl) HR.out
              · obtain rfl : _ = o := Option.some.inj ho
                have HR := Lib.hid hR
                clear hR
                go_simp
                refine (HLs.out wx).mono ?_; rintro e w5 ⟨rfl, t5, rfl⟩
                exact hK p _ (fun _ _ => rfl) (below_drawn HR.out t5)
              · obtain rfl : _ = o := Option.some.inj ho
                have HR := Lib.hid hR
                clear hR
                go_simp
                exact hK p wx (fun _ _ => rfl) HR.out
              · obtain rfl : _ = o := Option.some.inj ho
                have HR := Lib.hid hR
                clear hR
                go_simp
                exact hK p wx (fun _ _ => rfl) HR.out
              · obtain rfl : _ = o := Option.some.inj ho
                have HR := Lib.hid hR
                clear hR
                go_simp
                exact hK p wx (fun _ _ => rfl) HR.out
              · obtain rfl : _ = o := Option.some.inj ho
                have HR := Lib.hid hR
                clear hR
                go_simp
                exact hK p wx (fun _ _ => rfl) HR.out
              · obtain rfl : _ = o := Option.some.inj ho
                have q := below_cell HC1.out hR
                have HR := Lib.hid hR
                clear hR
                go_simp
                exact hK p wx (fun _ _ => rfl) HR.out
              · obtain rfl : _ = o := Option.some.inj ho
                have HR := Lib.hid hR
                clear hR
                go_simp
                exact hK p wx (fun _ _ => rfl) HR.out
              · obtain rfl : _ = o := Option.some.inj ho
                have HR := Lib.hid hR
                clear hR
                go_simp
                exact hK p wx (fun _ _ => rfl) HR.out
              · obtain rfl : _ = o := Option.some.inj ho
                have HR := Lib.hid hR
                clear hR
                go_simp
                exact hK p wx (fun _ _ => rfl) HR.out
              · obtain rfl : _ = o := Option.some.inj ho
                have HR := Lib.hid hR
                clear hR
                go_simp
                exact hK p wx (fun _ _ => rfl) HR.out
              · obtain rfl : _ = o := Option.some.inj ho
                have HR := Lib.hid hR
                clear hR
                go_simp
                exact hK p wx (fun _ _ => rfl) HR.out
              · obtain rfl : _ = o := Option.some.inj ho
                have HR := Lib.hid hR
                clear hR
                go_simp
                exact hK p wx (fun _ _ => rfl) HR.out
              · obtain rfl : _ = o := Option.some.inj ho
                have HR := Lib.hid hR
                clear hR
                go_simp
                exact hK p wx (fun _ _ => rfl) HR.out
              · obtain rfl : _ = o := Option.some.inj ho
                have HR := Lib.hid hR
                clear hR
                go_simp
                exact hK p wx (fun _ _ => rfl) HR.out
              · obtain rfl : _ = o := Option.some.inj ho
                have HR := Lib.hid hR
                clear hR
                go_simp
                exact hK p wx (fun _ _ => rfl) HR.out
              · obtain rfl : _ = o := Option.some.inj ho
                have HR := Lib.hid hR
                clear hR
                go_simp
                exact hK p wx (fun _ _ => rfl) HR.out
              · obtain rfl : _ = o := Option.some.inj ho
                have HR := Lib.hid hR
                clear hR
                go_simp
                exact hK p wx (fun _ _ => rfl) HR.out
              · obtain rfl : _ = o := Option.some.inj ho
                have HR := Lib.hid hR
                clear hR
                go_simp
                exact hK p wx (fun _ _ => rfl) HR.out
              · obtain rfl : _ = o := Option.some.inj ho
                have HR := Lib.hid hR
                clear hR
                go_simp
                exact hK p wx (fun _ _ => rfl) HR.out
              · obtain rfl : _ = o := Option.some.inj ho
                have HR := Lib.hid hR
                clear hR
                go_simp
                exact hK p wx (fun _ _ => rfl) HR.out
              · obtain rfl : _ = o := Option.some.inj ho
                have HR := Lib.hid hR
                clear hR
                go_simp
                exact hK p wx (fun _ _ => rfl) HR.out
              · obtain rfl : _ = o := Option.some.inj ho
                have HR := Lib.hid hR
                clear hR
                go_simp
                exact hK p wx (fun _ _ => rfl) HR.out
              · obtain rfl : _ = o := Option.some.inj ho
                have HR := Lib.hid hR
                clear hR
                go_simp
                exact hK p wx (fun _ _ => rfl) HR.out
              · obtain rfl : _ = o := Option.some.inj ho
                have HR := Lib.hid hR
                clear hR
                go_simp
                exact hK p wx (fun _ _ => rfl) HR.out
              · obtain rfl : _ = o := Option.some.inj ho
                have HR := Lib.hid hR
                clear hR
                go_simp
                exact hK p wx (fun _ _ => rfl) HR.out
              · simp at ho
            · intro p l wx hl hR
              have HWx := Lib.hid (low_more HWa.out hR)
              clear hl hR
              go_wp2_with fail
              go_ret
              exact ⟨by rw [HBad.out]; rfl, HWx.out⟩
          have hr1b : decide (rr < 1) = false := decide_eq_false hr1
          by_cases hr2 : 65535 < rr
          · have HBad := Lib.hid (HNot.out fun h => by have := h.2.1; dsimp only at this; omega)
            have hr2b : decide (65535 < rr) = true := decide_eq_true hr2
            refine wp_region_cl (fun (p : Unit) jz => [.int .i64 (ix : Int), .bool true, .bool true, .slice (some ⟨g, oo, none⟩) tt cL, .int .i64 (ix : Int), .int .i64 (i1 : Int), .pointer (some ⟨g, oo + i1 * 3, none⟩), .pointer (some ⟨g, oo + i1 * 3, none⟩), .string ky, .pointer (some ⟨be, 0, none⟩), .string kk, .bool true, .bool false, .bool false, .bool false, .pointer (some ⟨be, 1, none⟩), .int .i64 rr, .bool false, .bool false, .bool false, .pointer (some ⟨be, 1, none⟩), .int .i64 rr, .bool true, .bool true, .bool true, undef, undef, undef, undef, .bool true, .bool true, undef, undef, undef, undef, .bool true].getD jz undef)
              (fun p l wx => Below wa.heap.size wa wx)
              (by kernel_rfl) (by kernel_rfl) (fun q => by simp only [putTo, dstOf, Act.put, List.size_toArray, List.length_cons, List.length_nil, List.getElem?_toArray, Nat.reduceAdd, Option.bind_some, List.getElem?_cons_zero, List.getElem?_cons_succ, List.setIfInBounds_toArray, List.set_cons_zero, List.set_cons_succ, List.getD_cons_zero, List.getD_cons_succ]; exact rfl) () ?_ ?_ ?_
            · exact (Below.refl _ _).drew
            · intro i o ho p l wx hR hl he hcl K hK
              rcases i with _ | _ | _ | _ | _ | _ | _ | _ | _ | _ | _ | _ | _ | _ | _ | _ | _ | _ | _ | _ | _ | _ | _ | _ | _ | _ | _ | _ | _ | _ | _ | _ | _ | _ | _ | _ | i
              · obtain rfl : _ = o := Option.some.inj ho
                have HR := Lib.hid hR
                clear hR
                go_simp
                exact hK p wx (fun _ _ => rfl) HR.out
              · obtain rfl : _ = o := Option.some.inj ho
                have HR := Lib.hid hR
                clear hR
                go_simp
                exact hK p wx (fun _ _ => rfl) HR.out
              · obtain rfl : _ = o := Option.some.inj ho
                have HR := Lib.hid hR
                clear hR
                go_simp
                exact hK p wx (fun _ _ => rfl) HR.out
              · obtain rfl : _ = o := Option.some.inj ho
                have HR := Lib.hid hR
                clear hR
                go_simp
                exact hK p wx (fun _ _ => rfl) HR.out
              · obtain rfl : _ = o := Option.some.inj ho
                have HR := Lib.hid hR
                clear hR
                go_simp
                exact hK p wx (fun _ _ => rfl) HR.out
              · obtain rfl : _ = o := Option.some.inj ho
                have HR := Lib.hid hR
                clear hR
                go_simp
                exact hK p wx (fun _ _ => rfl) HR.out
              · obtain rfl : _ = o := Option.some.inj ho
                have HR := Lib.hid hR
                clear hR
                go_simp
                exact hK p wx (fun _ _ => rfl) HR.out
              · obtain rfl : _ = o := Option.some.inj ho
                have HR := Lib.hid hR
                clear hR
                go_simp
                exact hK p wx (fun _ _ => rfl) HR.out
              · obtain rfl : _ = o := Option.some.inj ho
                have q := below_cell HD0.out hR
                have HR := Lib.hid hR
                clear hR
                go_simp
                exact hK p wx (fun _ _ => rfl) HR.out
              · obtain rfl : _ = o := Option.some.inj ho
                have HR := Lib.hid hR
                clear hR
                go_simp
                exact hK p wx (fun _ _ => rfl) HR.out
              · obtain rfl : _ = o := Option.some.inj ho
                have q := below_cell HC0.out hR
                have HR := Lib.hid hR
                clear hR
                go_simp
                exact hK p wx (fun _ _ => rfl) HR.out
              · obtain rfl : _ = o := Option.some.inj ho
                have HR := Lib.hid hR
                clear hR
                go_simp
                refine (HLs.out wx).mono ?_; rintro e w5 ⟨rfl, t5, rfl⟩
                exact hK p _ (fun _ _ => rfl) (below_drawn HR.out t5)
              · obtain rfl : _ = o := Option.some.inj ho
                have HR := Lib.hid hR
                clear hR
                go_simp
                exact hK p wx (fun _ _ => rfl) HR.out
              · obtain rfl : _ = o := Option.some.inj ho
                have HR := Lib.hid hR
                clear hR
                go_simp
                exact hK p wx (fun _ _ => rfl) HR.out
              · obtain rfl : _ = o := Option.some.inj ho
                have HR := Lib.hid hR
                clear hR
                go_simp
                exact hK p wx (fun _ _ => rfl) HR.out
              · obtain rfl : _ = o := Option.some.inj ho
                have HR := Lib.hid hR
                clear hR
                go_simp
                exact hK p wx (fun _ _ => rfl) HR.out
              · obtain rfl : _ = o := Option.some.inj ho
                have q := below_cell HC1.out hR
                have HR := Lib.hid hR
                clear hR
                go_simp
                exact hK p wx (fun _ _ => rfl) HR.out
              · obtain rfl : _ = o := Option.some.inj ho
                have HR := Lib.hid hR
                clear hR
                go_simp
                exact hK p wx (fun _ _ => rfl) HR.out
              · obtain rfl : _ = o := Option.some.inj ho
                have HR := Lib.hid hR
                clear hR
                go_simp
                exact hK p wx (fun _ _ => rfl) HR.out
              · obtain rfl : _ = o := Option.some.inj ho
                have HR := Lib.hid hR
                clear hR
                go_simp
                exact hK p wx (fun _ _ => rfl) HR.out
              · obtain rfl : _ = o := Option.some.inj ho
                have HR := Lib.hid hR
                clear hR
                go_simp
                exact hK p wx (fun _ _ => rfl) HR.out
              · obtain rfl : _ = o := Option.some.inj ho
                have q := below_cell HC1.out hR
                have HR := Lib.hid hR
                clear hR
                go_simp
                exact hK p wx (fun _ _ => rfl) HR.out
              · obtain rfl : _ = o := Option.some.inj ho
                have HR := Lib.hid hR
                clear hR
                go_simp
                exact hK p wx (fun _ _ => rfl) HR.out
              · obtain rfl : _ = o := Option.some.inj ho
                have HR := Lib.hid hR
                clear hR
                go_simp
                exact hK p wx (fun _ _ => rfl) HR.out
              · obtain rfl : _ = o := Option.some.inj ho
                have HR := Lib.hid hR
                clear hR
                go_simp
                exact hK p wx (fun _ _ => rfl) HR.out
              · obtain rfl : _ = o := Option.some.inj ho
                have HR := Lib.hid hR
                clear hR
                go_simp
                exact hK p wx (fun _ _ => rfl) HR.out
              · obtain rfl : _ = o := Option.some.inj ho
                have HR := Lib.hid hR
                clear hR
                go_simp
                exact hK p wx (fun _ _ => rfl) HR.out
              · obtain rfl : _ = o := Option.some.inj ho
                have HR := Lib.hid hR
                clear hR
                go_simp
                exact hK p wx (fun _ _ => rfl) HR.out
              · obtain rfl : _ = o := Option.some.inj ho
                have HR := Lib.hid hR
                clear hR
                go_simp
                exact hK p wx (fun _ _ => rfl) HR.out
              · obtain rfl : _ = o := Option.some.inj ho
                have HR := Lib.hid hR
                clear hR
                go_simp
                exact hK p wx (fun _ _ => rfl) HR.out
              · obtain rfl : _ = o := Option.some.inj ho
                have HR := Lib.hid hR
                clear hR
                go_simp
                exact hK p wx (fun _ _ => rfl) HR.out
              · obtain rfl : _ = o := Option.some.inj ho
                have HR := Lib.hid hR
                clear hR
                go_simp
                exact hK p wx (fun _ _ => rfl) HR.out
              · obtain rfl : _ = o := Option.some.inj ho
                have HR := Lib.hid hR
                clear hR
                go_simp
                exact hK p wx (fun _ _ => rfl) HR.out
              · obtain rfl : _ = o := Option.some.inj ho
                have HR := Lib.hid hR
                clear hR
                go_simp
                exact hK p wx (fun _ _ => rfl) HR.out
              · obtain rfl : _ = o := Option.some.inj ho
                have HR := Lib.hid hR
                clear hR
                go_simp
                exact hK p wx (fun _ _ => rfl) HR.out
              · obtain rfl : _ = o := Option.some.inj ho
                have HR := Lib.hid hR
                clear hR
                go_simp
                exact hK p wx (fun _ _ => rfl) HR.out
              · simp at ho
            · intro p l wx hl hR
              have HWx := Lib.hid (low_more HWa.out hR)
              clear hl hR
              go_wp2_with fail
              go_ret
              exact ⟨by rw [HBad.out]; rfl, HWx.out⟩
          have hr2b : decide (65535 < rr) = false := decide_eq_false hr2
          by_cases hm0 : m = 0
          · have HBad := Lib.hid (HNot.out fun h => by have := h.2.2.1; dsimp only at this; rw [HM.out] at this; omega)
            have hm0b : ((m : Int) == 0) = true := by simp [hm0]
            clear hm0
            refine wp_region_cl (fun (p : Unit) jz => [.int .i64 (ix : Int), .bool true, .bool true, .slice (some ⟨g, oo, none⟩) tt cL, .int .i64 (ix : Int), .int .i64 (i1 : Int), .pointer (some ⟨g, oo + i1 * 3, none⟩), .pointer (some ⟨g, oo + i1 * 3, none⟩), .string ky, .pointer (some ⟨be, 0, none⟩), .string kk, .bool true, .bool false, .bool false, .bool false, .pointer (some ⟨be, 1, none⟩), .int .i64 rr, .bool false, .bool false, .bool false, .pointer (some ⟨be, 1, none⟩), .int .i64 rr, .bool false, .bool false, .bool false, .pointer (some ⟨be, 2, none⟩), .slice pa m pc, .int .i64 (m : Int), .bool true, .bool true, .bool true, undef, undef, undef, undef, .bool true].getD jz undef)
              (fun p l wx => Below wa.heap.size wa wx)
              (by kernel_rfl) (by kernel_rfl) (fun q => by simp only [putTo, dstOf, Act.put, List.size_toArray, List.length_cons, List.length_nil, List.getElem?_toArray, Nat.reduceAdd, Option.bind_some, List.getElem?_cons_zero, List.getElem?_cons_succ, List.setIfInBounds_toArray, List.set_cons_zero, List.set_cons_succ, List.getD_cons_zero, List.getD_cons_succ]; exact rfl) () ?_ ?_ ?_
            · exact (Below.refl _ _).drew
            · intro i o ho p l wx hR hl he hcl K hK
              rcases i with _ | _ | _ | _ | _ | _ | _ | _ | _ | _ | _ | _ | _ | _ | _ | _ | _ | _ | _ | _ | _ | _ | _ | _ | _ | _ | _ | _ | _ | _ | _ | _ | _ | _ | _ | _ | i
              · obtain rfl : _ = o := Option.some.inj ho
                have HR := Lib.hid hR
                clear hR
                go_simp
                exact hK p wx (fun _ _ => rfl) HR.out
              · obtain rfl : _ = o := Option.some.inj ho
                have HR := Lib.hid hR
                clear hR
                go_simp
                exact hK p wx (fun _ _ => rfl) HR.out
              · obtain rfl : _ = o := Option.some.inj ho
                have HR := Lib.hid hR
                clear hR
                go_simp
                exact hK p wx (fun _ _ => rfl) HR.out
              · obtain rfl : _ = o := Option.some.inj ho
                have HR := Lib.hid hR
                clear hR
                go_simp
                exact hK p wx (fun _ _ => rfl) HR.out
              · obtain rfl : _ = o := Option.some.inj ho
                have HR := Lib.hid hR
                clear hR
                go_simp
                exact hK p wx (fun _ _ => rfl) HR.out
              · obtain rfl : _ = o := Option.some.inj ho
                have HR := Lib.hid hR
                clear hR
                go_simp
                exact hK p wx (fun _ _ => rfl) HR.out
              · obtain rfl : _ = o := Option.some.inj ho
                have HR := Lib.hid hR
                clear hR
                go_simp
                exact hK p wx (fun _ _ => rfl) HR.out
              · obtain rfl : _ = o := Option.some.inj ho
                have HR := Lib.hid hR
                clear hR
                go_simp
                exact hK p wx (fun _ _ => rfl) HR.out
              · obtain rfl : _ = o := Option.some.inj ho
                have q := below_cell HD0.out hR
                have HR := Lib.hid hR
                clear hR
                go_simp
                exact hK p wx (fun _ _ => rfl) HR.out
              · obtain rfl : _ = o := Option.some.inj ho
                have HR := Lib.hid hR
                clear hR
                go_simp
                exact hK p wx (fun _ _ => rfl) HR.out
              · obtain rfl : _ = o := Option.some.inj ho
                have q := below_cell HC0.out hR
                have HR := Lib.hid hR
                clear hR
                go_simp
                exact hK p wx (fun _ _ => rfl) HR.out
              · obtain rfl : _ = o := Option.some.inj ho
                have HR := Lib.hid hR
                clear hR
                go_simp
                refine (HLs.out wx).mono ?_; rintro e w5 ⟨rfl, t5, rfl⟩
                exact hK p _ (fun _ _ => rfl) (below_drawn HR.out t5)
              · obtain rfl : _ = o := Option.some.inj ho
                have HR := Lib.hid hR
                clear hR
                go_simp
                exact hK p wx (fun _ _ => rfl) HR.out
              · obtain rfl : _ = o := Option.some.inj ho
                have HR := Lib.hid hR
                clear hR
                go_simp
                exact hK p wx (fun _ _ => rfl) HR.out
              · obtain rfl : _ = o := Option.some.inj ho
                have HR := Lib.hid hR
                clear hR
                go_simp
                exact hK p wx (fun _ _ => rfl) HR.out
              · obtain rfl : _ = o := Option.some.inj ho
                have HR := Lib.hid hR
                clear hR
                go_simp
                exact hK p wx (fun _ _ => rfl) HR.out
              · obtain rfl : _ = o := Option.some.inj ho
                have q := below_cell HC1.out hR
                have HR := Lib.hid hR
                clear hR
                go_simp
                exact hK p wx (fun _ _ => rfl) HR.out
              · obtain rfl : _ = o := Option.some.inj ho
                have HR := Lib.hid hR
                clear hR
                go_simp
                exact hK p wx (fun _ _ => rfl) HR.out
              · obtain rfl : _ = o := Option.some.inj ho
                have HR := Lib.hid hR
                clear hR
                go_simp
                exact hK p wx (fun _ _ => rfl) HR.out
              · obtain rfl : _ = o := Option.some.inj ho
                have HR := Lib.hid hR
                clear hR
                go_simp
                exact hK p wx (fun _ _ => rfl) HR.out
              · obtain rfl : _ = o := Option.some.inj ho
                have HR := Lib.hid hR
                clear hR
                go_simp
                exact hK p wx (fun _ _ => rfl) HR.out
              · obtain rfl : _ = o := Option.some.inj ho
                have q := below_cell HC1.out hR
                have HR := Lib.hid hR
                clear hR
                go_simp
                exact hK p wx (fun _ _ => rfl) HR.out
              · obtain rfl : _ = o := Option.some.inj ho
                have HR := Lib.hid hR
                clear hR
                go_simp
                exact hK p wx (fun _ _ => rfl) HR.out
              · obtain rfl : _ = o := Option.some.inj ho
                have HR := Lib.hid hR
                clear hR
                go_simp
                exact hK p wx (fun _ _ => rfl) HR.out
              · obtain rfl : _ = o := Option.some.inj ho
                have HR := Lib.hid hR
                clear hR
                go_simp
                exact hK p wx (fun _ _ => rfl) HR.out
              · obtain rfl : _ = o := Option.some.inj ho
                have HR := Lib.hid hR
                clear hR
                go_simp
                exact hK p wx (fun _ _ => rfl) HR.out
              · obtain rfl : _ = o := Option.some.inj ho
                have q := below_cell HC2.out hR
                have HR := Lib.hid hR
                clear hR
                go_simp
                exact hK p wx (fun _ _ => rfl) HR.out
              · obtain rfl : _ = o := Option.some.inj ho
                have HR := Lib.hid hR
                clear hR
                go_simp
                exact hK p wx (fun _ _ => rfl) HR.out
              · obtain rfl : _ = o := Option.some.inj ho
                have HR := Lib.hid hR
                clear hR
                go_simp
                exact hK p wx (fun _ _ => rfl) HR.out
              · obtain rfl : _ = o := Option.some.inj ho
                have HR := Lib.hid hR
                clear hR
                go_simp
                exact hK p wx (fun _ _ => rfl) HR.out
              · obtain rfl : _ = o := Option.some.inj ho
                have HR := Lib.hid hR
                clear hR
                go_simp
                exact hK p wx (fun _ _ => rfl) HR.out
              · obtain rfl : _ = o := Option.some.inj ho
                have HR := Lib.hid hR
                clear hR
                go_simp
                exact hK p wx (fun _ _ => rfl) HR.out
              · obtain rfl : _ = o := Option.some.inj ho
                have HR := Lib.hid hR
                clear hR
                go_simp
                exact hK p wx (fun _ _ => rfl) HR.out
              · obtain rfl : _ = o := Option.some.inj ho
                have HR := Lib.hid hR
                clear hR
                go_simp
                exact hK p wx (fun _ _ => rfl) HR.out
              · obtain rfl : _ = o := Option.some.inj ho
                have HR := Lib.hid hR
                clear hR
                go_simp
                exact hK p wx (fun _ _ => rfl) HR.out
              · obtain rfl : _ = o := Option.some.inj ho
                have HR := Lib.hid hR
                clear hR
                go_simp
                exact hK p wx (fun _ _ => rfl) HR.out
              · simp at ho
            · intro p l wx hl hR
              have HWx := Lib.hid (low_more HWa.out hR)
              clear hl hR
              go_wp2_with fail
              go_ret
              exact ⟨by rw [HBad.out]; rfl, HWx.out⟩
          have hm0b : ((m : Int) == 0) = false := beq_eq_false_iff_ne.2 (by omega)
          by_cases hme : MayE es
          · have HMb := Lib.hid (show mayB es = true from decide_eq_true hme)
            have HMe := Lib.hid hme
            clear hme
            refine wp_region_cl (fun (p : Unit) jz => [.int .i64 (ix : Int), .bool true, .bool true, .slice (some ⟨g, oo, none⟩) tt cL, .int .i64 (ix : Int), .int .i64 (i1 : Int), .pointer (some ⟨g, oo + i1 * 3, none⟩), .pointer (some ⟨g, oo + i1 * 3, none⟩), .string ky, .pointer (some ⟨be, 0, none⟩), .string kk, .bool true, .bool false, .bool false, .bool false, .pointer (some ⟨be, 1, none⟩), .int .i64 rr, .bool false, .bool false, .bool false, .pointer (some ⟨be, 1, none⟩), .int .i64 rr, .bool false, .bool false, .bool false, .pointer (some ⟨be, 2, none⟩), .slice pa m pc, .int .i64 (m : Int), .bool false, .bool false, .bool false, .pointer (some ⟨be, 2, none⟩), .slice pa m pc, .bool true, .bool false, .bool false].getD jz undef)
              (fun p l wx => Below wa.heap.size wa wx)
              (by kernel_rfl) (by kernel_rfl) (fun q => by simp only [putTo, dstOf, Act.put, List.size_toArray, List.length_cons, List.length_nil, List.getElem?_toArray, Nat.reduceAdd, Option.bind_some, List.getElem?_cons_zero, List.getElem?_cons_succ, List.setIfInBounds_toArray, List.set_cons_zero, List.set_cons_succ, List.getD_cons_zero, List.getD_cons_succ]; exact rfl) () ?_ ?_ ?_
            · exact (Below.refl _ _).drew
            · intro i o ho p l wx hR hl he hcl K hK
              rcases i with _ | _ | _ | _ | _ | _ | _ | _ | _ | _ | _ | _ | _ | _ | _ | _ | _ | _ | _ | _ | _ | _ | _ | _ | _ | _ | _ | _ | _ | _ | _ | _ | _ | _ | _ | _ | i
              · obtain rfl : _ = o := Option.some.inj ho
                have HR := Lib.hid hR
                clear hR
                go_simp
                exact hK p wx (fun _ _ => rfl) HR.out
              · obtain rfl : _ = o := Option.some.inj ho
                have HR := Lib.hid hR
                clear hR
                go_simp
                exact hK p wx (fun _ _ => rfl) HR.out
              · obtain rfl : _ = o := Option.some.inj ho
                have HR := Lib.hid hR
                clear hR
                go_simp
                exact hK p wx (fun _ _ => rfl) HR.out
              · obtain rfl : _ = o := Option.some.inj ho
                have HR := Lib.hid hR
                clear hR
                go_simp
                exact hK p wx (fun _ _ => rfl) HR.out
              · obtain rfl : _ = o := Option.some.inj ho
                have HR := Lib.hid hR
                clear hR
                go_simp
                exact hK p wx (fun _ _ => rfl) HR.out
              · obtain rfl : _ = o := Option.some.inj ho
                have HR := Lib.hid hR
                clear hR
                go_simp
                exact hK p wx (fun _ _ => rfl) HR.out
              · obtain rfl : _ = o := Option.some.inj ho
                have HR := Lib.hid hR
                clear hR
                go_simp
                exact hK p wx (fun _ _ => rfl) HR.out
              · obtain rfl : _ = o := Option.some.inj ho
                have HR := Lib.hid hR
                clear hR
                go_simp
                exact hK p wx (fun _ _ => rfl) HR.out
              · obtain rfl : _ = o := Option.some.inj ho
                have q := below_cell HD0.out hR
                have HR := Lib.hid hR
                clear hR
                go_simp
                exact hK p wx (fun _ _ => rfl) HR.out
              · obtain rfl : _ = o := Option.some.inj ho
                have HR := Lib.hid hR
                clear hR
                go_simp
                exact hK p wx (fun _ _ => rfl) HR.out
              · obtain rfl : _ = o := Option.some.inj ho
                have q := below_cell HC0.out hR
                have HR := Lib.hid hR
                clear hR
                go_simp
                exact hK p wx (fun _ _ => rfl) HR.out
              · obtain rfl : _ = o := Option.some.inj ho
                have HR := Lib.hid hR
                clear hR
                go_simp
                refine (HLs.out wx).mono ?_; rintro e w5 ⟨rfl, t5, rfl⟩
                exact hK p _ (fun _ _ => rfl) (below_drawn HR.out t5)
              · obtain rfl : _ = o := Option.some.inj ho
                have HR := Lib.hid hR
                clear hR
                go_simp
                exact hK p wx (fun _ _ => rfl) HR.out
              · obtain rfl : _ = o := Option.some.inj ho
                have HR := Lib.hid hR
                clear hR
                go_simp
                exact hK p wx (fun _ _ => rfl) HR.out
              · obtain rfl : _ = o := Option.some.inj ho
                have HR := Lib.hid hR
                clear hR
                go_simp
                exact hK p wx (fun _ _ => rfl) HR.out
              · obtain rfl : _ = o := Option.some.inj ho
                have HR := Lib.hid hR
                clear hR
                go_simp
                exact hK p wx (fun _ _ => rfl) HR.out
              · obtain rfl : _ = o := Option.some.inj ho
                have q := below_cell HC1.out hR
                have HR := Lib.hid hR
                clear hR
                go_simp
                exact hK p wx (fun _ _ => rfl) HR.out
              · obtain rfl : _ = o := Option.some.inj ho
                have HR := Lib.hid hR
                clear hR
                go_simp
                exact hK p wx (fun _ _ => rfl) HR.out
              · obtain rfl : _ = o := Option.some.inj ho
                have HR := Lib.hid hR
                clear hR
                go_simp
                exact hK p wx (fun _ _ => rfl) HR.out
              · obtain rfl : _ = o := Option.some.inj ho
                have HR := Lib.hid hR
                clear hR
                go_simp
                exact hK p wx (fun _ _ => rfl) HR.out
              · obtain rfl : _ = o := Option.some.inj ho
                have HR := Lib.hid hR
                clear hR
                go_simp
                exact hK p wx (fun _ _ => rfl) HR.out
              · obtain rfl : _ = o := Option.some.inj ho
                have q := below_cell HC1.out hR
                have HR := Lib.hid hR
                clear hR
                go_simp
                exact hK p wx (fun _ _ => rfl) HR.out
              · obtain rfl : _ = o := Option.some.inj ho
                have HR := Lib.hid hR
                clear hR
                go_simp
                exact hK p wx (fun _ _ => rfl) HR.out
              · obtain rfl : _ = o := Option.some.inj ho
                have HR := Lib.hid hR
                clear hR
                go_simp
                exact hK p wx (fun _ _ => rfl) HR.out
              · obtain rfl : _ = o := Option.some.inj ho
                have HR := Lib.hid hR
                clear hR
                go_simp
                exact hK p wx (fun _ _ => rfl) HR.out
              · obtain rfl : _ = o := Option.some.inj ho
                have HR := Lib.hid hR
                clear hR
                go_simp
                exact hK p wx (fun _ _ => rfl) HR.out
              · obtain rfl : _ = o := Option.some.inj ho
                have q := below_cell HC2.out hR
                have HR := Lib.hid hR
                clear hR
                go_simp
                exact hK p wx (fun _ _ => rfl) HR.out
              · obtain rfl : _ = o := Option.some.inj ho
                have HR := Lib.hid hR
                clear hR
                go_simp
                exact hK p wx (fun _ _ => rfl) HR.out
              · obtain rfl : _ = o := Option.some.inj ho
                have HR := Lib.hid hR
                clear hR
                go_simp
                exact hK p wx (fun _ _ => rfl) HR.out
              · obtain rfl : _ = o := Option.some.inj ho
                have HR := Lib.hid hR
                clear hR
                go_simp
                exact hK p wx (fun _ _ => rfl) HR.out
              · obtain rfl : _ = o := Option.some.inj ho
                have HR := Lib.hid hR
                clear hR
                go_simp
                exact hK p wx (fun _ _ => rfl) HR.out
              · obtain rfl : _ = o := Option.some.inj ho
                have HR := Lib.hid hR
                clear hR
                go_simp
                exact hK p wx (fun _ _ => rfl) HR.out
              · obtain rfl : _ = o := Option.some.inj ho
                have q := below_cell HC2.out hR
                have HR := Lib.hid hR
                clear hR
                go_simp
                exact hK p wx (fun _ _ => rfl) HR.out
              · obtain rfl : _ = o := Option.some.inj ho
                have HR := Lib.hid hR
                clear hR
                go_simp
                refine (HMay.out wx pa pc m es HM.out (HRe.out.below (low_more HWa.out HR.out)) (by omega)).mono ?_; rintro e w5 ⟨rfl, hb5⟩
                rw [HMb.out]
                exact hK p w5 (fun _ _ => rfl) (low_more HR.out hb5)
              · obtain rfl : _ = o := Option.some.inj ho
                have HR := Lib.hid hR
                clear hR
                go_simp
                exact hK p wx (fun _ _ => rfl) HR.out
              · obtain rfl : _ = o := Option.some.inj ho
                have HR := Lib.hid hR
                clear hR
                go_simp
                exact hK p wx (fun _ _ => rfl) HR.out
              · simp at ho
            · intro p l wx hl hR
              have HWx := Lib.hid (low_more HWa.out hR)
              have HEx := Lib.hid (block_below HEa.out hR)
              clear hl hR
              have cb := cell_at HEx.out 2
              go_wp2_with fail
              go_loopw [64] (fun kv wr => ∃ k : Nat, k ≤ m ∧ kv = .int .i64 (k : Int) ∧ Below W.heap.size W wr ∧ Hid (wr.heap[be]? = some (.cells #[.string kk, .int .i64 rr, .slice pa m pc] 44 (0, 0))) ∧ Hid (∀ s, s < k → (enAt es s).1 < n)) (fun kv _ => m - (intOf kv).toNat)
              case atStart => exact ⟨0, by omega, rfl, HWx.out, Lib.hid HEx.out, Lib.hid fun s hs => absurd hs (by omega)⟩
              case round =>
                obtain ⟨k, hk, rfl, hw2, he2, HD2⟩ := hrel
                have HW2 := Lib.hid hw2
                have cb2 := cell_at he2.out 2
                clear cb
                by_cases hkm : k < m
                · have hkm1 : (k : Int) < (m : Int) := by omega
                  obtain ⟨gp, op, hpa, cd, _⟩ := HRe.out k _ (enAt_lt (by rw [HM.out]; exact hkm))
                  subst hpa
                  obtain ⟨d, hd⟩ : ∃ d, (enAt es k).1 = d := ⟨_, rfl⟩
                  rw [hd] at cd
                  have cd := below_cell cd hw2
                  have HDk := Lib.hid hd
                  clear hd hw2
                  by_cases hdn : d < (n : Int)
                  · have hdn2 : ¬ (n : Int) ≤ d := by omega
                    have hdn3 : decide ((n : Int) ≤ d) = false := decide_eq_false hdn2
                    have hdn4 : decide (d ≥ (n : Int)) = false := decide_eq_false hdn2
                    have HNx := Lib.hid (show ∀ s, s < k + 1 → (enAt es s).1 < n from fun s hs => by
                      by_cases hsk : s < k
                      · exact HD2.out s hsk
                      · obtain rfl : s = k := by omega
                        rw [HDk.out]; exact hdn)
                    go_wp2_with fail
                    go_roundw
                    case rel => exact ⟨k + 1, by omega, by go_num, HW2.out, he2, HNx⟩
                    case measure => simp [intOf]; omega
                  · have hdn2 : (n : Int) ≤ d := by omega
                    have HBad := Lib.hid (HNot.out fun h => by
                      obtain ⟨_, _, h3, h4, h5⟩ := h
                      have := (docs_last h4 n h3).2 h5 k (by rw [HM.out]; exact hkm)
                      rw [HDk.out] at this
                      omega)
                    have hdn3 : decide ((n : Int) ≤ d) = true := decide_eq_true hdn2
                    have hdn4 : decide (d ≥ (n : Int)) = true := decide_eq_true hdn2
                    go_wp2_with fail
                    go_ret
                    exact ⟨by rw [HBad.out]; rfl, HW2.out⟩
                · obtain rfl : k = m := by omega
                  have HNx := Lib.hid (show ∀ j, j < ix + 1 → upK L j ∧ okLi n (liAt L j) from fun j hj => by
                    by_cases hji : j < ix
                    · exact HOk.out j hji
                    · obtain rfl : j = ix := by omega
                      refine ⟨HUp.out, ?_⟩
                      rw [HAt.out]
                      exact ⟨by omega, by omega, by show 0 < es.length; rw [HM.out]; omega, HMe.out, (docs_last HMe.out n (by rw [HM.out]; omega)).1 (fun i hi => HD2.out i (by rw [← HM.out]; exact hi))⟩)
                  go_wp2_with fail
                  go_roundw
                  case rel => exact ⟨ix + 1, by omega, by go_num, HNx, HW2.out⟩
                  case measure => simp [intOf]; omega
          · have HMb := Lib.hid (show mayB es = false from decide_eq_false hme)
            have HBad := Lib.hid (HNot.out fun h => hme h.2.2.2.1)
            clear hme
            refine wp_region_cl (fun (p : Unit) jz => [.int .i64 (ix : Int), .bool true, .bool true, .slice (some ⟨g, oo, none⟩) tt cL, .int .i64 (ix : Int), .int .i64 (i1 : Int), .pointer (some ⟨g, oo + i1 * 3, none⟩), .pointer (some ⟨g, oo + i1 * 3, none⟩), .string ky, .pointer (some ⟨be, 0, none⟩), .string kk, .bool true, .bool false, .bool false, .bool false, .pointer (some ⟨be, 1, none⟩), .int .i64 rr, .bool false, .bool false, .bool false, .pointer (some ⟨be, 1, none⟩), .int .i64 rr, .bool false, .bool false, .bool false, .pointer (some ⟨be, 2, none⟩), .slice pa m pc, .int .i64 (m : Int), .bool false, .bool false, .bool false, .pointer (some ⟨be, 2, none⟩), .slice pa m pc, .bool false, .bool true, .bool true].getD jz undef)
              (fun p l wx => Below wa.heap.size wa wx)
              (by kernel_rfl) (by kernel_rfl) (fun q => by simp only [putTo, dstOf, Act.put, List.size_toArray, List.length_cons, List.length_nil, List.getElem?_toArray, Nat.reduceAdd, Option.bind_some, List.getElem?_cons_zero, List.getElem?_cons_succ, List.setIfInBounds_toArray, List.set_cons_zero, List.set_cons_succ, List.getD_cons_zero, List.getD_cons_succ]; exact rfl) () ?_ ?_ ?_
            · exact (Below.refl _ _).drew
            · intro i o ho p l wx hR hl he hcl K hK
              rcases i with _ | _ | _ | _ | _ | _ | _ | _ | _ | _ | _ | _ | _ | _ | _ | _ | _ | _ | _ | _ | _ | _ | _ | _ | _ | _ | _ | _ | _ | _ | _ | _ | _ | _ | _ | _ | i
              · obtain rfl : _ = o := Option.some.inj ho
                have HR := Lib.hid hR
                clear hR
                go_simp
                exact hK p wx (fun _ _ => rfl) HR.out
              · obtain rfl : _ = o := Option.some.inj ho
                have HR := Lib.hid hR
                clear hR
                go_simp
                exact hK p wx (fun _ _ => rfl) HR.out
              · obtain rfl : _ = o := Option.some.inj ho
                have HR := Lib.hid hR
                clear hR
                go_simp
                exact hK p wx (fun _ _ => rfl) HR.out
              · obtain rfl : _ = o := Option.some.inj ho
                have HR := Lib.hid hR
                clear hR
                go_simp
                exact hK p wx (fun _ _ => rfl) HR.out
              · obtain rfl : _ = o := Option.some.inj ho
                have HR := Lib.hid hR
                clear hR
                go_simp
                exact hK p wx (fun _ _ => rfl) HR.out
              · obtain rfl : _ = o := Option.some.inj ho
                have HR := Lib.hid hR
                clear hR
                go_simp
                exact hK p wx (fun _ _ => rfl) HR.out
              · obtain rfl : _ = o := Option.some.inj ho
                have HR := Lib.hid hR
                clear hR
                go_simp
                exact hK p wx (fun _ _ => rfl) HR.out
              · obtain rfl : _ = o := Option.some.inj ho
                have HR := Lib.hid hR
                clear hR
                go_simp
                exact hK p wx (fun _ _ => rfl) HR.out
              · obtain rfl : _ = o := Option.some.inj ho
                have q := below_cell HD0.out hR
                have HR := Lib.hid hR
                clear hR
                go_simp
                exact hK p wx (fun _ _ => rfl) HR.out
              · obtain rfl : _ = o := Option.some.inj ho
                have HR := Lib.hid hR
                clear hR
                go_simp
                exact hK p wx (fun _ _ => rfl) HR.out
              · obtain rfl : _ = o := Option.some.inj ho
                have q := below_cell HC0.out hR
                have HR := Lib.hid hR
                clear hR
                go_simp
                exact hK p wx (fun _ _ => rfl) HR.out
              · obtain rfl : _ = o := Option.some.inj ho
                have HR := Lib.hid hR
                clear hR
                go_simp
                refine (HLs.out wx).mono ?_; rintro e w5 ⟨rfl, t5, rfl⟩
                exact hK p _ (fun _ _ => rfl) (below_drawn HR.out t5)
              · obtain rfl : _ = o := Option.some.inj ho
                have HR := Lib.hid hR
                clear hR
                go_simp
                exact hK p wx (fun _ _ => rfl) HR.out
              · obtain rfl : _ = o := Option.some.inj ho
                have HR := Lib.hid hR
                clear hR
                go_simp
                exact hK p wx (fun _ _ => rfl) HR.out
              · obtain rfl : _ = o := Option.some.inj ho
                have HR := Lib.hid hR
                clear hR
                go_simp
                exact hK p wx (fun _ _ => rfl) HR.out
              · obtain rfl : _ = o := Option.some.inj ho
                have HR := Lib.hid hR
                clear hR
                go_simp
                exact hK p wx (fun _ _ => rfl) HR.out
              · obtain rfl : _ = o := Option.some.inj ho
                have q := below_cell HC1.out hR
                have HR := Lib.hid hR
                clear hR
                go_simp
                exact hK p wx (fun _ _ => rfl) HR.out
              · obtain rfl : _ = o := Option.some.inj ho
                have HR := Lib.hid hR
                clear hR
                go_simp
                exact hK p wx (fun _ _ => rfl) HR.out
              · obtain rfl : _ = o := Option.some.inj ho
                have HR := Lib.hid hR
                clear hR
                go_simp
                exact hK p wx (fun _ _ => rfl) HR.out
              · obtain rfl : _ = o := Option.some.inj ho
                have HR := Lib.hid hR
                clear hR
                go_simp
                exact hK p wx (fun _ _ => rfl) HR.out
              · obtain rfl : _ = o := Option.some.inj ho
                have HR := Lib.hid hR
                clear hR
                go_simp
                exact hK p wx (fun _ _ => rfl) HR.out
              · obtain rfl : _ = o := Option.some.inj ho
                have q := below_cell HC1.out hR
                have HR := Lib.hid hR
                clear hR
                go_simp
                exact hK p wx (fun _ _ => rfl) HR.out
              · obtain rfl : _ = o := Option.some.inj ho
                have HR := Lib.hid hR
                clear hR
                go_simp
                exact hK p wx (fun _ _ => rfl) HR.out
              · obtain rfl : _ = o := Option.some.inj ho
                have HR := Lib.hid hR
                clear hR
                go_simp
                exact hK p wx (fun _ _ => rfl) HR.out
              · obtain rfl : _ = o := Option.some.inj ho
                have HR := Lib.hid hR
                clear hR
                go_simp
                exact hK p wx (fun _ _ => rfl) HR.out
              · obtain rfl : _ = o := Option.some.inj ho
                have HR := Lib.hid hR
                clear hR
                go_simp
                exact hK p wx (fun _ _ => rfl) HR.out
              · obtain rfl : _ = o := Option.some.inj ho
                have q := below_cell HC2.out hR
                have HR := Lib.hid hR
                clear hR
                go_simp
                exact hK p wx (fun _ _ => rfl) HR.out
              · obtain rfl : _ = o := Option.some.inj ho
                have HR := Lib.hid hR
                clear hR
                go_simp
                exact hK p wx (fun _ _ => rfl) HR.out
              · obtain rfl : _ = o := Option.some.inj ho
                have HR := Lib.hid hR
                clear hR
                go_simp
                exact hK p wx (fun _ _ => rfl) HR.out
              · obtain rfl : _ = o := Option.some.inj ho
                have HR := Lib.hid hR
                clear hR
                go_simp
                exact hK p wx (fun _ _ => rfl) HR.out
              · obtain rfl : _ = o := Option.some.inj ho
                have HR := Lib.hid hR
                clear hR
                go_simp
                exact hK p wx (fun _ _ => rfl) HR.out
              · obtain rfl : _ = o := Option.some.inj ho
                have HR := Lib.hid hR
                clear hR
                go_simp
                exact hK p wx (fun _ _ => rfl) HR.out
              · obtain rfl : _ = o := Option.some.inj ho
                have q := below_cell HC2.out hR
                have HR := Lib.hid hR
                clear hR
                go_simp
                exact hK p wx (fun _ _ => rfl) HR.out
              · obtain rfl : _ = o := Option.some.inj ho
                have HR := Lib.hid hR
                clear hR
                go_simp
                refine (HMay.out wx pa pc m es HM.out (HRe.out.below (low_more HWa.out HR.out)) (by omega)).mono ?_; rintro e w5 ⟨rfl, hb5⟩
                rw [HMb.out]
                exact hK p w5 (fun _ _ => rfl) (low_more HR.out hb5)
              · obtain rfl : _ = o := Option.some.inj ho
                have HR := Lib.hid hR
                clear hR
                go_simp
                exact hK p wx (fun _ _ => rfl) HR.out
              · obtain rfl : _ = o := Option.some.inj ho
                have HR := Lib.hid hR
                clear hR
                go_simp
                exact hK p wx (fun _ _ => rfl) HR.out
              · simp at ho
            · intro p l wx hl hR
              have HWx := Lib.hid (low_more HWa.out hR)
              clear hl hR
              go_wp2_with fail
              go_ret
              exact ⟨by rw [HBad.out]; rfl, HWx.out⟩
    · obtain rfl : ix = tt := by omega
      have HYes := Lib.hid (show mayIB n L = true from decide_eq_true ⟨by omega, by rw [HN.out]; omega, fun j hj => (HOk.out j (by rw [← HN.out]; exact hj)).1, fun j hj => (HOk.out j (by rw [← HN.out]; exact hj)).2⟩)
      go_wp2_with fail
      go_ret
      exact ⟨by rw [HYes.out]; rfl, HW.out⟩
end Go.Proofs.Ytpmhkmakkeckkaa
