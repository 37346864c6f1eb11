/-
  PROVED: the law MemLast returns true for every n, ops, a, v. No condition.
-/
import Derived.Test.YtonckllhgnngdaaOps
import Derived.Test.YtonckllhgnngdaaMem1
import Derived.Deep.CutBlock
import Derived.Deep.DeepCutAuto
namespace Go.Proofs.Ytonckllhgnngdaa.memLast
open Go.ChangeShapes Go.WideShapes Go.ChangeAt Go.RowKit

/-- While the two copies are held against each other neither turns. -/
def Rel2 (w : World) (g1 g2 : Nat) (cs cs' : List Int) (wr : World) : Prop :=
  wr.heap[g1]? = some (.cells (cs.map (Value.int .u32)).toArray 34 (0, 0)) ∧ wr.heap[g2]? = some (.cells (cs'.map (Value.int .u32)).toArray 34 (0, 0)) ∧ Below w.heap.size w wr

theorem set_at (cs : List Int) (x : Nat) (v : Int) : ∀ i, i < cs.length → (cs.set x v)[i]? = some (if (i : Int) = (x : Int) then v else cs.getD i 0) := by
  intro i hi
  by_cases h : x = i
  · subst h; simp [hi]
  · have : ¬ (i : Int) = x := by omega
    simp [h, this, hi]
theorem set_out (cs : List Int) (a v : Int) (h : a < 0 ∨ (cs.length : Int) ≤ a) : ∀ i, i < cs.length → cs[i]? = some (if (i : Int) = a then v else cs.getD i 0) := by
  intro i hi
  have : ¬ (i : Int) = a := by omega
  simp [this, hi]

set_option maxHeartbeats 1000000 in
theorem walk_all (n : Int) (ao : Option Addr) (len cap : Nat) (E : Nat → OpOf) (a v : Int) (w : World) (hn : 0 ≤ n) (hn' : n ≤ 65535) (hops : OpsAt w ao len E) :
    Calls Try.prog 4 #[.int .u16 n, .slice ao len cap, .int .i64 a, .int .u32 v] w fun e w' => e = .returned (.bool true) ∧ Below w.heap.size w w' := by
  obtain ⟨k, rfl⟩ := Int.eq_ofNat_of_zero_le hn
  have hshort := hops.short
  unfold maxLen at hshort
  go_enter Try.func4, Try.ntmps4
  go_wp2_with fail
  refine (new_int _ _ (by omega) (by omega)).mono ?_; rintro e w1 ⟨rfl, hm1, hb1⟩
  go_wp2_with fail
  refine (fixed_any _).mono ?_; rintro e w2 ⟨rfl, hb2⟩
  have hm2 := hm1.below hb2
  have hr2 : Stored w (w.heap.size + 1) w.heap.size (1 + k) 0 w2 := ⟨_, _, hm2, by simp; omega, by omega, by omega, by omega, hb1.trans (hb2.mono hb1.size)⟩
  clear hm1 hb1 hm2 hb2
  go_upto_block 0 with fail
  go_cut [] (fun wx => ∃ j, Stored w (w.heap.size + 1) w.heap.size (1 + k) j wx)
  case first =>
    go_wp2_with fail
    go_loopw [34] (fun i wr => ∃ k' : Nat, k' ≤ len ∧ i = .int .i64 k' ∧ Stored w (w.heap.size + 1) w.heap.size (1 + k) k' wr) (fun i _ => len - (intOf i).toNat)
    case atStart => exact ⟨0, Nat.zero_le _, rfl, hr2⟩
    case round =>
      obtain ⟨j, hj, rfl, hrel⟩ := hrel
      by_cases hlt : j < len
      · obtain ⟨b, off, rfl, hb, h0, h1, h2⟩ := hops.cell j hlt
        obtain ⟨cs, s, hm, hcs, hs0, hs1, hi, hbel⟩ := hrel
        have h0' := (hbel.cell (p := ⟨b, off + j * 3, none⟩) hb).trans h0
        have h1' := (hbel.cell (p := ⟨b, off + j * 3 + 1, none⟩) hb).trans h1
        have h2' := (hbel.cell (p := ⟨b, off + j * 3 + 2, none⟩) hb).trans h2
        clear h0 h1 h2
        by_cases h3 : j ≤ 300
        · go_wp2_with fail
          refine (store_any ((hm.below ((Below.refl _ _).alloc (Nat.le_refl _) _))) _ _ hs0 (by omega)).mono ?_; rintro e w3 ⟨rfl, hm3, hx3⟩
          have hr3 : Stored w (w.heap.size + 1) w.heap.size (1 + k) (j + 1) w3 := by
            refine ⟨_, _, hm3, by rw [length_putAt, hcs], by have := cntAt_lo cs.length (E j).a s; omega, by have := cntAt_hi cs.length (E j).a s; omega, by omega, ?_⟩
            exact (hbel.alloc hbel.size _).trans (hx3.below (by have := hbel.size; simp; omega) (fun k hk h => by omega))
          clear hm hm3 hx3 hbel
          go_wp2_with fail
          go_roundw
          case rel => exact ⟨j + 1, by omega, by go_num, hr3⟩
          case measure => simp [intOf]; omega
        · go_wp2_with fail
          go_meet
          exact ⟨j, _, _, hm.below ((Below.refl _ _).alloc (Nat.le_refl _) _), hcs, hs0, hs1, hi, hbel.alloc hbel.size _⟩
      · go_wp2_with fail
        go_meet
        exact ⟨j, hrel⟩
  case rest =>
    obtain ⟨j, cs, s, hm, hcs, hs0, hs1, hi, hbel⟩ := hcut
    go_wp2_with fail
    refine (cells_at hm (by omega)).mono ?_; rintro e w3 ⟨rfl, hc3, hb3⟩
    go_wp2_with fail
    obtain ⟨g1, hg1⟩ : ∃ g, g = wc.heap.size := ⟨_, rfl⟩
    have hg1w : w.heap.size ≤ g1 := by have := hbel.size; omega
    have hm3 := hm.below hb3
    have hn1 : g1 ≠ w.heap.size ∧ g1 ≠ w.heap.size + 1 := by have := lt_of_heap hm.rec_; omega
    rw [← hg1] at hc3
    have hb3w := hbel.trans (hb3.mono hbel.size)
    rw [← hg1]
    have hlt3 := lt_of_heap hc3
    clear hg1 hb3 hm hbel
    rcases (show (0 ≤ a ∧ a < 1 + (k : Int)) ∨ (a < 0 ∨ 1 + (k : Int) ≤ a) by omega) with ha | ha
    all_goals first
      | (obtain ⟨ha0, ha1⟩ := ha
         obtain ⟨x, rfl⟩ := Int.eq_ofNat_of_zero_le ha0
         refine (store_in hm3 x v (by omega) hs0 (by omega)).mono ?_; rintro e w4 ⟨rfl, hm4, hx4⟩
         have hc4 : w4.heap[g1]? = _ := (hx4.block g1 hlt3 (by omega)).trans hc3
         have hb4 : Below w.heap.size w w4 := hb3w.trans (hx4.below hb3w.size (by intro k hk; omega))
         have hd : decide ((x : Int) < 1 + (k : Int)) = true := by simpa using ha1
         have heq := Lib.hid (set_at cs x v)
         clear hx4 hb3w hc3 hm3)
      | (refine (store_out hm3 a v (by omega)).mono ?_; rintro e w4 ⟨rfl, hw4⟩
         have hm4 := hm3
         have hc4 := hc3
         have hb4 := hb3w
         have heq := Lib.hid (set_out cs a v (by omega))
         subst w3
         have hd : decide (0 ≤ a) = true → decide (a < 1 + (k : Int)) = false := by simp; omega
         clear hb3w hc3 hm3)
    all_goals
      go_wp2_with fail
      refine (cells_at hm4 (by first | omega | (simp; omega))).mono ?_; rintro e w5 ⟨rfl, hc5, hb5⟩
      obtain ⟨g2, hg2⟩ : ∃ g, g = w4.heap.size := ⟨_, rfl⟩
      have hc4' := (hb5.block g1 (lt_of_heap hc4)).trans hc4
      have hb5' := hb4.trans (hb5.mono hb4.size)
      rw [← hg2] at hc5
      rw [← hg2]
      clear hg2 hb5 hb4 hc4 hm4
      go_wp2_with fail
    all_goals
      go_loopw [80] (fun i wr => ∃ i' : Nat, i' ≤ 1 + k ∧ i = .int .i64 i' ∧ Rel2 w g1 g2 cs _ wr) (fun i _ => (1 + k) - (intOf i).toNat)
      case atStart => exact ⟨0, by omega, rfl, hc4', hc5, hb5'⟩
      case round =>
        obtain ⟨i, hi, rfl, r1, r2, r3⟩ := hrel
        by_cases hlt : i < 1 + k
        · obtain ⟨y, hy⟩ : ∃ y, y = cs.getD i 0 := ⟨_, rfl⟩
          have e2 := heq.out i (by omega)
          rw [← hy] at e2
          have c1 : wr.cell? ⟨g1, i, none⟩ = some (.int .u32 y) := cell_u32 r1 (by rw [hy]; simp [show i < cs.length by omega])
          have c2 := cell_u32 r2 e2
          have HR := Lib.hid (And.intro r1 (And.intro r2 r3))
          have hlt1 : (i : Int) < 1 + (k : Int) := by omega
          clear r1 r2 r3 hy e2
          split at c2
          all_goals
            rename_i hia
            have HI := Lib.hid hia
          · first
              | (have b1 : ((i : Int) == (x : Int)) = true := by simp [hia]
                 have b2 : ((i : Int) != (x : Int)) = false := by simp [hia])
              | (have b1 : ((i : Int) == a) = true := by simp [hia]
                 have b2 : ((i : Int) != a) = false := by simp [hia])
            clear hia
            go_wp2_with fail
            go_quiet (fail)
            go_wp2_with fail
            go_roundw
            case rel => exact ⟨i + 1, by omega, by go_num, HR.out.1, HR.out.2.1, below_drawn HR.out.2.2 _⟩
            case measure => simp [intOf]; omega
          · first
              | (have b1 : ((i : Int) == (x : Int)) = false := by simp [hia]
                 have b2 : ((i : Int) != (x : Int)) = true := by simp [hia])
              | (have b1 : ((i : Int) == a) = false := by simp [hia]
                 have b2 : ((i : Int) != a) = true := by simp [hia])
            clear hia
            go_wp2_with fail
            go_quiet (fail)
            go_wp2_with fail
            go_roundw
            case rel => exact ⟨i + 1, by omega, by go_num, HR.out.1, HR.out.2.1, below_drawn HR.out.2.2 _⟩
            case measure => simp [intOf]; omega
        · go_wp2_with fail
          go_ret
          exact ⟨rfl, r3⟩
set_option linter.unusedVariables false in
theorem walk {H : Type} {enc : TypeId × Value → H} (W : World) (args : Array Value) (ds : List (DataW H)) (hin : ArgsIn enc Try.prog Try.f4.params.toList W args ds) :
    Calls Try.prog 4 args W fun e W' => e = .returned (.bool true) ∧ Below W.heap.size W W' := by
  obtain ⟨⟨p, hA, hlt⟩, ⟨base, hval⟩, hsz⟩ := hin
  rw [Try.params4] at hA hval hsz
  obtain ⟨v0, vs0, d0, ds0, p0, q0, hargs, rfl, rfl, h0, r0⟩ := trodAll_cons hA
  obtain ⟨v1, vs1, d1, ds1, p1, q1, rfl, rfl, rfl, h1, r1⟩ := trodAll_cons r0
  obtain ⟨v2, vs2, d2, ds2, p2, q2, rfl, rfl, rfl, h2, r2⟩ := trodAll_cons r1
  obtain ⟨v3, vs3, d3, ds3, p3, q3, rfl, rfl, rfl, h3, r3⟩ := trodAll_cons r2
  obtain ⟨rfl, rfl, rfl⟩ := trodAll_nil r3
  obtain rfl : args = #[v0, v1, v2, v3] := by cases args; simp_all
  obtain ⟨a0, rfl, rfl, rfl, w0⟩ := open_int Try.underlying22 (hval 0 22 v0 rfl rfl) h0
  obtain ⟨ao,len,cap,E,rfl,hops⟩ := open_ops (hval 1 23 v1 rfl rfl) h1
  obtain ⟨a2, rfl, rfl, rfl, w2⟩ := open_int Try.underlying3 (hval 2 3 v2 rfl rfl) h2
  obtain ⟨a3, rfl, rfl, rfl, w3⟩ := open_int Try.underlying34 (hval 3 34 v3 rfl rfl) h3
  exact walk_all a0 ao len cap E a2 a3 W (u16_lo w0) (u16_hi w0) hops

set_option maxRecDepth 100000 in
theorem proved : Rows.MemLastSaid :=
  OpenClaim.holds_of_wide 4 Try.f4 rfl rfl rfl rfl rfl rfl rfl ⟨rfl, rfl, rfl, rfl, rfl⟩ rfl rfl rfl rfl rfl (by kernel_rfl) Try.func4 (by kernel_rfl)
    (of_decide_eq_true (by kernel_rfl)) (by unfold Func.isWrapper; first | (rw [if_pos (by decide +kernel)]; kernel_rfl) | (rw [if_neg (by decide +kernel)]; exact ⟨rfl, rfl⟩))
    (fun os started H enc _ => law_lifted (s := Rows.memLastSpec) own started (by kernel_rfl) Try.func4 laidOut (by kernel_rfl) (by kernel_rfl) Try.underlying4 rfl
      (ChangeSpec.witness6 (enc := enc) (C := Try.checked) false ⟨#[], #[.int .u16 0, .slice none 0 0, .int .i64 0, .int .u32 0], []⟩ 8 (by kernel_rfl) (by kernel_rfl) (by kernel_rfl) (by kernel_rfl))
      (fun ds h => match ds, h with | [_, _, _, _], _ => rfl) walk)
#print axioms proved
end Go.Proofs.Ytonckllhgnngdaa.memLast
