/-
  PROVED: the law MemApart returns true for every n, a and b. No condition.
-/
import Derived.Test.YtonckllhgnngdaaOps
import Derived.Test.YtonckllhgnngdaaMem1
import Derived.StillTailTactics
import Derived.Deep.CutBlock
import Derived.Deep.DeepCutAuto
namespace Go.Proofs.Ytonckllhgnngdaa.memApart
open Go.ChangeShapes Go.WideShapes Go.ChangeAt Go.RowKit

/-- Behind i rounds: three memories of the call's own, none of whose blocks is another one's; the first and the third hold the same. -/
def Rel (w : World) (x y z n i : Nat) (wr : World) : Prop := ∃ cs ds s t, MemAt wr (x + 1) x cs 0 s ∧ MemAt wr (y + 1) y ds 0 t ∧ MemAt wr (z + 1) z cs 0 s ∧ cs.length = n ∧ ds.length = n ∧
  0 ≤ s ∧ s ≤ i ∧ 0 ≤ t ∧ t ≤ i ∧ w.heap.size ≤ x ∧ x + 1 < y ∧ y + 1 < z ∧ Below w.heap.size w wr

/-- In the middle of round i: the first and the third may have been stored to once more. -/
def Mid (w : World) (x y z n i : Nat) (wr : World) : Prop := ∃ cs ds s t, MemAt wr (x + 1) x cs 0 s ∧ MemAt wr (y + 1) y ds 0 t ∧ MemAt wr (z + 1) z cs 0 s ∧ cs.length = n ∧ ds.length = n ∧
  0 ≤ s ∧ s ≤ i + 1 ∧ 0 ≤ t ∧ t ≤ i ∧ w.heap.size ≤ x ∧ x + 1 < y ∧ y + 1 < z ∧ Below w.heap.size w wr

theorem memAt_drew {w : World} {b c : Nat} {cs : List Int} {l s : Int} (h : MemAt w b c cs l s) : MemAt w.drew b c cs l s := ⟨h.rec_, h.row⟩

theorem Rel.draw {w : World} {x y z n i : Nat} {wr : World} (h : Rel w x y z n i wr) (m : Nat) : Rel w x y z n i (wr.drewN m) := by
  obtain ⟨cs, ds, s, t, h1, h2, h3, h4, h5, h6, h7, h8, h9, h10, h11, h12, h13⟩ := h
  exact ⟨cs, ds, s, t, ⟨h1.rec_, h1.row⟩, ⟨h2.rec_, h2.row⟩, ⟨h3.rec_, h3.row⟩, h4, h5, h6, h7, h8, h9, h10, h11, h12, below_drawn h13 m⟩

set_option maxHeartbeats 1500000 in
set_option maxRecDepth 100000 in
theorem walk_all (n : Int) (ao : Option Addr) (la ca : Nat) (E : Nat → OpOf) (bo : Option Addr) (lb cb : Nat) (D : Nat → OpOf) (w : World) (hn : 0 ≤ n) (hn' : n ≤ 255) (hops : OpsAt w ao la E) (hopsb : OpsAt w bo lb D) :
    Calls Try.prog 6 #[.int .u8 n, .slice ao la ca, .slice bo lb cb] w fun e w' => e = .returned (.bool true) ∧ Below w.heap.size w w' := by
  obtain ⟨k, rfl⟩ := Int.eq_ofNat_of_zero_le hn
  have hs1 := hops.short
  have hs2 := hopsb.short
  unfold maxLen at hs1 hs2
  go_enter Try.func6, Try.ntmps6
  go_wp2_with fail
  refine (new_int _ _ (by omega) (by omega)).mono ?_; rintro e w1 ⟨rfl, hm1, hb1⟩
  obtain ⟨x, hx⟩ : ∃ x, x = w.heap.size := ⟨_, rfl⟩
  have HX := Lib.hid hx
  rw [← hx] at hm1
  rw [← hx]
  clear hx
  go_wp2_with fail
  refine (new_int _ _ (by omega) (by omega)).mono ?_; rintro e w2 ⟨rfl, hm2, hb2⟩
  obtain ⟨y, hy⟩ : ∃ y, y = w1.heap.size := ⟨_, rfl⟩
  have HY := Lib.hid hy
  rw [← hy] at hm2
  rw [← hy]
  clear hy
  go_wp2_with fail
  refine (new_int _ _ (by omega) (by omega)).mono ?_; rintro e w3 ⟨rfl, hm3, hb3⟩
  obtain ⟨z, hz⟩ : ∃ z, z = w2.heap.size := ⟨_, rfl⟩
  have HZ := Lib.hid hz
  rw [← hz] at hm3
  rw [← hz]
  clear hz
  go_wp2_with fail
  refine (fixed_any _).mono ?_; rintro e w4 ⟨rfl, hb4⟩
  have hr : Rel w x y z (1 + k) 0 w4 :=
    ⟨_, _, _, _, ((hm1.below hb2).below hb3).below hb4, (hm2.below hb3).below hb4, hm3.below hb4, by simp; omega, by simp; omega, by omega, by omega, by omega, by omega, by have := HX.out; omega,
      by have := lt_of_heap hm1.rec_; have := HY.out; omega, by have := lt_of_heap hm2.rec_; have := HZ.out; omega, ((hb1.trans (hb2.mono hb1.size)).trans (hb3.mono (by have := hb1.size; have := hb2.size; omega))).trans (hb4.mono (by have := hb1.size; have := hb2.size; have := hb3.size; omega))⟩
  clear hm1 hm2 hm3 hb1 hb2 hb3 hb4
  go_upto_region 7 with fail
  go_cut [52, 53] (fun s52 s53 wx => ∃ N : Nat, N ≤ 300 ∧ s52 = .int .i64 N ∧ s53 = .int .i64 0 ∧ Rel w x y z (1 + k) 0 wx)
  case first =>
    go_wp2_with fail
    all_goals
      go_meet
      first | exact ⟨300, by omega, rfl, rfl, hr⟩ | exact ⟨la, by omega, rfl, rfl, hr⟩ | exact ⟨lb, by omega, rfl, rfl, hr⟩
  case rest =>
    obtain ⟨N, hN, rfl, rfl, hr⟩ := hcut
    go_wp2_with fail
    go_loopw [53] (fun i wr => ∃ i' : Nat, i' ≤ N ∧ i = .int .i64 i' ∧ Rel w x y z (1 + k) i' wr) (fun i _ => N - (intOf i).toNat)
    case atStart => exact ⟨0, by omega, rfl, hr⟩
    case round =>
      obtain ⟨i, hi, rfl, hrel⟩ := hrel
      by_cases hlt : i < N
      · by_cases ha : i < la
        all_goals first
          | (obtain ⟨b, off, rfl, hb, h0, h1, h2⟩ := hops.cell i ha
             obtain ⟨cs, ds, s, t, hmx, hmy, hmz, hcs, hds, hs0, hs1, ht0, ht1, hx0, hxy, hyz, hbel⟩ := hrel
             have h1' := (hbel.cell (p := ⟨b, off + i * 3 + 1, none⟩) hb).trans h1
             have h2' := (hbel.cell (p := ⟨b, off + i * 3 + 2, none⟩) hb).trans h2
             have hai : (i : Int) < (la : Int) := by omega
             have H12 := Lib.hid (And.intro h1 h2)
             clear h0 h1 h2
             go_wp2_with fail
             go_still_tail 11, (by kernel_rfl)
             change wpList _ _ _ _ _ wr.drew
             clear h1' h2'
             go_wp2_with fail
             refine (store_any (memAt_drew hmx) _ _ hs0 (by omega)).mono ?_; rintro e w5 ⟨rfl, hmx5, hx5⟩
             have hmy5 := (memAt_drew hmy).mod hx5 (by omega) (by omega)
             have hmz5 := (memAt_drew hmz).mod hx5 (by omega) (by omega)
             have hbel5 : Below w.heap.size w w5 := hbel.drew.trans (hx5.below hbel.drew.size (fun k hk h => by omega))
             clear hx5 hmx hmy hmz hbel
             have h1' := (hbel5.cell (p := ⟨b, off + i * 3 + 1, none⟩) hb).trans H12.out.1
             have h2' := (hbel5.cell (p := ⟨b, off + i * 3 + 2, none⟩) hb).trans H12.out.2
             go_wp2_with fail
             go_still_tail 11, (by kernel_rfl)
             change wpList _ _ _ _ _ w5.drew
             clear h1' h2'
             go_wp2_with fail
             refine (store_any (memAt_drew hmz5) _ _ hs0 (by omega)).mono ?_; rintro e w6 ⟨rfl, hmz6, hx6⟩
             have hR : Mid w x y z (1 + k) i w6 :=
               ⟨_, _, _, _, (memAt_drew hmx5).mod hx6 (by omega) (by omega), (memAt_drew hmy5).mod hx6 (by omega) (by omega), hmz6, by rw [length_putAt, hcs], hds, by have := cntAt_lo cs.length (E i).a s; omega, by have := cntAt_hi cs.length (E i).a s; omega, ht0, ht1, hx0, hxy, hyz,
                 hbel5.drew.trans (hx6.below hbel5.drew.size (fun k hk h => by omega))⟩
             clear hx6 hmx5 hmy5 hmz5 hmz6 hbel5
             go_upto_region 13 with fail)
          | (have hai : ¬ (i : Int) < (la : Int) := by omega
             obtain ⟨cs, ds, s, t, hmx, hmy, hmz, hcs, hds, hs0, hs1, ht0, ht1, hx0, hxy, hyz, hbel⟩ := hrel
             have hR : Mid w x y z (1 + k) i wr := ⟨cs, ds, s, t, hmx, hmy, hmz, hcs, hds, hs0, by omega, ht0, ht1, hx0, hxy, hyz, hbel⟩
             clear hmx hmy hmz hbel
             go_upto_region 13 with fail)
        all_goals
          obtain ⟨cs, ds, s, t, hmx, hmy, hmz, hcs, hds, hs0, hs1, ht0, ht1, hx0, hxy, hyz, hbel⟩ := hR
          by_cases hb2 : i < lb
        all_goals first
          | (obtain ⟨b2, off2, rfl, hbb, h0, h1, h2⟩ := hopsb.cell i hb2
             have h1' := (hbel.cell (p := ⟨b2, off2 + i * 3 + 1, none⟩) hbb).trans h1
             have h2' := (hbel.cell (p := ⟨b2, off2 + i * 3 + 2, none⟩) hbb).trans h2
             have hbi : (i : Int) < (lb : Int) := by omega
             clear h0 h1 h2
             go_wp2_with fail
             go_still_tail 11, (by kernel_rfl)
             change wpList _ _ _ _ _ (World.drew _)
             clear h1' h2'
             go_wp2_with fail
             refine (store_any (memAt_drew hmy) _ _ ht0 (by omega)).mono ?_; rintro e w7 ⟨rfl, hmy7, hx7⟩
             have hR : Rel w x y z (1 + k) (i + 1) w7 :=
               ⟨_, _, _, _, (memAt_drew hmx).mod hx7 (by omega) (by omega), hmy7, (memAt_drew hmz).mod hx7 (by omega) (by omega), hcs, by rw [length_putAt, hds], hs0, by omega, by have := cntAt_lo ds.length (D i).a t; omega, by have := cntAt_hi ds.length (D i).a t; omega, hx0, hxy, hyz,
                 hbel.drew.trans (hx7.below hbel.drew.size (fun k hk h => by omega))⟩
             clear hx7 hmx hmy hmz hmy7 hbel
             go_wp2_with fail
             go_roundw
             case rel => exact ⟨i + 1, by omega, by go_num, hR⟩
             case measure => simp [intOf]; omega)
          | (have hbi : ¬ (i : Int) < (lb : Int) := by omega
             have hR : Rel w x y z (1 + k) (i + 1) _ := ⟨cs, ds, s, t, hmx, hmy, hmz, hcs, hds, hs0, by omega, ht0, by omega, hx0, hxy, hyz, hbel⟩
             clear hmx hmy hmz hbel
             go_wp2_with fail
             go_roundw
             case rel => exact ⟨i + 1, by omega, by go_num, hR⟩
             case measure => simp [intOf]; omega)
      · obtain ⟨cs, ds, s, t, hmx, hmy, hmz, hcs, hds, hs0, hs1, ht0, ht1, hx0, hxy, hyz, hbel⟩ := hrel
        have hle : cs.length ≤ 65536 := by omega
        go_wp2_with fail
        refine (cells_at hmx hle).mono ?_; rintro e w8 ⟨rfl, hc8, hb8⟩
        have hmz8 := hmz.below hb8
        have hmx8 := hmx.below hb8
        go_wp2_with fail
        refine (cells_at hmz8 hle).mono ?_; rintro e w9 ⟨rfl, hc9, hb9⟩
        have hc8' := (hb9.block _ (lt_of_heap hc8)).trans hc8
        have hmz9 := hmz8.below hb9
        have hmx9 := hmx8.below hb9
        have hbel9 := (hbel.trans (hb8.mono hbel.size)).trans (hb9.mono (by have := hbel.size; have := hb8.size; omega))
        go_wp2_with fail
        refine (same_eq w9 _ _ (1 + k) cs _ _ hcs.symm (by omega) hc8' hc9).mono ?_; rintro e w10 ⟨rfl, hb10⟩
        have hmz10 := hmz9.below hb10
        have hmx10 := hmx9.below hb10
        go_wp2_with fail
        refine (stores_at hmx10).mono ?_; rintro e w11 ⟨rfl, rfl⟩
        go_wp2_with fail
        refine (stores_at hmz10).mono ?_; rintro e w12 ⟨rfl, rfl⟩
        go_wp2_with fail
        go_ret
        exact ⟨rfl, hbel9.trans (hb10.mono hbel9.size)⟩

set_option linter.unusedVariables false in
theorem walk {H : Type} {enc : TypeId × Value → H} (W : World) (args : Array Value) (ds : List (DataW H)) (hin : ArgsIn enc Try.prog Try.f6.params.toList W args ds) :
    Calls Try.prog 6 args W fun e W' => e = .returned (.bool true) ∧ Below W.heap.size W W' := by
  obtain ⟨⟨p, hA, hlt⟩, ⟨base, hval⟩, hsz⟩ := hin
  rw [Try.params6] at hA hval hsz
  obtain ⟨v0, vs0, d0, ds0, p0, q0, hargs, rfl, rfl, h0, r0⟩ := trodAll_cons hA
  obtain ⟨v1, vs1, d1, ds1, p1, q1, rfl, rfl, rfl, h1, r1⟩ := trodAll_cons r0
  obtain ⟨v2, vs2, d2, ds2, p2, q2, rfl, rfl, rfl, h2, r2⟩ := trodAll_cons r1
  obtain ⟨rfl, rfl, rfl⟩ := trodAll_nil r2
  obtain rfl : args = #[v0, v1, v2] := by cases args; simp_all
  obtain ⟨a0, rfl, rfl, rfl, w0⟩ := open_int Try.underlying5 (hval 0 5 v0 rfl rfl) h0
  obtain ⟨ao,la,ca,E,rfl,hops⟩ := open_ops (hval 1 23 v1 rfl rfl) h1
  obtain ⟨bo,lb,cb,D,rfl,hopsb⟩ := open_ops (hval 2 23 v2 rfl rfl) h2
  exact walk_all a0 ao la ca E bo lb cb D W (u8_lo w0) (u8_hi w0) hops hopsb

set_option maxRecDepth 100000 in
theorem proved : Rows.MemApartSaid :=
  OpenClaim.holds_of_wide 6 Try.f6 rfl rfl rfl rfl rfl rfl rfl ⟨rfl, rfl, rfl, rfl, rfl⟩ rfl rfl rfl rfl rfl (by kernel_rfl) Try.func6 (by kernel_rfl)
    (of_decide_eq_true (by kernel_rfl)) (by unfold Func.isWrapper; first | (rw [if_pos (by decide +kernel)]; kernel_rfl) | (rw [if_neg (by decide +kernel)]; exact ⟨rfl, rfl⟩))
    (fun os started H enc _ => law_lifted (s := Rows.memApartSpec) own started (by kernel_rfl) Try.func6 laidOut (by kernel_rfl) (by kernel_rfl) Try.underlying4 rfl
      (ChangeSpec.witness6 (enc := enc) (C := Try.checked) false ⟨#[], #[.int .u8 0, .slice none 0 0, .slice none 0 0], []⟩ 8 (by kernel_rfl) (by kernel_rfl) (by kernel_rfl) (by kernel_rfl))
      (fun ds h => match ds, h with | [_, _, _], _ => rfl) walk)
#print axioms proved
end Go.Proofs.Ytonckllhgnngdaa.memApart
