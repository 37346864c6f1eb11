/-
  PROVED: the law MemCells returns true for every n and ops. No condition.
-/
import Derived.Test.YtonckllhgnngdaaOps
import Derived.Test.YtonckllhgnngdaaMem1
import Derived.Deep.CutBlock
import Derived.Deep.DeepCutAuto
namespace Go.Proofs.Ytonckllhgnngdaa.memCells
open Go.ChangeShapes Go.WideShapes Go.ChangeAt Go.RowKit

/-- While a copy is held against the memory: the memory stands but for its count, and from place i on so does the copy. -/
def Rel2 (w : World) (b c g n : Nat) (cs : List Int) (l s : Int) (i : Nat) (wr : World) : Prop :=
  MemAt wr b c cs (l + i) s ∧ g ≠ b ∧ g ≠ c ∧ w.heap.size ≤ g ∧ Below w.heap.size w wr ∧ ∃ ls : List Int, ls.length = n ∧ wr.heap[g]? = some (.cells (ls.map (Value.int .u32)).toArray 34 (0, 0)) ∧ ∀ t, i ≤ t → ls[t]? = cs[t]?
/-- Between the copies. -/
def Rel1 (w : World) (b c n : Nat) (s : Int) (j : Nat) (wr : World) : Prop := ∃ cs l, MemAt wr b c cs l s ∧ cs.length = n ∧ 0 ≤ l ∧ l ≤ j * n ∧ Below w.heap.size w wr

set_option maxHeartbeats 1000000 in
theorem walk_all (n : Int) (ao : Option Addr) (len cap : Nat) (E : Nat → OpOf) (w : World) (hn : 0 ≤ n) (hn' : n ≤ 255) (hops : OpsAt w ao len E) :
    Calls Try.prog 5 #[.int .u8 n, .slice ao len cap] w fun e w' => e = .returned (.bool true) ∧ Below w.heap.size w w' := by
  obtain ⟨k, rfl⟩ := Int.eq_ofNat_of_zero_le hn
  have hshort := hops.short
  unfold maxLen at hshort
  go_enter Try.func5, Try.ntmps5
  go_wp2_with fail
  refine (new_int _ _ (by omega) (by omega)).mono ?_; rintro e w1 ⟨rfl, hm1, hb1⟩
  go_wp2_with fail
  refine (fixed_any _).mono ?_; rintro e w2 ⟨rfl, hb2⟩
  have hm2 := hm1.below hb2
  have hr2 : Stored w (w.heap.size + 1) w.heap.size (1 + k) 0 w2 := ⟨_, _, hm2, by simp; omega, by omega, by omega, by omega, hb1.trans (hb2.mono hb1.size)⟩
  clear hm1 hb1 hm2 hb2
  go_upto_block 0 with fail
  go_cut [] (fun wx => ∃ j, Stored w (w.heap.size + 1) w.heap.size (1 + k) j wx)
  case first =>
    go_wp2_with fail
    go_loopw [30] (fun i wr => ∃ k' : Nat, k' ≤ len ∧ i = .int .i64 k' ∧ Stored w (w.heap.size + 1) w.heap.size (1 + k) k' wr) (fun i _ => len - (intOf i).toNat)
    case atStart => exact ⟨0, Nat.zero_le _, rfl, hr2⟩
    case round =>
      obtain ⟨j, hj, rfl, hrel⟩ := hrel
      by_cases hlt : j < len
      · obtain ⟨b, off, rfl, hb, h0, h1, h2⟩ := hops.cell j hlt
        obtain ⟨cs, s, hm, hcs, hs0, hs1, hi, hbel⟩ := hrel
        have h0' := (hbel.cell (p := ⟨b, off + j * 3, none⟩) hb).trans h0
        have h1' := (hbel.cell (p := ⟨b, off + j * 3 + 1, none⟩) hb).trans h1
        have h2' := (hbel.cell (p := ⟨b, off + j * 3 + 2, none⟩) hb).trans h2
        clear h0 h1 h2
        by_cases h3 : j ≤ 300
        · go_wp2_with fail
          refine (store_any ((hm.below ((Below.refl _ _).alloc (Nat.le_refl _) _))) _ _ hs0 (by omega)).mono ?_; rintro e w3 ⟨rfl, hm3, hx3⟩
          have hr3 : Stored w (w.heap.size + 1) w.heap.size (1 + k) (j + 1) w3 := by
            refine ⟨_, _, hm3, by rw [length_putAt, hcs], by have := cntAt_lo cs.length (E j).a s; omega, by have := cntAt_hi cs.length (E j).a s; omega, by omega, ?_⟩
            exact (hbel.alloc hbel.size _).trans (hx3.below (by have := hbel.size; simp; omega) (fun k hk h => by omega))
          clear hm hm3 hx3 hbel
          go_wp2_with fail
          go_roundw
          case rel => exact ⟨j + 1, by omega, by go_num, hr3⟩
          case measure => simp [intOf]; omega
        · go_wp2_with fail
          go_meet
          exact ⟨j, _, _, hm.below ((Below.refl _ _).alloc (Nat.le_refl _) _), hcs, hs0, hs1, hi, hbel.alloc hbel.size _⟩
      · go_wp2_with fail
        go_meet
        exact ⟨j, hrel⟩
  case rest =>
    obtain ⟨j, cs, s, hm, hcs, hs0, hs1, hi, hbel⟩ := hcut
    have hr1 : Rel1 w (w.heap.size + 1) w.heap.size (1 + k) s 0 wc := ⟨cs, 0, hm, hcs, by omega, by omega, hbel⟩
    clear hm hcs hbel
    go_wp2_with fail
    go_loopw [44] (fun i wr => ∃ k' : Nat, k' ≤ 2 ∧ i = .int .i64 k' ∧ Rel1 w (w.heap.size + 1) w.heap.size (1 + k) s k' wr) (fun i _ => 2 - (intOf i).toNat)
    case atStart => exact ⟨0, by omega, rfl, hr1⟩
    case round =>
      obtain ⟨j2, hj2, rfl, cs2, l2, hm2, hcs2, hl0, hl1, hbel2⟩ := hrel
      by_cases hlt : j2 < 2
      · go_wp2_with fail
        refine (cells_at hm2 (by omega)).mono ?_; rintro e w3 ⟨rfl, hc3, hb3⟩
        obtain ⟨g, hg⟩ : ∃ g, g = wr.heap.size := ⟨_, rfl⟩
        rw [← hg] at hc3
        rw [← hg]
        have hne1 : g ≠ w.heap.size + 1 := by have := lt_of_heap hm2.rec_; omega
        have hne2 : g ≠ w.heap.size := by have := lt_of_heap hm2.row; omega
        have hgw : w.heap.size ≤ g := by have := hbel2.size; omega
        have hr3 : Rel2 w (w.heap.size + 1) w.heap.size g (1 + k) cs2 l2 s 0 w3 :=
          ⟨by simpa using hm2.below hb3, hne1, hne2, hgw, hbel2.trans (hb3.mono hbel2.size), cs2, hcs2, hc3, fun _ _ => rfl⟩
        clear hb3 hc3 hg hm2 hbel2
        go_wp2_with fail
        go_loopw [54] (fun i wr => ∃ k' : Nat, k' ≤ 1 + k ∧ i = .int .i64 k' ∧ Rel2 w (w.heap.size + 1) w.heap.size g (1 + k) cs2 l2 s k' wr) (fun i _ => 1 + k - (intOf i).toNat)
        case atStart => exact ⟨0, by omega, rfl, hr3⟩
        case round =>
          obtain ⟨i, hi3, rfl, hm4, _, _, _, hbel4, ls, hls, hrow, hsame⟩ := hrel
          by_cases hlt4 : i < 1 + k
          · obtain ⟨z, hz⟩ : ∃ z, cs2[i]? = some z := ⟨_, List.getElem?_eq_getElem (by omega)⟩
            have hlsi : ls[i]? = some z := (hsame i (Nat.le_refl _)).trans hz
            have hlt5 : (i : Int) < 1 + (k : Int) := by omega
            have hl5 : l2 + (i : Int) < 1000000000 := by
              have : (j2 : Int) * ((1 + k : Nat) : Int) ≤ 1 * 256 := by
                refine Int.mul_le_mul (by omega) (by omega) (by omega) (by omega)
              omega
            go_wp2_with fail
            refine (load_z hm4 i z hz (by omega) hl5).mono ?_; rintro e w5 ⟨rfl, hm5, hx5⟩
            have hrow5 := (hx5.block g (lt_of_heap hrow) (by assumption)).trans hrow
            have hbel5 : Below w.heap.size w w5 := hbel4.trans (hx5.below hbel4.size (fun k hk h => by omega))
            have hcell := cell_u32 hrow5 hlsi
            have hfree := free_at hrow5 i
            have HR := Lib.hid (And.intro hrow5 (And.intro hbel5 hm5))
            have HS := Lib.hid hsame
            clear hrow5 hbel5 hm5 hx5 hm4 hbel4 hrow hsame hz hlsi
            go_wp2_with fail
            go_roundw
            case rel =>
              obtain ⟨hrow5, hbel5, hm5⟩ := HR.out
              refine ⟨i + 1, by omega, by go_num, ?_, by assumption, by assumption, by assumption, hbel5.setCell (by assumption) _, _, ?_, row_set hrow5 i _, ?_⟩
              · rw [show l2 + ((i + 1 : Nat) : Int) = l2 + i + 1 by omega]
                exact hm5.mod (Mod.setCell (S := fun k => k = g) (Mod.refl _ _) (.inr rfl) _) (by omega) (by omega)
              · simpa using hls
              · intro t ht
                rw [List.getElem?_set_ne (by omega)]
                exact HS.out t (by omega)
            case measure => simp [intOf]; omega
          · go_wp2_with fail
            go_roundw
            case rel =>
              have : ((j2 + 1 : Nat) : Int) * ((1 + k : Nat) : Int) = (j2 : Int) * ((1 + k : Nat) : Int) + ((1 + k : Nat) : Int) := by rw [Int.natCast_add, Int.add_mul]; omega
              exact ⟨j2 + 1, by omega, by go_num, cs2, _, hm4, hcs2, by omega, by omega, hbel4⟩
            case measure => simp [intOf]; omega
      · go_wp2_with fail
        go_ret
        exact ⟨rfl, hbel2⟩

set_option linter.unusedVariables false in
theorem walk {H : Type} {enc : TypeId × Value → H} (W : World) (args : Array Value) (ds : List (DataW H)) (hin : ArgsIn enc Try.prog Try.f5.params.toList W args ds) :
    Calls Try.prog 5 args W fun e W' => e = .returned (.bool true) ∧ Below W.heap.size W W' := by
  obtain ⟨⟨p, hA, hlt⟩, ⟨base, hval⟩, hsz⟩ := hin
  rw [Try.params5] at hA hval hsz
  obtain ⟨v0, vs0, d0, ds0, p0, q0, hargs, rfl, rfl, h0, r0⟩ := trodAll_cons hA
  obtain ⟨v1, vs1, d1, ds1, p1, q1, rfl, rfl, rfl, h1, r1⟩ := trodAll_cons r0
  obtain ⟨rfl, rfl, rfl⟩ := trodAll_nil r1
  obtain rfl : args = #[v0, v1] := by cases args; simp_all
  obtain ⟨a0, rfl, rfl, rfl, w0⟩ := open_int Try.underlying5 (hval 0 5 v0 rfl rfl) h0
  obtain ⟨ao,len,cap,E,rfl,hops⟩ := open_ops (hval 1 23 v1 rfl rfl) h1
  exact walk_all a0 ao len cap E W (u8_lo w0) (u8_hi w0) hops

set_option maxRecDepth 100000 in
theorem proved : Rows.MemCellsSaid :=
  OpenClaim.holds_of_wide 5 Try.f5 rfl rfl rfl rfl rfl rfl rfl ⟨rfl, rfl, rfl, rfl, rfl⟩ rfl rfl rfl rfl rfl (by kernel_rfl) Try.func5 (by kernel_rfl)
    (of_decide_eq_true (by kernel_rfl)) (by unfold Func.isWrapper; first | (rw [if_pos (by decide +kernel)]; kernel_rfl) | (rw [if_neg (by decide +kernel)]; exact ⟨rfl, rfl⟩))
    (fun os started H enc _ => law_lifted (s := Rows.memCellsSpec) own started (by kernel_rfl) Try.func5 laidOut (by kernel_rfl) (by kernel_rfl) Try.underlying4 rfl
      (ChangeSpec.witness6 (enc := enc) (C := Try.checked) false ⟨#[], #[.int .u8 0, .slice none 0 0], []⟩ 8 (by kernel_rfl) (by kernel_rfl) (by kernel_rfl) (by kernel_rfl))
      (fun ds h => match ds, h with | [_, _], _ => rfl) walk)
#print axioms proved
end Go.Proofs.Ytonckllhgnngdaa.memCells
