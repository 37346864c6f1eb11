/-
  A list of instructions as a program: its closure makes of a run what the words say. Over the program's own text.
-/
import Derived.Test.YtdmcnlkmfohmdaaStepC
namespace Go.Proofs.Ytdmcnlkmfohmdaa
open Go.RowKit

/-- Where an instruction reads or writes. -/
theorem addr_any (w : World) (op a v last : Int) (hv : U v) (hl : U last) :
    Calls Try.prog 22 #[.agg #[.int .i64 op, .int .i64 a, .int .u32 v], .int .u32 last] w fun e w' => e = .returned (.int .i64 (addrOf ⟨op, a, v⟩ last)) ∧ Below w.heap.size w w' := by
  obtain ⟨hv0, hv1⟩ := hv
  obtain ⟨hl0, hl1⟩ := hl
  by_cases h2 : op = 2
  · subst h2
    have hm := Int.emod_nonneg last (show v + 1 ≠ 0 by omega)
    have hm2 := Int.emod_lt_of_pos last (show 0 < v + 1 by omega)
    go_enter Try.func22, Try.ntmps22
    go_wp2
    go_ret
    exact ⟨rfl, below_one⟩
  · have e2 : (op == 2) = false := by simpa using h2
    have HE := Lib.hid (show addrOf ⟨op, a, v⟩ last = a by simp [addrOf, h2])
    rw [HE.out]
    clear HE h2
    go_enter Try.func22, Try.ntmps22
    go_wp2
    go_ret
    exact ⟨rfl, below_one⟩

/-- A list of instructions in memory, in a block that D allows. -/
structure InsAt (w : World) (D : Nat → Prop) (ao : Option Addr) (len : Nat) (E : Nat → Ins) : Prop where
  cell : ∀ i, i < len → ∃ b off, ao = some ⟨b, off, none⟩ ∧ D b ∧ b < w.heap.size ∧ w.cell? ⟨b, off + i * 3, none⟩ = some (.int .i64 (E i).op) ∧ w.cell? ⟨b, off + i * 3 + 1, none⟩ = some (.int .i64 (E i).a) ∧ w.cell? ⟨b, off + i * 3 + 2, none⟩ = some (.int .u32 (E i).v)
  v_u : ∀ i, U (E i).v

theorem InsAt.of_blocks {w w' : World} {D : Nat → Prop} {ao : Option Addr} {len : Nat} {E : Nat → Ins} (h : InsAt w D ao len E) (hs : w.heap.size ≤ w'.heap.size) (hb : ∀ k, D k → k < w.heap.size → w'.heap[k]? = w.heap[k]?) : InsAt w' D ao len E := by
  refine ⟨fun i hi => ?_, h.v_u⟩
  obtain ⟨b, off, h1, h2, h3, h4, h5, h6⟩ := h.cell i hi
  have e : ∀ o, w'.cell? ⟨b, o, none⟩ = w.cell? ⟨b, o, none⟩ := fun o => World.cell?_of_block (hb b h2 h3)
  exact ⟨b, off, h1, h2, by omega, (e _).trans h4, (e _).trans h5, (e _).trans h6⟩
theorem InsAt.mod {w w' : World} {D : Nat → Prop} {ao : Option Addr} {len : Nat} {E : Nat → Ins} (h : InsAt w D ao len E) {S : Nat → Prop} (hm : Mod S w w') (hS : ∀ k, D k → ¬ S k) : InsAt w' D ao len E :=
  h.of_blocks hm.size fun k hk hl => hm.block k hl (hS k hk)
theorem InsAt.below {w w' : World} {D : Nat → Prop} {ao : Option Addr} {len : Nat} {E : Nat → Ins} (h : InsAt w D ao len E) (hm : Below w.heap.size w w') : InsAt w' D ao len E :=
  h.of_blocks hm.size fun k _ hl => hm.block k hl

/-- Where the loop of a program's closure stands. -/
def ProgRel (rb mb cb : Nat) (w : World) (go : Option Nat) (E : Nat → Ins) (len B : Nat) (st0 : St) (last i : Value) (wr : World) : Prop :=
  ∃ (i' : Nat) (last' : Int) (st' : St) (go' : Option Nat), i' ≤ len ∧ i = .int .i64 i' ∧ last = .int .u32 last' ∧ U last' ∧ progN E (len - i') i' last' st' = progN E len 0 0 st0 ∧ st'.Ok B ∧ RM wr rb mb cb go' true st' ∧ Adv rb mb cb w go wr go'

set_option maxRecDepth 100000 in
set_option maxHeartbeats 1000000 in
theorem prog_any {w : World} {rb mb cb lb : Nat} {go : Option Nat} {st : St} {D : Nat → Prop} {ao : Option Addr} {len cap B : Nat} {E : Nat → Ins} (h : RM w rb mb cb go true st) (hB : B < 1000000000) (hok : st.Ok B) (hI : InsAt w D ao len E) (hlen : len ≤ 100)
    (hD : ∀ k, D k → ¬ Feet rb mb cb go k) (hlb : w.cell? ⟨lb, 0, none⟩ = some (.slice ao len cap)) :
    Calls Try.prog 27 #[.pointer (some ⟨rb, 0, none⟩), .pointer (some ⟨lb, 0, none⟩)] w fun e w' => e = .returned (.tuple #[]) ∧ ∃ go', RM w' rb mb cb go' true (progN E len 0 0 st) ∧ Adv rb mb cb w go w' go' := by
  have HI := Lib.hid hI
  have HD := Lib.hid hD
  have HR0 : Hid (ProgRel rb mb cb w go E len B st (.int .u32 0) (.int .i64 ((0 : Nat) : Int)) w) := Lib.hid ⟨0, 0, st, go, Nat.zero_le _, rfl, rfl, u_zero, by simp, hok, h, Adv.refl _ _ _ _ _⟩
  clear h hok hI hD
  go_enter Try.func27, Try.ntmps27
  go_wp2_with fail
  go_loopw [3, 8] (fun last i wr => ProgRel rb mb cb w go E len B st last i wr) (fun _ i _ => len - (intOf i).toNat)
  case atStart => exact HR0.out
  case round =>
    clear HR0
    obtain ⟨i, last, st1, go1, hi, rfl, rfl, hu, hp, hok, hr, hadv⟩ := hrel
    by_cases hlt : i < len
    · obtain ⟨b, off, rfl, _, _, c0, c1, c2⟩ := (HI.out.mod hadv.mod HD.out).cell i hlt
      obtain ⟨op, a, v, hx⟩ : ∃ op a v, E i = ⟨op, a, v⟩ := ⟨_, _, _, rfl⟩
      have hv : U v := by have := HI.out.v_u i; rw [hx] at this; exact this
      rw [hx] at c0 c1 c2
      have HX := Lib.hid hx
      obtain ⟨n, hn⟩ : ∃ n, len - i = n + 1 := ⟨len - i - 1, by omega⟩
      rw [hn] at hp
      have hn' : len - (i + 1) = n := by omega
      have HN := Lib.hid hn'
      have HP := Lib.hid hp
      have HO := Lib.hid hok
      have HV := Lib.hid hv
      have HU := Lib.hid hu
      have HR := Lib.hid hr
      have HA := Lib.hid hadv
      have hu0 := hu.1
      have hu1 := hu.2
      have hgt : decide ((100 : Int) < (i : Int)) = false := by simp; omega
      clear hx hn hn' hp hok hv hu hr hadv
      go_upto_region 4 with fail
      obtain ⟨wx, hwx⟩ : ∃ wx, wx = wr.alloc (.cells #[.int .i64 op, .int .i64 a, .int .u32 v] 51) := ⟨_, rfl⟩
      rw [show wr.alloc (.cells #[.int .i64 op, .int .i64 a, .int .u32 v] 51) = wx from hwx.symm]
      have hbx : Below wr.heap.size wr wx := by rw [hwx]; exact below_one
      have hX : wx.heap[wr.heap.size]? = some (.cells #[.int .i64 op, .int .i64 a, .int .u32 v] 51 (0, 0)) := by rw [hwx]; exact heap_alloc_new wr _
      have hr := HR.out.below hbx
      have hfar : ∀ k, Feet rb mb cb go1 k → k ≠ wr.heap.size := fun k hk e => by have := HR.out.lt k hk; omega
      have HA := Lib.hid (HA.out.trans (Adv.of_below hbx))
      obtain ⟨xb, hxb⟩ : ∃ xb, xb = wr.heap.size := ⟨_, rfl⟩
      rw [← hxb] at hX hfar ⊢
      clear HR hwx hbx hxb c0 c1 c2
      have c0 := cell_at hX 0
      have c1 := cell_at hX 1
      have c2 := cell_at hX 2
      have HXX := Lib.hid (And.intro hX hfar)
      clear hX hfar
      obtain ⟨cap1, hrun⟩ := hr.run
      have HR := Lib.hid hr
      clear hr
      by_cases hoff : st1.off = true
      · rw [hoff] at hrun
        go_wp2_with (go_at_call 28; refine (off_at hrun).mono ?_; rintro e w2 ⟨rfl, rfl⟩; clear hrun)
        go_end0
        refine ⟨rfl, go1, ?_, HA.out⟩
        rw [← HP.out]
        simp only [progN, hoff, if_true]
        exact HR.out
      · have hoff' : st1.off = false := by simpa using hoff
        have HF := Lib.hid hoff'
        rw [hoff'] at hrun
        clear hoff hoff'
        by_cases h4 : op = 4
        · subst h4
          by_cases hodd : last % 2 = 1
          · have ho : (last % 2 == 1) = true := by simpa using hodd
            have HD2 := Lib.hid hodd
            clear hodd
            go_wp2_with (go_at_call 28; refine (off_at hrun).mono ?_; rintro e w2 ⟨rfl, rfl⟩; clear hrun)
            go_end0
            refine ⟨rfl, go1, ?_, HA.out⟩
            rw [← HP.out]
            simp only [progN, HF.out, HX.out, HD2.out, Bool.false_eq_true, if_false, and_self, if_true]
            exact HR.out
          · have ho : (last % 2 == 1) = false := by simpa using hodd
            have HD2 := Lib.hid hodd
            clear hodd
            go_wp2_with (go_at_call 28; refine (off_at hrun).mono ?_; rintro e w2 ⟨rfl, rfl⟩; clear hrun)
            go_roundw
            case rel => exact ⟨i + 1, last, st1, go1, by omega, by go_num, rfl, HU.out, by rw [HN.out, ← HP.out]; simp [progN, HF.out, HX.out, HD2.out], HO.out, HR.out, HA.out⟩
            case measure => simp [intOf]; omega
        · have e4 : (op == 4) = false := by simpa using h4
          have H4 := Lib.hid h4
          clear h4
          by_cases h0 : op = 0
          · subst h0
            go_wp2_with (first
              | (go_at_call 28; refine (off_at hrun).mono ?_; rintro e w2 ⟨rfl, rfl⟩; clear hrun)
              | (go_at_call 22; refine (addr_any _ _ _ _ _ HV.out HU.out).mono ?_; rintro e w3 ⟨rfl, hb3⟩; have hr3 := HR.out.below hb3; have HA3 := Lib.hid (HA.out.trans (Adv.of_below hb3)); clear hb3 c0 c1 c2)
              | (go_at_call 29; refine (run_load hr3 hB HO.out _).mono ?_; rintro e w4 ⟨rfl, go4, hr4, ha4⟩; have HR4 := Lib.hid hr4; have HA4 := Lib.hid (HA3.out.trans ha4); clear hr3 hr4 ha4))
            go_roundw
            case rel => exact ⟨i + 1, _, _, go4, by omega, by go_num, rfl, (HO.out.load _).2, by rw [HN.out, ← HP.out]; simp [progN, HF.out, HX.out], (HO.out.load _).1, HR4.out, HA4.out⟩
            case measure => simp [intOf]; omega
          by_cases h2 : op = 2
          · subst h2
            go_wp2_with (first
              | (go_at_call 28; refine (off_at hrun).mono ?_; rintro e w2 ⟨rfl, rfl⟩; clear hrun)
              | (go_at_call 22; refine (addr_any _ _ _ _ _ HV.out HU.out).mono ?_; rintro e w3 ⟨rfl, hb3⟩; have hr3 := HR.out.below hb3; have HA3 := Lib.hid (HA.out.trans (Adv.of_below hb3)); clear hb3 c0 c1 c2)
              | (go_at_call 29; refine (run_load hr3 hB HO.out _).mono ?_; rintro e w4 ⟨rfl, go4, hr4, ha4⟩; have HR4 := Lib.hid hr4; have HA4 := Lib.hid (HA3.out.trans ha4); clear hr3 hr4 ha4))
            go_roundw
            case rel => exact ⟨i + 1, _, _, go4, by omega, by go_num, rfl, (HO.out.load _).2, by rw [HN.out, ← HP.out]; simp [progN, HF.out, HX.out], (HO.out.load _).1, HR4.out, HA4.out⟩
            case measure => simp [intOf]; omega
          by_cases h1 : op = 1
          · subst h1
            go_wp2_with (first
              | (go_at_call 28; refine (off_at hrun).mono ?_; rintro e w2 ⟨rfl, rfl⟩; clear hrun)
              | (go_at_call 30; refine (run_store HR.out hB HO.out _ _).mono ?_; rintro e w4 ⟨rfl, go4, hr4, ha4⟩; have HR4 := Lib.hid hr4; have HA4 := Lib.hid (HA.out.trans ha4); clear hr4 ha4 c0 c1 c2))
            go_roundw
            case rel => exact ⟨i + 1, last, _, go4, by omega, by go_num, rfl, HU.out, by rw [HN.out, ← HP.out]; simp [progN, HF.out, HX.out], HO.out.store _ _ HV.out, HR4.out, HA4.out⟩
            case measure => simp [intOf]; omega
          by_cases h3 : op = 3
          · subst h3
            go_wp2_with (first
              | (go_at_call 28; refine (off_at hrun).mono ?_; rintro e w2 ⟨rfl, rfl⟩; clear hrun)
              | (go_at_call 30; refine (run_store HR.out hB HO.out _ _).mono ?_; rintro e w4 ⟨rfl, go4, hr4, ha4⟩; have HR4 := Lib.hid hr4; have HA4 := Lib.hid (HA.out.trans ha4); clear hr4 ha4 c0 c1 c2))
            go_roundw
            case rel => exact ⟨i + 1, last, _, go4, by omega, by go_num, rfl, HU.out, by rw [HN.out, ← HP.out]; simp [progN, HF.out, HX.out], HO.out.store _ _ (u_wrap _), HR4.out, HA4.out⟩
            case measure => simp [intOf]; omega
          have e0 : (op == 0) = false := by simpa using h0
          have e1 : (op == 1) = false := by simpa using h1
          have e2 : (op == 2) = false := by simpa using h2
          have e3 : (op == 3) = false := by simpa using h3
          have HD2 := Lib.hid (And.intro h0 (And.intro h1 (And.intro h2 h3)))
          clear h0 h1 h2 h3
          go_wp2_with (go_at_call 28; refine (off_at hrun).mono ?_; rintro e w2 ⟨rfl, rfl⟩; clear hrun)
          go_roundw
          case rel => exact ⟨i + 1, last, st1, go1, by omega, by go_num, rfl, HU.out, by rw [HN.out, ← HP.out]; simp [progN, HF.out, HX.out, H4.out, HD2.out.1, HD2.out.2.1, HD2.out.2.2.1, HD2.out.2.2.2], HO.out, HR.out, HA.out⟩
          case measure => simp [intOf]; omega
    · go_wp2_with fail
      go_end0
      have e0 : len - i = 0 := by omega
      rw [e0] at hp
      exact ⟨rfl, go1, by rw [← hp]; exact hr, hadv⟩
end Go.Proofs.Ytdmcnlkmfohmdaa
