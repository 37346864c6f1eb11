/-
  What the program's functions of layer 10 keep: a tail, and a key looked for (two loops, the inner one left by a label). Over the program's own text.
  What the program's Find of layer 10 keeps: two loops, the inner one left by a label. Over the program's own text.
  What the program's Read of layer 10 keeps: a row of cells filled by loads, and its bytes. Over the program's own text.
  What the program's Put of layer 10 keeps: a record is taken, its cells stored, its slot last. Over the program's own text.
  What package dict's landed code keeps: a key is looked for as the program findR does. Over the program's own text.
-/
import Derived.Test.YteliaammffmmiaaDictKept
import Derived.Test.YteliaammffmmiaaAccRest
import Derived.Test.YteliaammffmmiaaPackWide
import Derived.Deep.LoopGhost
import Derived.WalkMore
import Derived.Test.YteliaammffmmiaaPackLands
import Derived.StillTailTactics
import Derived.Deep.WholeRow
namespace Go.Proofs.Yteliaammffmmiaa
open Go.RowKit

section
variable {w : World} {rb mb cb : Nat} {go : Option Nat} {st : St} {Bd : Nat}
theorem tail_any (a : Int) (hrm : RM w rb mb cb go true st) (hf : st.Fine Bd) (hB : Bd < 1000000000) :
    Calls Try.prog 23 #[.pointer (some ⟨rb, 0, none⟩), .int .i64 a] w fun e w' => ∃ t go', e = .returned (.int .i64 t) ∧ RM w' rb mb cb go' true ((tailR a).on st).2 ∧ Adv rb mb cb w go w' go' ∧ ∀ x, ((tailR a).on st).1 = some x → x = t := by
  have HR := Lib.hid (RunW.start hrm)
  have HF := Lib.hid hf
  have HQ := Lib.hid (Rest.start (tailR a) st)
  clear hrm hf
  go_enter Try.func23, Try.ntmps23
  go_wp2_with fail
  refine (run_load HR.out.rm hB HF.out.ok a).mono ?_; rintro e w2 ⟨rfl, go2, hr2, ha2⟩
  have HR := Lib.hid (HR.out.access hr2 ha2)
  have hq := HQ.out
  unfold tailR at hq
  have hq2 := (hq.load HF.out).ret
  have hu := (HF.out.ok.load a).2
  obtain ⟨y, hy⟩ : ∃ y, y = (st.load a).1 := ⟨_, rfl⟩
  obtain ⟨st2, hst2⟩ : ∃ s, s = (st.load a).2 := ⟨_, rfl⟩
  rw [← hst2] at HR hq2
  rw [← hy] at hq2 hu ⊢
  have s1 : IntKind.i64.wrap y = y := IntWalk.i64_in _ (by unfold U at hu; omega)
  have HQ := Lib.hid hq2
  clear hr2 ha2 hq hq2 hy hst2 hu
  go_wp2_with fail
  go_ret
  have hq := HQ.out
  unfold Ended at hq
  have hrm := HR.out.rm
  rw [← hq.1] at hrm
  exact ⟨y, go2, rfl, hrm, HR.out.adv, hq.2⟩
theorem setTail_any (a t : Int) (hrm : RM w rb mb cb go true st) (hf : st.Fine Bd) (hB : Bd < 1000000000) (h0 : 0 ≤ t) (h1 : t ≤ 4294967295) :
    Calls Try.prog 21 #[.pointer (some ⟨rb, 0, none⟩), .int .i64 a, .int .i64 t] w fun e w' => ∃ go', e = .returned (.tuple #[]) ∧ RM w' rb mb cb go' true ((setTailR a t).on st).2 ∧ Adv rb mb cb w go w' go' := by
  have HR := Lib.hid (RunW.start hrm)
  have HF := Lib.hid hf
  have HQ := Lib.hid (Rest.start (setTailR a t) st)
  have s1 : IntKind.u32.wrap t = t := IntWalk.u32_in _ (by omega)
  have HU := Lib.hid (show u32 t = t from s1)
  clear hrm hf
  go_enter Try.func21, Try.ntmps21
  go_wp2_with fail
  refine (run_store HR.out.rm hB HF.out.ok a t).mono ?_; rintro e w2 ⟨rfl, go2, hr2, ha2⟩
  have HR := Lib.hid (HR.out.access hr2 ha2)
  have hq := HQ.out
  unfold setTailR at hq
  have hq2 := (hq.store HF.out).ret
  rw [HU.out] at hq2
  have HQ := Lib.hid hq2
  clear hr2 ha2 hq hq2
  go_wp2_with fail
  go_end0
  have hq := HQ.out
  unfold Ended at hq
  have hrm := HR.out.rm
  rw [← hq.1] at hrm
  exact ⟨go2, rfl, hrm, HR.out.adv⟩
end

/-! ### A run, and a row of numbers beside it that is only read -/
structure CW (W : World) (rb mb cb : Nat) (go0 : Option Nat) (oa : Option Addr) (l : List Nat) (st : St) (go : Option Nat) (w : World) : Prop where
  run : RunW W rb mb cb go0 st go w
  read : ReadN .u32 w oa l
  far : ∀ (g o : Nat), oa = some ⟨g, o, none⟩ → ¬ Feet rb mb cb go g
section
variable {W w w' : World} {rb mb cb : Nat} {go0 go go' : Option Nat} {oa : Option Addr} {l : List Nat} {st st' : St}
theorem read_kept (h : ReadN .u32 w oa l) (hb : ∀ g o, oa = some ⟨g, o, none⟩ → g < w.heap.size → w'.heap[g]? = w.heap[g]?) : ReadN .u32 w' oa l := by
  intro j x hj
  obtain ⟨g, o, e, hc⟩ := h j x hj
  refine ⟨g, o, e, ?_⟩
  have := hb g o e (lt_of_cell hc)
  unfold World.cell? at hc ⊢
  simp only at hc ⊢
  rw [this]
  exact hc
theorem CW.below (h : CW W rb mb cb go0 oa l st go w) (hb : Below w.heap.size w w') : CW W rb mb cb go0 oa l st go w' := ⟨h.run.below hb, h.read.below hb, h.far⟩
theorem CW.access (h : CW W rb mb cb go0 oa l st go w) (hl : ∀ g o, oa = some ⟨g, o, none⟩ → g < w.heap.size) (hr : RM w' rb mb cb go' true st') (ha : Adv rb mb cb w go w' go') : CW W rb mb cb go0 oa l st' go' w' :=
  ⟨h.run.access hr ha, read_kept h.read fun g o e hg => ha.mod.block g hg (h.far g o e), fun g o e => (ha.advS (fun _ => False)).apart (hl g o e) (h.far g o e)⟩
end
/-- A row that was made within the call. -/
theorem CW.start {W w w1 : World} {rb mb cb : Nat} {go0 : Option Nat} {st : St} {v : Value} {l : List Nat} (hr : RunW W rb mb cb go0 st go0 w) (hg : RM W rb mb cb go0 true st) (hb : Below w.heap.size w w1) (hz : W.heap.size ≤ w.heap.size) (ho : OwnN 52 .u32 w1 w.heap.size v l) {n : Nat} (hn : l.length = n) :
    ∃ oa c, v = .slice oa n c ∧ n ≤ c ∧ c ≤ maxLen ∧ (oa = none → c = 0) ∧ CW W rb mb cb go0 oa l st go0 w1 ∧ ∀ g o, oa = some ⟨g, o, none⟩ → g < w1.heap.size := by
  obtain ⟨oa, c, hv, h1, h2, h3, h4⟩ := ho.reads_of n hn
  have hblk : ∀ g o, oa = some ⟨g, o, none⟩ → w.heap.size ≤ g ∧ g < w1.heap.size := by
    intro g o e
    obtain ⟨h0, ⟨h, _⟩ | ⟨g', cap, cur, k1, k2, k3, k4⟩⟩ := ho
    · rw [hv] at h
      cases h
      cases e
    · rw [hv, e] at k1
      cases k1
      exact ⟨k2, lt_of_heap k3⟩
  refine ⟨oa, c, hv, h1, h2, h3, ⟨hr.below hb, h4, fun g o e hf => ?_⟩, fun g o e => (hblk g o e).2⟩
  have := (hblk g o e).1
  have := hg.lt g hf
  omega

/-! ### Find -/
theorem home_any (w : World) (key : ByteArray) (n : Nat) (hk : key.size ≤ reachBytes) (h0 : 1 ≤ n) (h1 : n ≤ 1000000) : Calls Try.prog 35 #[.string key, .int .i64 (n : Int)] w fun e w' => e = .returned (.int .i64 ((hashN (bytesL key) % n : Nat) : Int)) ∧ w' = w := by
  have HH := Lib.hid (wide_hash w key (by unfold reachBytes at hk; omega))
  have hh := hash_lt (bytesL key)
  obtain ⟨h, hE⟩ : ∃ h, h = hashN (bytesL key) := ⟨_, rfl⟩
  rw [← hE] at HH hh ⊢
  obtain ⟨r, hr⟩ : ∃ r, r = h % n := ⟨_, rfl⟩
  have hrn : r < n := by rw [hr]; exact Nat.mod_lt _ (by omega)
  have k1 : IntKind.u64.wrap (h : Int) = (h : Int) := IntWalk.u64_in _ (by omega)
  have k2 : IntKind.u64.wrap (n : Int) = (n : Int) := IntWalk.u64_in _ (by omega)
  have r1 : (h : Int) % (n : Int) = (r : Int) := by omega
  have r2 : (h : Int).tmod (n : Int) = (r : Int) := by rw [Int.tmod_eq_emod_of_nonneg (by omega)]; exact r1
  have k3 : IntKind.u64.wrap (r : Int) = (r : Int) := IntWalk.u64_in _ (by omega)
  have k4 : IntKind.i64.wrap (r : Int) = (r : Int) := IntWalk.i64_in _ (by omega)
  have kz : ((n : Int) == 0) = false := by simpa using (show n ≠ 0 by omega)
  rw [← hr]
  clear hE hr hk
  go_enter Try.func35, Try.ntmps35
  go_wp2_with fail
  refine HH.out.mono ?_; rintro e w1 ⟨rfl, rfl⟩
  go_wp2_with fail
  go_ret
  exact ⟨rfl, rfl⟩
theorem findR_pos (s : Int) (m : Nat) (k : List Nat) (hm : 1 ≤ m) : findR s (m : Int) k = fR s m k m 0 := by
  unfold findR
  rw [if_neg (by omega), Int.toNat_natCast]
theorem ret_ro {α : Type} (x : α) : (Pr.ret x).RO := trivial
theorem cmpR_ro {α : Type} {yes no : Pr α} (hy : yes.RO) (hn : no.RO) : ∀ (l : List Nat) (x : Int), (cmpR yes no l x).RO
  | [], _ => hy
  | c :: l, x => fun v => by
    show (if v = (c : Int) then cmpR yes no l (x + 1) else no).RO
    split
    · exact cmpR_ro hy hn l _
    · exact hn
theorem fR_ro (s : Int) (n : Nat) (k : List Nat) : ∀ (m t : Nat), (fR s n k m t).RO
  | 0, _ => trivial
  | m + 1, t => fun v => by
    show (if v = 0 then Pr.ret (0, (slotOf n (hashN k) t : Nat)) else .load (v + 1) fun l => if l = ((k.length % 4294967296 : Nat) : Int) then cmpR (.ret (v, (slotOf n (hashN k) t : Nat))) (fR s n k m (t + 1)) (cellsN k) (v + 2) else fR s n k m (t + 1) : Pr (Int × Int)).RO
    split
    · trivial
    · intro l
      show (if l = ((k.length % 4294967296 : Nat) : Int) then cmpR (.ret (v, (slotOf n (hashN k) t : Nat))) (fR s n k m (t + 1)) (cellsN k) (v + 2) else fR s n k m (t + 1) : Pr (Int × Int)).RO
      split
      · exact cmpR_ro (ret_ro _) (fR_ro s n k m (t + 1)) _ _
      · exact fR_ro s n k m (t + 1)
theorem findR_ro (s n : Int) (k : List Nat) : (findR s n k).RO := by
  unfold findR
  split
  · trivial
  · exact fR_ro _ _ _ _ _
theorem slot_next (n h t : Nat) : (slotOf n h t + 1) % n = slotOf n h (t + 1) := by
  unfold slotOf
  rw [Nat.mod_add_mod, Nat.add_assoc]
end Go.Proofs.Yteliaammffmmiaa

namespace Go.Proofs.Yteliaammffmmiaa
open Go.RowKit

/-- What a Find must come to. -/
def FindDone (W : World) (rb mb cb : Nat) (go0 : Option Nat) (st : St) (p : Pr (Int × Int)) (e : Ending) (w' : World) : Prop :=
  ∃ a k go', e = .returned (.tuple #[.int .i64 a, .int .i64 k]) ∧ RM w' rb mb cb go' true (p.on st).2 ∧ Adv rb mb cb W go0 w' go' ∧ ∀ x, (p.on st).1 = some x → x.1 = a ∧ x.2 = k
theorem FindDone.of {W w' : World} {rb mb cb : Nat} {go0 go' : Option Nat} {st st' : St} {p : Pr (Int × Int)} {a k : Int} (hr : RunW W rb mb cb go0 st' go' w') (hq : Ended p (a, k) st st') : FindDone W rb mb cb go0 st p (.returned (.tuple #[.int .i64 a, .int .i64 k])) w' := by
  unfold Ended at hq
  have := hr.rm
  rw [← hq.1] at this
  exact ⟨a, k, go', rfl, this, hr.adv, fun x hx => by rw [hq.2 x hx]; exact ⟨rfl, rfl⟩⟩
section
variable {w : World} {rb mb cb : Nat} {go : Option Nat} {st : St} {Bd : Nat}
set_option maxRecDepth 100000 in
set_option maxHeartbeats 4000000 in
theorem find_any (s : Int) (n : Nat) (key : ByteArray) (hrm : RM w rb mb cb go true st) (hf : st.Fine Bd) (hB : Bd < 1000000000) (hs0 : 0 ≤ s) (hs1 : s ≤ 1000000) (hn0 : 1 ≤ n) (hn1 : n ≤ 1000000) (hk : key.size ≤ reachBytes) :
    Calls Try.prog 15 #[.pointer (some ⟨rb, 0, none⟩), .int .i64 s, .int .i64 (n : Int), .string key] w fun e w' => FindDone w rb mb cb go st (findR s (n : Int) (bytesL key)) e w' := by
  have HR := Lib.hid (RunW.start hrm)
  have HRM := Lib.hid hrm
  have HF := Lib.hid hf
  obtain ⟨p, hp⟩ : ∃ p, p = findR s (n : Int) (bytesL key) := ⟨_, rfl⟩
  have hq := Rest.start p st
  have hp2 := hp
  rw [findR_pos s n _ hn0] at hp2
  have HQ := Lib.hid (show Rest p (fR s n (bytesL key) n 0) st st from hq.same hp2)
  rw [← hp]
  have HC := Lib.hid (fun w => wide_cells w key (by unfold reachBytes at hk; omega))
  have HH := Lib.hid (fun w => home_any w key n hk hn0 hn1)
  obtain ⟨h, hh⟩ : ∃ h, h = hashN (bytesL key) := ⟨_, rfl⟩
  have hz : hashN (bytesL key) % n = slotOf n h 0 := by rw [← hh]; unfold slotOf; rw [Nat.add_zero]
  rw [hz] at HH
  obtain ⟨cl, hcl⟩ : ∃ cl, cl = (cellsN (bytesL key)).length := ⟨_, rfl⟩
  have hcl1 : cl ≤ 100000000000000 := by rw [hcl, cellsN_length, bytesL_length]; unfold reachBytes at hk; omega
  have kz : (key.size : Int) ≤ 9223372036854775807 := reach_int hk
  have kw : IntKind.u32.wrap (key.size : Int) = ((key.size % 4294967296 : Nat) : Int) := by
    simp [IntKind.wrap, IntKind.signed, IntKind.bits]
  obtain ⟨kl, hkl⟩ : ∃ kl, kl = key.size % 4294967296 := ⟨_, rfl⟩
  rw [← hkl] at kw
  have HL := Lib.hid (And.intro hcl (show ((bytesL key).length % 4294967296 : Nat) = kl by rw [bytesL_length, hkl]))
  have HHash := Lib.hid hh
  have nz : ((n : Int) == 0) = false := by simpa using (show n ≠ 0 by omega)
  have HSl := Lib.hid (fun t => slotOf_lt (show 0 < n by omega) h t)
  have n1 : ¬ (n : Int) < 1 := by omega
  clear hrm hf hq hp hp2 hh hz hcl hkl hk
  go_enter Try.func15, Try.ntmps15
  go_wp2_with fail
  go_step3
  go_wp2_with fail
  refine (HC.out _).mono ?_; rintro e w1 ⟨v, rfl, hown, hb⟩
  obtain ⟨oa, cp, rfl, hc1, hc2, hc3, hcw, hcb⟩ := CW.start HR.out HRM.out hb (Nat.le_refl _) hown HL.out.1.symm
  have HC := Lib.hid hcw
  have HCB := Lib.hid hcb
  clear hown hb hcw hcb HR
  go_wp2_with fail
  go_step3
  go_wp2_with fail
  refine (HH.out _).mono ?_; rintro e w2 ⟨rfl, rfl⟩
  clear HH
  go_wp2_with fail
  go_loopg [11, 12] n (fun g iv sv wr => ∃ (t : Nat) (st1 : St) (go1 : Option Nat), t + g = n ∧ iv = .int .i64 (t : Int) ∧ sv = .int .i64 ((slotOf n h t : Nat) : Int) ∧ Hid (CW w rb mb cb go oa (cellsN (bytesL key)) st1 go1 wr) ∧ Hid (∀ g o, oa = some ⟨g, o, none⟩ → g < wr.heap.size) ∧ Hid (st1.Fine Bd) ∧ Hid (Rest p (fR s n (bytesL key) g t) st st1))
  case atStart => exact ⟨0, st, go, by omega, rfl, rfl, HC, HCB, HF, HQ⟩
  case round =>
    clear HC HCB HF HQ
    obtain ⟨t, st1, go1, htg, rfl, rfl, HC, HCB, HF, HQ⟩ := hrel
    cases gk with
    | zero =>
      have htn : t = n := by omega
      subst htn
      have HE := Lib.hid (HQ.out.ret)
      clear htg
      go_wp2_with fail
      try rw [Exit.noGoto_ret]
      go_ret2
      exact FindDone.of HC.out.run HE.out
    | succ g =>
      have htn : t < n := by omega
      have htn1 : (t : Int) < (n : Int) := by omega
      have hsl := HSl.out t
      obtain ⟨sl, hsl2⟩ : ∃ sl, sl = slotOf n h t := ⟨_, rfl⟩
      have hq := HQ.out
      unfold fR at hq
      rw [← HHash.out, ← hsl2] at hq
      have HQ2 := Lib.hid (hq.load HF.out)
      rw [← hsl2] at hsl ⊢
      have s1 : IntKind.i64.wrap (s + (sl : Int)) = s + (sl : Int) := IntWalk.i64_in _ (by omega)
      have HNX := Lib.hid (show (sl + 1) % n = slotOf n h (t + 1) by rw [hsl2]; exact slot_next n h t)
      clear hq hsl2 HQ
      go_wp2_with fail
      refine (run_load HC.out.run.rm hB HF.out.ok (s + (sl : Int))).mono ?_; rintro e w3 ⟨rfl, go3, hr3, ha3⟩
      have HC3 := Lib.hid (HC.out.access HCB.out hr3 ha3)
      have HCB3 := Lib.hid (fun g o e => Nat.lt_of_lt_of_le (HCB.out g o e) ha3.mod.size)
      have hu := (HF.out.ok.load (s + (sl : Int))).2
      have HF3 := Lib.hid (HF.out.load (s + (sl : Int)))
      clear hr3 ha3 HC HCB
      obtain ⟨st3, hst3⟩ : ∃ x, x = (st1.load (s + (sl : Int))).2 := ⟨_, rfl⟩
      obtain ⟨a, ha⟩ : ∃ x, x = (st1.load (s + (sl : Int))).1 := ⟨_, rfl⟩
      rw [← hst3] at HC3 HF3 HQ2
      rw [← ha] at HQ2 hu ⊢
      unfold U at hu
      obtain ⟨hu0, hu1⟩ := hu
      have s2 : IntKind.i64.wrap a = a := IntWalk.i64_in _ (by omega)
      clear hst3 ha HF
      by_cases ha0 : a = 0
      · have hq := HQ2.out
        rw [if_pos ha0] at hq
        have HE := Lib.hid hq.ret
        subst ha0
        clear hq HQ2
        go_wp2_with fail
        try rw [Exit.noGoto_ret]
        go_ret2
        exact FindDone.of HC3.out.run HE.out
      have b0 : (a == 0) = false := by simpa using ha0
      have hq := HQ2.out
      rw [if_neg ha0] at hq
      have HQ3 := Lib.hid (hq.load HF3.out)
      have s3 : IntKind.i64.wrap (a + 1) = a + 1 := IntWalk.i64_in _ (by omega)
      have s4 : IntKind.i64.wrap (a + 2) = a + 2 := IntWalk.i64_in _ (by omega)
      clear hq HQ2 ha0
      go_wp2_with fail
      refine (run_load HC3.out.run.rm hB HF3.out.ok (a + 1)).mono ?_; rintro e w4 ⟨rfl, go4, hr4, ha4⟩
      have HC4 := Lib.hid (HC3.out.access HCB3.out hr4 ha4)
      have HCB4 := Lib.hid (fun g o e => Nat.lt_of_lt_of_le (HCB3.out g o e) ha4.mod.size)
      have HF4 := Lib.hid (HF3.out.load (a + 1))
      clear hr4 ha4 HC3 HCB3
      obtain ⟨st4, hst4⟩ : ∃ x, x = (st3.load (a + 1)).2 := ⟨_, rfl⟩
      obtain ⟨y, hy⟩ : ∃ x, x = (st3.load (a + 1)).1 := ⟨_, rfl⟩
      rw [← hst4] at HC4 HF4 HQ3
      rw [← hy] at HQ3 ⊢
      clear hst4 hy HF3
      have HNo := Lib.hid (show ∀ (wx : World) (stx : St) (gox : Option Nat), Hid (CW w rb mb cb go oa (cellsN (bytesL key)) stx gox wx) → Hid (∀ g o, oa = some ⟨g, o, none⟩ → g < wx.heap.size) → Hid (stx.Fine Bd) → Hid (Rest p (fR s n (bytesL key) g (t + 1)) st stx) → ∃ (t' : Nat) (st1 : St) (go1 : Option Nat), t' + g = n ∧ Value.int .i64 ((t : Int) + 1) = .int .i64 (t' : Int) ∧ Value.int .i64 ((slotOf n h (t + 1) : Nat) : Int) = .int .i64 ((slotOf n h t' : Nat) : Int) ∧ Hid (CW w rb mb cb go oa (cellsN (bytesL key)) st1 go1 wx) ∧ Hid (∀ g o, oa = some ⟨g, o, none⟩ → g < wx.heap.size) ∧ Hid (st1.Fine Bd) ∧ Hid (Rest p (fR s n (bytesL key) g t') st st1) from fun wx stx gox h1 h2 h3 h4 => ⟨t + 1, stx, gox, by omega, by rw [show ((t + 1 : Nat) : Int) = (t : Int) + 1 by omega], rfl, h1, h2, h3, h4⟩)
      have m1 : IntKind.i64.wrap ((t : Int) + 1) = (t : Int) + 1 := IntWalk.i64_in _ (by omega)
      have m2 : IntKind.i64.wrap ((sl : Int) + 1) = (sl : Int) + 1 := IntWalk.i64_in _ (by omega)
      obtain ⟨sn, hsn⟩ : ∃ sn, sn = slotOf n h (t + 1) := ⟨_, rfl⟩
      have hsn2 : (sl + 1) % n = sn := by rw [hsn]; exact HNX.out
      rw [← hsn] at HNo
      have m3 : ((sl : Int) + 1) % (n : Int) = (sn : Int) := by
        have := congrArg (fun x : Nat => (x : Int)) hsn2
        simpa using this
      have m4 : ((sl : Int) + 1).tmod (n : Int) = (sn : Int) := by rw [Int.tmod_eq_emod_of_nonneg (by omega)]; exact m3
      have m5 : IntKind.i64.wrap (sn : Int) = (sn : Int) := IntWalk.i64_in _ (by have := HSl.out (t + 1); rw [← hsn] at this; omega)
      clear hsn hsn2
      by_cases hyl : y = (kl : Int)
      · have hq := HQ3.out
        rw [HL.out.2, if_pos hyl] at hq
        have HQ4 := Lib.hid hq
        have b1 : (y != (kl : Int)) = false := by simpa using hyl
        clear hq hyl HQ3
        go_wp2_with fail
        go_loopg [51] cl (fun g2 jv wy => ∃ (j : Nat) (st5 : St) (go5 : Option Nat), j + g2 = cl ∧ jv = .int .i64 (j : Int) ∧ Hid (CW w rb mb cb go oa (cellsN (bytesL key)) st5 go5 wy) ∧ Hid (∀ g o, oa = some ⟨g, o, none⟩ → g < wy.heap.size) ∧ Hid (st5.Fine Bd) ∧ Hid (Rest p (cmpR (.ret (a, (sl : Int))) (fR s n (bytesL key) g (t + 1)) ((cellsN (bytesL key)).drop j) (a + 2 + (j : Int))) st st5))
        case atStart => exact ⟨0, st4, go4, by omega, rfl, HC4, HCB4, HF4, Lib.hid (HQ4.out.same (by rw [List.drop_zero, show a + 2 + ((0 : Nat) : Int) = a + 2 by omega]))⟩
        case round =>
          clear HC4 HCB4 HF4 HQ4
          obtain ⟨j, st5, go5, hjg, rfl, HC5, HCB5, HF5, HQ5⟩ := hrel
          cases gk with
          | zero =>
            have hjc : cl = j := by omega
            have hq := HQ5.out
            rw [List.drop_eq_nil_of_le (by rw [← HL.out.1]; omega)] at hq
            have HE := Lib.hid (show Ended p (a, (sl : Int)) st st5 from hq.ret)
            subst hjc
            clear hq HQ5 hjg
            go_wp2_with fail
            try rw [Exit.noGoto_ret]
            go_ret2
            exact FindDone.of HC5.out.run HE.out
          | succ g2 =>
            have hjc : j < cl := by omega
            have hjc1 : (j : Int) < (cl : Int) := by omega
            obtain ⟨x, hx⟩ : ∃ x, (cellsN (bytesL key))[j]? = some x := ⟨_, List.getElem?_eq_getElem (by rw [← HL.out.1]; exact hjc)⟩
            obtain ⟨gb, ob, rfl, hcell⟩ := HC5.out.read j x hx
            have hdr : (cellsN (bytesL key)).drop j = x :: (cellsN (bytesL key)).drop (j + 1) := by
              have hlt := (List.getElem?_eq_some_iff.1 hx).1
              rw [List.drop_eq_getElem_cons hlt, (List.getElem?_eq_some_iff.1 hx).2]
            have hq := HQ5.out
            rw [hdr] at hq
            unfold cmpR at hq
            have hq2 := hq.load HF5.out
            have s5 : IntKind.i64.wrap (a + 2 + (j : Int)) = a + 2 + (j : Int) := IntWalk.i64_in _ (by omega)
            obtain ⟨st6, hst6⟩ : ∃ z, z = (st5.load (a + 2 + (j : Int))).2 := ⟨_, rfl⟩
            obtain ⟨z, hz⟩ : ∃ z, z = (st5.load (a + 2 + (j : Int))).1 := ⟨_, rfl⟩
            have HF6 := Lib.hid (HF5.out.load (a + 2 + (j : Int)))
            have HK := Lib.hid (run_load HC5.out.run.rm hB HF5.out.ok (a + 2 + (j : Int)))
            rw [← hst6] at hq2 HF6 HK
            rw [← hz] at hq2 HK
            clear hdr hq hst6 hz hx HQ5
            by_cases hzx : z = (x : Int)
            · rw [if_pos hzx] at hq2
              have HQ6 := Lib.hid (hq2.same (by rw [show a + 2 + (j : Int) + 1 = a + 2 + ((j + 1 : Nat) : Int) by omega]))
              have b2 : (z != (x : Int)) = false := by simpa using hzx
              clear hzx hq2
              go_wp2_with fail
              refine HK.out.mono ?_; rintro e w6 ⟨rfl, go6, hr6, ha6⟩
              have HC6 := Lib.hid (HC5.out.access HCB5.out hr6 ha6)
              have HCB6 := Lib.hid (fun g o e => Nat.lt_of_lt_of_le (HCB5.out g o e) ha6.mod.size)
              clear hr6 ha6 HK HC5 HCB5 hcell
              go_wp2_with fail
              go_roundg g2
              case measure => omega
              case rel => exact ⟨j + 1, st6, go6, by omega, by go_num, HC6, HCB6, HF6, HQ6⟩
            · rw [if_neg hzx] at hq2
              have HQ6 := Lib.hid hq2
              have b2 : (z != (x : Int)) = true := by simpa using hzx
              clear hzx hq2
              go_wp2_with fail
              refine HK.out.mono ?_; rintro e w6 ⟨rfl, go6, hr6, ha6⟩
              have HC6 := Lib.hid (HC5.out.access HCB5.out hr6 ha6)
              have HCB6 := Lib.hid (fun g o e => Nat.lt_of_lt_of_le (HCB5.out g o e) ha6.mod.size)
              clear hr6 ha6 HK HC5 HCB5 hcell
              go_wp2_with fail
              go_quiet (fail)
              go_wp2_with fail
              go_roundg g
              case measure => omega
              case rel => exact HNo.out _ st6 go6 (Lib.hid (HC6.out.below (below_drawn (Below.refl _ _) _))) HCB6 HF6 HQ6
      · have hq := HQ3.out
        rw [HL.out.2, if_neg hyl] at hq
        have HQ4 := Lib.hid hq
        have b1 : (y != (kl : Int)) = true := by simpa using hyl
        clear hq hyl HQ3
        go_wp2_with fail
        go_quiet (fail)
        go_wp2_with fail
        go_roundg g
        case measure => omega
        case rel => exact HNo.out _ st4 go4 (Lib.hid (HC4.out.below (below_drawn (Below.refl _ _) _))) HCB4 HF4 HQ4
end
end Go.Proofs.Yteliaammffmmiaa

namespace Go.Proofs.Yteliaammffmmiaa
open Go.RowKit

def fillD (acc : List Nat) (j : Nat) : Value := if j < acc.length then .int .u32 (acc.getD j 0 : Nat) else .int .u32 0
/-- A run, and a row of one's own beside it, filled so far. -/
structure DW (W : World) (rb mb cb : Nat) (go0 : Option Nat) (g cnt : Nat) (acc : List Nat) (st : St) (go : Option Nat) (w : World) : Prop where
  run : RunW W rb mb cb go0 st go w
  row : w.rowIs g 52 cnt (fillD acc)
  far : ¬ Feet rb mb cb go g
  new : W.heap.size ≤ g
section
variable {W w w' : World} {rb mb cb : Nat} {go0 go go' : Option Nat} {g cnt : Nat} {acc : List Nat} {st st' : St}
theorem DW.access (h : DW W rb mb cb go0 g cnt acc st go w) (hr : RM w' rb mb cb go' true st') (ha : Adv rb mb cb w go w' go') : DW W rb mb cb go0 g cnt acc st' go' w' :=
  ⟨h.run.access hr ha, h.row.of_block (ha.mod.block g h.row.lt h.far), (ha.advS (fun _ => False)).apart h.row.lt h.far, h.new⟩
theorem DW.fill (h : DW W rb mb cb go0 g cnt acc st go w) (x : Nat) : DW W rb mb cb go0 g cnt (acc ++ [x]) st go (w.setCell ⟨g, acc.length, none⟩ (.int .u32 (x : Int))) := by
  refine ⟨h.run.turn h.far h.new (Mod.setCell (S := fun j => j = g) (Mod.refl _ _) (.inr rfl) _), (h.row.set acc.length _).congr fun j _ => ?_, h.far, h.new⟩
  unfold fillD
  rw [List.length_append, List.length_singleton]
  by_cases e : j = acc.length
  · rw [if_pos e, if_pos (by omega), e]
    simp
  · rw [if_neg e]
    by_cases h2 : j < acc.length
    · rw [if_pos h2, if_pos (by omega)]
      rw [List.getD_eq_getElem?_getD, List.getD_eq_getElem?_getD, List.getElem?_append_left h2]
    · rw [if_neg h2, if_neg (by omega)]
theorem DW.read (h : DW W rb mb cb go0 g cnt acc st go w) (hl : acc.length = cnt) : ReadN .u32 w (some ⟨g, 0, none⟩) acc := by
  intro j x hj
  have hlt := (List.getElem?_eq_some_iff.1 hj).1
  refine ⟨g, 0, rfl, ?_⟩
  have := h.row.cell (i := j) (by omega)
  rw [Nat.zero_add, this]
  unfold fillD
  rw [if_pos hlt, List.getD_eq_getElem?_getD, hj]
  rfl
end
theorem make_few (k : Nat) (hk : k ≤ 100) (w : World) : (Instr.makeSlice 50 (.int .u32 k) (.int .u32 k)).run Try.prog w = .ok (.slice (some ⟨w.heap.size, 0, none⟩) k k) (w.alloc (.cells (madeCells #[.int .u32 0] k) 52)) :=
  run_make_row' 50 52 (.int .u32 0) 4 Try.underlying50 info_u32 rfl .u32 .u32 k (by omega) (by omega) w
def ReadDone (W : World) (rb mb cb : Nat) (go0 : Option Nat) (st : St) (p : Pr (List Nat)) (e : Ending) (w' : World) : Prop :=
  ∃ v go', e = .returned (.string v) ∧ RM w' rb mb cb go' true (p.on st).2 ∧ Adv rb mb cb W go0 w' go' ∧ ∀ x, (p.on st).1 = some x → byteText x = v
theorem ReadDone.of {W w' : World} {rb mb cb : Nat} {go0 go' : Option Nat} {st st' : St} {p : Pr (List Nat)} {x : List Nat} {v : ByteArray} (hr : RunW W rb mb cb go0 st' go' w') (hq : Ended p x st st') (hv : byteText x = v) : ReadDone W rb mb cb go0 st p (.returned (.string v)) w' := by
  unfold Ended at hq
  have := hr.rm
  rw [← hq.1] at this
  exact ⟨v, go', rfl, this, hr.adv, fun y hy => by rw [hq.2 y hy]; exact hv⟩
section
variable {w : World} {rb mb cb : Nat} {go : Option Nat} {st : St} {Bd : Nat}
set_option maxRecDepth 100000 in
set_option maxHeartbeats 4000000 in
theorem read_any (a : Int) (hrm : RM w rb mb cb go true st) (hf : st.Fine Bd) (hB : Bd < 1000000000) (ha0 : 0 ≤ a) (ha1 : a ≤ 1000000) :
    Calls Try.prog 33 #[.pointer (some ⟨rb, 0, none⟩), .int .i64 a] w fun e w' => ReadDone w rb mb cb go st (readR a) e w' := by
  have HR := Lib.hid (RunW.start hrm)
  have HF := Lib.hid hf
  obtain ⟨p, hp⟩ : ∃ p, p = readR a := ⟨_, rfl⟩
  have hq := (Rest.start p st).same hp
  unfold readR at hq
  have HQ := Lib.hid (hq.load hf)
  have s0 : IntKind.i64.wrap (a + 1) = a + 1 := IntWalk.i64_in _ (by omega)
  have s00 : IntKind.i64.wrap (a + 2) = a + 2 := IntWalk.i64_in _ (by omega)
  rw [← hp]
  clear hrm hf hq hp
  go_enter Try.func33, Try.ntmps33
  go_wp2_with fail
  refine (run_load HR.out.rm hB HF.out.ok (a + 1)).mono ?_; rintro e w2 ⟨rfl, go2, hr2, ha2⟩
  have HR2 := Lib.hid (HR.out.access hr2 ha2)
  have hu := (HF.out.ok.load (a + 1)).2
  have HF2 := Lib.hid (HF.out.load (a + 1))
  obtain ⟨st2, hst2⟩ : ∃ x, x = (st.load (a + 1)).2 := ⟨_, rfl⟩
  obtain ⟨y, hy⟩ : ∃ x, x = (st.load (a + 1)).1 := ⟨_, rfl⟩
  rw [← hst2] at HR2 HF2 HQ
  rw [← hy] at HQ hu ⊢
  unfold U at hu
  obtain ⟨hu0, hu1⟩ := hu
  obtain ⟨M, rfl⟩ := Int.eq_ofNat_of_zero_le hu0
  clear hr2 ha2 hst2 hy HF HR hu0
  by_cases h17 : (17 : Int) < (M : Int)
  · have hq := HQ.out
    rw [if_pos h17] at hq
    have HE := Lib.hid hq.ret
    clear hq HQ
    go_wp2_with fail
    go_ret
    exact ReadDone.of HR2.out HE.out rfl
  have hq := HQ.out
  rw [if_neg h17, Int.toNat_natCast] at hq
  obtain ⟨cnt, hcnt⟩ : ∃ cnt, cnt = (M + 3) / 4 := ⟨_, rfl⟩
  rw [← hcnt] at hq
  have HQ2 := Lib.hid hq
  have hM : M ≤ 17 := by omega
  have hc5 : cnt ≤ 5 := by omega
  have hMc : M ≤ 4 * cnt := by omega
  have r1 : IntKind.u32.wrap ((M : Int) + 3) = (M : Int) + 3 := IntWalk.u32_in _ (by omega)
  have r2 : ((M : Int) + 3) / 4 = (cnt : Int) := by omega
  have r3 : ((M : Int) + 3).tdiv 4 = (cnt : Int) := by rw [Int.tdiv_eq_ediv_of_nonneg (by omega)]; exact r2
  have r4 : IntKind.u32.wrap (cnt : Int) = (cnt : Int) := IntWalk.u32_in _ (by omega)
  have r5 : IntKind.i64.wrap (M : Int) = (M : Int) := IntWalk.i64_in _ (by omega)
  have hmk := make_few cnt (by omega)
  clear hq HQ hcnt
  go_wp2_with fail
  have hfar : ¬ Feet rb mb cb go2 w2.heap.size := fun hf => by have := HR2.out.rm.lt _ hf; omega
  have hrow := (World.rowIs_made w2 (.int .u32 0) cnt 52).congr (g := fillD []) fun j _ => by simp [fillD]
  have HD := Lib.hid (show DW w rb mb cb go w2.heap.size cnt [] st2 go2 (w2.alloc (.cells (madeCells #[.int .u32 0] cnt) 52)) from ⟨HR2.out.below below_one, hrow, hfar, HR2.out.adv.mod.size⟩)
  clear hfar hrow HR2
  generalize w2.alloc (.cells (madeCells #[.int .u32 0] cnt) 52) = w3 at HD ⊢
  obtain ⟨g, hg⟩ : ∃ g, g = w2.heap.size := ⟨_, rfl⟩
  rw [← hg] at HD ⊢
  clear hg hmk
  go_loopg [22] cnt (fun q iv wr => ∃ (i : Nat) (acc : List Nat) (st1 : St) (go1 : Option Nat), i + q = cnt ∧ iv = .int .i64 (i : Int) ∧ Hid (acc.length = i) ∧ Hid (∀ x ∈ acc, x < 4294967296) ∧ Hid (DW w rb mb cb go g cnt acc st1 go1 wr) ∧ Hid (st1.Fine Bd) ∧ Hid (Rest p (loadsR (fun l => .ret ((bytesC l).take M)) q (a + 2 + (i : Int)) acc) st st1))
  case atStart => exact ⟨0, [], st2, go2, by omega, rfl, Lib.hid rfl, Lib.hid (by simp), HD, HF2, Lib.hid (HQ2.out.same (by rw [show a + 2 + ((0 : Nat) : Int) = a + 2 by omega]))⟩
  case round =>
    clear HD HF2 HQ2
    obtain ⟨i, acc, st1, go1, hiq, rfl, HL, HX, HD, HF, HQ⟩ := hrel
    cases gk with
    | zero =>
      have hic : cnt = i := by omega
      have HE := Lib.hid (show Ended p ((bytesC acc).take M) st st1 from HQ.out.ret)
      have HB := Lib.hid (lands_bytes wr (some ⟨g, 0, none⟩) cnt cnt acc (M : Int) (by rw [HL.out, hic]) (HD.out.read (by rw [HL.out, hic])) (Nat.le_refl _) (by unfold maxLen; omega) (by omega) HX.out (by omega) (by omega))
      have e0 : bytesE acc (M : Int) = 0 := by unfold bytesE; rw [if_neg (by omega), if_neg (by rw [HL.out]; omega)]
      have e1 : bytesX acc (M : Int) = byteText ((bytesC acc).take M) := by unfold bytesX; rw [e0]; rfl
      rw [e0, e1] at HB
      subst hic
      clear e0 e1 HQ hiq
      go_wp2_with fail
      refine HB.out.mono ?_; rintro e w5 ⟨rfl, hb⟩
      have HR5 := Lib.hid (HD.out.run.below hb)
      clear hb HB
      go_wp2_with fail
      go_ret
      exact ReadDone.of HR5.out HE.out rfl
    | succ q =>
      have hic : i < cnt := by omega
      have hic1 : (i : Int) < (cnt : Int) := by omega
      have hq := HQ.out
      unfold loadsR at hq
      have hq2 := hq.load HF.out
      have s5 : IntKind.i64.wrap (a + 2 + (i : Int)) = a + 2 + (i : Int) := IntWalk.i64_in _ (by omega)
      have hu := (HF.out.ok.load (a + 2 + (i : Int))).2
      have HK := Lib.hid (run_load HD.out.run.rm hB HF.out.ok (a + 2 + (i : Int)))
      have HF2 := Lib.hid (HF.out.load (a + 2 + (i : Int)))
      obtain ⟨st2, hst2⟩ : ∃ x, x = (st1.load (a + 2 + (i : Int))).2 := ⟨_, rfl⟩
      obtain ⟨y, hy⟩ : ∃ x, x = (st1.load (a + 2 + (i : Int))).1 := ⟨_, rfl⟩
      rw [← hst2] at HK HF2 hq2
      rw [← hy] at HK hq2 hu
      unfold U at hu
      obtain ⟨hu0, hu1⟩ := hu
      obtain ⟨x, rfl⟩ := Int.eq_ofNat_of_zero_le hu0
      rw [Int.toNat_natCast] at hq2
      have HQ2 := Lib.hid (hq2.same (by rw [show a + 2 + (i : Int) + 1 = a + 2 + ((i + 1 : Nat) : Int) by omega]))
      have HX2 := Lib.hid (show ∀ z ∈ acc ++ [x], z < 4294967296 from fun z hz => by
        rcases List.mem_append.1 hz with h | h
        · exact HX.out z h
        · simp at h; omega)
      clear hq hq2 hst2 hy HQ HF hu0 HX
      go_wp2_with fail
      refine HK.out.mono ?_; rintro e w6 ⟨rfl, go6, hr6, ha6⟩
      have HD6 := Lib.hid (HD.out.access hr6 ha6)
      clear hr6 ha6 HK HD
      have hfr := HD6.out.row.frozen i
      have hc2 := HD6.out.row.cell hic
      unfold fillD at hc2
      rw [if_neg (by rw [HL.out]; omega)] at hc2
      have hfill := HD6.out.fill x
      rw [HL.out] at hfill
      have HD7 := Lib.hid hfill
      clear hfill HD6
      go_wp2_with fail
      go_roundg q
      case measure => omega
      case rel => exact ⟨i + 1, acc ++ [x], st2, go6, by omega, by go_num, Lib.hid (by rw [List.length_append, HL.out]; rfl), HX2, HD7, HF2, HQ2⟩
end
end Go.Proofs.Yteliaammffmmiaa

namespace Go.Proofs.Yteliaammffmmiaa
open Go.RowKit

/-- The plan's copy, what is used, the second answer's variable; W: the world where the call began. -/
structure PD (W : World) (rb mb cb : Nat) (go0 : Option Nat) (B S U : Nat → Int) (C T L : Int) (st : St) (go : Option Nat) (w : World) : Prop where
  run : RunW W rb mb cb go0 st go w
  p : w.heap[W.heap.size]? = some (.cells (planC B S C T L) 25 (0, 0))
  u : w.heap[W.heap.size + 1]? = some (.cells (six U) 23 (0, 0))
  r : w.heap[W.heap.size + 1 + 1]? = some (.cells (six fun _ => 0) 23 (0, 0))
section
variable {W w w' : World} {rb mb cb : Nat} {go0 go go' : Option Nat} {B S U : Nat → Int} {C T L : Int} {st st' : St}
theorem PD.below (h : PD W rb mb cb go0 B S U C T L st go w) (hb : Below w.heap.size w w') : PD W rb mb cb go0 B S U C T L st go w' :=
  ⟨h.run.below hb, (hb.block _ (lt_of_heap h.p)).trans h.p, (hb.block _ (lt_of_heap h.u)).trans h.u, (hb.block _ (lt_of_heap h.r)).trans h.r⟩
theorem PD.drew (h : PD W rb mb cb go0 B S U C T L st go w) : PD W rb mb cb go0 B S U C T L st go w.drew := h.below (Below.refl _ _).drew
theorem PD.access (h : PD W rb mb cb go0 B S U C T L st go w) (hr : RM w' rb mb cb go' true st') (ha : Adv rb mb cb w go w' go') : PD W rb mb cb go0 B S U C T L st' go' w' :=
  ⟨h.run.access hr ha, h.run.stays ha h.p (Nat.le_refl _) (by decide), h.run.stays ha h.u (by omega) (by decide), h.run.stays ha h.r (by omega) (by decide)⟩
theorem PD.turn (h : PD W rb mb cb go0 B S U C T L st go w) {k : Nat} {c : Array Value} (hk : w.heap[k]? = some (.cells c 23 (0, 0))) (hW : W.heap.size ≤ k) (cs : Array Value) : RunW W rb mb cb go0 st go (w.setRow k cs) :=
  h.run.turn (h.run.far hk hW (by decide)) hW (Mod.setRow (S := fun j => j = k) (Mod.refl _ _) (.inr rfl) _)
theorem PD.start {w : World} {rb mb cb : Nat} {go : Option Nat} {st : St} (hrm : RM w rb mb cb go true st) (B S U : Nat → Int) (C T L : Int) : PD w rb mb cb go B S U C T L st go (((w.alloc (.cells (planC B S C T L) 25)).alloc (.cells (six U) 23)).alloc (.cells (six fun _ => 0) 23)) :=
  ⟨(RunW.start hrm).below below_al3, heap3_0 _ _ _ _, heap3_1 _ _ _ _, heap3_2 _ _ _ _⟩
end
/-- What a Put must come to. -/
def PutDoneD (W : World) (rb mb cb : Nat) (go0 : Option Nat) (st : St) (p : Pr PutD) (e : Ending) (w' : World) : Prop :=
  ∃ a V er go', e = .returned (.tuple #[.int .i64 a, .agg (six V), .int .i64 er]) ∧ RM w' rb mb cb go' true (p.on st).2 ∧ Adv rb mb cb W go0 w' go' ∧ ∀ x, (p.on st).1 = some x → x.1 = a ∧ six x.2.1 = six V ∧ x.2.2 = er
theorem PutDoneD.of {W w' : World} {rb mb cb : Nat} {go0 go' : Option Nat} {st st' : St} {p : Pr PutD} {a er : Int} {V : Nat → Int} (hr : RunW W rb mb cb go0 st' go' w') (hq : Ended p (a, V, er) st st') : PutDoneD W rb mb cb go0 st p (.returned (.tuple #[.int .i64 a, .agg (six V), .int .i64 er])) w' := by
  unfold Ended at hq
  have := hr.rm
  rw [← hq.1] at this
  exact ⟨a, V, er, go', rfl, this, hr.adv, fun y hy => by rw [hq.2 y hy]; exact ⟨rfl, rfl, rfl⟩⟩
section
variable {w : World} {rb mb cb : Nat} {go : Option Nat} {st : St} {Bd : Nat}
set_option maxRecDepth 100000 in
set_option maxHeartbeats 4000000 in
theorem putD_none (B S U : Nat → Int) (C T L s slot : Int) (key : ByteArray) (hrm : RM w rb mb cb go true st) (hU : ∀ k, k < 6 → 0 ≤ U k ∧ U k ≤ S k ∧ S k ≤ 1000000) (hk : key.size ≤ 1000000) (hfit : ¬ 2 + ((cellsN (bytesL key)).length : Int) ≤ S 4 - U 4) :
    Calls Try.prog 31 #[.pointer (some ⟨rb, 0, none⟩), .agg (planC B S C T L), .agg (six U), .int .i64 s, .int .i64 slot, .string key] w fun e w' => PutDoneD w rb mb cb go st (putDP B S U s slot (bytesL key)) e w' := by
  obtain ⟨p, hp⟩ : ∃ p, p = putDP B S U s slot (bytesL key) := ⟨_, rfl⟩
  have hq := (Rest.start p st).same hp
  unfold putDP at hq
  rw [if_neg hfit] at hq
  have HQ := Lib.hid hq.ret
  rw [← hp]
  have HRM := Lib.hid hrm
  have HC := Lib.hid (fun w => wide_cells w key (by omega))
  obtain ⟨cl, hcl⟩ : ∃ cl, cl = (cellsN (bytesL key)).length := ⟨_, rfl⟩
  have hcl1 : cl ≤ 1000000 := by rw [hcl, cellsN_length, bytesL_length]; omega
  have h4 := hU 4 (by omega)
  have HT := Lib.hid (fun w => take_full w B S U C T L (2 + (cl : Int)) 4 (by omega) (by omega) h4.1 h4.2.1 h4.2.2 (by rw [hcl]; omega))
  have s1 : IntKind.i64.wrap (2 + (cl : Int)) = 2 + (cl : Int) := IntWalk.i64_in _ (by omega)
  have HL := Lib.hid hcl.symm
  have hP := PD.start hrm B S U C T L
  clear hrm hq hp hcl hU hfit h4 hk
  go_enter Try.func31, Try.ntmps31
  go_upto_region 1 with fail
  have hw : (((w.alloc (.cells (planC B S C T L) 25)).alloc (.cells (six U) 23)).alloc (.cells #[.int .i64 0, .int .i64 0, .int .i64 0, .int .i64 0, .int .i64 0, .int .i64 0] 23)) = (((w.alloc (.cells (planC B S C T L) 25)).alloc (.cells (six U) 23)).alloc (.cells (six fun _ => 0) 23)) := rfl
  rw [hw]
  clear hw
  generalize (((w.alloc (.cells (planC B S C T L) 25)).alloc (.cells (six U) 23)).alloc (.cells (six fun _ => 0) 23)) = w1 at hP ⊢
  have HP := Lib.hid hP
  clear hP
  go_wp2_with fail
  refine (HC.out _).mono ?_; rintro e w2 ⟨v, rfl, hown, hb⟩
  obtain ⟨oa, cp, rfl, hc1, hc2, hc3, hcw, hcb⟩ := CW.start HP.out.run HRM.out hb HP.out.run.adv.mod.size hown HL.out
  have HP := Lib.hid (HP.out.below hb)
  clear hown hb hcw hcb hc3
  go_wp2_with (first
    | (refine wpList_load_row rfl 25 (.tmp 7) rfl w.heap.size rfl 25 (planC B S C T L) (0, 0) _ HP.out.p Try.underlying25 rfl (planC_info _ _ _ _ _) ?_)
    | (refine wpList_load_row rfl 23 (.tmp 8) rfl (w.heap.size + 1) rfl 23 (six U) (0, 0) _ HP.out.u Try.underlying23 rfl (six_info _) ?_)
    | fail)
  refine (HT.out _).mono ?_; rintro e w3 ⟨rfl, hb⟩
  have HP := Lib.hid (HP.out.below hb)
  clear hb HT
  go_upto_region 3 with (first
    | (refine wpList_store_row rfl 23 (.tmp 17) (.tmp 31) rfl w3.heap.size (six fun _ => 0) rfl rfl 23 (six fun _ => 0) (heap_alloc_new w3 _) (six_info _) rfl (six_one _) ?_)
    | fail)
  rw [World.setRow_alloc_new]
  have HP := Lib.hid (HP.out.below (below_one (A := .cells (six fun _ => 0) 23)))
  generalize w3.alloc (.cells (six fun _ => 0) 23) = w4 at HP ⊢
  go_wp2_with (refine wpList_store_row rfl 23 (.tmp 13) (.tmp 35) rfl (w.heap.size + 1 + 1) (six fun _ => 0) rfl rfl 23 (six fun _ => 0) HP.out.r (six_info _) (six_both _ _) (six_one _) ?_)
  refine bodyPost_ret (v := .tuple #[.int .i64 0, .agg (six fun _ => 0), .int .i64 3]) (results_tmp_cell_tmp rfl _ _ (w.heap.size + 1 + 1) _ _ (0, 0) _ _ _ rfl rfl rfl (setRow_heap _ _ _ _ _ _ HP.out.r) Try.underlying23 rfl (six_info _)) rfl ?_
  exact PutDoneD.of (HP.out.turn HP.out.r (by omega) (six fun _ => 0)) HQ.out
set_option maxRecDepth 100000 in
set_option maxHeartbeats 4000000 in
theorem putD_some (B S U : Nat → Int) (C T L s slot : Int) (key : ByteArray) (hrm : RM w rb mb cb go true st) (hf : st.Fine Bd) (hB : Bd < 1000000000) (hb4 : 0 ≤ B 4 ∧ B 4 ≤ 1000000) (hU : ∀ k, k < 6 → 0 ≤ U k ∧ U k ≤ S k ∧ S k ≤ 1000000) (hs0 : 0 ≤ s) (hs1 : s ≤ 1000000) (hi0 : 0 ≤ slot) (hi1 : slot ≤ 1000000) (hk : key.size ≤ 1000000) (hfit : 2 + ((cellsN (bytesL key)).length : Int) ≤ S 4 - U 4) :
    Calls Try.prog 31 #[.pointer (some ⟨rb, 0, none⟩), .agg (planC B S C T L), .agg (six U), .int .i64 s, .int .i64 slot, .string key] w fun e w' => PutDoneD w rb mb cb go st (putDP B S U s slot (bytesL key)) e w' := by
  obtain ⟨p, hp⟩ : ∃ p, p = putDP B S U s slot (bytesL key) := ⟨_, rfl⟩
  have hq := (Rest.start p st).same hp
  unfold putDP at hq
  rw [if_pos hfit] at hq
  rw [← hp]
  have HRM := Lib.hid hrm
  have HF := Lib.hid hf
  have HC := Lib.hid (fun w => wide_cells w key (by omega))
  obtain ⟨cl, hcl⟩ : ∃ cl, cl = (cellsN (bytesL key)).length := ⟨_, rfl⟩
  have hcl1 : cl ≤ 1000000 := by rw [hcl, cellsN_length, bytesL_length]; omega
  have h4 := hU 4 (by omega)
  have HT := Lib.hid (fun w => take_ok w B S U C T L (2 + (cl : Int)) 4 (by omega) (by omega) h4.1 h4.2.1 h4.2.2 (by rw [hcl]; omega) hb4.1 hb4.2)
  obtain ⟨a, ha⟩ : ∃ a, a = B 4 + U 4 := ⟨_, rfl⟩
  have ha0 : 0 ≤ a := by omega
  have ha1 : a ≤ 2000000 := by omega
  obtain ⟨V, hV⟩ : ∃ V, V = more U 4 (2 + (cl : Int)) := ⟨_, rfl⟩
  rw [← hcl, ← ha, ← hV] at hq
  rw [← ha, ← hV] at HT
  have s1 : IntKind.i64.wrap (2 + (cl : Int)) = 2 + (cl : Int) := IntWalk.i64_in _ (by omega)
  have s2 : IntKind.i64.wrap (a + 1) = a + 1 := IntWalk.i64_in _ (by omega)
  have s3 : IntKind.i64.wrap (a + 2) = a + 2 := IntWalk.i64_in _ (by omega)
  have s4 : IntKind.i64.wrap (s + slot) = s + slot := IntWalk.i64_in _ (by omega)
  have s5 : IntKind.u32.wrap a = a := IntWalk.u32_in _ (by omega)
  have s6 : IntKind.u32.wrap (key.size : Int) = (key.size : Int) := IntWalk.u32_in _ (by omega)
  have kz : (key.size : Int) ≤ 9223372036854775807 := by omega
  rw [bytesL_length] at hq
  have hq2 := hq.store hf
  have HU := Lib.hid (show u32 (key.size : Int) = (key.size : Int) ∧ u32 a = a from ⟨s6, s5⟩)
  have HF2 := Lib.hid (hf.store (a + 1) (key.size : Int))
  rw [HU.out.1] at hq2 HF2
  have HQ := Lib.hid hq2
  have HLt := Lib.hid (cells_lt (bytesL_lt key))
  have HL := Lib.hid hcl.symm
  have hP := PD.start hrm B S U C T L
  clear hrm hq hq2 hp hcl hU hfit h4 hk ha hV hb4 hf
  go_enter Try.func31, Try.ntmps31
  go_upto_region 1 with fail
  have hw : (((w.alloc (.cells (planC B S C T L) 25)).alloc (.cells (six U) 23)).alloc (.cells #[.int .i64 0, .int .i64 0, .int .i64 0, .int .i64 0, .int .i64 0, .int .i64 0] 23)) = (((w.alloc (.cells (planC B S C T L) 25)).alloc (.cells (six U) 23)).alloc (.cells (six fun _ => 0) 23)) := rfl
  rw [hw]
  clear hw
  generalize (((w.alloc (.cells (planC B S C T L) 25)).alloc (.cells (six U) 23)).alloc (.cells (six fun _ => 0) 23)) = w1 at hP ⊢
  have HP := Lib.hid hP
  clear hP
  go_wp2_with fail
  refine (HC.out _).mono ?_; rintro e w2 ⟨v, rfl, hown, hb⟩
  obtain ⟨oa, cp, rfl, hc1, hc2, hc3, hcw, hcb⟩ := CW.start HP.out.run HRM.out hb HP.out.run.adv.mod.size hown HL.out
  have HP := Lib.hid (HP.out.below hb)
  have HCW := Lib.hid hcw
  have HCB := Lib.hid hcb
  clear hown hb hcw hcb HC
  go_wp2_with (first
    | (refine wpList_load_row rfl 25 (.tmp 7) rfl w.heap.size rfl 25 (planC B S C T L) (0, 0) _ HP.out.p Try.underlying25 rfl (planC_info _ _ _ _ _) ?_)
    | (refine wpList_load_row rfl 23 (.tmp 8) rfl (w.heap.size + 1) rfl 23 (six U) (0, 0) _ HP.out.u Try.underlying23 rfl (six_info _) ?_)
    | fail)
  refine (HT.out _).mono ?_; rintro e w3 ⟨rfl, hb⟩
  have HP := Lib.hid (HP.out.below hb)
  have HCW := Lib.hid (HCW.out.below hb)
  have HCB := Lib.hid (fun g o e => Nat.lt_of_lt_of_le (HCB.out g o e) hb.size)
  clear hb HT
  go_upto_region 3 with (first
    | (refine wpList_store_row rfl 23 (.tmp 17) (.tmp 31) rfl w3.heap.size (six V) rfl rfl 23 (six fun _ => 0) (heap_alloc_new w3 _) (six_info _) rfl (six_one _) ?_)
    | fail)
  have hr3 := lt_of_heap HP.out.r
  rw [World.setRow_alloc_new]
  have hb := below_one (w := w3) (A := .cells (six V) 23)
  have HV := Lib.hid (heap_alloc_new w3 (.cells (six V) 23))
  have HP := Lib.hid (HP.out.below hb)
  have HCW := Lib.hid (HCW.out.below hb)
  have HCB := Lib.hid (fun g o e => Nat.lt_of_lt_of_le (HCB.out g o e) hb.size)
  have hsz := HP.out.run.adv.mod.size
  generalize w3.alloc (.cells (six V) 23) = w4 at HP HV HCW HCB hb ⊢
  obtain ⟨q, hqe⟩ : ∃ q, q = w3.heap.size := ⟨_, rfl⟩
  have hq2 : w.heap.size + 1 + 1 < q := by rw [hqe]; exact hr3
  rw [← hqe] at HV ⊢
  clear hb hsz hqe hr3
  go_wp2_with fail
  refine (run_store HP.out.run.rm hB HF.out.ok (a + 1) (key.size : Int)).mono ?_; rintro e w5 ⟨rfl, go5, hr5, ha5⟩
  have HV := Lib.hid (HP.out.run.stays ha5 HV.out (by omega) (by decide))
  have HP := Lib.hid (HP.out.access hr5 ha5)
  have HCW := Lib.hid (HCW.out.access HCB.out hr5 ha5)
  have HCB := Lib.hid (fun g o e => Nat.lt_of_lt_of_le (HCB.out g o e) ha5.mod.size)
  clear hr5 ha5 HF
  go_wp2_with fail
  go_loopg [46] cl (fun r iv wr => ∃ (j : Nat) (st1 : St) (go1 : Option Nat), j + r = cl ∧ iv = .int .i64 (j : Int) ∧ Hid (PD w rb mb cb go B S U C T L st1 go1 wr) ∧ Hid (wr.heap[q]? = some (.cells (six V) 23 (0, 0))) ∧ Hid (CW w rb mb cb go oa (cellsN (bytesL key)) st1 go1 wr) ∧ Hid (∀ g o, oa = some ⟨g, o, none⟩ → g < wr.heap.size) ∧ Hid (st1.Fine Bd) ∧ Hid (Rest p (storesR (.store (s + slot) a (.ret (a, V, 0))) ((cellsN (bytesL key)).drop j) (a + 2 + (j : Int))) st st1))
  case atStart => exact ⟨0, _, go5, by omega, rfl, HP, HV, HCW, HCB, HF2, Lib.hid (HQ.out.same (by rw [List.drop_zero, show a + 2 + ((0 : Nat) : Int) = a + 2 by omega]))⟩
  case round =>
    clear HP HV HCW HCB HF2 HQ
    obtain ⟨j, st1, go1, hjr, rfl, HP, HV, HCW, HCB, HF, HQ⟩ := hrel
    cases gk with
    | zero =>
      have hjc : cl = j := by omega
      have hq := HQ.out
      rw [List.drop_eq_nil_of_le (by rw [HL.out]; omega)] at hq
      unfold storesR at hq
      have hq3 := hq.store HF.out
      rw [HU.out.2] at hq3
      have HE := Lib.hid hq3.ret
      subst hjc
      clear hq hq3 HQ hjr
      go_wp2_with fail
      refine (run_store HP.out.run.rm hB HF.out.ok (s + slot) a).mono ?_; rintro e w9 ⟨rfl, go9, hr9, ha9⟩
      have HV := Lib.hid (HP.out.run.stays ha9 HV.out (by omega) (by decide))
      have HP := Lib.hid (HP.out.access hr9 ha9)
      clear hr9 ha9 HCW HCB
      go_upto_region 12 with fail
      clear hc1 hc2 hc3
      obtain ⟨st9, hst9⟩ : ∃ z, z = st1.store (s + slot) a := ⟨_, rfl⟩
      rw [← hst9] at HE HP
      refine wp_region_by (fun (_ : Unit) j => [.int .i64 a, .agg (six V), .int .i64 a, undef, .int .i64 0].getD j undef)
        (fun _ l wx => RunW w rb mb cb go st9 go9 wx ∧ wx.heap[q]? = some (.cells (six V) 23 (0, 0)) ∧ (∃ X, wx.heap[w.heap.size + 1 + 1]? = some (.cells (six X) 23 (0, 0))) ∧ (l 3 = true → wx.heap[w.heap.size + 1 + 1]? = some (.cells (six V) 23 (0, 0))))
        (by kernel_rfl) (by kernel_rfl) (fun q => by simp only [putTo, dstOf, Act.put, List.size_toArray, List.length_cons, List.length_nil, List.getElem?_toArray, Nat.reduceAdd, Option.bind_some, List.getElem?_cons_zero, List.getElem?_cons_succ, List.setIfInBounds_toArray, List.set_cons_zero, List.set_cons_succ, List.getD_cons_zero, List.getD_cons_succ]; exact rfl) () ?_ ?_ ?_
      · exact ⟨HP.out.drew.run, HV.out, ⟨_, HP.out.r⟩, (fun h => by cases h)⟩
      · intro i o ho q' l wx hR hl he K hK
        rcases i with _ | _ | _ | _ | _ | i
        · obtain rfl : _ = o := Option.some.inj ho
          go_simp
          exact hK () wx (fun _ _ => rfl) hR
        · obtain rfl : _ = o := Option.some.inj ho
          refine wp_load_row 23 (.tmp 17) rfl q rfl 23 (six V) (0, 0) _ hR.2.1 Try.underlying23 rfl (six_info _) ?_
          exact hK () wx (fun _ _ => rfl) hR
        · obtain rfl : _ = o := Option.some.inj ho
          go_simp
          exact hK () wx (fun _ _ => rfl) hR
        · obtain rfl : _ = o := Option.some.inj ho
          obtain ⟨X, hX⟩ := hR.2.2.1
          refine wp_store_row 23 (.tmp 13) (.tmp 67) rfl (w.heap.size + 1 + 1) (six V) rfl rfl 23 (six X) hX (six_info _) (six_both _ _) (six_one _) ?_
          have hs := setRow_heap wx (w.heap.size + 1 + 1) _ (six V) _ _ hX
          exact hK () _ (fun _ _ => rfl) ⟨hR.1.turn (hR.1.far hX (by omega) (by decide)) (by omega) (Mod.setRow (S := fun j => j = w.heap.size + 1 + 1) (Mod.refl _ _) (.inr rfl) _), (setRow_other _ _ _ _ (by omega)).trans hR.2.1, ⟨_, hs⟩, fun _ => hs⟩
        · obtain rfl : _ = o := Option.some.inj ho
          go_simp
          exact hK () wx (fun _ _ => rfl) hR
        · simp at ho
      · intro q' l wx hl hR
        have H4 : Hid (wx.heap[w.heap.size + 1 + 1]? = some (.cells (six V) 23 (0, 0))) := Lib.hid (hR.2.2.2 (hl 3 (by decide)))
        have HRX := Lib.hid hR.1
        clear hR hl
        go_wp2_with fail
        refine bodyPost_ret (v := .tuple #[.int .i64 a, .agg (six V), .int .i64 0]) (results_tmp_cell_tmp rfl _ _ (w.heap.size + 1 + 1) _ _ (0, 0) _ _ _ rfl rfl rfl H4.out Try.underlying23 rfl (six_info _)) rfl ?_
        exact PutDoneD.of HRX.out HE.out
    | succ r =>
      have hjc : j < cl := by omega
      have hjc1 : (j : Int) < (cl : Int) := by omega
      obtain ⟨x, hx⟩ : ∃ x, (cellsN (bytesL key))[j]? = some x := ⟨_, List.getElem?_eq_getElem (by rw [HL.out]; exact hjc)⟩
      have hx32 := HLt.out x (List.mem_of_getElem? hx)
      obtain ⟨gb, ob, rfl, hcell⟩ := HCW.out.read j x hx
      have hdr : (cellsN (bytesL key)).drop j = x :: (cellsN (bytesL key)).drop (j + 1) := by
        have hlt := (List.getElem?_eq_some_iff.1 hx).1
        rw [List.drop_eq_getElem_cons hlt, (List.getElem?_eq_some_iff.1 hx).2]
      have hq := HQ.out
      rw [hdr] at hq
      unfold storesR at hq
      have hq3 := hq.store HF.out
      have hf3 := HF.out.store (a + 2 + (j : Int)) (x : Int)
      rw [u32_in (v := (x : Int)) ⟨by omega, by omega⟩] at hq3 hf3
      have s7 : IntKind.i64.wrap (a + 2 + (j : Int)) = a + 2 + (j : Int) := IntWalk.i64_in _ (by omega)
      have HQ3 := Lib.hid (hq3.same (by rw [show a + 2 + (j : Int) + 1 = a + 2 + ((j + 1 : Nat) : Int) by omega]))
      have HF3 := Lib.hid hf3
      have HK := Lib.hid (run_store HP.out.run.rm hB HF.out.ok (a + 2 + (j : Int)) (x : Int))
      clear hdr hq hq3 hf3 hx HQ hx32
      go_wp2_with fail
      refine HK.out.mono ?_; rintro e w6 ⟨rfl, go6, hr6, ha6⟩
      have HV := Lib.hid (HP.out.run.stays ha6 HV.out (by omega) (by decide))
      have HP := Lib.hid (HP.out.access hr6 ha6)
      have HCW := Lib.hid (HCW.out.access HCB.out hr6 ha6)
      have HCB := Lib.hid (fun g o e => Nat.lt_of_lt_of_le (HCB.out g o e) ha6.mod.size)
      clear hr6 ha6 HK hcell
      go_wp2_with fail
      go_roundg r
      case measure => omega
      case rel => exact ⟨j + 1, _, go6, by omega, by go_num, HP, HV, HCW, HCB, HF3, HQ3⟩
end
end Go.Proofs.Yteliaammffmmiaa

namespace Go.Proofs.Yteliaammffmmiaa
open Go.RowKit

theorem kept_dict : KeptDict findR where
  find := fun s n key hrm hf hB s0 s1 n0 n1 hk => by
    obtain ⟨m, rfl⟩ := Int.eq_ofNat_of_zero_le (by omega : 0 ≤ n)
    exact find_any s m key hrm hf hB s0 s1 (by omega) (by omega) hk
  rely := fun _ s lo top C _ d hk hl hn => findR_rely s lo top C hk hl hn d
  ro := findR_ro
  put := fun B S U C T L s slot key hrm hf hB hb4 hU s0 s1 i0 i1 hk => by
    by_cases hfit : 2 + ((cellsN (bytesL key)).length : Int) ≤ S 4 - U 4
    · exact putD_some B S U C T L s slot key hrm hf hB hb4 hU s0 s1 i0 i1 hk hfit
    · exact putD_none B S U C T L s slot key hrm hU hk hfit
  read := fun a hrm hf hB a0 a1 => read_any a hrm hf hB a0 a1
  tail := fun a hrm hf hB _ _ => tail_any a hrm hf hB
  setTail := fun a t hrm hf hB _ _ t0 t1 => setTail_any a t hrm hf hB t0 t1
end Go.Proofs.Yteliaammffmmiaa
