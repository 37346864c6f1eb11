/-
  The reference of layer 13: Decode. Over the program's own text.
-/
import Derived.Test.YtpmhkmakkeckkaaBlkDecC
import Derived.Test.YtpmhkmakkeckkaaBlkRefC
import Derived.StillTailTactics
import Derived.BigQuiet
namespace Go.Proofs.Ytpmhkmakkeckkaa
open Go.RowKit

def badG (L : List Nat) (m : Nat) : Prop := (getR 5 L).2.2 ≠ 0 ∨ m < (getR 5 L).1
instance (L : List Nat) (m : Nat) : Decidable (badG L m) := by unfold badG; exact inferInstance
set_option maxRecDepth 100000 in
theorem posS_bad {n : Nat} {a : Int} {L : List Nat} (h : badG L 65535) : posS (n + 1) a L = none := by rw [posS, if_pos (show (getR 5 L).2.2 ≠ 0 ∨ 65535 < (getR 5 L).1 from h)]
set_option maxRecDepth 100000 in
theorem posS_step {n : Nat} {a : Int} {L : List Nat} (h : ¬ badG L 65535) : posS (n + 1) a L = (posS n (a + ((getR 5 L).1 : Int)) (L.drop (getR 5 L).2.1)).map fun r => ((a + ((getR 5 L).1 : Int)) :: r.1, r.2) := by
  rw [posS, if_neg (show ¬ ((getR 5 L).2.2 ≠ 0 ∨ 65535 < (getR 5 L).1) from h)]
  unfold nextN
  simp only
  cases posS n (a + ((getR 5 L).1 : Int)) (L.drop (getR 5 L).2.1) <;> rfl
set_option maxRecDepth 100000 in
theorem entS_bad1 {a : Int} {L : List Nat} (h : badG L 65535) : entS a L = none := by unfold entS; rw [if_pos (show (getR 5 L).2.2 ≠ 0 ∨ 65535 < (getR 5 L).1 from h)]
set_option maxRecDepth 100000 in
theorem entS_bad2 {a : Int} {L : List Nat} (h1 : ¬ badG L 65535) (h : badG (L.drop (getR 5 L).2.1) 256) : entS a L = none := by unfold entS; rw [if_neg (show ¬ ((getR 5 L).2.2 ≠ 0 ∨ 65535 < (getR 5 L).1) from h1), if_pos (show (getR 5 (nextN L).2).2.2 ≠ 0 ∨ 256 < (getR 5 (nextN L).2).1 from h)]
set_option maxRecDepth 100000 in
theorem entS_go {a : Int} {L : List Nat} (h1 : ¬ badG L 65535) (h2 : ¬ badG (L.drop (getR 5 L).2.1) 256) :
    entS a L = (posS (getR 5 (L.drop (getR 5 L).2.1)).1 0 ((L.drop (getR 5 L).2.1).drop (getR 5 (L.drop (getR 5 L).2.1)).2.1)).map fun r => ((a + ((getR 5 L).1 : Int), r.1), r.2) := by
  unfold entS
  rw [if_neg (show ¬ ((getR 5 L).2.2 ≠ 0 ∨ 65535 < (getR 5 L).1) from h1), if_neg (show ¬ ((getR 5 (nextN L).2).2.2 ≠ 0 ∨ 256 < (getR 5 (nextN L).2).1) from h2)]
  unfold nextN
  simp only
  cases posS (getR 5 (L.drop (getR 5 L).2.1)).1 0 ((L.drop (getR 5 L).2.1).drop (getR 5 (L.drop (getR 5 L).2.1)).2.1) <;> rfl
set_option maxRecDepth 100000 in
theorem readS_step {m : Nat} {l : List En} {L : List Nat} : readS (m + 1) l L = (entS (aheadD l l.length) L).bind fun r => readS m (l ++ [r.1]) r.2 := by
  rw [readS]
  cases entS (aheadD l l.length) L <;> rfl
set_option maxRecDepth 100000 in
/-- What stands at a place: it goes on, or ends with an error. -/
theorem get_at (W : World) (oa : Option Addr) (c N a m : Nat) (L : List Nat) (en : L.length = N) (ha : ReadN .u8 W oa L) (hl : N ≤ 1000000) (hx : ∀ x ∈ L, x < 256) (haN : a ≤ N) :
    (badG (L.drop a) m ∧ ∃ (n b e : Nat), (e ≠ 0 ∨ m < n) ∧ n < 4294967296 ∧ e ≤ 12 ∧ b ≤ N ∧ Calls Try.prog 45 #[.slice oa N c, .int .i64 (a : Int)] W fun e' w' => e' = .returned (.tuple #[.int .u32 (n : Int), .int .i64 (b : Int), .int .i64 (e : Int)]) ∧ w' = W) ∨
    (¬ badG (L.drop a) m ∧ ∃ n k : Nat, n ≤ m ∧ n < 4294967296 ∧ a + k ≤ N ∧ (getR 5 (L.drop a)) = (n, k, 0) ∧ Calls Try.prog 45 #[.slice oa N c, .int .i64 (a : Int)] W fun e' w' => e' = .returned (.tuple #[.int .u32 (n : Int), .int .i64 ((a + k : Nat) : Int), .int .i64 0]) ∧ w' = W) := by
  have h := ref_get W oa c N L (a : Int) en ha hl hx (by omega) (by omega)
  have hb : ∀ b ∈ L.drop a, b < 256 := fun b hb => hx b (List.mem_of_mem_drop hb)
  generalize hq : getR 5 (L.drop a) = q at *
  obtain ⟨n, k, e⟩ := q
  rw [getA_in (by omega) hq] at h
  by_cases he : e = 0
  · subst he
    rw [if_pos rfl] at h
    have hg := get_len hb (by rw [hq])
    rw [hq, List.length_drop, en] at hg
    simp only at hg h
    rw [show (a : Int) + (k : Int) = ((a + k : Nat) : Int) by omega] at h
    by_cases hm : m < n
    · exact .inl ⟨.inr (by rw [hq]; exact hm), n, a + k, 0, .inr hm, hg.2.2, by omega, by omega, h⟩
    · exact .inr ⟨fun c => by unfold badG at c; rw [hq] at c; simp at c; omega, n, k, by omega, hg.2.2, by omega, rfl, h⟩
  · rw [if_neg he] at h
    simp only at h
    have hk := get_kinds 5 (L.drop a)
    rw [hq] at hk
    exact .inl ⟨.inl (by rw [hq]; exact he), 0, 0, e, .inl he, by omega, by simp only at hk; omega, by omega, h⟩
/-- An entry that is read: in a block of its own, its places in rows of its own. -/
structure DX (wx : World) (d : Int) (u : Value) (acc : List Int) (wr : World) : Prop where
  e : wr.heap[wx.heap.size]? = some (.cells #[.int .i64 d, u] 52 (0, 0))
  own : OwnZ wr wx.heap.size u acc
  low : Below wx.heap.size wx wr
set_option maxRecDepth 100000 in
theorem DX.below {wx wr w1 : World} {d : Int} {u : Value} {acc : List Int} (h : DX wx d u acc wr) (hb : Below wr.heap.size wr w1) : DX wx d u acc w1 := ⟨block_below h.e hb, h.own.below hb, low_more h.low hb⟩
set_option maxRecDepth 100000 in
theorem DX.app {wx wr w1 : World} {d x : Int} {u v' : Value} {acc : List Int} {n : Nat} {o : Obj} (h : DX wx d u acc wr) (hl : acc.length = n) (ho : w1.ownsRow wx.heap.size 3 1 v' (n + 1) (zC acc ++ [.int .i64 x])) (hg : (wr.alloc o).grownBy w1 u.ownBlock) :
    w1.heap[wx.heap.size]? = some (.cells #[.int .i64 d, u] 52 (0, 0)) ∧ DX wx d v' (acc ++ [x]) (w1.setCell ⟨wx.heap.size, 1, none⟩ v') := by
  have hA : (wr.alloc o).ownsRow wx.heap.size 3 1 u acc.length (zC acc) := World.ownsRow.alloc h.own o
  have k1 := grown_block hA hg (by rw [Below.heap_alloc _ _ _ (lt_of_heap h.e)]; exact h.e) (by decide)
  have hb : Below wx.heap.size wx w1 := (low_new (o := o) h.low).grown hg (by simp; have := h.low.size; omega) (fun k hk => (World.ownsRow.lt hA k hk).1)
  subst hl
  refine ⟨k1, heap_setCell_same _ _ 1 _ _ v' k1, ?_, hb.setCell (p := ⟨wx.heap.size, 1, none⟩) (Nat.le_refl _) v'⟩
  unfold OwnZ
  rw [zC_snoc, List.length_append]
  exact row_mod ho (q := wx.heap.size) (fun k _ hk => Below.heap_setCell _ _ _ _ hk) k1 (by decide)
/-- The list so far. -/
structure DL (W : World) (B0 : Nat) (vo : Value) (acc : List En) (gt : Nat) (L0 : List Nat) (wr : World) : Prop where
  own : OwnE wr B0 vo acc
  base_le : B0 ≤ wr.heap.size
  rd : ReadN .u8 wr (some ⟨gt, 0, none⟩) L0
  low : Below W.heap.size W wr
set_option maxRecDepth 100000 in
theorem DL.below {W wr w1 : World} {B0 gt B : Nat} {vo : Value} {acc : List En} {L0 : List Nat} (h : DL W B0 vo acc gt L0 wr) (hb : Below B wr w1) (hB : wr.heap.size ≤ B) : DL W B0 vo acc gt L0 w1 := by
  have hb2 : Below wr.heap.size wr w1 := hb.mono hB
  exact ⟨h.own.below hb2, Nat.le_trans h.base_le hb2.size, h.rd.below hb2, low_more h.low hb2⟩
set_option maxRecDepth 100000 in
theorem DL.push {W w1 w8 : World} {B0 gt : Nat} {vo v' : Value} {acc : List En} {L0 : List Nat} {e : En} {u : Value} {i : Nat} {pss : List Value} (h : DL W B0 vo acc gt L0 w1) (hgt : gt < B0) (hBW : W.heap.size ≤ B0) (hal : acc.length = i) (hp1 : pss.length = acc.length) (hp2 : w1.ownsRow B0 52 2 vo acc.length (entC acc pss)) (hp3 : ∀ (j : Nat) (e : En), acc[j]? = some e → ∃ u, pss[j]? = some u ∧ OwnZ w1 B0 u e.2) (hu : OwnZ w1 B0 u e.2)
    (ho : w8.ownsRow B0 52 2 v' (i + 1) (entC acc pss ++ [.int .i64 e.1, u])) (hg : w1.grownBy w8 vo.ownBlock) : DL W B0 v' (acc ++ [e]) gt L0 w8 := by
  subst hal
  obtain ⟨h1, h2⟩ := OwnE.push_from hBW h.low.size h.low hp1 hp2 hp3 hu ho hg
  refine ⟨h1, Nat.le_trans h.base_le hg.size, fun j x hj => ?_, h2⟩
  obtain ⟨g, o, he, hc⟩ := h.rd j x hj
  have hgl := lt_of_cell hc
  refine ⟨g, o, he, ?_⟩
  injection he with he
  injection he with he1 _
  rw [World.cell?_of_block (hg.block g hgl (fun e' => by have := (World.ownsRow.lt hp2 g e'.symm).1; omega))]
  exact hc
set_option maxRecDepth 100000 in
theorem own_zero {w : World} {base g off n c : Nat} {l : List Int} (h : OwnZ w base (.slice (some ⟨g, off, none⟩) n c) l) : off = 0 := by
  rcases h.2 with ⟨h1, _⟩ | ⟨g', cap, cur, h1, _⟩
  · cases h1
  · cases h1; rfl
set_option maxRecDepth 100000 in
theorem decS_bad {C : List Nat} (h : badC C) : decS C = ([], 11) := by unfold decS; rw [if_pos h]
set_option maxRecDepth 100000 in
theorem decS_none {C : List Nat} (h : readS (C.getD 0 0) [] (bytesC (C.drop (fromN C))) = none) : decS C = ([], 11) := by
  unfold decS
  split
  · rfl
  · rw [h]

set_option maxRecDepth 100000 in
set_option maxHeartbeats 8000000 in
theorem ref_decode13 (W : World) (oa : Option Addr) (c N : Nat) (C : List Nat) (en : C.length = N) (ha : ReadN .u32 W oa C) (hc : N ≤ c) (hm : c ≤ maxLen) (hl : N ≤ 200000) (hx : ∀ x ∈ C, x < 4294967296) :
    Calls Try.prog 30 #[.slice oa N c] W fun e w' => ∃ v, e = .returned (.tuple #[v, .int .i64 (decS C).2]) ∧ OwnE w' W.heap.size v (decS C).1 ∧ Below W.heap.size W w' := by
  by_cases h0 : N = 0
  · have HR := Lib.hid (show decS C = ([], 11) from decS_bad (.inl (List.eq_nil_of_length_eq_zero (by omega))))
    subst h0
    clear ha en hx
    go_enter Try.func30, Try.ntmps30
    go_wp2_with fail
    go_ret2
    rw [HR.out]
    exact ⟨_, rfl, OwnE.nil _ _, Below.refl _ _⟩
  obtain ⟨n, hn⟩ : ∃ n, C.getD 0 0 = n := ⟨_, rfl⟩
  obtain ⟨g, o, rfl, c0⟩ := ha 0 n (by rw [← hn, List.getD_eq_getElem?_getD, List.getElem?_eq_getElem (by omega)]; rfl)
  rw [Nat.add_zero] at c0
  have hnlt : n < 4294967296 := by rw [← hn]; exact all_getD hx (by omega)
  have h0i : ((N : Int) == 0) = false := beq_eq_false_iff_ne.2 (by omega)
  have hN0 : (0 : Int) < (N : Int) := by omega
  by_cases h64 : 64 < n
  · have HR := Lib.hid (show decS C = ([], 11) from decS_bad (.inr (.inl (by rw [hn]; exact h64))))
    have h64i : (64 : Int) < (n : Int) := by omega
    clear ha en hx hn
    go_enter Try.func30, Try.ntmps30
    go_wp2_with fail
    go_ret2
    rw [HR.out]
    exact ⟨_, rfl, OwnE.nil _ _, Below.refl _ _⟩
  have h64i : ¬ (64 : Int) < (n : Int) := by omega
  obtain ⟨k, hk⟩ : ∃ k, (n + 3) / 4 = k := ⟨_, rfl⟩
  obtain ⟨h, hh⟩ : ∃ h, 1 + k = h := ⟨_, rfl⟩
  have hfrom : fromN C = h := by unfold fromN; rw [hn, hk, hh]
  obtain ⟨n3, hn3⟩ : ∃ n3, n + 3 = n3 := ⟨_, rfl⟩
  have s0 : IntKind.i64.wrap (n : Int) = (n : Int) := IntWalk.i64_in _ (by omega)
  have s3 : (n : Int) + 3 = (n3 : Int) := by omega
  have s4 : IntKind.i64.wrap (n3 : Int) = (n3 : Int) := IntWalk.i64_in _ (by omega)
  have s5 : (n3 : Int) / 4 = (k : Int) := by omega
  have s6 : (n3 : Int).tdiv 4 = (k : Int) := by rw [Int.tdiv_eq_ediv_of_nonneg (by omega)]; exact s5
  have s7 : 1 + (k : Int) = (h : Int) := by omega
  have s8 : IntKind.i64.wrap (h : Int) = (h : Int) := IntWalk.i64_in _ (by omega)
  have s9 : IntKind.i64.wrap (k : Int) = (k : Int) := IntWalk.i64_in _ (by omega)
  by_cases hsh : N < h
  · have HR := Lib.hid (show decS C = ([], 11) from decS_bad (.inr (.inr (by rw [hfrom, en]; exact hsh))))
    have hshi : (N : Int) < (h : Int) := by omega
    clear ha en hx hn hk hh hn3 hfrom
    go_enter Try.func30, Try.ntmps30
    go_wp2_with fail
    go_ret2
    rw [HR.out]
    exact ⟨_, rfl, OwnE.nil _ _, Below.refl _ _⟩
  have hshi : ¬ (N : Int) < (h : Int) := by omega
  obtain ⟨m, hm2⟩ : ∃ m, h + m = N := ⟨N - h, by omega⟩
  obtain ⟨o2, c2, hsl, d1, d2, hrd⟩ := slice32_from N c h m en hm2 hc hm ha
  have hdl : (C.drop h).length = m := by rw [List.length_drop]; omega
  obtain ⟨m4, hm4⟩ : ∃ m4, 4 * m = m4 := ⟨_, rfl⟩
  have t0 : (N : Int) - (h : Int) = (m : Int) := by omega
  have t3 : IntKind.i64.wrap ((N : Int) - (h : Int)) = (m : Int) := by rw [t0]; exact IntWalk.i64_in _ (by omega)
  have t4 : IntKind.i64.wrap (m : Int) = (m : Int) := IntWalk.i64_in _ (by omega)
  have t1 : 4 * (m : Int) = (m4 : Int) := by omega
  have t2 : IntKind.i64.wrap (m4 : Int) = (m4 : Int) := IntWalk.i64_in _ (by omega)
  have hE : bytesE (C.drop h) (m4 : Int) = 0 := by unfold bytesE; rw [if_neg (by omega), if_neg (by omega)]
  obtain ⟨L0, hL0⟩ : ∃ L0, bytesC (C.drop h) = L0 := ⟨_, rfl⟩
  have hLb : ∀ x ∈ L0, x < 256 := by rw [← hL0]; exact bytesC_lt _
  have hLl : L0.length = m4 := by rw [← hL0, bytesC_length]; omega
  obtain ⟨S, hS⟩ : ∃ S, S = byteText L0 := ⟨_, rfl⟩
  have hSb : bytesL S = L0 := by rw [hS]; exact bytesL_byteText _ hLb
  have hSs : S.size = m4 := by rw [← bytesL_length, hSb, hLl]
  have hX : bytesX (C.drop h) (m4 : Int) = S := by
    unfold bytesX
    rw [if_pos hE, hS, hL0, Int.toNat_natCast, List.take_of_length_le (by omega)]
  have HBy := Lib.hid (ref_bytes W o2 c2 m (C.drop h) (m4 : Int) hdl hrd (by omega) (fun x hx' => hx x (List.mem_of_mem_drop hx')) (by omega) (by omega))
  rw [hE, hX] at HBy
  have hgood : ¬ badC C := by
    unfold badC
    rw [hn, hfrom]
    rintro (c | c | c)
    · rw [c] at en; simp at en; omega
    · exact h64 c
    · omega
  have HNone := Lib.hid (show readS n [] L0 = none → decS C = ([], 11) from fun h' => decS_none (by rw [hn, hfrom, hL0]; exact h'))
  have HSome := Lib.hid (show ∀ l, readS n [] L0 = some l → decS C = if MayE l ∧ encN l = C then (l, 0) else ([], 11) from fun l h' => by
    unfold decS
    rw [if_neg hgood, hn, hfrom, hL0, h'])
  have HSb := Lib.hid hSb
  have HSs := Lib.hid (show S.size ≤ 1000000 by omega)
  have HLb := Lib.hid hLb
  have HLl := Lib.hid hLl
  have hm4b : m4 ≤ 800000 := by omega
  have h64n : n ≤ 64 := by omega
  have HA := Lib.hid ha
  have HNc := Lib.hid en
  obtain ⟨iE, e0, e1, e2, e3⟩ := info_parts info_ent
  have HIE := Lib.hid (And.intro e0 (And.intro e1 (And.intro e2 e3)))
  obtain ⟨iz, z0, z1, z2, z3⟩ := info_parts info_z
  have HIZ := Lib.hid (And.intro z0 (And.intro z1 (And.intro z2 z3)))
  clear ha hx en hn hk hh hn3 hfrom hm2 hrd hdl hm4 hE hL0 hLb hLl hS hSb hX hgood d1 d2 e0 e1 e2 e3 z0 z1 z2 z3 h0 h64
  go_enter Try.func30, Try.ntmps30
  go_wp2_with fail
  refine HBy.out.mono ?_; rintro e w1 ⟨rfl, hb⟩
  obtain ⟨cb, wb, hcv, hws, hc1, hc2, hrb, hbb⟩ := bytes_of w1 S HSs.out
  rw [HSb.out] at hrb
  rw [hSs] at hcv
  have HRb := Lib.hid hrb
  have HLow := Lib.hid (low_more hb hbb)
  have HNum := Lib.hid (And.intro hws (And.intro hc1 (And.intro hc2 hb.size)))
  clear hb hrb hbb hws hc1 hc2 c0 hSs
  go_wp2_with fail
  have HB0 := Lib.hid (show DL W wb.heap.size (.slice (some ⟨wb.heap.size, 0, none⟩) 0 0) [] w1.heap.size L0 (wb.alloc (.cells #[] 52)) from
    ⟨⟨[], rfl, World.ownsRow_lit (base := wb.heap.size) (e := 52) (size := 2) wb #[] 0 (Nat.le_refl _) (by decide) (by simp), by simp⟩, by simp, HRb.out.below below_one, low_new HLow.out⟩)
  obtain ⟨B0, hB0⟩ : ∃ B0, B0 = wb.heap.size := ⟨_, rfl⟩
  obtain ⟨gt, hgt⟩ : ∃ gt, gt = w1.heap.size := ⟨_, rfl⟩
  have HBB := Lib.hid (show gt < B0 ∧ W.heap.size ≤ B0 by have := HNum.out; omega)
  have HBw := Lib.hid (show B0 ≤ (wb.alloc (.cells #[] 52)).heap.size by simp; omega)
  rw [← hB0, ← hgt] at HB0
  rw [← hB0, ← hgt]
  generalize wb.alloc (.cells #[] 52) = w2 at HB0 HBw ⊢
  clear hB0 hgt HRb HLow hcv HNum
  go_loopw [9, 10, 11] (fun av ov iv wr => ∃ (i b0 : Nat) (acc : List En), i ≤ n ∧ iv = .int .i64 (i : Int) ∧ av = .int .i64 (b0 : Int) ∧ b0 ≤ m4 ∧ Hid (acc.length = i ∧ readS (n - i) acc (L0.drop b0) = readS n [] L0 ∧ ∀ t, t < i → 0 ≤ (enAt acc t).1 ∧ (enAt acc t).1 ≤ 65535 * ((t : Int) + 1)) ∧ DL W B0 ov acc gt L0 wr) (fun _ _ iv _ => n - (intOf iv).toNat)
  case atStart => exact ⟨0, 0, [], by omega, rfl, rfl, by omega, Lib.hid ⟨rfl, by rw [List.drop_zero]; rfl, fun t ht => absurd ht (by omega)⟩, HB0.out⟩
  case round =>
    obtain ⟨i, b0, acc, hi, rfl, rfl, hb0, HR, hDL⟩ := hrel
    have HDL0 := Lib.hid hDL
    clear hDL
    by_cases hlt : i < n
    · have hlt1 : (i : Int) < (n : Int) := by omega
      obtain ⟨jn, hjn⟩ : ∃ jn, n - i = jn + 1 := ⟨n - i - 1, by omega⟩
      have HAl := Lib.hid HR.out.1
      have HDoc := Lib.hid HR.out.2.2
      have hrd0 := HR.out.2.1
      rw [hjn] at hrd0
      have HRd := Lib.hid hrd0
      obtain ⟨a, hAh⟩ : ∃ a, aheadD acc i = a := ⟨_, rfl⟩
      have HAh := Lib.hid hAh
      have hab : 0 ≤ a ∧ a ≤ 65535 * (i : Int) := by
        rw [← hAh]
        unfold aheadD
        split
        · omega
        · have := HDoc.out (i - 1) (by omega)
          omega
      have HEnt0 := Lib.hid (show entS a (L0.drop b0) = none → readS n [] L0 = none from fun h => by
        have h1 := HRd.out
        rw [readS_step, HAl.out, HAh.out, h] at h1
        rw [← h1]
        rfl)
      clear hAh hrd0
      rcases get_at wr _ cb m4 b0 65535 L0 HLl.out HDL0.out.rd (by omega) HLb.out hb0 with ⟨hbad, n3, b3, e3, he3, hn3, he3b, hb3, hG⟩ | ⟨hgood1, d0, k1, hd0, hd0b, hb1, hq1, hG1⟩
      · have HBad := Lib.hid (show decS C = ([], 11) from HNone.out (HEnt0.out (entS_bad1 hbad)))
        have HG := Lib.hid hG
        clear hbad hG
        by_cases hez : e3 = 0
        · subst hez
          have hnb : (65535 : Int) < (n3 : Int) := by omega
          clear he3
          go_wp2_with fail
          refine HG.out.mono ?_; rintro e w9 ⟨rfl, rfl⟩
          go_wp2_with fail
          go_ret2
          rw [HBad.out]
          exact ⟨_, rfl, OwnE.nil _ _, HDL0.out.low⟩
        · have hez1 : ((e3 : Int) != 0) = true := bne_iff_ne.2 (by omega)
          clear he3
          go_wp2_with fail
          refine HG.out.mono ?_; rintro e w9 ⟨rfl, rfl⟩
          go_wp2_with fail
          go_ret2
          rw [HBad.out]
          exact ⟨_, rfl, OwnE.nil _ _, HDL0.out.low⟩
      have hnb1 : ¬ (65535 : Int) < (d0 : Int) := by omega
      have HG1 := Lib.hid hG1
      have HQ1 := Lib.hid (And.intro hgood1 hq1)
      obtain ⟨b1, hb1e⟩ : ∃ b1, b1 = b0 + k1 := ⟨_, rfl⟩
      rw [← hb1e] at HG1 hb1
      have HB1 := Lib.hid hb1e
      clear hG1 hgood1 hq1 hb1e
      rcases get_at wr _ cb m4 b1 256 L0 HLl.out HDL0.out.rd (by omega) HLb.out hb1 with ⟨hbad, n3, b3, e3, he3, hn3, he3b, hb3, hG⟩ | ⟨hgood2, cnt, k2, hcnt, hcntb, hb2m, hq2, hG2⟩
      · have HBad := Lib.hid (show decS C = ([], 11) from HNone.out (HEnt0.out (entS_bad2 HQ1.out.1 (by rw [HQ1.out.2]; simp only [List.drop_drop]; rw [← HB1.out]; exact hbad))))
        have HG := Lib.hid hG
        clear hbad hG
        by_cases hez : e3 = 0
        · subst hez
          have hnb : (256 : Int) < (n3 : Int) := by omega
          clear he3
          go_wp2_with fail
          refine HG1.out.mono ?_; rintro e w9 ⟨rfl, rfl⟩
          go_wp2_with fail
          refine HG.out.mono ?_; rintro e w8 ⟨rfl, rfl⟩
          go_wp2_with fail
          go_ret2
          rw [HBad.out]
          exact ⟨_, rfl, OwnE.nil _ _, HDL0.out.low⟩
        · have hez1 : ((e3 : Int) != 0) = true := bne_iff_ne.2 (by omega)
          clear he3
          go_wp2_with fail
          refine HG1.out.mono ?_; rintro e w9 ⟨rfl, rfl⟩
          go_wp2_with fail
          refine HG.out.mono ?_; rintro e w8 ⟨rfl, rfl⟩
          go_wp2_with fail
          go_ret2
          rw [HBad.out]
          exact ⟨_, rfl, OwnE.nil _ _, HDL0.out.low⟩
      have hnb2 : ¬ (256 : Int) < (cnt : Int) := by omega
      obtain ⟨b2, hb2e⟩ : ∃ b2, b2 = b1 + k2 := ⟨_, rfl⟩
      rw [← hb2e] at hG2 hb2m
      have HG2 := Lib.hid hG2
      obtain ⟨dd, hdd⟩ : ∃ dd, a + (d0 : Int) = dd := ⟨_, rfl⟩
      have HEntS := Lib.hid (show entS a (L0.drop b0) = (posS cnt 0 (L0.drop b2)).map fun r => ((dd, r.1), r.2) from by
        have h1 := HQ1.out.2
        have h3 : (L0.drop b0).drop k1 = L0.drop b1 := by rw [List.drop_drop, HB1.out]
        have h2 : getR 5 ((L0.drop b0).drop (getR 5 (L0.drop b0)).2.1) = (cnt, k2, 0) := by rw [h1]; simp only; rw [h3, hq2]
        have h4 := entS_go (a := a) HQ1.out.1 (by rw [h1]; simp only; rw [h3]; exact hgood2)
        rw [h4, h2, h1]
        simp only
        rw [h3, List.drop_drop, hdd, ← hb2e])
      have HEnt := Lib.hid (show posS cnt 0 (L0.drop b2) = none → readS n [] L0 = none from fun h => HEnt0.out (by rw [HEntS.out, h]; rfl))
      have hddb : 0 ≤ dd ∧ dd ≤ 65535 * ((i : Int) + 1) := by omega
      obtain ⟨r, hr⟩ : ∃ r, i % 4 = r := ⟨_, rfl⟩
      have r1 : (i : Int) % 4 = (r : Int) := by omega
      have r2 : (i : Int).tmod 4 = (r : Int) := by rw [Int.tmod_eq_emod_of_nonneg (by omega)]; exact r1
      have r4 : IntKind.i64.wrap (d0 : Int) = (d0 : Int) := IntWalk.i64_in _ (by omega)
      have HDd := Lib.hid hdd
      have HRr := Lib.hid hr
      clear hgood2 hq2 hG2 hb2e hdd hr
      go_wp2_with fail
      refine HG1.out.mono ?_; rintro e w9 ⟨rfl, rfl⟩
      go_wp2_with fail
      refine HG2.out.mono ?_; rintro e w8 ⟨rfl, rfl⟩
      go_upto_if 96 with fail
      have HD0 := Lib.hid (show DX w8 (d0 : Int) (.slice none 0 0) [] (w8.alloc (.cells #[.int .i64 (d0 : Int), .slice none 0 0] 52)) from ⟨heap_alloc_new w8 _, OwnZ.nil _ _, below_one⟩)
      have HBx := Lib.hid (show B0 ≤ w8.heap.size from HDL0.out.base_le)
      obtain ⟨be, hbe⟩ : ∃ be, be = w8.heap.size := ⟨_, rfl⟩
      have HBe := Lib.hid hbe
      generalize w8.alloc (.cells #[.int .i64 (d0 : Int), .slice none 0 0] 52) = wa at HD0 ⊢
      obtain ⟨wx0, hwx⟩ : ∃ wx0, wx0 = w8 := ⟨_, rfl⟩
      rw [← hbe]
      have HDL := Lib.hid (show DL W B0 _ acc gt L0 wx0 by rw [hwx]; exact HDL0.out)
      rw [← hwx] at HD0 HBx HBe
      clear hbe hwx HDL0
      go_cut [] from 94 to 106 (fun wc => DX wx0 dd (.slice none 0 0) [] wc)
      case first =>
        by_cases hr0 : r = 0
        · have r3 : ((r : Int) != 0) = false := by rw [hr0]; rfl
          have ha0 : a = 0 := by rw [← HAh.out]; unfold aheadD; rw [if_pos (by rw [HRr.out]; exact hr0)]
          have hd2 : dd = (d0 : Int) := by have := HDd.out; omega
          go_wp2_with fail
          go_meet
          case rel => rw [hd2]; exact HD0.out
        · have r3 : ((r : Int) != 0) = true := bne_iff_ne.2 (by omega)
          obtain ⟨i1, hi1⟩ : ∃ i1, i = i1 + 1 := ⟨i - 1, by have := HRr.out; omega⟩
          obtain ⟨ol, cl, hv, _, _, _, hrE⟩ := HDL.out.own.reads
          rw [HAl.out] at hv
          obtain ⟨gl, oo, rfl, ca, _⟩ := hrE i1 _ (enAt_lt (by rw [HAl.out]; omega))
          have haa : (enAt acc i1).1 = a := by rw [← HAh.out]; unfold aheadD; rw [if_neg (by rw [HRr.out]; exact hr0), show i - 1 = i1 by omega]
          rw [haa] at ca
          subst hv
          have ca := below_cell ca HD0.out.low
          have u1 : (i : Int) - 1 = (i1 : Int) := by omega
          have u3 : IntKind.i64.wrap (i1 : Int) = (i1 : Int) := IntWalk.i64_in _ (by omega)
          have u4 : (d0 : Int) + a = dd := by have := HDd.out; omega
          have u5 : IntKind.i64.wrap dd = dd := IntWalk.i64_in _ (by omega)
          have hi1l : i1 < i := by omega
          have cx : wa.cell? ⟨be, 0, none⟩ = some (.int .i64 (d0 : Int)) := by rw [HBe.out]; exact cell_at HD0.out.e 0
          have fx : wa.frozen? ⟨be, 0, none⟩ = false := by rw [HBe.out]; exact free_at HD0.out.e 0
          have HSt := Lib.hid (show DX wx0 dd (.slice none 0 0) [] (wa.drew.setCell ⟨be, 0, none⟩ (.int .i64 dd)) from by
            rw [HBe.out]
            have h1 : wa.drew.heap[wx0.heap.size]? = _ := HD0.out.e
            exact ⟨heap_setCell_same _ _ 0 _ _ (.int .i64 dd) h1, OwnZ.nil _ _, HD0.out.low.drew.setCell (p := ⟨wx0.heap.size, 0, none⟩) (Nat.le_refl _) _⟩)
          clear hrE hi1 haa
          go_wp2_with fail
          go_still_tail 10, (by kernel_rfl)
          change wpList _ _ _ _ _ wa.drew
          have cx2 : wa.drew.cell? ⟨be, 0, none⟩ = some (.int .i64 (d0 : Int)) := cx
          have fx2 : wa.drew.frozen? ⟨be, 0, none⟩ = false := fx
          go_wp2_with fail
          go_meet
          case rel => exact HSt.out
      case rest =>
        have HDx := Lib.hid hcut
        clear hcut HD0
        go_wp2_with fail
        go_loopw [13, 17] (fun nv kv wr => ∃ (k b : Nat) (a2 : Int) (acc2 : List Int) (u : Value), k ≤ cnt ∧ kv = .int .i64 (k : Int) ∧ nv = .int .i64 (b : Int) ∧ b ≤ m4 ∧ (0 ≤ a2 ∧ a2 ≤ 65535 * (k : Int)) ∧ Hid (acc2.length = k ∧ (k = 0 → a2 = 0) ∧ (∀ j, k = j + 1 → acc2[j]? = some a2) ∧ posS cnt 0 (L0.drop b2) = (posS (cnt - k) a2 (L0.drop b)).map (fun r => (acc2 ++ r.1, r.2))) ∧ DX wx0 dd u acc2 wr) (fun _ kv _ => cnt - (intOf kv).toNat)
        case atStart => exact ⟨0, b2, 0, [], _, by omega, rfl, rfl, hb2m, by omega, Lib.hid ⟨rfl, fun _ => rfl, fun j hj => by omega, by
          rw [Nat.sub_zero]
          cases posS cnt 0 (L0.drop b2) <;> rfl⟩, HDx.out⟩
        case round =>
          obtain ⟨k, b, a2, acc2, u, hk, rfl, rfl, hbm, ha2, HR2, hD⟩ := hrel
          have HD := Lib.hid hD
          have HLx := Lib.hid (HDL.out.below hD.low (Nat.le_refl _))
          clear hD
          by_cases hkc : k < cnt
          · have hkc1 : (k : Int) < (cnt : Int) := by omega
            obtain ⟨jj, hjj⟩ : ∃ jj, cnt - k = jj + 1 := ⟨cnt - k - 1, by omega⟩
            rcases get_at wr _ cb m4 b 65535 L0 HLl.out HLx.out.rd (by omega) HLb.out hbm with ⟨hbad, n3, b3, e3, he3, hn3, he3b, hb3, hG⟩ | ⟨hgood, n3, k3, hn3, hn3b, hb3, hq3, hG⟩
            · have HBad := Lib.hid (show decS C = ([], 11) from HNone.out (HEnt.out (by rw [HR2.out.2.2.2, hjj, posS_bad hbad]; rfl)))
              have HG := Lib.hid hG
              clear hbad hG hjj
              by_cases hez : e3 = 0
              · subst hez
                have hnb : (65535 : Int) < (n3 : Int) := by omega
                clear he3
                go_wp2_with fail
                refine HG.out.mono ?_; rintro e w9 ⟨rfl, rfl⟩
                go_wp2_with fail
                go_ret2
                rw [HBad.out]
                exact ⟨_, rfl, OwnE.nil _ _, HLx.out.low⟩
              · have hez1 : ((e3 : Int) != 0) = true := bne_iff_ne.2 (by omega)
                clear he3
                go_wp2_with fail
                refine HG.out.mono ?_; rintro e w9 ⟨rfl, rfl⟩
                go_wp2_with fail
                go_ret2
                rw [HBad.out]
                exact ⟨_, rfl, OwnE.nil _ _, HLx.out.low⟩
            · obtain ⟨b3, hb3e⟩ : ∃ b3, b3 = b + k3 := ⟨_, rfl⟩
              rw [← hb3e] at hG hb3
              obtain ⟨a3, ha3⟩ : ∃ a3, a2 + (n3 : Int) = a3 := ⟨_, rfl⟩
              have hst := HR2.out.2.2.2
              rw [hjj, posS_step hgood, hq3] at hst
              simp only [List.drop_drop] at hst
              rw [ha3, ← hb3e] at hst
              have HNx := Lib.hid (show (acc2 ++ [a3]).length = k + 1 ∧ (k + 1 = 0 → a3 = 0) ∧ (∀ j, k + 1 = j + 1 → (acc2 ++ [a3])[j]? = some a3) ∧ posS cnt 0 (L0.drop b2) = (posS (cnt - (k + 1)) a3 (L0.drop b3)).map (fun r => ((acc2 ++ [a3]) ++ r.1, r.2)) from by
                refine ⟨by simp [HR2.out.1], fun h => by omega, fun j hj => ?_, ?_⟩
                · obtain rfl : j = k := by omega
                  rw [List.getElem?_append_right (by rw [HR2.out.1]; exact Nat.le_refl _), HR2.out.1, Nat.sub_self]
                  rfl
                · rw [show cnt - (k + 1) = jj by omega, hst]
                  cases posS jj a3 (L0.drop b3) with
                  | none => rfl
                  | some r => simp)
              have ha3b : 0 ≤ a3 ∧ a3 ≤ 65535 * ((k + 1 : Nat) : Int) := by omega
              have HG := Lib.hid hG
              have HAl2 := Lib.hid HR2.out.1
              have hnb : ¬ (65535 : Int) < (n3 : Int) := by omega
              have y1 : IntKind.i64.wrap (n3 : Int) = (n3 : Int) := IntWalk.i64_in _ (by omega)
              have y2 : IntKind.i64.wrap (a2 + (n3 : Int)) = a3 := by rw [ha3]; exact IntWalk.i64_in _ (by omega)
              have y3 : IntKind.i64.wrap a3 = a3 := IntWalk.i64_in _ (by omega)
              obtain ⟨ou, cu, hu, _, _, _, hrz⟩ := HD.out.own.reads
              rw [HAl2.out] at hu
              subst hu
              by_cases hk0 : k = 0
              · subst hk0
                have ha20 := HR2.out.2.1 rfl
                have h3n : a3 = (n3 : Int) := by omega
                subst h3n
                clear hst hgood hq3 hG hjj hb3e hrz ha20 ha3 ha2 y2 hn3
                go_wp2_with fail
                refine HG.out.mono ?_; rintro e w9 ⟨rfl, rfl⟩
                have c1 : w9.cell? ⟨be, 1, none⟩ = some (.slice ou 0 cu) := by rw [HBe.out]; exact cell_at HD.out.e 1
                have hwz := HD.out.low.size
                go_wp2_with (at_builtin; refine wpList_append_own _ rfl (.tmp 144) (.tmp 147) 50 rfl wx0.heap.size 3 iz _ 1 8 Try.underlying50 HIZ.out.1 HIZ.out.2.1 HIZ.out.2.2.1 HIZ.out.2.2.2 rfl (by decide) _ 0 (zC acc2) rfl (World.ownsRow.alloc (HD.out.own.row HAl2.out) _) ⟨_, 0, none⟩ 1 1 [.int .i64 (n3 : Int)] rfl rfl one_cell (by simp [Value.oneCell']) (by unfold maxLen; omega) (by omega) (by simp <;> omega) ?_; intro v' w5 ho hg _; (obtain ⟨g5, c5, rfl⟩ := slice_of (show 0 < 0 + 1 by omega) ho); (have hm := HD.out.app HAl2.out ho hg); (have q2 : w5.cell? ⟨be, 1, none⟩ = some (.slice ou 0 cu) := by (rw [HBe.out]; exact cell_at hm.1 1)); (have q3 : w5.frozen? ⟨be, 1, none⟩ = false := by (rw [HBe.out]; exact free_at hm.1 1)); (have HD5 := Lib.hid (show DX wx0 dd _ (acc2 ++ [(n3 : Int)]) (w5.setCell ⟨be, 1, none⟩ (.slice (some ⟨g5, 0, none⟩) (0 + 1) c5)) by (rw [HBe.out]; exact hm.2))); clear hm ho hg)
                go_roundw
                case rel => exact ⟨0 + 1, b3, (n3 : Int), acc2 ++ [(n3 : Int)], _, by omega, by go_num, rfl, hb3, ha3b, HNx, HD5.out⟩
                case measure => simp [intOf]; omega
              · obtain ⟨j1, hj1⟩ : ∃ j1, k = j1 + 1 := ⟨k - 1, by omega⟩
                obtain ⟨gu, off, hou, cu0⟩ := hrz j1 a2 (HR2.out.2.2.1 j1 hj1)
                subst hou
                obtain rfl : off = 0 := own_zero HD.out.own
                have x1 : (k : Int) - 1 = (j1 : Int) := by omega
                have x2 : IntKind.i64.wrap (j1 : Int) = (j1 : Int) := IntWalk.i64_in _ (by omega)
                have hj1k : j1 < k := by omega
                have hkp : (0 : Int) < (k : Int) := by omega
                rw [Nat.zero_add] at cu0
                have HCu := Lib.hid (And.intro (show wr.drew.cell? ⟨be, 1, none⟩ = some (.slice (some ⟨gu, 0, none⟩) k cu) by rw [HBe.out]; exact cell_at HD.out.e 1) (show wr.drew.cell? ⟨gu, j1, none⟩ = some (.int .i64 a2) from cu0))
                have HDd := Lib.hid (show DX wx0 dd (.slice (some ⟨gu, 0, none⟩) k cu) acc2 wr.drew from HD.out.below (Below.refl _ _).drew)
                clear hst hgood hq3 hG hjj hb3e hrz hk0 hj1 cu0 hn3 ha3
                go_wp2_with fail
                refine HG.out.mono ?_; rintro e w9 ⟨rfl, rfl⟩
                go_upto_region 31 with fail
                obtain ⟨wd, hwd⟩ : ∃ wd, wd = w9.drew := ⟨_, rfl⟩
                rw [← hwd] at HCu HDd
                have Hwd := Lib.hid hwd
                clear hwd hkp
                generalize Value.bool (decide (0 < k)) = kb0
                refine wp_region_cl (fun (p : Value) jz => [.pointer (some ⟨be, 1, none⟩), .slice (some ⟨gu, 0, none⟩) k cu, .pointer (some ⟨be, 1, none⟩), .slice (some ⟨gu, 0, none⟩) k cu, .int .i64 (k : Int), .int .i64 (j1 : Int), .pointer (some ⟨gu, j1, none⟩), .int .i64 a2, .int .u32 (n3 : Int), .int .i64 (n3 : Int), .int .i64 a3, .slice (some ⟨wd.heap.size, 0, none⟩) 1 1, p, .pointer (some ⟨be, 1, none⟩), undef].getD jz undef)
                  (fun p l_ wx => (l_ 11 = false → wx = wd) ∧ (l_ 11 = true → l_ 12 = false → wx = wd.alloc (.cells #[.int .i64 a3] 3)) ∧ (l_ 12 = true → l_ 14 = false → wx.ownsRow wx0.heap.size 3 1 p (k + 1) (zC acc2 ++ [.int .i64 a3]) ∧ (wd.alloc (.cells #[.int .i64 a3] 3)).grownBy wx (.slice (some ⟨gu, 0, none⟩) k cu : Value).ownBlock) ∧ (l_ 14 = true → DX wx0 dd p (acc2 ++ [a3]) wx) ∧ (l_ 14 = true → l_ 12 = true) ∧ (l_ 12 = true → l_ 11 = true))
                  (by kernel_rfl) (by kernel_rfl) (fun q => by simp only [putTo, dstOf, Act.put, List.size_toArray, List.length_cons, List.length_nil, List.getElem?_toArray, Nat.reduceAdd, Option.bind_some, List.getElem?_cons_zero, List.getElem?_cons_succ, List.setIfInBounds_toArray, List.set_cons_zero, List.set_cons_succ, List.getD_cons_zero, List.getD_cons_succ]; exact rfl) undef ?_ ?_ ?_
                · exact ⟨fun _ => Hwd.out.symm, fun h => (by cases h), fun h => (by cases h), fun h => (by cases h), fun h => (by cases h), fun h => (by cases h)⟩
                · intro i9 o9 ho p l_ wx hR hl he hcl K hK
                  rcases i9 with _ | _ | _ | _ | _ | _ | _ | _ | _ | _ | _ | _ | _ | _ | _ | i9
                  · obtain rfl   : _ = o9 := Option.some.inj ho
                    have HR := Lib.hid hR
                    clear hR
                    go_simp
                    exact hK p wx (fun _ _ => rfl) HR.out
                  · obtain rfl   : _ = o9 := Option.some.inj ho
                    have h12 : l_ 12 = false := by
                      cases h : l_ 12 with
                      | false => rfl
                      | true => exact absurd ((hcl 12 _ rfl h ⟨1, .data⟩ (by simp) rfl)) (by rw [hl]; decide)
                    have q : wx.cell? ⟨be, 1, none⟩ = some (.slice (some ⟨gu, 0, none⟩) k cu) := by
                      cases h11 : l_ 11 with
                      | false => rw [hR.1 h11]; exact HCu.out.1
                      | true => rw [hR.2.1 h11 h12]; exact below_cell HCu.out.1 below_one
                    have HR := Lib.hid hR
                    clear hR
                    go_simp
                    exact hK p wx (fun _ _ => rfl) HR.out
                  · obtain rfl   : _ = o9 := Option.some.inj ho
                    have HR := Lib.hid hR
                    clear hR
                    go_simp
                    exact hK p wx (fun _ _ => rfl) HR.out
                  · obtain rfl   : _ = o9 := Option.some.inj ho
                    have h12 : l_ 12 = false := by
                      cases h : l_ 12 with
                      | false => rfl
                      | true => exact absurd ((hcl 6 _ rfl (hcl 7 _ rfl (hcl 10 _ rfl (hcl 11 _ rfl (hcl 12 _ rfl h ⟨11, .data⟩ (by simp) rfl) ⟨10, .data⟩ (by simp) rfl) ⟨7, .data⟩ (by simp) rfl) ⟨6, .data⟩ (by simp) rfl) ⟨3, .data⟩ (by simp) rfl)) (by rw [hl]; decide)
                    have q : wx.cell? ⟨be, 1, none⟩ = some (.slice (some ⟨gu, 0, none⟩) k cu) := by
                      cases h11 : l_ 11 with
                      | false => rw [hR.1 h11]; exact HCu.out.1
                      | true => rw [hR.2.1 h11 h12]; exact below_cell HCu.out.1 below_one
                    have HR := Lib.hid hR
                    clear hR
                    go_simp
                    exact hK p wx (fun _ _ => rfl) HR.out
                  · obtain rfl   : _ = o9 := Option.some.inj ho
                    have HR := Lib.hid hR
                    clear hR
                    go_simp
                    exact hK p wx (fun _ _ => rfl) HR.out
                  · obtain rfl   : _ = o9 := Option.some.inj ho
                    have HR := Lib.hid hR
                    clear hR
                    go_simp
                    exact hK p wx (fun _ _ => rfl) HR.out
                  · obtain rfl   : _ = o9 := Option.some.inj ho
                    have HR := Lib.hid hR
                    clear hR
                    go_simp
                    exact hK p wx (fun _ _ => rfl) HR.out
                  · obtain rfl   : _ = o9 := Option.some.inj ho
                    have h12 : l_ 12 = false := by
                      cases h : l_ 12 with
                      | false => rfl
                      | true => exact absurd ((hcl 10 _ rfl (hcl 11 _ rfl (hcl 12 _ rfl h ⟨11, .data⟩ (by simp) rfl) ⟨10, .data⟩ (by simp) rfl) ⟨7, .data⟩ (by simp) rfl)) (by rw [hl]; decide)
                    have q : wx.cell? ⟨gu, j1, none⟩ = some (.int .i64 a2) := by
                      cases h11 : l_ 11 with
                      | false => rw [hR.1 h11]; exact HCu.out.2
                      | true => rw [hR.2.1 h11 h12]; exact below_cell HCu.out.2 below_one
                    have HR := Lib.hid hR
                    clear hR
                    go_simp
                    exact hK p wx (fun _ _ => rfl) HR.out
                  · obtain rfl   : _ = o9 := Option.some.inj ho
                    have HR := Lib.hid hR
                    clear hR
                    go_simp
                    exact hK p wx (fun _ _ => rfl) HR.out
                  · obtain rfl   : _ = o9 := Option.some.inj ho
                    have HR := Lib.hid hR
                    clear hR
                    go_simp
                    exact hK p wx (fun _ _ => rfl) HR.out
                  · obtain rfl   : _ = o9 := Option.some.inj ho
                    have HR := Lib.hid hR
                    clear hR
                    go_simp
                    exact hK p wx (fun _ _ => rfl) HR.out
                  · obtain rfl   : _ = o9 := Option.some.inj ho
                    have h12 : l_ 12 = false := by
                      cases h : l_ 12 with
                      | false => rfl
                      | true => exact absurd (hR.2.2.2.2.2 h) (by rw [hl]; decide)
                    have h14 : l_ 14 = false := by
                      cases h : l_ 14 with
                      | false => rfl
                      | true => exact absurd (hR.2.2.2.2.1 h) (by rw [h12]; decide)
                    have hw := hR.1 hl
                    subst hw
                    have H12 := Lib.hid (And.intro h12 h14)
                    clear hR h12 h14
                    go_simp
                    exact hK p _ (fun _ _ => rfl) ⟨fun h => (by cases h), fun _ _ => rfl, fun h => absurd (show l_ 12 = true from h) (by rw [H12.out.1]; decide), fun h => absurd (show l_ 14 = true from h) (by rw [H12.out.2]; decide), fun h => absurd (show l_ 14 = true from h) (by rw [H12.out.2]; decide), fun _ => rfl⟩
                  · obtain rfl   : _ = o9 := Option.some.inj ho
                    have h11 : l_ 11 = true := he ⟨11, .data⟩ (by simp) rfl
                    have h14 : l_ 14 = false := by
                      cases h : l_ 14 with
                      | false => rfl
                      | true => exact absurd (hR.2.2.2.2.1 h) (by rw [hl]; decide)
                    have hw := hR.2.1 h11 hl
                    have HR := Lib.hid hR
                    subst hw
                    refine wp_append_own _ (.tmp 130) (.tmp 140) 50 rfl wx0.heap.size 3 iz _ 1 8 Try.underlying50 HIZ.out.1 HIZ.out.2.1 HIZ.out.2.2.1 HIZ.out.2.2.2 rfl (by decide) _ k (zC acc2) rfl (World.ownsRow.alloc (HDd.out.own.row HAl2.out) _) ⟨wd.heap.size, 0, none⟩ 1 1 [.int .i64 a3] rfl rfl one_cell (by simp [Value.oneCell']) (by unfold maxLen; omega) (by omega) (by have := HDd.out.low.size; simp <;> omega) ?_
                    intro v' w' ho hg _
                    refine hK v' w' (fun j hj => ?_) ⟨fun h => absurd (show l_ 11 = false from h) (by rw [h11]; decide), fun _ h => (by cases h), fun _ _ => ⟨ho, hg⟩, fun h => absurd (show l_ 14 = true from h) (by rw [h14]; decide), fun h => absurd (show l_ 14 = true from h) (by rw [h14]; decide), fun _ => h11⟩
                    rcases j with _ | _ | _ | _ | _ | _ | _ | _ | _ | _ | _ | _ | _ | j
                    all_goals first | rfl | (rw [hl] at hj; cases hj)
                  · obtain rfl   : _ = o9 := Option.some.inj ho
                    have HR := Lib.hid hR
                    clear hR
                    go_simp
                    exact hK p wx (fun _ _ => rfl) HR.out
                  · obtain rfl   : _ = o9 := Option.some.inj ho
                    have h12 : l_ 12 = true := he ⟨12, .data⟩ (by simp) rfl
                    have h11 : l_ 11 = true := hR.2.2.2.2.2 h12
                    obtain ⟨ho, hg⟩ := hR.2.2.1 h12 hl
                    obtain ⟨g5, c5, hp5⟩ := slice_of (show 0 < k + 1 by omega) ho
                    have hm := HDd.out.app HAl2.out ho hg
                    have q : wx.cell? ⟨be, 1, none⟩ = some (.slice (some ⟨gu, 0, none⟩) k cu) := by rw [HBe.out]; exact cell_at hm.1 1
                    have f : wx.frozen? ⟨be, 1, none⟩ = false := by rw [HBe.out]; exact free_at hm.1 1
                    have HM5 := Lib.hid (show DX wx0 dd p (acc2 ++ [a3]) (wx.setCell ⟨be, 1, none⟩ p) by rw [HBe.out]; exact hm.2)
                    have H12 := Lib.hid (And.intro h12 h11)
                    clear hR hm ho hg h12 h11
                    subst hp5
                    go_simp
                    exact hK _ _ (fun _ _ => rfl) ⟨fun h => absurd (show l_ 11 = false from h) (by rw [H12.out.2]; decide), fun _ h => absurd (show l_ 12 = false from h) (by rw [H12.out.1]; decide), fun _ h => (by cases h), fun _ => HM5.out, fun _ => H12.out.1, fun _ => H12.out.2⟩
                  · simp at ho
                · intro p lz wx hl hR
                  have HD9 := Lib.hid (hR.2.2.2.1 (hl 14 (by decide)))
                  clear hR hl
                  go_wp2_with fail
                  go_roundw
                  case rel => exact ⟨k + 1, b3, a3, acc2 ++ [a3], p, by omega, by go_num, rfl, hb3, ha3b, HNx, HD9.out⟩
                  case measure => simp [intOf]; omega
          · obtain rfl : k = cnt := by omega
            have HFin := Lib.hid (show entS a (L0.drop b0) = some ((dd, acc2), L0.drop b) from by
              have := HR2.out.2.2.2
              rw [Nat.sub_self] at this
              rw [HEntS.out, this]
              simp [posS])
            obtain ⟨pss, hp1, hp2, hp3⟩ := HLx.out.own
            obtain ⟨ou, cu, hu, _⟩ := HD.out.own.reads
            subst hu
            obtain ⟨kp, hkp⟩ : ∃ kp, acc2.length = kp := ⟨_, rfl⟩
            have hkp2 := hkp
            have HDe := Lib.hid HD.out.e
            rw [hkp] at HDe
            have q0 : wr.cell? ⟨be, 0, none⟩ = some (.int .i64 dd) := by rw [HBe.out]; exact cell_at HDe.out 0
            have q1 : wr.cell? ⟨be, 1, none⟩ = some (.slice ou kp cu) := by rw [HBe.out]; exact cell_at HDe.out 1
            have HRow := Lib.hid (show (wr.alloc (.cells #[.int .i64 dd, .slice ou kp cu] 52)).ownsRow B0 52 2 _ i (entC acc pss) from World.ownsRow.alloc (HAl.out ▸ hp2) _)
            have hls := HLx.out.low.size
            have HB0s := Lib.hid (show W.heap.size ≤ B0 ∧ B0 ≤ wr.heap.size from ⟨HBB.out.2, Nat.le_trans HBx.out HD.out.low.size⟩)
            have HPush := Lib.hid (fun (v' : Value) (w8 : World) (ho : w8.ownsRow B0 52 2 v' (i + 1) (entC acc pss ++ [.int .i64 dd, .slice ou kp cu])) (hg : (wr.alloc (.cells #[.int .i64 dd, .slice ou kp cu] 52)).grownBy w8 _) =>
              (DL.push (e := (dd, acc2)) (HLx.out.below below_one (Nat.le_refl _)) HBB.out.1 HB0s.out.1 HAl.out hp1 (HAl.out ▸ HRow.out) (fun j e hj => by
                obtain ⟨y, hy1, hy2⟩ := hp3 j e hj
                exact ⟨y, hy1, hy2.below below_one⟩) (own_base (show OwnZ _ _ _ acc2 from (hkp ▸ HD.out.own).below below_one) HBx.out) ho hg))
            have HNx := Lib.hid (show (acc ++ [(dd, acc2)]).length = i + 1 ∧ readS (n - (i + 1)) (acc ++ [(dd, acc2)]) (L0.drop b) = readS n [] L0 ∧ ∀ t, t < i + 1 → 0 ≤ (enAt (acc ++ [(dd, acc2)]) t).1 ∧ (enAt (acc ++ [(dd, acc2)]) t).1 ≤ 65535 * ((t : Int) + 1) from by
              refine ⟨by simp [HAl.out], ?_, fun t ht => ?_⟩
              · have h1 := HRd.out
                rw [readS_step, HAl.out, HAh.out, HFin.out] at h1
                rw [show n - (i + 1) = jn by omega, ← h1]
                rfl
              · by_cases hti : t < i
                · have := HDoc.out t hti
                  have e : enAt (acc ++ [(dd, acc2)]) t = enAt acc t := by unfold enAt; rw [List.getD_eq_getElem?_getD, List.getD_eq_getElem?_getD, List.getElem?_append_left (by rw [HAl.out]; exact hti)]
                  rw [e]; exact this
                · obtain rfl : t = i := by omega
                  have e : enAt (acc ++ [(dd, acc2)]) t = (dd, acc2) := enAt_some (by rw [List.getElem?_append_right (by rw [HAl.out]; exact Nat.le_refl _), HAl.out, Nat.sub_self]; rfl)
                  rw [e]
                  exact hddb)
            clear hp1 hp2 hp3 hkp hkp2
            go_wp2_with (at_builtin; refine wpList_append_own _ rfl (.tmp 150) (.tmp 152) 42 rfl B0 52 iE _ 2 32 Try.underlying42 HIE.out.1 HIE.out.2.1 HIE.out.2.2.1 HIE.out.2.2.2 rfl (by decide) _ i (entC acc pss) rfl HRow.out ⟨_, 0, none⟩ 1 1 [.int .i64 dd, .slice ou kp cu] rfl rfl two_cell (by simp [Value.oneCell']) (by unfold maxLen; omega) (by omega) (by have := HB0s.out; simp <;> omega) ?_; intro v' w8 ho hg _; have HI8 := Lib.hid (HPush.out v' w8 ho hg); clear ho hg)
            go_roundw
            case rel => exact ⟨i + 1, b, acc ++ [(dd, acc2)], by omega, by go_num, rfl, hbm, HNx, HI8.out⟩
            case measure => simp [intOf]; omega
    · obtain rfl : i = n := by omega
      have hrs := HR.out.2.1
      rw [Nat.sub_self] at hrs
      have HRs := Lib.hid (HSome.out acc hrs.symm)
      obtain ⟨ol, cl, hv, hv1, _, _, hv4⟩ := HDL0.out.own.reads
      rw [HR.out.1] at hv hv1
      subst hv
      have HEnc := Lib.hid (ref_encode13 wr ol cl i acc HR.out.1 hv4 (by omega))
      have HX := Lib.hid (encX_len acc)
      clear hrs hv4
      by_cases hM : MayE acc
      · have he : encE acc = 0 := if_pos hM
        have hXe : encX acc = encN acc := if_pos hM
        obtain ⟨E, hE⟩ : ∃ E, encN acc = E := ⟨_, rfl⟩
        rw [hXe, hE] at HX
        rw [he, hXe, hE] at HEnc
        rw [hE] at HRs
        obtain ⟨ne, hne⟩ : ∃ ne, E.length = ne := ⟨_, rfl⟩
        have HNe := Lib.hid hne
        have hneb : ne ≤ 12500 := by rw [← hne]; exact HX.out
        have HMM := Lib.hid hM
        clear he hXe hE hne hM
        by_cases hlen : ne = N
        · subst hlen
          go_wp2_with fail
          refine HEnc.out.mono ?_; rintro e w3 ⟨v, rfl, ho, hb⟩
          obtain ⟨oe, ce, rfl, _, _, _, hre⟩ := ho.reads_of ne HNe.out
          have HRE := Lib.hid hre
          have HDL3 := Lib.hid (HDL0.out.below hb (Nat.le_refl _))
          have HA3 := Lib.hid (HA.out.below (low_more HDL0.out.low hb))
          clear ho hb hre
          have hlb : ((ne : Int) != (ne : Int)) = false := by simp
          go_wp2_with fail
          go_loopw [171] (fun kv wr => ∃ k : Nat, k ≤ ne ∧ kv = .int .i64 (k : Int) ∧ Hid (E.take k = C.take k) ∧ ∃ m, wr = w3.drewN m) (fun k _ => ne - (intOf k).toNat)
          case atStart => exact ⟨0, by omega, rfl, Lib.hid rfl, 0, rfl⟩
          case round =>
            obtain ⟨k, hk, rfl, HT, m9, rfl⟩ := hrel
            by_cases hkn : k < ne
            · obtain ⟨x, hx⟩ : ∃ x, E[k]? = some x := ⟨_, List.getElem?_eq_getElem (by rw [HNe.out]; exact hkn)⟩
              obtain ⟨y, hy⟩ : ∃ y, C[k]? = some y := ⟨_, List.getElem?_eq_getElem (by rw [HNc.out]; exact hkn)⟩
              obtain ⟨gx, ox, hox, cx⟩ := HRE.out k x hx
              obtain ⟨gy, oy, hoy, cy⟩ := HA3.out k y hy
              injection hoy with hoy
              injection hoy with g1 g2
              subst g1 g2 hox
              have hkn1 : (k : Int) < (ne : Int) := by omega
              have HXY := Lib.hid (And.intro hx hy)
              clear hx hy
              by_cases hxy : x = y
              · subst hxy
                have hd : ((x : Int) != (x : Int)) = false := by simp
                go_wp2_with fail
                go_quiet (fail)
                go_wp2_with fail
                go_roundw
                case rel => exact ⟨k + 1, by omega, by go_num, Lib.hid (by rw [List.take_add_one, List.take_add_one, HXY.out.1, HXY.out.2, HT.out]), _, rfl⟩
                case measure => simp [intOf]; omega
              · have hd : ((x : Int) != (y : Int)) = true := bne_iff_ne.2 (by omega)
                have HBad := Lib.hid (show decS C = ([], 11) by
                  rw [HRs.out, if_neg]
                  rintro ⟨_, e⟩
                  have h1 := HXY.out.1
                  rw [e, HXY.out.2] at h1
                  injection h1 with h1
                  exact hxy h1.symm)
                go_wp2_with fail
                go_quiet (fail)
                go_wp2_with fail
                go_ret2
                rw [HBad.out]
                exact ⟨_, rfl, OwnE.nil _ _, below_drawn (below_drawn HDL3.out.low _) _⟩
            · obtain rfl : k = ne := by omega
              have HGood := Lib.hid (show decS C = (acc, 0) by
                rw [HRs.out, if_pos]
                refine ⟨HMM.out, ?_⟩
                have := HT.out
                rwa [List.take_of_length_le (by rw [HNe.out]; exact Nat.le_refl _), List.take_of_length_le (by rw [HNc.out]; exact Nat.le_refl _)] at this)
              go_wp2_with fail
              go_ret2
              rw [HGood.out]
              exact ⟨_, rfl, (HDL3.out.own.base HBB.out.2).below (below_drawn (Below.refl _ _) _), below_drawn HDL3.out.low _⟩
        · have HBad := Lib.hid (show decS C = ([], 11) by
            rw [HRs.out, if_neg]
            rintro ⟨_, e⟩
            exact hlen (by rw [← HNe.out, e, HNc.out]))
          go_wp2_with fail
          refine HEnc.out.mono ?_; rintro e w3 ⟨v, rfl, ho, hb⟩
          obtain ⟨oe, ce, rfl, _⟩ := ho.reads_of ne HNe.out
          have HW3 := Lib.hid (low_more HDL0.out.low hb)
          clear ho hb
          have hlb : ((ne : Int) != (N : Int)) = true := bne_iff_ne.2 (by omega)
          go_wp2_with fail
          go_ret2
          rw [HBad.out]
          exact ⟨_, rfl, OwnE.nil _ _, HW3.out⟩
      · have he : encE acc = 1 := if_neg hM
        have HBad := Lib.hid (show decS C = ([], 11) by rw [HRs.out, if_neg (fun h => hM h.1)])
        rw [he] at HEnc
        clear he hM
        go_wp2_with fail
        refine HEnc.out.mono ?_; rintro e w3 ⟨v, rfl, _, hb⟩
        have HW3 := Lib.hid (low_more HDL0.out.low hb)
        clear hb
        go_wp2_with fail
        go_ret2
        rw [HBad.out]
        exact ⟨_, rfl, OwnE.nil _ _, HW3.out⟩
end Go.Proofs.Ytpmhkmakkeckkaa
