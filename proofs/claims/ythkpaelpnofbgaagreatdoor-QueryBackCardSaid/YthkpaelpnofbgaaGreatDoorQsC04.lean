/-
  The reference of layer 6: all words of a text. Over the program's own text.
-/
import Derived.Test.YthkpaelpnofbgaaGreatDoorQsC03

namespace Go.Proofs.YthkpaelpnofbgaaGreatDoor
open Go.RowKit

/-! ### Rows of several kinds side by side -/
set_option maxRecDepth 100000 in
theorem row_ne {e : TypeId} {size n base : Nat} {v : Value} {xs : List Value} {w : World} (h : w.ownsRow base e size v n xs) {b : Nat} {cs : Array Value} {t : TypeId} (hb : w.heap[b]? = some (.cells cs t (0, 0))) (hne : e ≠ t) : v.ownBlock ≠ some b := by
  rcases h.2 with ⟨rfl, _⟩ | ⟨g, cap, cur, rfl, _, hg, _⟩
  · simp [Value.ownBlock]
  · intro hh
    simp [Value.ownBlock] at hh
    subst hh
    rw [hg] at hb
    simp at hb
    exact hne hb.2
set_option maxRecDepth 100000 in
theorem row_grown {e e2 : TypeId} {size n base size2 n2 base2 : Nat} {v v2 : Value} {xs xs2 : List Value} {w w' : World} (h : w.ownsRow base e size v n xs) (h2 : w.ownsRow base2 e2 size2 v2 n2 xs2) (hne : e2 ≠ e) (hg : w.grownBy w' v2.ownBlock) : w'.ownsRow base e size v n xs := by
  refine h.kept hg ?_
  rcases h.2 with ⟨rfl, _⟩ | ⟨g, cap, cur, rfl, _, hgg, _⟩
  · exact .inl rfl
  · exact .inr fun e' => row_ne h2 hgg hne (e'.symm.trans (by simp [Value.ownBlock]))
set_option maxRecDepth 100000 in
theorem three_cells {w : World} {a b c : Value} {t : TypeId} : ∀ (j : Nat) (u : Value), [a, b, c][j]? = some u → (w.alloc (.cells #[a, b, c] t)).cell? ((⟨w.heap.size, 0, none⟩ : Addr).add j) = some u := by
  intro j u hj
  rw [Addr.add_lit, Lib.cell_of_heap (heap_alloc_new w _)]
  simpa using hj

structure AllAt (W : World) (vl vo vc : Value) (L : List Nat) (st : TokSt) (w : World) : Prop where
  row : RunesIn w W.heap.size vl L
  out : ToksIn w W.heap.size vo (outT st.out)
  cur : BytesIn w W.heap.size vc st.cur
  low : Below W.heap.size W w
section
variable {W : World} {vl vo vc : Value} {L : List Nat} {st : TokSt} {w : World}
set_option maxRecDepth 100000 in
theorem AllAt.below {w' : World} (h : AllAt W vl vo vc L st w) (hb : Below w.heap.size w w') : AllAt W vl vo vc L st w' :=
  ⟨owned_below h.row hb, owned_below h.out hb, owned_below h.cur hb, h.low.trans (hb.mono h.low.size)⟩
set_option maxRecDepth 100000 in
theorem AllAt.re (h : AllAt W vl vo vc L st w) (f s : Bool) : AllAt W vl vo vc L ⟨st.out, st.cur, f, s⟩ w := ⟨h.row, h.out, h.cur, h.low⟩
set_option maxRecDepth 100000 in
theorem AllAt.word {w2 : World} {vo' : Value} {o : Obj} (h : AllAt W vl vo vc L st w)
    (ho : w2.ownsRow W.heap.size 43 3 vo' ((outT st.out).length + 1) (toksC (outT st.out) ++ [.int .u8 0, .string (byteText st.cur), .int .i64 st.out.length])) (hg : (w.alloc o).grownBy w2 vo.ownBlock) :
    AllAt W vl vo' vc L ⟨st.out ++ [st.cur], st.cur, st.full, st.some⟩ w2 := by
  have hs := h.low.size
  refine ⟨row_grown (h.row.alloc o) (World.ownsRow.alloc h.out o) (by decide) hg, ?_, row_grown (World.ownsRow.alloc h.cur o) (World.ownsRow.alloc h.out o) (by decide) hg, (h.low.alloc hs o).grown hg (by simp; omega) (fun k hk => (World.ownsRow.lt h.out k hk).1)⟩
  unfold ToksIn
  rw [outT_snoc, toksC_append]
  simpa [toksC, tokC] using ho
set_option maxRecDepth 100000 in
theorem AllAt.fresh (h : AllAt W vl vo vc L st w) (f s : Bool) : AllAt W vl vo (.slice (some ⟨w.heap.size, 0, none⟩) 0 0) L ⟨st.out, [], f, s⟩ (w.alloc (.cells #[] 5)) :=
  ⟨h.row.alloc _, World.ownsRow.alloc h.out _, World.ownsRow_lit (base := W.heap.size) (e := 5) (size := 1) w #[] 0 h.low.size (by decide) (by simp), h.low.alloc h.low.size _⟩
set_option maxRecDepth 100000 in
theorem AllAt.grow {w2 : World} {vc' : Value} {x : List Nat} (h : AllAt W vl vo vc L st w) (s : Bool)
    (ho : w2.ownsRow W.heap.size 5 1 vc' (st.cur.length + x.length) (st.cur.map (fun (b : Nat) => Value.int .u8 (b : Int)) ++ x.map (fun (b : Nat) => Value.int .u8 (b : Int)))) (hg : w.grownBy w2 vc.ownBlock) :
    AllAt W vl vo vc' L ⟨st.out, st.cur ++ x, st.full, s⟩ w2 :=
  ⟨row_grown h.row h.cur (by decide) hg, row_grown h.out h.cur (by decide) hg, by unfold BytesIn; simpa using ho, h.low.grown hg h.low.size (fun k hk => (World.ownsRow.lt h.cur k hk).1)⟩
end
set_option maxRecDepth 100000 in
theorem run_out_le : ∀ (l : List Nat) (st : TokSt), (tokRun st l).out.length ≤ st.out.length + l.length
  | [], st => by simp [tokRun]
  | r :: l, st => by
    rw [tokStep_cons]
    have h := run_out_le l (tokStep st r)
    have h2 : (tokStep st r).out.length ≤ st.out.length + 1 := by
      unfold tokStep
      split
      · cases st.some <;> simp
      · split <;> simp
    simp only [List.length_cons]
    omega
set_option maxRecDepth 100000 in
theorem FairT.cur_le {st : TokSt} (h : FairT st) : st.cur.length ≤ 16 ∧ ∀ b ∈ st.cur, b < 256 := by
  cases hs : st.some
  · rw [(h.no hs).1]; simp
  · have ht := h.cur hs
    refine ⟨ht.len, ?_⟩
    obtain ⟨q, _, e, hq⟩ := ht.ex
    rw [e]
    intro b hb
    obtain ⟨x, hx, hbx⟩ := List.mem_flatMap.1 hb
    exact encR_byte x (hq x hx).1 b hbx
set_option maxRecDepth 100000 in
theorem row_cell {w : World} {base : Nat} {v : Value} {L : List Nat} (N : Nat) (h : RunesIn w base v L) (hn : L.length = N) (h0 : N ≠ 0) : ∃ g cap, v = .slice (some ⟨g, 0, none⟩) N cap := by
  rcases h.2 with ⟨_, h1⟩ | ⟨g, cap, cur, rfl, _⟩
  · omega
  · exact ⟨g, cap, by rw [hn]⟩

set_option maxRecDepth 100000 in
theorem own_slice {e : TypeId} {size n base : Nat} {v : Value} {xs : List Value} {w : World} (h : w.ownsRow base e size v n xs) (m : Nat) (hm : n = m) : ∃ ao c, v = .slice ao m c := by
  subst hm
  rcases h.2 with ⟨rfl, h0⟩ | ⟨g, cap, cur, rfl, _⟩
  · exact ⟨none, 0, by rw [h0]⟩
  · exact ⟨_, cap, rfl⟩

set_option maxRecDepth 100000 in
set_option maxHeartbeats 4000000 in
theorem ref_all (W : World) (s : ByteArray) (hs : s.size ≤ 1000000) :
    Calls Tryz.prog 62 #[.string s] W fun e w' => ∃ v, e = .returned v ∧ ToksIn w' W.heap.size v (outT (allT s)) ∧ Below W.heap.size W w' := by
  obtain ⟨i0, hi, hz0, hz1, hz2⟩ := info_parts info_i32
  have HI := Lib.hid (And.intro hi (And.intro hz0 (And.intro hz1 hz2)))
  obtain ⟨iT, hi, hz0, hz1, hz2⟩ := info_parts info_tok
  have HIT := Lib.hid (And.intro hi (And.intro hz0 (And.intro hz1 hz2)))
  obtain ⟨iB, hi, hz0, hz1, hz2⟩ := info_parts info_u8
  have HIB := Lib.hid (And.intro hi (And.intro hz0 (And.intro hz1 hz2)))
  have HL := Lib.hid (runesOf_many s).1
  have HOk := Lib.hid (runesOf_ok s)
  have HRun := Lib.hid (ref_runes W s hs)
  clear hi hz0 hz1 hz2
  obtain ⟨N, hN⟩ : ∃ N, N = (runesOf s).length + 1 := ⟨_, rfl⟩
  have HN := Lib.hid (show ((runesOf s) ++ [32]).length = N ∧ N ≠ 0 by rw [hN]; simp)
  have HNe := Lib.hid hN
  clear hN
  go_enter Tryz.func62, Tryz.ntmps62
  go_wp2_with fail
  refine HRun.out.mono ?_
  rintro e w1 ⟨v, rfl, hnn, hr, hb⟩
  have HR := Lib.hid hr
  have HB := Lib.hid hb
  clear hr hb hnn HRun
  go_wp2_with (at_builtin; refine wpList_append_own _ rfl (.tmp 11) (.tmp 12) 50 rfl W.heap.size 21 i0 _ 1 4 Tryz.underlying50 HI.out.1 HI.out.2.1 HI.out.2.2.1 HI.out.2.2.2 rfl (by decide) _ (runesOf s).length ((runesOf s).map fun (r : Nat) => Value.int .i32 (r : Int)) rfl (World.ownsRow.alloc HR.out _) ⟨w1.heap.size, 0, none⟩ 1 1 [.int .i32 32] rfl rfl one_cell (by simp [Value.oneCell']) (by have := HL.out; unfold maxLen; omega) (by have := HL.out; omega) (by have := HB.out.size; simp; omega) ?_; intro v1 w2 ho hg _; have HR2 := Lib.hid (runes_more (r := 32) HB.out HR.out ho hg); clear ho hg; obtain ⟨g, cap, rfl⟩ := row_cell N HR2.out.1 HN.out.1 HN.out.2)
  obtain ⟨L, hLd⟩ : ∃ L, L = runesOf s ++ [32] := ⟨_, rfl⟩
  rw [← hLd] at HR2
  have hLe : L.length = N := by rw [hLd]; exact HN.out.1
  have HLk := Lib.hid (show ∀ r ∈ L, okR r by
    intro r hr
    rw [hLd] at hr
    rcases List.mem_append.1 hr with h | h
    · exact HOk.out r h
    · simp at h; subst h; exact ok_blank)
  have HAll := Lib.hid (show allT s = (tokRun tok0 L).out by rw [hLd]; rfl)
  have hLs : N ≤ 1000001 := by have := HL.out; have := HNe.out; omega
  have HLe := Lib.hid hLe
  clear hLd hLe HR HB HOk HL HN HNe
  have hsz2 := HR2.out.2.size
  go_loopw [4, 5, 6, 7, 18] (fun vo vc fl so iv wr => ∃ i : Nat, i ≤ N ∧ iv = .int .i64 i ∧ fl = .bool (tokRun tok0 (L.take i)).full ∧ so = .bool (tokRun tok0 (L.take i)).some ∧ AllAt W (.slice (some ⟨g, 0, none⟩) N cap) vo vc L (tokRun tok0 (L.take i)) wr) (fun _ _ _ _ iv _ => N - (intOf iv).toNat)
  case atStart =>
    refine ⟨0, by omega, rfl, rfl, rfl, ?_⟩
    have hb := HR2.out.2
    exact ⟨(HR2.out.1.alloc _).alloc _, World.ownsRow.alloc (World.ownsRow_lit (base := W.heap.size) (e := 43) (size := 3) w2 #[] 0 hsz2 (by decide) (by simp)) _,
      by have := World.ownsRow_lit (base := W.heap.size) (e := 5) (size := 1) (w2.alloc (.cells #[] 43)) #[] 0 (by simp; omega) (by decide) (by simp)
         rw [show (w2.alloc (.cells #[] 43)).heap.size = w2.heap.size + 1 by simp] at this
         exact this, (hb.alloc hsz2 _).alloc (by simp; omega) _⟩
  case round =>
    obtain ⟨i, hi, rfl, rfl, rfl, hA⟩ := hrel
    have hF : FairT (tokRun tok0 (L.take i)) := fair0.run _ fun r hr => HLk.out r (List.mem_of_mem_take hr)
    have hO := run_out_le (L.take i) tok0
    by_cases hlt : i < N
    · obtain ⟨r, hr⟩ : ∃ r, L[i]? = some r := ⟨_, List.getElem?_eq_getElem (by rw [HLe.out]; exact hlt)⟩
      have hcell : wr.cell? ⟨g, i, none⟩ = some (.int .i32 (r : Int)) := by
        have := World.ownsRow.cells hA.row (g := g) rfl i (.int .i32 (r : Int)) (by simp [hr])
        rwa [Addr.add_lit, Nat.zero_add] at this
      have hnx : tokRun tok0 (L.take (i + 1)) = tokStep (tokRun tok0 (L.take i)) r := by rw [List.take_add_one, hr]; exact tokRun_snoc _ _ _
      have hok := HLk.out r (List.mem_of_getElem? hr)
      have HC0 := Lib.hid (fun w => ref_class w (r : Int))
      have HFo := Lib.hid (fun w => ref_fold w (r : Int))
      have HBy := Lib.hid (fun w => bytes_ok w (foldN r) (fold_ok hok).2)
      rw [← (fold_ok hok).1] at HFo
      have hcur := hF.cur_le
      have hE := enc_le (foldN r)
      have hO2 : (tokRun tok0 (L.take i)).out.length ≤ 1000001 := by rw [List.length_take, show tok0.out.length = 0 from rfl] at hO; omega
      have hsz := hA.low.size
      have HX := Lib.hid hnx
      generalize hst : tokRun tok0 (L.take i) = st at *
      obtain ⟨so, sc, sf, ss⟩ := st
      have HA := Lib.hid hA
      clear hA hnx hst hF hO hr hok
      by_cases hc : classZ (r : Int) = 0
      · rw [hc] at HC0
        have HX2 := Lib.hid (show tokRun tok0 (L.take (i + 1)) = ⟨if ss then so ++ [sc] else so, [], false, false⟩ by rw [HX.out]; unfold tokStep; rw [if_pos hc])
        clear hc
        cases ss
        · go_wp2_with fail
          refine (HC0.out _).mono ?_; rintro e w5 ⟨rfl, rfl⟩
          have HA2 := Lib.hid (HA.out.fresh false false)
          go_wp2_with fail
          go_roundw
          case rel => exact ⟨i + 1, by omega, by go_num, by rw [HX2.out], by rw [HX2.out], by rw [HX2.out]; exact HA2.out⟩
          case measure => simp [intOf]; omega
        · have hcs := bytes_string HA.out.cur hcur.2
          obtain ⟨ao, co, rfl⟩ := own_slice HA.out.out so.length (outT_length so)
          go_wp2_with fail
          refine (HC0.out _).mono ?_; rintro e w5 ⟨rfl, rfl⟩
          go_wp2_with (at_builtin; refine wpList_append_own _ rfl (.tmp 28) (.tmp 34) 22 rfl W.heap.size 43 iT _ 3 32 Tryz.underlying22 HIT.out.1 HIT.out.2.1 HIT.out.2.2.1 HIT.out.2.2.2 rfl (by decide) _ (outT so).length (toksC (outT so)) rfl (World.ownsRow.alloc HA.out.out _) ⟨w5.heap.size, 0, none⟩ 1 1 [.int .u8 0, .string (byteText sc), .int .i64 so.length] rfl rfl three_cells (by simp [Value.oneCell']) (by rw [outT_length]; unfold maxLen; omega) (by rw [outT_length]; omega) (by have := HA.out.low.size; simp; omega) ?_; intro v' w6 ho hg _; have HA6 := Lib.hid (HA.out.word ho hg); clear ho hg)
          have HA7 := Lib.hid (HA6.out.fresh false false)
          clear HA6 HA
          go_wp2_with fail
          go_roundw
          case rel => exact ⟨i + 1, by omega, by go_num, by rw [HX2.out], by rw [HX2.out], by rw [HX2.out]; exact HA7.out⟩
          case measure => simp [intOf]; omega
      · have hcne : (classZ (r : Int) == 0) = false := beq_eq_false_iff_ne.2 hc
        have HXc := Lib.hid hc
        generalize classZ (r : Int) = cz at HC0 hcne
        clear hc
        by_cases hfull : sf = true
        · subst hfull
          have HX2 := Lib.hid (show tokRun tok0 (L.take (i + 1)) = ⟨so, sc, true, true⟩ by rw [HX.out]; unfold tokStep; rw [if_neg HXc.out, if_pos (Or.inl rfl)])
          go_wp2_with fail
          refine (HC0.out _).mono ?_; rintro e w5 ⟨rfl, rfl⟩
          go_wp2_with fail
          refine (HFo.out _).mono ?_; rintro e w5 ⟨rfl, rfl⟩
          go_wp2_with fail
          refine (HBy.out _).mono ?_; rintro e w6 ⟨gb, rfl, hby, hb6⟩
          have HA6 := Lib.hid ((HA.out.below hb6).re true true)
          clear hby hb6 HA
          go_wp2_with fail
          go_roundw
          case rel => exact ⟨i + 1, by omega, by go_num, by rw [HX2.out], by rw [HX2.out], by rw [HX2.out]; exact HA6.out⟩
          case measure => simp [intOf]; omega
        · obtain rfl : sf = false := by simpa using hfull
          obtain ⟨ac, cc, rfl⟩ := own_slice HA.out.cur sc.length rfl
          clear hfull
          by_cases hov : 16 < sc.length + (encR (foldN r)).length
          · have HX2 := Lib.hid (show tokRun tok0 (L.take (i + 1)) = ⟨so, sc, true, true⟩ by rw [HX.out]; unfold tokStep; rw [if_neg HXc.out, if_pos (Or.inr hov)])
            go_wp2_with fail
            refine (HC0.out _).mono ?_; rintro e w5 ⟨rfl, rfl⟩
            go_wp2_with fail
            refine (HFo.out _).mono ?_; rintro e w5 ⟨rfl, rfl⟩
            go_wp2_with fail
            refine (HBy.out _).mono ?_; rintro e w6 ⟨gb, rfl, hby, hb6⟩
            have HA6 := Lib.hid ((HA.out.below hb6).re true true)
            clear hby hb6 HA
            go_wp2_with fail
            go_roundw
            case rel => exact ⟨i + 1, by omega, by go_num, by rw [HX2.out], by rw [HX2.out], by rw [HX2.out]; exact HA6.out⟩
            case measure => simp [intOf]; omega
          · have HX2 := Lib.hid (show tokRun tok0 (L.take (i + 1)) = ⟨so, sc ++ encR (foldN r), false, true⟩ by rw [HX.out]; unfold tokStep; rw [if_neg HXc.out, if_neg (by simp; omega)])
            go_wp2_with fail
            refine (HC0.out _).mono ?_; rintro e w5 ⟨rfl, rfl⟩
            go_wp2_with fail
            refine (HFo.out _).mono ?_; rintro e w5 ⟨rfl, rfl⟩
            go_wp2_with fail
            refine (HBy.out _).mono ?_; rintro e w6 ⟨gb, rfl, hby, hb6⟩
            have HA6 := Lib.hid (HA.out.below hb6)
            have HG := Lib.hid hby
            clear hby hb6 HA
            go_wp2_with (at_builtin; refine wpList_append_own _ rfl (.tmp 52) (.tmp 53) 45 rfl W.heap.size 5 iB _ 1 1 Tryz.underlying45 HIB.out.1 HIB.out.2.1 HIB.out.2.2.1 HIB.out.2.2.2 rfl (by decide) _ sc.length (sc.map fun (b : Nat) => Value.int .u8 (b : Int)) rfl HA6.out.cur ⟨gb, 0, none⟩ (encR (foldN r)).length (encR (foldN r)).length ((encR (foldN r)).map fun (b : Nat) => Value.int .u8 (b : Int)) rfl (by simp) (bytesAt_cell HG.out) (bytes_oneCell _) (by unfold maxLen; omega) (by omega) (by have := HA6.out.low.size; omega) ?_; intro v' w7 ho hg _; have HA7 := Lib.hid ((HA6.out.grow true ho hg).re false true); clear ho hg)
            go_roundw
            case rel => exact ⟨i + 1, by omega, by go_num, by rw [HX2.out], by rw [HX2.out], by rw [HX2.out]; exact HA7.out⟩
            case measure => simp [intOf]; omega
    · have hi' : i = N := by omega
      have hA2 : AllAt W (.slice (some ⟨g, 0, none⟩) N cap) u4 u5 L (tokRun tok0 L) wr := by
        have : L.take i = L := List.take_of_length_le (by rw [HLe.out]; omega)
        rwa [this] at hA
      have HA := Lib.hid hA2
      clear hA hA2 hF hO
      go_wp2_with fail
      go_ret
      exact ⟨_, rfl, by rw [HAll.out]; exact HA.out.out, HA.out.low⟩
end Go.Proofs.YthkpaelpnofbgaaGreatDoor
/-
  The reference of layer 6: the words that are no stop words. Over the program's own text.
-/
namespace Go.Proofs.YthkpaelpnofbgaaGreatDoor
open Go.RowKit

/-- Words of field f at their places. -/
def toksP (f : Int) (l : List (List Nat × Nat)) : List Tk := l.map fun x => (f, byteText x.1, (x.2 : Int))
set_option maxRecDepth 100000 in
theorem toksP_append (f : Int) (a b : List (List Nat × Nat)) : toksP f (a ++ b) = toksP f a ++ toksP f b := by simp [toksP]
set_option maxRecDepth 100000 in
theorem toksP_length (f : Int) (a : List (List Nat × Nat)) : (toksP f a).length = a.length := by simp [toksP]
set_option maxRecDepth 100000 in
theorem own_base {e : TypeId} {size n base base' : Nat} {v : Value} {xs : List Value} {w : World} (h : w.ownsRow base e size v n xs) (hb : base' ≤ base) : w.ownsRow base' e size v n xs := by
  obtain ⟨h0, h | ⟨g, cap, cur, h1, h2, h3⟩⟩ := h
  · exact ⟨h0, .inl h⟩
  · exact ⟨h0, .inr ⟨g, cap, cur, h1, by omega, h3⟩⟩
set_option maxRecDepth 100000 in
theorem toks_more {w w1 w2 : World} {v v' : Value} {l : List Tk} {x : Tk} {o : Obj} (hl : Below w.heap.size w w1) (hr : ToksIn w1 w.heap.size v l)
    (ho : w2.ownsRow w.heap.size 43 3 v' (l.length + 1) (toksC l ++ [.int .u8 x.1, .string x.2.1, .int .i64 x.2.2])) (hg : (w1.alloc o).grownBy w2 v.ownBlock) :
    ToksIn w2 w.heap.size v' (l ++ [x]) ∧ Below w.heap.size w w2 :=
  ⟨by unfold ToksIn; rw [toksC_append]; simpa [toksC, tokC] using ho, (hl.alloc hl.size _).grown hg (by have := hl.size; simp; omega) (fun k hk => (World.ownsRow.lt hr k hk).1)⟩
set_option maxRecDepth 100000 in
theorem outT_get (o : List (List Nat)) (i : Nat) (t : List Nat) (h : o[i]? = some t) : (outT o)[i]? = some ((0 : Int), byteText t, (i : Int)) := by
  unfold outT
  rw [List.getElem?_map, List.getElem?_zipIdx, h]
  simp
set_option maxRecDepth 100000 in
theorem places_take (o : List (List Nat)) (i : Nat) (t : List Nat) (h : o[i]? = some t) : placesF 0 (o.take (i + 1)) = placesF 0 (o.take i) ++ (if stopB t then [] else [(t, i)]) := by
  have hl : (o.take i).length = i := by rw [List.length_take]; have := (List.getElem?_eq_some_iff.1 h).1; omega
  rw [List.take_add_one, h, Option.toList_some, places_append, hl, Nat.zero_add, placesF, placesF]
set_option maxRecDepth 100000 in
theorem allT_le (s : ByteArray) : (allT s).length ≤ s.size + 1 := by
  have h := run_out_le (runesOf s ++ [32]) tok0
  have h2 := (runesOf_many s).1
  simp [tok0] at h
  unfold allT allR
  simp only [tok0] at *
  omega
set_option maxRecDepth 100000 in
theorem term_lt {t : List Nat} (h : Term t) : ∀ b ∈ t, b < 256 := by
  obtain ⟨q, _, rfl, hq⟩ := h.ex
  intro b hb
  obtain ⟨x, hx, hbx⟩ := List.mem_flatMap.1 hb
  exact encR_byte x (hq x hx).1 b hbx

set_option maxRecDepth 100000 in
set_option maxHeartbeats 4000000 in
theorem ref_words (W : World) (s : ByteArray) (hs : s.size ≤ 1000000) :
    Calls Tryz.prog 45 #[.string s] W fun e w' => ∃ v, e = .returned v ∧ ToksIn w' W.heap.size v (toksP 0 (wordsT s)) ∧ Below W.heap.size W w' := by
  obtain ⟨iT, hi, hz0, hz1, hz2⟩ := info_parts info_tok
  have HIT := Lib.hid (And.intro hi (And.intro hz0 (And.intro hz1 hz2)))
  have HAll := Lib.hid (ref_all W s hs)
  have HTm := Lib.hid (allT_term s)
  have HW := Lib.hid (show wordsT s = placesF 0 (allT s) from rfl)
  have hle := allT_le s
  generalize allT s = o at *
  obtain ⟨n, hn⟩ : ∃ n, n = o.length := ⟨_, rfl⟩
  have hn2 : n ≤ 1000001 := by omega
  have HN := Lib.hid hn
  clear hi hz0 hz1 hz2 hle hn
  go_enter Tryz.func45, Tryz.ntmps45
  go_wp2_with fail
  refine HAll.out.mono ?_
  rintro e w1 ⟨v, rfl, hr, hb⟩
  obtain ⟨oa, cap, hv, hc1, hc2, hrd⟩ := toks_reads hr
  rw [outT_length, ← HN.out] at hv
  subst hv
  have HR := Lib.hid hrd
  have HB := Lib.hid hb
  have hsz := hb.size
  clear hrd hb hr HAll hc1 hc2
  go_wp2_with fail
  go_loopw [4, 11] (fun vo iv wr => ∃ i : Nat, i ≤ n ∧ iv = .int .i64 i ∧ ToksIn wr w1.heap.size vo (toksP 0 (placesF 0 (o.take i))) ∧ Below w1.heap.size w1 wr) (fun _ iv _ => n - (intOf iv).toNat)
  case atStart => exact ⟨0, by omega, rfl, owned_lit0 w1 _ _, below_one⟩
  case round =>
    obtain ⟨i, hi, rfl, hown, hlow⟩ := hrel
    by_cases hlt : i < n
    · obtain ⟨t, ht⟩ : ∃ t, o[i]? = some t := ⟨_, List.getElem?_eq_getElem (by rw [← HN.out]; exact hlt)⟩
      obtain ⟨g, off, rfl, c0, c1, c2⟩ := (HR.out.below hlow) i _ (outT_get o i t ht)
      simp only at c0 c1 c2
      have hlt2 := term_lt (HTm.out t (List.mem_of_getElem? ht))
      have HS := Lib.hid (fun w => ref_stop w (byteText t))
      rw [bytesL_byteText t hlt2] at HS
      have HP := Lib.hid (places_take o i t ht)
      have HO := Lib.hid hown
      have HL := Lib.hid hlow
      have hpl : (placesF 0 (o.take i)).length ≤ 1000001 := by have := places_len (o.take i) 0; rw [List.length_take] at this; omega
      have HPl := Lib.hid (show (toksP 0 (placesF 0 (o.take i))).length ≤ 1000001 by rw [toksP_length]; exact hpl)
      obtain ⟨x, hx⟩ : ∃ x, x = byteText t := ⟨_, rfl⟩
      rw [← hx] at c1 HS
      have HX := Lib.hid hx
      clear hown hlow ht hlt2 hpl hx
      by_cases hst : stopB t = true
      · rw [hst] at HS HP
        go_wp2_with fail
        refine (HS.out _).mono ?_; rintro e w5 ⟨rfl, hb5⟩
        have HO5 := Lib.hid (show ToksIn w5 _ _ _ from owned_below HO.out hb5)
        have HL5 := Lib.hid (HL.out.trans (hb5.mono HL.out.size))
        clear hb5
        go_wp2_with fail
        go_roundw
        case rel => exact ⟨i + 1, by omega, by go_num, by rw [HP.out]; simpa using HO5.out, HL5.out⟩
        case measure => simp [intOf]; omega
      · have hsf : stopB t = false := by simpa using hst
        rw [hsf] at HS HP
        clear hst hsf
        go_wp2_with fail
        refine (HS.out _).mono ?_; rintro e w5 ⟨rfl, hb5⟩
        have HO5 := Lib.hid (show ToksIn w5 _ _ _ from owned_below HO.out hb5)
        have HL5 := Lib.hid (HL.out.trans (hb5.mono HL.out.size))
        have d0 := below_cell c0 hb5
        have d1 := below_cell c1 hb5
        have d2 := below_cell c2 hb5
        clear hb5 c0 c1 c2 HO HL
        go_wp2_with (at_builtin; refine wpList_append_own _ rfl (.tmp 21) (.tmp 26) 22 rfl w1.heap.size 43 iT _ 3 32 Tryz.underlying22 HIT.out.1 HIT.out.2.1 HIT.out.2.2.1 HIT.out.2.2.2 rfl (by decide) _ (toksP 0 (placesF 0 (o.take i))).length (toksC (toksP 0 (placesF 0 (o.take i)))) rfl (World.ownsRow.alloc HO5.out _) ⟨w5.heap.size, 0, none⟩ 1 1 [.int .u8 0, .string x, .int .i64 i] rfl rfl three_cells (by simp [Value.oneCell']) (by have := HPl.out; unfold maxLen; omega) (by have := HPl.out; omega) (by have := HL5.out.size; simp; omega) ?_; intro v' w6 ho hg _; have HO6 := Lib.hid (toks_more (x := (0, x, (i : Int))) HL5.out HO5.out ho hg); clear ho hg)
        go_roundw
        case rel => exact ⟨i + 1, by omega, by go_num, by rw [HP.out]; have := HO6.out.1; rw [HX.out] at this; simpa [toksP] using this, HO6.out.2⟩
        case measure => simp [intOf]; omega
    · have hi' : i = n := by omega
      rw [show o.take i = o from List.take_of_length_le (by rw [← HN.out]; omega)] at hown
      have HO := Lib.hid (show ToksIn wr W.heap.size _ _ from own_base hown hsz)
      have HL := Lib.hid (HB.out.trans (hlow.mono hsz))
      clear hown hlow
      go_wp2_with fail
      go_ret
      exact ⟨_, rfl, by rw [HW.out]; exact HO.out, HL.out⟩
end Go.Proofs.YthkpaelpnofbgaaGreatDoor
/-
  Queries as trees and as texts, without the program's text: how a text is read, rune by rune, part by part.
-/
namespace Go.Proofs.YthkpaelpnofbgaaGreatDoor

/-- What a part of the reading comes to: a value and what is left, or an error. -/
inductive PR (α : Type) where
  | ok (a : α) (rest : List Nat)
  | err (e : Int)
def PR.bind {α β : Type} : PR α → (α → List Nat → PR β) → PR β
  | .ok a l, f => f a l
  | .err e, _ => .err e
def PR.map {α β : Type} (g : α → β) (x : PR α) : PR β := x.bind fun a l => .ok (g a) l

def blankB (c : Nat) : Bool := c == 32 || c == 9 || c == 10 || c == 13
def skipB : List Nat → List Nat
  | [] => []
  | c :: l => if blankB c then skipB l else c :: l
/-- What stands first; -1: nothing. -/
def headZ : List Nat → Int
  | [] => -1
  | c :: _ => (c : Int)
def letB (c : Nat) : Bool := classZ (c : Int) != 0
/-- The error where a part can't go on; k: how many brackets and signs that turn may still be opened. -/
def failE (k : Nat) (l : List Nat) : Int := if (headZ (skipB l) = 40 ∨ headZ (skipB l) = 33) ∧ k = 0 then 9 else 8
def wordP (k : Nat) (l : List Nat) : PR (List Nat) :=
  if classZ (headZ (skipB l)) = 0 then .err (failE k (skipB l)) else .ok ((skipB l).takeWhile letB) ((skipB l).dropWhile letB)
def phraseP (l : List Nat) : PR (List Nat) :=
  if 34 ∈ l then .ok (l.takeWhile (· != 34)) ((l.dropWhile (· != 34)).drop 1) else .err 8
def fieldP (l : List Nat) : Int × List Nat :=
  match skipB l with
  | c :: 58 :: r => if 48 ≤ c ∧ c < 52 then ((c : Int) - 48, r) else (0, c :: 58 :: r)
  | s => (0, s)
def wordsR (q : List Nat) : List (List Nat × Nat) := placesF 0 (allR q)
def firstP : List (List Nat × Nat) → Nat
  | [] => 0
  | x :: _ => x.2
def leafW (f : Int) (ws : List (List Nat × Nat)) : List Tk := ws.map fun x => (f, byteText x.1, (x.2 : Int) - (firstP ws : Int))
def leafNd (f : Int) (q : List Nat) : Nd := .mk 1 f (leafW f (wordsR q)) []
def leafP (k : Nat) (l : List Nat) : PR Nd :=
  if headZ (skipB (fieldP l).2) = 34 then (phraseP ((skipB (fieldP l).2).drop 1)).map (leafNd (fieldP l).1)
  else (wordP k (fieldP l).2).map (leafNd (fieldP l).1)
def joinN (kind : Int) (ps : List Nd) : Nd :=
  match ps with
  | [n] => n
  | ps => .mk kind 0 [] ps
def beginB (c : Int) : Bool := c == 33 || c == 40 || c == 34 || classZ c != 0
def andLoop (nt : List Nat → PR Nd) : Nat → List Nd → List Nat → PR Nd
  | 0, _, _ => .err 0
  | f + 1, ps, l =>
    if headZ (skipB l) = 38 then (nt ((skipB l).drop 1)).bind fun n l' => andLoop nt f (ps ++ [n]) l'
    else if beginB (headZ (skipB l)) then (nt (skipB l)).bind fun n l' => andLoop nt f (ps ++ [n]) l'
    else .ok (joinN 2 ps) (skipB l)
def andP (nt : List Nat → PR Nd) (l : List Nat) : PR Nd := (nt l).bind fun n l' => andLoop nt (l'.length + 1) [n] l'
def orLoop (an : List Nat → PR Nd) : Nat → List Nd → List Nat → PR Nd
  | 0, _, _ => .err 0
  | f + 1, ps, l =>
    if headZ (skipB l) = 124 then (an ((skipB l).drop 1)).bind fun n l' => orLoop an f (ps ++ [n]) l'
    else .ok (joinN 3 ps) (skipB l)
def orP (an : List Nat → PR Nd) (l : List Nat) : PR Nd := (an l).bind fun n l' => orLoop an (l'.length + 1) [n] l'
/-- What stands in brackets, behind the first one. -/
def closeP (k : Nat) (x : PR Nd) : PR Nd := x.bind fun n l => if headZ (skipB l) = 41 then .ok n ((skipB l).drop 1) else .err (failE k (skipB l))
def turnP (x : PR Nd) : PR Nd := x.map fun n => .mk 4 0 [] [n]
def notP : Nat → List Nat → PR Nd
  | 0, l => if headZ (skipB l) = 33 ∨ headZ (skipB l) = 40 then .err 9 else leafP 0 (skipB l)
  | k + 1, l =>
    if headZ (skipB l) = 33 then turnP (notP k ((skipB l).drop 1))
    else if headZ (skipB l) = 40 then closeP k (orP (andP (notP k)) ((skipB l).drop 1))
    else leafP (k + 1) (skipB l)
/-- A limit's word; -1: it is none. -/
def limZ (q : List Nat) : Int :=
  match q with
  | [a] => if 48 ≤ a ∧ a ≤ 57 then (a : Int) - 48 else -1
  | [a, b] => if 49 ≤ a ∧ a ≤ 57 ∧ 48 ≤ b ∧ b ≤ 57 ∧ 10 * (a - 48) + (b - 48) ≤ 64 then 10 * ((a : Int) - 48) + ((b : Int) - 48) else -1
  | _ => -1
def limitP (l : List Nat) : PR Int := (wordP 8 l).bind fun q r => if limZ q = -1 then .err (failE 8 r) else .ok (limZ q) r
def orderP (l : List Nat) : PR Int := (wordP 8 l).bind fun q r => if q = [110, 101, 119] then .ok 1 r else if q = [114, 97, 110, 107] then .ok 0 r else .err (failE 8 r)
/-- What is known of limit and order on the way. -/
structure Opt where
  lim : Int
  limd : Bool
  ord : Int
  ordd : Bool
def optLoop : Nat → Opt → List Nat → PR Opt
  | 0, _, _ => .err 0
  | f + 1, o, l =>
    if headZ (skipB l) = 35 ∧ o.limd = false then (limitP ((skipB l).drop 1)).bind fun n l' => optLoop f { o with lim := n, limd := true } l'
    else if headZ (skipB l) = 64 ∧ o.ordd = false then (orderP ((skipB l).drop 1)).bind fun n l' => optLoop f { o with ord := n, ordd := true } l'
    else if headZ (skipB l) = -1 then .ok o []
    else .err (failE 8 (skipB l))
def parseR (l : List Nat) : PR (Nd × Opt) :=
  (orP (andP (notP 8)) l).bind fun n l' => (optLoop (l'.length + 1) ⟨10, false, 0, false⟩ l').map fun o => (n, o)

/-! ### Each part reads on -/
set_option maxRecDepth 100000 in
theorem skipB_le : ∀ l : List Nat, (skipB l).length ≤ l.length
  | [] => Nat.le_refl _
  | c :: l => by
    have := skipB_le l
    rw [skipB]
    split
    · simp; omega
    · simp
set_option maxRecDepth 100000 in
theorem skipB_skip : ∀ l : List Nat, skipB (skipB l) = skipB l
  | [] => rfl
  | c :: l => by
    rw [skipB]
    split
    · exact skipB_skip l
    · rename_i h
      rw [skipB, if_neg h]
set_option maxRecDepth 100000 in
theorem headZ_cons {l : List Nat} {c : Int} (h : headZ l = c) (h0 : 0 ≤ c) : l = c.toNat :: l.drop 1 := by
  cases l with
  | nil => simp [headZ] at h; omega
  | cons a l => simp [headZ] at h; subst h; simp
set_option maxRecDepth 100000 in
theorem class_end : classZ (-1) = 0 := by decide
set_option maxRecDepth 100000 in
theorem headZ_let {l : List Nat} (h : classZ (headZ l) ≠ 0) : ∃ c r, l = c :: r ∧ letB c = true := by
  cases l with
  | nil => exact absurd class_end h
  | cons c r => exact ⟨c, r, rfl, by simpa [letB, headZ] using h⟩
def Less (α : Type) (p : List Nat → PR α) : Prop := ∀ l n l', p l = .ok n l' → l'.length < l.length
set_option maxRecDepth 100000 in
theorem dropW_le (p : Nat → Bool) : ∀ l : List Nat, (l.dropWhile p).length ≤ l.length
  | [] => by simp
  | c :: l => by
    have := dropW_le p l
    rw [List.dropWhile_cons]
    split <;> simp <;> omega
set_option maxRecDepth 100000 in
theorem word_less (k : Nat) : Less _ (wordP k) := by
  intro l n l' h
  unfold wordP at h
  split at h
  · cases h
  · rename_i hc
    obtain ⟨c, r, hl, hb⟩ := headZ_let hc
    injection h with h1 h2
    subst h2
    rw [hl, List.dropWhile_cons, if_pos hb]
    have := dropW_le letB r
    have := skipB_le l
    rw [hl] at this
    simp at this
    omega
set_option maxRecDepth 100000 in
theorem phrase_le {l : List Nat} {q l' : List Nat} (h : phraseP l = .ok q l') : l'.length ≤ l.length := by
  unfold phraseP at h
  split at h
  · injection h with h1 h2
    subst h2
    have := dropW_le (· != 34) l
    simp
    omega
  · cases h
set_option maxRecDepth 100000 in
theorem field_le (l : List Nat) : (fieldP l).2.length ≤ l.length := by
  have h := skipB_le l
  unfold fieldP
  split
  · rename_i c r hs
    rw [hs] at h
    split
    · simp at h ⊢; omega
    · simpa using h
  · exact h
set_option maxRecDepth 100000 in
theorem map_ok {α β : Type} {g : α → β} {x : PR α} {b : β} {l : List Nat} (h : x.map g = .ok b l) : ∃ a, x = .ok a l ∧ b = g a := by
  cases x with
  | ok a l1 => injection h with h1 h2; exact ⟨a, by rw [h2], h1.symm⟩
  | err e => cases h
set_option maxRecDepth 100000 in
theorem bind_ok {α β : Type} {g : α → List Nat → PR β} {x : PR α} {b : β} {l : List Nat} (h : x.bind g = .ok b l) : ∃ a l1, x = .ok a l1 ∧ g a l1 = .ok b l := by
  cases x with
  | ok a l1 => exact ⟨a, l1, rfl, h⟩
  | err e => cases h
set_option maxRecDepth 100000 in
theorem leaf_less (k : Nat) : Less _ (leafP k) := by
  intro l n l' h
  have hf := field_le l
  unfold leafP at h
  split at h
  · rename_i hq
    obtain ⟨q, h1, _⟩ := map_ok h
    have h2 := phrase_le h1
    have h3 := skipB_le (fieldP l).2
    rw [headZ_cons hq (by omega)] at h3
    simp at h2 h3
    omega
  · obtain ⟨q, h1, _⟩ := map_ok h
    have := word_less k _ _ _ h1
    omega
set_option maxRecDepth 100000 in
theorem andLoop_le {nt : List Nat → PR Nd} (hn : Less _ nt) : ∀ (f : Nat) (ps : List Nd) (l : List Nat) (n : Nd) (l' : List Nat), andLoop nt f ps l = .ok n l' → l'.length ≤ l.length
  | 0, _, _, _, _, h => by cases h
  | f + 1, ps, l, n, l', h => by
    have hs := skipB_le l
    rw [andLoop] at h
    split at h
    · obtain ⟨a, l1, h1, h2⟩ := bind_ok h
      have := hn _ _ _ h1
      have := andLoop_le hn f _ _ _ _ h2
      have := List.length_drop (i := 1) (l := skipB l)
      omega
    · split at h
      · obtain ⟨a, l1, h1, h2⟩ := bind_ok h
        have := hn _ _ _ h1
        have := andLoop_le hn f _ _ _ _ h2
        omega
      · injection h with h1 h2; subst h2; exact hs
set_option maxRecDepth 100000 in
theorem and_less {nt : List Nat → PR Nd} (hn : Less _ nt) : Less _ (andP nt) := by
  intro l n l' h
  obtain ⟨a, l1, h1, h2⟩ := bind_ok h
  have := hn _ _ _ h1
  have := andLoop_le hn _ _ _ _ _ h2
  omega
set_option maxRecDepth 100000 in
theorem orLoop_le {nt : List Nat → PR Nd} (hn : Less _ nt) : ∀ (f : Nat) (ps : List Nd) (l : List Nat) (n : Nd) (l' : List Nat), orLoop nt f ps l = .ok n l' → l'.length ≤ l.length
  | 0, _, _, _, _, h => by cases h
  | f + 1, ps, l, n, l', h => by
    have hs := skipB_le l
    rw [orLoop] at h
    split at h
    · obtain ⟨a, l1, h1, h2⟩ := bind_ok h
      have := hn _ _ _ h1
      have := orLoop_le hn f _ _ _ _ h2
      have := List.length_drop (i := 1) (l := skipB l)
      omega
    · injection h with h1 h2; subst h2; exact hs
set_option maxRecDepth 100000 in
theorem or_less {nt : List Nat → PR Nd} (hn : Less _ nt) : Less _ (orP nt) := by
  intro l n l' h
  obtain ⟨a, l1, h1, h2⟩ := bind_ok h
  have := hn _ _ _ h1
  have := orLoop_le hn _ _ _ _ _ h2
  omega
set_option maxRecDepth 100000 in
theorem not_less : ∀ k : Nat, Less _ (notP k)
  | 0, l, n, l', h => by
    have hs := skipB_le l
    rw [notP] at h
    split at h
    · cases h
    · have := leaf_less 0 _ _ _ h; omega
  | k + 1, l, n, l', h => by
    have hs := skipB_le l
    rw [notP] at h
    split at h
    · rename_i hc
      obtain ⟨a, h1, _⟩ := map_ok h
      have := not_less k _ _ _ h1
      rw [headZ_cons hc (by omega)] at hs
      simp at hs this
      omega
    · split at h
      · rename_i hc
        obtain ⟨a, l1, h1, h2⟩ := bind_ok h
        have h3 := or_less (and_less (not_less k)) _ _ _ h1
        rw [headZ_cons hc (by omega)] at hs
        split at h2
        · injection h2 with h4 h5
          have := skipB_le l1
          have := List.length_drop (i := 1) (l := skipB l1)
          have := List.length_drop (i := 1) (l := skipB l)
          simp at hs
          rw [← h5]
          omega
        · cases h2
      · have := leaf_less (k + 1) _ _ _ h; omega

/-! ### As much fuel as there are runes is enough -/
set_option maxRecDepth 100000 in
theorem bind_congr {α β : Type} {x : PR α} {f g : α → List Nat → PR β} (h : ∀ a l, x = .ok a l → f a l = g a l) : x.bind f = x.bind g := by
  cases x with
  | ok a l => exact h a l rfl
  | err e => rfl
set_option maxRecDepth 100000 in
theorem andLoop_enough {nt : List Nat → PR Nd} (hn : Less _ nt) : ∀ (f g : Nat) (ps : List Nd) (l : List Nat), l.length < f → l.length < g → andLoop nt f ps l = andLoop nt g ps l
  | 0, _, _, _, h, _ => by omega
  | _ + 1, 0, _, _, _, h => by omega
  | f + 1, g + 1, ps, l, hf, hg => by
    have hs := skipB_le l
    rw [andLoop, andLoop]
    split
    · apply bind_congr
      intro a l1 h1
      have := hn _ _ _ h1
      have := List.length_drop (i := 1) (l := skipB l)
      exact andLoop_enough hn f g _ _ (by omega) (by omega)
    · split
      · apply bind_congr
        intro a l1 h1
        have := hn _ _ _ h1
        exact andLoop_enough hn f g _ _ (by omega) (by omega)
      · rfl
set_option maxRecDepth 100000 in
theorem orLoop_enough {nt : List Nat → PR Nd} (hn : Less _ nt) : ∀ (f g : Nat) (ps : List Nd) (l : List Nat), l.length < f → l.length < g → orLoop nt f ps l = orLoop nt g ps l
  | 0, _, _, _, h, _ => by omega
  | _ + 1, 0, _, _, _, h => by omega
  | f + 1, g + 1, ps, l, hf, hg => by
    have hs := skipB_le l
    rw [orLoop, orLoop]
    split
    · apply bind_congr
      intro a l1 h1
      have := hn _ _ _ h1
      have := List.length_drop (i := 1) (l := skipB l)
      exact orLoop_enough hn f g _ _ (by omega) (by omega)
    · rfl
/-- The loops with all the fuel they want, a step at a time. -/
def andR (k : Nat) (ps : List Nd) (l : List Nat) : PR Nd := andLoop (notP k) (l.length + 1) ps l
def orR (k : Nat) (ps : List Nd) (l : List Nat) : PR Nd := orLoop (andP (notP k)) (l.length + 1) ps l
set_option maxRecDepth 100000 in
theorem andP_eq (k : Nat) (l : List Nat) : andP (notP k) l = (notP k l).bind fun n l' => andR k [n] l' := rfl
set_option maxRecDepth 100000 in
theorem orP_eq (k : Nat) (l : List Nat) : orP (andP (notP k)) l = (andP (notP k) l).bind fun n l' => orR k [n] l' := rfl
set_option maxRecDepth 100000 in
theorem andR_step (k : Nat) (ps : List Nd) (l : List Nat) : andR k ps l =
    if headZ (skipB l) = 38 then (notP k ((skipB l).drop 1)).bind fun n l' => andR k (ps ++ [n]) l'
    else if beginB (headZ (skipB l)) then (notP k (skipB l)).bind fun n l' => andR k (ps ++ [n]) l'
    else .ok (joinN 2 ps) (skipB l) := by
  have hs := skipB_le l
  show andLoop _ _ _ _ = _
  rw [andLoop]
  split
  · apply bind_congr
    intro a l1 h1
    have := not_less k _ _ _ h1
    have := List.length_drop (i := 1) (l := skipB l)
    exact andLoop_enough (not_less k) _ _ _ _ (by omega) (by omega)
  · split
    · apply bind_congr
      intro a l1 h1
      have := not_less k _ _ _ h1
      exact andLoop_enough (not_less k) _ _ _ _ (by omega) (by omega)
    · rfl
set_option maxRecDepth 100000 in
theorem orR_step (k : Nat) (ps : List Nd) (l : List Nat) : orR k ps l =
    if headZ (skipB l) = 124 then (andP (notP k) ((skipB l).drop 1)).bind fun n l' => orR k (ps ++ [n]) l'
    else .ok (joinN 3 ps) (skipB l) := by
  have hs := skipB_le l
  show orLoop _ _ _ _ = _
  rw [orLoop]
  split
  · apply bind_congr
    intro a l1 h1
    have := and_less (not_less k) _ _ _ h1
    have := List.length_drop (i := 1) (l := skipB l)
    exact orLoop_enough (and_less (not_less k)) _ _ _ _ (by omega) (by omega)
  · rfl
def optR (o : Opt) (l : List Nat) : PR Opt := optLoop (l.length + 1) o l
set_option maxRecDepth 100000 in
theorem limit_less : Less _ limitP := by
  intro l n l' h
  obtain ⟨a, l1, h1, h2⟩ := bind_ok h
  have := word_less _ _ _ _ h1
  split at h2
  · cases h2
  · injection h2 with h3 h4; subst h4; exact this
set_option maxRecDepth 100000 in
theorem order_less : Less _ orderP := by
  intro l n l' h
  obtain ⟨a, l1, h1, h2⟩ := bind_ok h
  have := word_less _ _ _ _ h1
  split at h2
  · injection h2 with h3 h4; subst h4; exact this
  · split at h2
    · injection h2 with h3 h4; subst h4; exact this
    · cases h2
set_option maxRecDepth 100000 in
theorem optLoop_enough : ∀ (f g : Nat) (o : Opt) (l : List Nat), l.length < f → l.length < g → optLoop f o l = optLoop g o l
  | 0, _, _, _, h, _ => by omega
  | _ + 1, 0, _, _, _, h => by omega
  | f + 1, g + 1, o, l, hf, hg => by
    have hs := skipB_le l
    have hd := List.length_drop (i := 1) (l := skipB l)
    rw [optLoop, optLoop]
    split
    · apply bind_congr
      intro a l1 h1
      have := limit_less _ _ _ h1
      exact optLoop_enough f g _ _ (by omega) (by omega)
    · split
      · apply bind_congr
        intro a l1 h1
        have := order_less _ _ _ h1
        exact optLoop_enough f g _ _ (by omega) (by omega)
      · rfl
set_option maxRecDepth 100000 in
theorem optR_step (o : Opt) (l : List Nat) : optR o l =
    if headZ (skipB l) = 35 ∧ o.limd = false then (limitP ((skipB l).drop 1)).bind fun n l' => optR { o with lim := n, limd := true } l'
    else if headZ (skipB l) = 64 ∧ o.ordd = false then (orderP ((skipB l).drop 1)).bind fun n l' => optR { o with ord := n, ordd := true } l'
    else if headZ (skipB l) = -1 then .ok o []
    else .err (failE 8 (skipB l)) := by
  have hs := skipB_le l
  have hd := List.length_drop (i := 1) (l := skipB l)
  show optLoop _ _ _ = _
  rw [optLoop]
  split
  · apply bind_congr
    intro a l1 h1
    have := limit_less _ _ _ h1
    exact optLoop_enough _ _ _ _ (by omega) (by omega)
  · split
    · apply bind_congr
      intro a l1 h1
      have := order_less _ _ _ h1
      exact optLoop_enough _ _ _ _ (by omega) (by omega)
    · rfl
set_option maxRecDepth 100000 in
theorem parseR_eq (l : List Nat) : parseR l = (orP (andP (notP 8)) l).bind fun n l' => (optR ⟨10, false, 0, false⟩ l').map fun o => (n, o) := rfl
end Go.Proofs.YthkpaelpnofbgaaGreatDoor
