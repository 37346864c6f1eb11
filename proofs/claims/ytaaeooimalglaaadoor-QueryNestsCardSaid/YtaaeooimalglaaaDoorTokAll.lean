/-
  The reference of layer 6: all words of a text. Over the program's own text.
-/
import Derived.Test.YtaaeooimalglaaaDoorTokRef
namespace Go.Proofs.YtaaeooimalglaaaDoor
open Go.RowKit

/-! ### Rows of several kinds side by side -/
set_option maxRecDepth 100000 in
theorem row_ne {e : TypeId} {size n base : Nat} {v : Value} {xs : List Value} {w : World} (h : w.ownsRow base e size v n xs) {b : Nat} {cs : Array Value} {t : TypeId} (hb : w.heap[b]? = some (.cells cs t (0, 0))) (hne : e ≠ t) : v.ownBlock ≠ some b := by
  rcases h.2 with ⟨rfl, _⟩ | ⟨g, cap, cur, rfl, _, hg, _⟩
  · simp [Value.ownBlock]
  · intro hh
    simp [Value.ownBlock] at hh
    subst hh
    rw [hg] at hb
    simp at hb
    exact hne hb.2
set_option maxRecDepth 100000 in
theorem row_grown {e e2 : TypeId} {size n base size2 n2 base2 : Nat} {v v2 : Value} {xs xs2 : List Value} {w w' : World} (h : w.ownsRow base e size v n xs) (h2 : w.ownsRow base2 e2 size2 v2 n2 xs2) (hne : e2 ≠ e) (hg : w.grownBy w' v2.ownBlock) : w'.ownsRow base e size v n xs := by
  refine h.kept hg ?_
  rcases h.2 with ⟨rfl, _⟩ | ⟨g, cap, cur, rfl, _, hgg, _⟩
  · exact .inl rfl
  · exact .inr fun e' => row_ne h2 hgg hne (e'.symm.trans (by simp [Value.ownBlock]))
set_option maxRecDepth 100000 in
theorem three_cells {w : World} {a b c : Value} {t : TypeId} : ∀ (j : Nat) (u : Value), [a, b, c][j]? = some u → (w.alloc (.cells #[a, b, c] t)).cell? ((⟨w.heap.size, 0, none⟩ : Addr).add j) = some u := by
  intro j u hj
  rw [Addr.add_lit, Lib.cell_of_heap (heap_alloc_new w _)]
  simpa using hj

structure AllAt (W : World) (vl vo vc : Value) (L : List Nat) (st : TokSt) (w : World) : Prop where
  row : RunesIn w W.heap.size vl L
  out : ToksIn w W.heap.size vo (outT st.out)
  cur : BytesIn w W.heap.size vc st.cur
  low : Below W.heap.size W w
section
variable {W : World} {vl vo vc : Value} {L : List Nat} {st : TokSt} {w : World}
set_option maxRecDepth 100000 in
theorem AllAt.below {w' : World} (h : AllAt W vl vo vc L st w) (hb : Below w.heap.size w w') : AllAt W vl vo vc L st w' :=
  ⟨owned_below h.row hb, owned_below h.out hb, owned_below h.cur hb, h.low.trans (hb.mono h.low.size)⟩
set_option maxRecDepth 100000 in
theorem AllAt.re (h : AllAt W vl vo vc L st w) (f s : Bool) : AllAt W vl vo vc L ⟨st.out, st.cur, f, s⟩ w := ⟨h.row, h.out, h.cur, h.low⟩
set_option maxRecDepth 100000 in
theorem AllAt.word {w2 : World} {vo' : Value} {o : Obj} (h : AllAt W vl vo vc L st w)
    (ho : w2.ownsRow W.heap.size 42 3 vo' ((outT st.out).length + 1) (toksC (outT st.out) ++ [.int .u8 0, .string (byteText st.cur), .int .i64 st.out.length])) (hg : (w.alloc o).grownBy w2 vo.ownBlock) :
    AllAt W vl vo' vc L ⟨st.out ++ [st.cur], st.cur, st.full, st.some⟩ w2 := by
  have hs := h.low.size
  refine ⟨row_grown (h.row.alloc o) (World.ownsRow.alloc h.out o) (by decide) hg, ?_, row_grown (World.ownsRow.alloc h.cur o) (World.ownsRow.alloc h.out o) (by decide) hg, (h.low.alloc hs o).grown hg (by simp; omega) (fun k hk => (World.ownsRow.lt h.out k hk).1)⟩
  unfold ToksIn
  rw [outT_snoc, toksC_append]
  simpa [toksC, tokC] using ho
set_option maxRecDepth 100000 in
theorem AllAt.fresh (h : AllAt W vl vo vc L st w) (f s : Bool) : AllAt W vl vo (.slice (some ⟨w.heap.size, 0, none⟩) 0 0) L ⟨st.out, [], f, s⟩ (w.alloc (.cells #[] 5)) :=
  ⟨h.row.alloc _, World.ownsRow.alloc h.out _, World.ownsRow_lit (base := W.heap.size) (e := 5) (size := 1) w #[] 0 h.low.size (by decide) (by simp), h.low.alloc h.low.size _⟩
set_option maxRecDepth 100000 in
theorem AllAt.grow {w2 : World} {vc' : Value} {x : List Nat} (h : AllAt W vl vo vc L st w) (s : Bool)
    (ho : w2.ownsRow W.heap.size 5 1 vc' (st.cur.length + x.length) (st.cur.map (fun (b : Nat) => Value.int .u8 (b : Int)) ++ x.map (fun (b : Nat) => Value.int .u8 (b : Int)))) (hg : w.grownBy w2 vc.ownBlock) :
    AllAt W vl vo vc' L ⟨st.out, st.cur ++ x, st.full, s⟩ w2 :=
  ⟨row_grown h.row h.cur (by decide) hg, row_grown h.out h.cur (by decide) hg, by unfold BytesIn; simpa using ho, h.low.grown hg h.low.size (fun k hk => (World.ownsRow.lt h.cur k hk).1)⟩
end
set_option maxRecDepth 100000 in
theorem run_out_le : ∀ (l : List Nat) (st : TokSt), (tokRun st l).out.length ≤ st.out.length + l.length
  | [], st => by simp [tokRun]
  | r :: l, st => by
    rw [tokStep_cons]
    have h := run_out_le l (tokStep st r)
    have h2 : (tokStep st r).out.length ≤ st.out.length + 1 := by
      unfold tokStep
      split
      · cases st.some <;> simp
      · split <;> simp
    simp only [List.length_cons]
    omega
set_option maxRecDepth 100000 in
theorem FairT.cur_le {st : TokSt} (h : FairT st) : st.cur.length ≤ 16 ∧ ∀ b ∈ st.cur, b < 256 := by
  cases hs : st.some
  · rw [(h.no hs).1]; simp
  · have ht := h.cur hs
    refine ⟨ht.len, ?_⟩
    obtain ⟨q, _, e, hq⟩ := ht.ex
    rw [e]
    intro b hb
    obtain ⟨x, hx, hbx⟩ := List.mem_flatMap.1 hb
    exact encR_byte x (hq x hx).1 b hbx
set_option maxRecDepth 100000 in
theorem row_cell {w : World} {base : Nat} {v : Value} {L : List Nat} (N : Nat) (h : RunesIn w base v L) (hn : L.length = N) (h0 : N ≠ 0) : ∃ g cap, v = .slice (some ⟨g, 0, none⟩) N cap := by
  rcases h.2 with ⟨_, h1⟩ | ⟨g, cap, cur, rfl, _⟩
  · omega
  · exact ⟨g, cap, by rw [hn]⟩

set_option maxRecDepth 100000 in
theorem own_slice {e : TypeId} {size n base : Nat} {v : Value} {xs : List Value} {w : World} (h : w.ownsRow base e size v n xs) (m : Nat) (hm : n = m) : ∃ ao c, v = .slice ao m c := by
  subst hm
  rcases h.2 with ⟨rfl, h0⟩ | ⟨g, cap, cur, rfl, _⟩
  · exact ⟨none, 0, by rw [h0]⟩
  · exact ⟨_, cap, rfl⟩

set_option maxRecDepth 100000 in
set_option maxHeartbeats 4000000 in
theorem ref_all (W : World) (s : ByteArray) (hs : s.size ≤ 1000000) :
    Calls Tryd.prog 13 #[.string s] W fun e w' => ∃ v, e = .returned v ∧ ToksIn w' W.heap.size v (outT (allT s)) ∧ Below W.heap.size W w' := by
  obtain ⟨i0, hi, hz0, hz1, hz2⟩ := info_parts info_i32
  have HI := Lib.hid (And.intro hi (And.intro hz0 (And.intro hz1 hz2)))
  obtain ⟨iT, hi, hz0, hz1, hz2⟩ := info_parts info_tok
  have HIT := Lib.hid (And.intro hi (And.intro hz0 (And.intro hz1 hz2)))
  obtain ⟨iB, hi, hz0, hz1, hz2⟩ := info_parts info_u8
  have HIB := Lib.hid (And.intro hi (And.intro hz0 (And.intro hz1 hz2)))
  have HL := Lib.hid (runesOf_many s).1
  have HOk := Lib.hid (runesOf_ok s)
  have HRun := Lib.hid (ref_runes W s hs)
  clear hi hz0 hz1 hz2
  obtain ⟨N, hN⟩ : ∃ N, N = (runesOf s).length + 1 := ⟨_, rfl⟩
  have HN := Lib.hid (show ((runesOf s) ++ [32]).length = N ∧ N ≠ 0 by rw [hN]; simp)
  have HNe := Lib.hid hN
  clear hN
  go_enter Tryd.func13, Tryd.ntmps13
  go_wp2_with fail
  refine HRun.out.mono ?_
  rintro e w1 ⟨v, rfl, hnn, hr, hb⟩
  have HR := Lib.hid hr
  have HB := Lib.hid hb
  clear hr hb hnn HRun
  go_wp2_with (at_builtin; refine wpList_append_own _ rfl (.tmp 11) (.tmp 12) 34 rfl W.heap.size 21 i0 _ 1 4 Tryd.underlying34 HI.out.1 HI.out.2.1 HI.out.2.2.1 HI.out.2.2.2 rfl (by decide) _ (runesOf s).length ((runesOf s).map fun (r : Nat) => Value.int .i32 (r : Int)) rfl (World.ownsRow.alloc HR.out _) ⟨w1.heap.size, 0, none⟩ 1 1 [.int .i32 32] rfl rfl one_cell (by simp [Value.oneCell']) (by have := HL.out; unfold maxLen; omega) (by have := HL.out; omega) (by have := HB.out.size; simp; omega) ?_; intro v1 w2 ho hg _; have HR2 := Lib.hid (runes_more (r := 32) HB.out HR.out ho hg); clear ho hg; obtain ⟨g, cap, rfl⟩ := row_cell N HR2.out.1 HN.out.1 HN.out.2)
  obtain ⟨L, hLd⟩ : ∃ L, L = runesOf s ++ [32] := ⟨_, rfl⟩
  rw [← hLd] at HR2
  have hLe : L.length = N := by rw [hLd]; exact HN.out.1
  have HLk := Lib.hid (show ∀ r ∈ L, okR r by
    intro r hr
    rw [hLd] at hr
    rcases List.mem_append.1 hr with h | h
    · exact HOk.out r h
    · simp at h; subst h; exact ok_blank)
  have HAll := Lib.hid (show allT s = (tokRun tok0 L).out by rw [hLd]; rfl)
  have hLs : N ≤ 1000001 := by have := HL.out; have := HNe.out; omega
  have HLe := Lib.hid hLe
  clear hLd hLe HR HB HOk HL HN HNe
  have hsz2 := HR2.out.2.size
  go_loopw [4, 5, 6, 7, 18] (fun vo vc fl so iv wr => ∃ i : Nat, i ≤ N ∧ iv = .int .i64 i ∧ fl = .bool (tokRun tok0 (L.take i)).full ∧ so = .bool (tokRun tok0 (L.take i)).some ∧ AllAt W (.slice (some ⟨g, 0, none⟩) N cap) vo vc L (tokRun tok0 (L.take i)) wr) (fun _ _ _ _ iv _ => N - (intOf iv).toNat)
  case atStart =>
    refine ⟨0, by omega, rfl, rfl, rfl, ?_⟩
    have hb := HR2.out.2
    exact ⟨(HR2.out.1.alloc _).alloc _, World.ownsRow.alloc (World.ownsRow_lit (base := W.heap.size) (e := 42) (size := 3) w2 #[] 0 hsz2 (by decide) (by simp)) _,
      by have := World.ownsRow_lit (base := W.heap.size) (e := 5) (size := 1) (w2.alloc (.cells #[] 42)) #[] 0 (by simp; omega) (by decide) (by simp)
         rw [show (w2.alloc (.cells #[] 42)).heap.size = w2.heap.size + 1 by simp] at this
         exact this, (hb.alloc hsz2 _).alloc (by simp; omega) _⟩
  case round =>
    obtain ⟨i, hi, rfl, rfl, rfl, hA⟩ := hrel
    have hF : FairT (tokRun tok0 (L.take i)) := fair0.run _ fun r hr => HLk.out r (List.mem_of_mem_take hr)
    have hO := run_out_le (L.take i) tok0
    by_cases hlt : i < N
    · obtain ⟨r, hr⟩ : ∃ r, L[i]? = some r := ⟨_, List.getElem?_eq_getElem (by rw [HLe.out]; exact hlt)⟩
      have hcell : wr.cell? ⟨g, i, none⟩ = some (.int .i32 (r : Int)) := by
        have := World.ownsRow.cells hA.row (g := g) rfl i (.int .i32 (r : Int)) (by simp [hr])
        rwa [Addr.add_lit, Nat.zero_add] at this
      have hnx : tokRun tok0 (L.take (i + 1)) = tokStep (tokRun tok0 (L.take i)) r := by rw [List.take_add_one, hr]; exact tokRun_snoc _ _ _
      have hok := HLk.out r (List.mem_of_getElem? hr)
      have HC0 := Lib.hid (fun w => ref_class w (r : Int))
      have HFo := Lib.hid (fun w => ref_fold w (r : Int))
      have HBy := Lib.hid (fun w => bytes_ok w (foldN r) (fold_ok hok).2)
      rw [← (fold_ok hok).1] at HFo
      have hcur := hF.cur_le
      have hE := enc_le (foldN r)
      have hO2 : (tokRun tok0 (L.take i)).out.length ≤ 1000001 := by rw [List.length_take, show tok0.out.length = 0 from rfl] at hO; omega
      have hsz := hA.low.size
      have HX := Lib.hid hnx
      generalize hst : tokRun tok0 (L.take i) = st at *
      obtain ⟨so, sc, sf, ss⟩ := st
      have HA := Lib.hid hA
      clear hA hnx hst hF hO hr hok
      by_cases hc : classZ (r : Int) = 0
      · rw [hc] at HC0
        have HX2 := Lib.hid (show tokRun tok0 (L.take (i + 1)) = ⟨if ss then so ++ [sc] else so, [], false, false⟩ by rw [HX.out]; unfold tokStep; rw [if_pos hc])
        clear hc
        cases ss
        · go_wp2_with fail
          refine (HC0.out _).mono ?_; rintro e w5 ⟨rfl, rfl⟩
          have HA2 := Lib.hid (HA.out.fresh false false)
          go_wp2_with fail
          go_roundw
          case rel => exact ⟨i + 1, by omega, by go_num, by rw [HX2.out], by rw [HX2.out], by rw [HX2.out]; exact HA2.out⟩
          case measure => simp [intOf]; omega
        · have hcs := bytes_string HA.out.cur hcur.2
          obtain ⟨ao, co, rfl⟩ := own_slice HA.out.out so.length (outT_length so)
          go_wp2_with fail
          refine (HC0.out _).mono ?_; rintro e w5 ⟨rfl, rfl⟩
          go_wp2_with (at_builtin; refine wpList_append_own _ rfl (.tmp 28) (.tmp 34) 23 rfl W.heap.size 42 iT _ 3 32 Tryd.underlying23 HIT.out.1 HIT.out.2.1 HIT.out.2.2.1 HIT.out.2.2.2 rfl (by decide) _ (outT so).length (toksC (outT so)) rfl (World.ownsRow.alloc HA.out.out _) ⟨w5.heap.size, 0, none⟩ 1 1 [.int .u8 0, .string (byteText sc), .int .i64 so.length] rfl rfl three_cells (by simp [Value.oneCell']) (by rw [outT_length]; unfold maxLen; omega) (by rw [outT_length]; omega) (by have := HA.out.low.size; simp; omega) ?_; intro v' w6 ho hg _; have HA6 := Lib.hid (HA.out.word ho hg); clear ho hg)
          have HA7 := Lib.hid (HA6.out.fresh false false)
          clear HA6 HA
          go_wp2_with fail
          go_roundw
          case rel => exact ⟨i + 1, by omega, by go_num, by rw [HX2.out], by rw [HX2.out], by rw [HX2.out]; exact HA7.out⟩
          case measure => simp [intOf]; omega
      · have hcne : (classZ (r : Int) == 0) = false := beq_eq_false_iff_ne.2 hc
        have HXc := Lib.hid hc
        generalize classZ (r : Int) = cz at HC0 hcne
        clear hc
        by_cases hfull : sf = true
        · subst hfull
          have HX2 := Lib.hid (show tokRun tok0 (L.take (i + 1)) = ⟨so, sc, true, true⟩ by rw [HX.out]; unfold tokStep; rw [if_neg HXc.out, if_pos (Or.inl rfl)])
          go_wp2_with fail
          refine (HC0.out _).mono ?_; rintro e w5 ⟨rfl, rfl⟩
          go_wp2_with fail
          refine (HFo.out _).mono ?_; rintro e w5 ⟨rfl, rfl⟩
          go_wp2_with fail
          refine (HBy.out _).mono ?_; rintro e w6 ⟨gb, rfl, hby, hb6⟩
          have HA6 := Lib.hid ((HA.out.below hb6).re true true)
          clear hby hb6 HA
          go_wp2_with fail
          go_roundw
          case rel => exact ⟨i + 1, by omega, by go_num, by rw [HX2.out], by rw [HX2.out], by rw [HX2.out]; exact HA6.out⟩
          case measure => simp [intOf]; omega
        · obtain rfl : sf = false := by simpa using hfull
          obtain ⟨ac, cc, rfl⟩ := own_slice HA.out.cur sc.length rfl
          clear hfull
          by_cases hov : 16 < sc.length + (encR (foldN r)).length
          · have HX2 := Lib.hid (show tokRun tok0 (L.take (i + 1)) = ⟨so, sc, true, true⟩ by rw [HX.out]; unfold tokStep; rw [if_neg HXc.out, if_pos (Or.inr hov)])
            go_wp2_with fail
            refine (HC0.out _).mono ?_; rintro e w5 ⟨rfl, rfl⟩
            go_wp2_with fail
            refine (HFo.out _).mono ?_; rintro e w5 ⟨rfl, rfl⟩
            go_wp2_with fail
            refine (HBy.out _).mono ?_; rintro e w6 ⟨gb, rfl, hby, hb6⟩
            have HA6 := Lib.hid ((HA.out.below hb6).re true true)
            clear hby hb6 HA
            go_wp2_with fail
            go_roundw
            case rel => exact ⟨i + 1, by omega, by go_num, by rw [HX2.out], by rw [HX2.out], by rw [HX2.out]; exact HA6.out⟩
            case measure => simp [intOf]; omega
          · have HX2 := Lib.hid (show tokRun tok0 (L.take (i + 1)) = ⟨so, sc ++ encR (foldN r), false, true⟩ by rw [HX.out]; unfold tokStep; rw [if_neg HXc.out, if_neg (by simp; omega)])
            go_wp2_with fail
            refine (HC0.out _).mono ?_; rintro e w5 ⟨rfl, rfl⟩
            go_wp2_with fail
            refine (HFo.out _).mono ?_; rintro e w5 ⟨rfl, rfl⟩
            go_wp2_with fail
            refine (HBy.out _).mono ?_; rintro e w6 ⟨gb, rfl, hby, hb6⟩
            have HA6 := Lib.hid (HA.out.below hb6)
            have HG := Lib.hid hby
            clear hby hb6 HA
            go_wp2_with (at_builtin; refine wpList_append_own _ rfl (.tmp 52) (.tmp 53) 56 rfl W.heap.size 5 iB _ 1 1 Tryd.underlying56 HIB.out.1 HIB.out.2.1 HIB.out.2.2.1 HIB.out.2.2.2 rfl (by decide) _ sc.length (sc.map fun (b : Nat) => Value.int .u8 (b : Int)) rfl HA6.out.cur ⟨gb, 0, none⟩ (encR (foldN r)).length (encR (foldN r)).length ((encR (foldN r)).map fun (b : Nat) => Value.int .u8 (b : Int)) rfl (by simp) (bytesAt_cell HG.out) (bytes_oneCell _) (by unfold maxLen; omega) (by omega) (by have := HA6.out.low.size; omega) ?_; intro v' w7 ho hg _; have HA7 := Lib.hid ((HA6.out.grow true ho hg).re false true); clear ho hg)
            go_roundw
            case rel => exact ⟨i + 1, by omega, by go_num, by rw [HX2.out], by rw [HX2.out], by rw [HX2.out]; exact HA7.out⟩
            case measure => simp [intOf]; omega
    · have hi' : i = N := by omega
      have hA2 : AllAt W (.slice (some ⟨g, 0, none⟩) N cap) u4 u5 L (tokRun tok0 L) wr := by
        have : L.take i = L := List.take_of_length_le (by rw [HLe.out]; omega)
        rwa [this] at hA
      have HA := Lib.hid hA2
      clear hA hA2 hF hO
      go_wp2_with fail
      go_ret
      exact ⟨_, rfl, by rw [HAll.out]; exact HA.out.out, HA.out.low⟩
end Go.Proofs.YtaaeooimalglaaaDoor
