/-
  What the landed code's functions of layer 6 keep: the words of a document's fields; all three together. Over the program's own text.
-/
import Derived.Test.YtpfbhafcjipmeaaDoorTokLandC
namespace Go.Proofs.YtpfbhafcjipmeaaDoor
open Go.RowKit

set_option maxRecDepth 100000 in
set_option maxHeartbeats 8000000 in
theorem lands_tokens (W : World) (oa : Option Addr) (c : Nat) (F : List ByteArray) (hT : TabsIn W) (hF : ReadS W oa F) (hs : ∀ x ∈ F, x.size ≤ 1000000) (hn : F.length ≤ 1000000) :
    Calls Tryd.prog 15 #[.slice oa F.length c] W fun e w' => ∃ v, e = .returned (.tuple #[v, .int .i64 (docE F)]) ∧ ToksIn w' W.heap.size v (docL F) ∧ Below W.heap.size W w' := by
  obtain ⟨iT, hi, hz0, hz1, hz2⟩ := info_parts info_tok
  have HIT := Lib.hid (And.intro hi (And.intro hz0 (And.intro hz1 hz2)))
  have HTb := Lib.hid hT
  have HF := Lib.hid hF
  have HS := Lib.hid hs
  have bad : badF F → docL F = [] ∧ docE F = 4 := fun h => ⟨by unfold docL; rw [if_pos h], by unfold docE; rw [if_pos h]⟩
  have good : ¬ badF F → docL F = fieldsT F ∧ docE F = 0 := fun h => ⟨by unfold docL; rw [if_neg h], by unfold docE; rw [if_neg h]⟩
  have HBad := Lib.hid bad
  have HGood := Lib.hid good
  obtain ⟨n, hnn⟩ : ∃ n, F.length = n := ⟨_, rfl⟩
  have HN := Lib.hid hnn
  rw [hnn] at hn ⊢
  clear hi hz0 hz1 hz2 hT hF hs bad good hnn
  by_cases h4 : 4 < n
  · obtain ⟨hl, he⟩ := HBad.out (.inl (.inl (by rw [HN.out]; exact h4)))
    rw [hl, he]
    clear hl he
    go_enter Tryd.func15, Tryd.ntmps15
    go_wp2_with fail
    go_ret2
    exact ⟨_, rfl, World.ownsRow_nil _ _ _ _, Below.refl _ _⟩
  have h4i : ¬ (4 : Int) < (n : Int) := by omega
  go_enter Tryd.func15, Tryd.ntmps15
  go_wp2_with fail
  go_loopw [4, 14] (fun vo iv wr => ∃ i : Nat, i ≤ n ∧ iv = .int .i64 i ∧ ToksIn wr W.heap.size vo (fieldsT (F.take i)) ∧ (∀ j x, j < i → F[j]? = some x → x.size ≤ 512) ∧ Below W.heap.size W wr) (fun _ iv _ => n - (intOf iv).toNat)
  case atStart => exact ⟨0, by omega, rfl, World.ownsRow_nil _ _ _ _, fun j x hj => by omega, Below.refl _ _⟩
  case round =>
    obtain ⟨i, hi, rfl, hown, hok, hlow⟩ := hrel
    have HK := Lib.hid hok
    clear hok
    by_cases hlt : i < n
    · obtain ⟨x, hx⟩ : ∃ x, F[i]? = some x := ⟨_, List.getElem?_eq_getElem (by rw [HN.out]; exact hlt)⟩
      obtain ⟨gF, oF, rfl, c0⟩ := (HF.out.below hlow) i x hx
      have HX := Lib.hid hx
      have HO := Lib.hid hown
      have HL := Lib.hid hlow
      clear hx hown hlow
      by_cases hb : 512 < x.size
      · have hbi : (512 : Int) < (x.size : Int) := by omega
        have HE := Lib.hid (HBad.out (.inl (.inr ⟨x, List.mem_of_getElem? HX.out, hb⟩)))
        go_wp2_with fail
        go_ret2
        exact ⟨_, by rw [HE.out.2]; rfl, by rw [HE.out.1]; exact World.ownsRow_nil _ _ _ _, HL.out⟩
      · have hbi : ¬ (512 : Int) < (x.size : Int) := by omega
        have HKn : Hid (∀ j y, j < i + 1 → F[j]? = some y → y.size ≤ 512) := Lib.hid (fun j y hj hy => by
          by_cases hji : j < i
          · exact HK.out j y hji hy
          · obtain rfl : j = i := by omega
            rw [HX.out] at hy
            cases hy
            omega)
        have HWd := Lib.hid (lands_words wr x (HTb.out.below HL.out) (by omega))
        have HFt := Lib.hid (show fieldsT (F.take (i + 1)) = fieldsT (F.take i) ++ toksP (i : Int) (wordsT x) by
          rw [List.take_add_one, HX.out]
          unfold fieldsT
          rw [Option.toList_some, fieldsF_snoc, List.length_take, Nat.min_eq_left (by rw [HN.out]; omega), Nat.zero_add])
        have hfl : (fieldsT (F.take i)).length ≤ 4 * 513 := by
          have h1 := fieldsF_le 512 (F.take i) 0 fun y hy => by
            obtain ⟨j, hj⟩ := List.getElem?_of_mem hy
            rw [List.getElem?_take] at hj
            split at hj
            · exact HK.out j y (by assumption) hj
            · cases hj
          rw [List.length_take, HN.out] at h1
          have h2 : min i n * (512 + 1) ≤ 4 * 513 := Nat.mul_le_mul (by omega) (by omega)
          unfold fieldsT
          omega
        have hwl := words_le x
        go_wp2_with fail
        refine HWd.out.mono ?_
        rintro e w5 ⟨vl, rfl, hl5, hb5⟩
        obtain ⟨ol, cl, hvl, _, _, _⟩ := toks_reads hl5
        rw [toksP_length] at hvl
        obtain ⟨m, hm⟩ : ∃ m, m = (wordsT x).length := ⟨_, rfl⟩
        rw [← hm] at hvl hwl
        have HM := Lib.hid hm
        have hT0 : Two W wr.heap.size u4 vl (fieldsT (F.take i)) (toksP 0 (wordsT x)) w5 := by
          refine ⟨owned_below HO.out hb5, hl5, ?_, HL.out.size, HL.out.trans (hb5.mono HL.out.size)⟩
          cases h1 : u4.ownBlock with
          | none => exact .inl rfl
          | some k1 =>
            cases h2 : vl.ownBlock with
            | none => exact .inr (.inl rfl)
            | some k2 =>
              refine .inr (.inr fun e => ?_)
              injection e with e
              have a1 := (World.ownsRow.lt HO.out k1 h1).2
              have a2 := (World.ownsRow.lt hl5 k2 h2).1
              omega
        have HT0 := Lib.hid hT0
        obtain ⟨b2, hb2⟩ : ∃ b2, b2 = wr.heap.size := ⟨_, rfl⟩
        rw [← hb2] at HT0
        subst hvl
        clear hl5 hb5 hm hT0 HWd HO hb2 c0
        go_wp2_with fail
        go_loopw [4, 25] (fun vo kv wr => ∃ k : Nat, k ≤ m ∧ kv = .int .i64 k ∧ Two W b2 vo (.slice ol m cl) (fieldsT (F.take i) ++ toksP (i : Int) ((wordsT x).take k)) (toksP 0 (wordsT x)) wr) (fun _ kv _ => m - (intOf kv).toNat)
        case atStart => exact ⟨0, by omega, rfl, by simpa [toksP] using HT0.out⟩
        case round =>
          obtain ⟨k, hk, rfl, hT⟩ := hrel
          by_cases hkm : k < m
          · obtain ⟨y, hy⟩ : ∃ y, (wordsT x)[k]? = some y := ⟨_, List.getElem?_eq_getElem (by rw [← HM.out]; exact hkm)⟩
            have hB : (toksP 0 (wordsT x))[k]? = some ((0 : Int), byteText y.1, (y.2 : Int)) := by simp [toksP, hy]
            obtain ⟨g, off, hol, d0, d1, d2⟩ := hT.reads k _ hB
            subst hol
            simp only at d0 d1 d2
            have HAk := Lib.hid (show toksP (i : Int) ((wordsT x).take (k + 1)) = toksP (i : Int) ((wordsT x).take k) ++ [((i : Int), byteText y.1, (y.2 : Int))] by rw [List.take_add_one, hy]; simp [toksP])
            have hal : (fieldsT (F.take i) ++ toksP (i : Int) ((wordsT x).take k)).length ≤ 4 * 513 + 513 := by
              rw [List.length_append, toksP_length, List.length_take, ← HM.out]
              omega
            obtain ⟨a, ha⟩ : ∃ a, (fieldsT (F.take i) ++ toksP (i : Int) ((wordsT x).take k)).length = a := ⟨_, rfl⟩
            rw [ha] at hal
            have HAl := Lib.hid ha
            have HNext := Lib.hid (fun (vo : Value) (w' : World) (h : Two W b2 vo (.slice (some ⟨g, off, none⟩) m cl) ((fieldsT (F.take i) ++ toksP (i : Int) ((wordsT x).take k)) ++ [((i : Int), byteText y.1, (y.2 : Int))]) (toksP 0 (wordsT x)) w') => show Two W b2 vo (.slice (some ⟨g, off, none⟩) m cl) (fieldsT (F.take i) ++ toksP (i : Int) ((wordsT x).take (k + 1))) (toksP 0 (wordsT x)) w' by rw [HAk.out, ← List.append_assoc]; exact h)
            have HTw := Lib.hid hT
            generalize hAA : fieldsT (F.take i) ++ toksP (i : Int) ((wordsT x).take k) = A at HAl HNext HTw
            generalize byteText y.1 = t at d1 HNext
            generalize ((y.2 : Nat) : Int) = p at d2 HNext
            clear hT hB hy ha hAA HAk
            have hi4 : i < 4 := by omega
            have hwr : IntKind.u8.wrap (i : Int) = (i : Int) := by rcases (show i = 0 ∨ i = 1 ∨ i = 2 ∨ i = 3 by omega) with rfl | rfl | rfl | rfl <;> decide
            have HT2 := Lib.hid ((HTw.out.alloc (.cells #[.int .u8 i, .string t, .int .i64 p] 40)).alloc (.cells #[.int .u8 i, .string t, .int .i64 p] 40))
            go_wp2_with (at_builtin; refine wpList_append_lies _ rfl (.tmp 32) (.tmp 34) 24 rfl W.heap.size 40 iT _ 3 32 Tryd.underlying24 HIT.out.1 HIT.out.2.1 HIT.out.2.2.1 HIT.out.2.2.2 rfl (by decide) u4 a (toksC A) rfl (by have := HT2.out.out; unfold ToksIn at this; rw [HAl.out] at this; exact this) ⟨wr.heap.size + 1, 0, none⟩ 1 1 [.int .u8 i, .string t, .int .i64 p] rfl rfl (news_of (heap2_1 wr _ _)) (by simp [Value.oneCell']) (by decide) (by unfold maxLen; omega) (by omega) HT2.out.low.size _ rfl ?_; intro g' c' w' ho2 hg2 hl2 _; have HN2 := Lib.hid (HNext.out _ _ (by have hm := HT2.out.more (x := ((i : Int), t, p)) (g := g') (cap := c') (by rw [HAl.out]; exact ho2) hg2 hl2; rw [HAl.out] at hm; exact hm)); clear ho2 hg2 hl2)
            go_roundw
            case rel => exact ⟨k + 1, by omega, by go_num, HN2.out⟩
            case measure => simp [intOf]; omega
          · have hk' : k = m := by omega
            have hT2 : Two W b2 u4 (.slice ol m cl) (fieldsT (F.take (i + 1))) (toksP 0 (wordsT x)) wr := by
              rw [HFt.out]
              rw [show (wordsT x).take k = wordsT x from List.take_of_length_le (by rw [← HM.out]; omega)] at hT
              exact hT
            have HT2 := Lib.hid hT2
            clear hT hT2
            go_wp2_with fail
            go_roundw
            case rel => exact ⟨i + 1, by omega, by go_num, HT2.out.out, HKn.out, HT2.out.low⟩
            case measure => simp [intOf]; omega
    · have hi' : i = n := by omega
      have HSm := Lib.hid (show ∀ x ∈ F, x.size ≤ 512 by
        intro x hx
        obtain ⟨j, hj⟩ := List.getElem?_of_mem hx
        exact HK.out j x (by have := (List.getElem?_eq_some_iff.1 hj).1; rw [HN.out] at this; omega) hj)
      rw [show F.take i = F from List.take_of_length_le (by rw [HN.out]; omega)] at hown
      obtain ⟨ao, co, rfl⟩ := own_slice hown (fieldsT F).length rfl
      have HO := Lib.hid hown
      have HL := Lib.hid hlow
      obtain ⟨z, hz⟩ : ∃ z, (fieldsT F).length = z := ⟨_, rfl⟩
      have HZ := Lib.hid hz
      rw [hz]
      clear hown hlow hz
      by_cases h64 : 64 < z
      · have h64i : (64 : Int) < (z : Int) := by omega
        have HE := Lib.hid (HBad.out (.inr (by rw [HZ.out]; exact h64)))
        go_wp2_with fail
        go_ret2
        exact ⟨_, by rw [HE.out.2]; rfl, by rw [HE.out.1]; exact World.ownsRow_nil _ _ _ _, HL.out⟩
      · have h64i : ¬ (64 : Int) < (z : Int) := by omega
        have HE := Lib.hid (HGood.out (by
          rintro ((h | ⟨x, hx, hb⟩) | h)
          · rw [HN.out] at h; omega
          · have := HSm.out x hx; omega
          · rw [HZ.out] at h; omega))
        rw [HZ.out] at HO
        go_wp2_with fail
        go_ret2
        exact ⟨_, by rw [HE.out.2]; rfl, by rw [HE.out.1]; exact HO.out, HL.out⟩

/-- All three. -/
theorem kept_tok : KeptTok TW where
  words w s h hs := lands_words w s h hs
  stop w s _ _ := (lands_stop w s).mono fun _ _ ⟨h1, h2⟩ => ⟨h1, h2 ▸ Below.refl _ _⟩
  tokens w oa c F h hF _ _ hs hn := (lands_tokens w oa c F h hF hs hn).mono fun _ _ ⟨v, h1, h2, h3⟩ => by
    obtain ⟨ob, d, rfl, _, _, hr⟩ := toks_reads h2
    exact ⟨ob, d, h1, hr, h3⟩
  keep _ _ h hb := h.below hb
theorem of_laid_tok {W : World} (h : laidMetH Tryd.prog [("plover/fold.kinds", Rows.laid_plover_fold_kinds), ("plover/fold.shifts", Rows.laid_plover_fold_shifts)] W) : TW W := of_laid h
end Go.Proofs.YtpfbhafcjipmeaaDoor
