/-
  A limit's word as the library reads it. Without the program's text.
-/
import Derived.Test.YthkpaelpnofbgaaGreatDoorQsC13
import Derived.Test.YthkpaelpnofbgaaGreatDoorQsC14
import Derived.Lib.AtoiAll
import Derived.Lib.ItoaNum
import Derived.Test.YthkpaelpnofbgaaGreatDoorShelf
import Derived.Defers
import Derived.Recover
namespace Go.Proofs.YthkpaelpnofbgaaGreatDoor

def byte8 (l : List Nat) : List UInt8 := l.map UInt8.ofNat
set_option maxRecDepth 100000 in
theorem dec_small {n : Nat} (h : n < 100) : Lib.decDigits n = byte8 (digitsL (n : Int)) := by
  unfold digitsL
  by_cases h1 : n < 10
  · rw [Lib.decDigits, dif_pos h1, if_pos (by omega)]
    simp [byte8]
  · rw [Lib.decDigits, dif_neg h1, Lib.decDigits, dif_pos (by omega), if_neg (by omega)]
    have e1 : ((n : Int)).toNat = n := by omega
    simp [byte8, e1]
set_option maxRecDepth 100000 in
theorem atoi_digits : ∀ n : Nat, n ≤ 64 → Lib.atoiAll (byte8 (digitsL (n : Int))) = .ok (n : Int) := by decide +kernel
set_option maxRecDepth 100000 in
theorem digits_low : ∀ n : Nat, n ≤ 64 → ∀ c ∈ digitsL (n : Int), c < 128 := by decide +kernel
set_option maxRecDepth 100000 in
theorem text_low {l : List Nat} (h : ∀ c ∈ l, c < 128) : (textZ (ints l)).data.toList = byte8 l := by
  rw [textZ_ints fun r hr => ok_low (h r hr), textL_low h]
  simp [byteText, byte8]
set_option maxRecDepth 100000 in
theorem lim_some {q : List Nat} (h : ¬ limZ q = -1) : ∃ n : Nat, n ≤ 64 ∧ limZ q = (n : Int) ∧ q = digitsL (n : Int) := by
  match q, h with
  | [], h => exact absurd rfl h
  | [a], h =>
    simp only [limZ] at h ⊢
    split at h
    · rename_i ha
      refine ⟨a - 48, by omega, ?_, ?_⟩
      · rw [if_pos ha]; omega
      · unfold digitsL
        rw [if_pos (by omega)]
        congr 1
        omega
    · exact absurd rfl h
  | [a, b], h =>
    simp only [limZ] at h ⊢
    split at h
    · rename_i ha
      refine ⟨10 * (a - 48) + (b - 48), by omega, ?_, ?_⟩
      · rw [if_pos ha]; omega
      · unfold digitsL
        rw [if_neg (by omega)]
        have e : (((10 * (a - 48) + (b - 48) : Nat) : Int)).toNat = 10 * (a - 48) + (b - 48) := by omega
        rw [e]
        congr 1
        · omega
        · congr 1
          omega
    · exact absurd rfl h
  | a :: b :: c :: q, h => exact absurd rfl h
set_option maxRecDepth 100000 in
theorem lim_digits {q : List Nat} {n : Nat} (hn : n ≤ 64) (h : q = digitsL (n : Int)) : limZ q = (n : Int) := by rw [h]; exact (digits_let n hn).2.2
set_option maxRecDepth 100000 in
theorem head_enc {c : Nat} (h : okR c) (hc : letB c = true) : ∃ b r, encR c = b :: r ∧ b ≠ 45 ∧ b < 256 := by
  have h45 : c ≠ 45 := by rintro rfl; revert hc; decide +kernel
  unfold okR at h
  unfold encR
  split
  · exact ⟨_, _, rfl, h45, by omega⟩
  · split
    · exact ⟨_, _, rfl, by omega, by omega⟩
    · split
      · exact ⟨_, _, rfl, by omega, by omega⟩
      · exact ⟨_, _, rfl, by omega, by omega⟩
set_option maxRecDepth 100000 in
/-- What is read of a word is no number below 0. -/
theorem atoi_word {q : List Nat} (hq : ∀ c ∈ q, okR c ∧ letB c = true) {v : Int} (h : Lib.atoiAll (textZ (ints q)).data.toList = .ok v) : 0 ≤ v := by
  rw [textZ_ints fun c hc => (hq c hc).1] at h
  cases q with
  | nil => simp [byteText, textL, Lib.atoiAll] at h
  | cons c q =>
    obtain ⟨b, r, e, hb, hb2⟩ := head_enc (hq c (by simp)).1 (hq c (by simp)).2
    have e2 : (byteText (textL (c :: q))).data.toList = UInt8.ofNat b :: byte8 (r ++ textL q) := by
      show (((encR c ++ textL q)).map UInt8.ofNat).toArray.toList = _
      rw [e]; rfl
    rw [e2] at h
    have hn : ¬ (UInt8.ofNat b).toNat = 45 := by
      rw [UInt8.toNat_ofNat_of_lt' (by omega)]; exact hb
    unfold Lib.atoiAll at h
    simp only [hn] at h
    split at h
    · cases h
    · cases h
    · split at h
      · cases h
      · split at h
        · cases h
        · injection h with h
          simp at h
          omega
set_option maxRecDepth 100000 in
/-- A word that is the numeral of a number of at most 64 is a limit's. -/
theorem lim_none {q : List Nat} (hq : ∀ c ∈ q, okR c) (h : limZ q = -1) {n : Nat} (hn : n ≤ 64) : (⟨(Lib.decDigits n).toArray⟩ : ByteArray) ≠ textZ (ints q) := by
  intro e
  have e2 : runesOf (textZ (ints q)) = q := by rw [runes_textZ, norm_ints hq]
  have e3 : (⟨(Lib.decDigits n).toArray⟩ : ByteArray) = textZ (ints (digitsL (n : Int))) := by
    have := text_low (digits_low n hn)
    rw [dec_small (by omega), ← this]
  rw [← e, e3, runes_textZ, norm_ints fun c hc => ok_low (digits_low n hn c hc)] at e2
  rw [lim_digits hn e2.symm] at h
  omega
set_option maxRecDepth 100000 in
theorem lim_text {n : Nat} (hn : n ≤ 64) : textZ (ints (digitsL (n : Int))) = ⟨(Lib.decDigits n).toArray⟩ := by
  have := text_low (digits_low n hn)
  rw [dec_small (by omega), ← this]
set_option maxRecDepth 100000 in
theorem lim_atoi {n : Nat} (hn : n ≤ 64) : Lib.atoiAll (textZ (ints (digitsL (n : Int)))).data.toList = .ok (n : Int) := by
  rw [text_low (digits_low n hn)]
  exact atoi_digits n hn
end Go.Proofs.YthkpaelpnofbgaaGreatDoor
/-
  Layer 17 as it landed: limits and orders. Over the program's own text.
-/
namespace Go.Proofs.YthkpaelpnofbgaaGreatDoor
open Go.RowKit

/-- The library's two errors are there. -/
def ErrsIn (w : World) : Prop := (∃ tp p, w.var? Tryz.prog "strconv.ErrSyntax" = some #[.iface tp p]) ∧ ∃ tp p, w.var? Tryz.prog "strconv.ErrRange" = some #[.iface tp p]
set_option maxRecDepth 100000 in
theorem var_below {P : Program} {w w' : World} {n : String} {cs : Array Value} (h : w.var? P n = some cs) (hb : Below w.heap.size w w') : w'.var? P n = some cs := by
  unfold World.var? at h ⊢
  cases hg : P.globalNamed n with
  | none => rw [hg] at h; cases h
  | some g =>
    rw [hg] at h
    simp only [Option.bind_some] at h ⊢
    have hlt : g < w.heap.size := by
      rcases Nat.lt_or_ge g w.heap.size with h1 | h1
      · exact h1
      · rw [Array.getElem?_eq_none h1] at h; cases h
    rw [hb.block g hlt]
    exact h
set_option maxRecDepth 100000 in
theorem ErrsIn.below {w w' : World} (h : ErrsIn w) (hb : Below w.heap.size w w') : ErrsIn w' := by
  obtain ⟨⟨a, b, h1⟩, ⟨c, d, h2⟩⟩ := h
  exact ⟨⟨a, b, var_below h1 hb⟩, ⟨c, d, var_below h2 hb⟩⟩
set_option maxRecDepth 100000 in
theorem bytes_below (w : World) (e : TypeId) (t : ByteArray) : Below w.heap.size w (Lib.bytesWorld w e t) := by
  exact Lib.bytesWorld_below w e t
def IntV (_ : World) (n : Int) (v : Value) : Prop := v = .int .i64 n
set_option maxRecDepth 100000 in
set_option maxHeartbeats 4000000 in
theorem limit_any {W0 w : World} {rb : Nat} {R : List Nat} (hE : ErrsIn W0) (h : Rdr W0 w rb R 0) :
    Calls Tryz.prog 33 #[.pointer (some ⟨rb, 0, none⟩)] w (Did W0 w rb 0 (limitP R) IntV) := by
  have HE := Lib.hid hE
  have HW := Lib.hid (word_any (k := 8) h (Nat.le_refl _))
  have hokR := h.okr
  have hless := h.less
  obtain ⟨xp, hxp⟩ : ∃ xp, xp = limitP R := ⟨_, rfl⟩
  rw [← hxp]
  have hL : xp = (wordP 8 R).bind fun q r => if limZ q = -1 then .err (failE 8 r) else .ok (limZ q) r := hxp
  have HXp := Lib.hid hL
  clear h hxp hL hE
  cases hx : wordP 8 R with
  | err c =>
    have HC := Lib.hid (did_err HW.out hx)
    have HX := Lib.hid hx
    clear hx hokR hless
    go_enter Tryz.func33, Tryz.ntmps33
    go_wp2_with fail
    refine HC.out.mono ?_
    rintro e w2 ⟨rfl, h2⟩
    exact ⟨rfl, h2, by rw [HXp.out, HX.out]; rfl⟩
  | ok q r =>
    have HC := Lib.hid (did_ok HW.out hx)
    have HX := Lib.hid hx
    obtain ⟨hp1, hp2⟩ := word_parts hx
    have hq : ∀ c ∈ q, okR c ∧ letB c = true := fun c hc => ⟨hokR c (hp2 c hc).1, (hp2 c hc).2⟩
    have hql := word_len hx
    have hsz : (textZ (ints q)).size ≤ 4000 := by have := textZ_few q; omega
    have HQ := Lib.hid hq
    have HSz := Lib.hid hsz
    clear hx hokR hless hp1 hp2 hq hql hsz
    have hfl : ∀ (w3 : World), Rdr W0 w3 rb r 0 → Calls Tryz.prog 35 #[.pointer (some ⟨rb, 0, none⟩)] w3 fun e w' => e = errE (failE 8 r) ∧ Mod (fun k => k = rb) w3 w' := fun w3 h3 => fail_any (k := 8) h3 (Nat.le_refl _)
    have HFl := Lib.hid hfl
    clear hfl
    by_cases hlim : limZ q = -1
    · have HXe : Hid (xp = .err (failE 8 r)) := Lib.hid (by rw [HXp.out, HX.out]; show (if _ then _ else _) = _; rw [if_pos hlim])
      have HLn := Lib.hid (fun n (hn : n ≤ 64) => lim_none (fun c hc => (HQ.out c hc).1) hlim hn)
      have HAw := Lib.hid (fun v => atoi_word (v := v) HQ.out)
      obtain ⟨s, hs⟩ : ∃ s, s = textZ (ints q) := ⟨_, rfl⟩
      have HSt := Lib.hid hs
      rw [← hs] at HLn HAw HSz
      clear hlim hs
      cases ha : Lib.atoiAll s.data.toList with
      | range =>
        go_enter Tryz.func33, Tryz.ntmps33
        go_wp2_with fail
        refine HC.out.mono ?_
        rintro e w2 ⟨v2, rfl, rfl, h3, h4⟩
        rw [← HSt.out]
        obtain ⟨-, ⟨tp, p, hv⟩⟩ := HE.out.below h3.low
        have HA := Lib.hid (Tryz.strconv_Atoi_range_var s (by have := HSz.out; omega) ha tp p w2 hv)
        have H3 := Lib.hid h3
        have H4 := Lib.hid h4
        clear h3 h4 hv ha
        go_wp2_with fail
        refine HA.out.mono ?_
        rintro e w3 ⟨N, rfl, hN, hN2, hb⟩
        have HF := Lib.hid (HFl.out w3 (H3.out.below hb))
        have H5 := Lib.hid (H4.out.trans (below_mod hb))
        clear hb hN hN2
        go_wp2_with fail
        refine HF.out.mono ?_
        rintro e w4 ⟨rfl, h6⟩
        exact ⟨rfl, H5.out.trans h6, by rw [HXe.out]; rfl⟩

      | ok v =>
        have hv0 := HAw.out v ha
        obtain ⟨n, rfl⟩ : ∃ n : Nat, v = (n : Int) := ⟨v.toNat, by omega⟩
        go_enter Tryz.func33, Tryz.ntmps33
        go_wp2_with fail
        refine HC.out.mono ?_
        rintro e w2 ⟨v2, rfl, rfl, h3, h4⟩
        rw [← HSt.out]
        have HA := Lib.hid (Tryz.strconv_Atoi_ok s (by have := HSz.out; omega) (n : Int) ha w2)
        have H3 := Lib.hid h3
        have H4 := Lib.hid h4
        clear h3 h4 ha hv0
        go_wp2_with fail
        refine HA.out.mono ?_
        rintro e w3 ⟨rfl, hw3⟩
        have hb : Below w2.heap.size w2 w3 := by
          rcases hw3 with rfl | ⟨t, rfl⟩
          · exact Below.refl _ _
          · exact bytes_below _ _ _
        have HF := Lib.hid (HFl.out w3 (H3.out.below hb))
        have H5 := Lib.hid (H4.out.trans (below_mod hb))
        clear hb hw3
        by_cases h64 : 64 < n
        · have h64i : (64 : Int) < (n : Int) := by omega
          go_wp2_with fail
          refine HF.out.mono ?_
          rintro e w4 ⟨rfl, h6⟩
          exact ⟨rfl, H5.out.trans h6, by rw [HXe.out]; rfl⟩
        · have h64i : ¬ (64 : Int) < (n : Int) := by omega
          have hne := HLn.out n (by omega)
          have HIt := Lib.hid (Tryz.strconv_Itoa_small n (by omega) w3)
          obtain ⟨t, ht⟩ : ∃ t : ByteArray, t = ⟨(Lib.decDigits n).toArray⟩ := ⟨_, rfl⟩
          rw [← ht] at hne HIt
          have hne2 : (t.toList == s.toList) = false := list_ne hne
          clear ht
          go_wp2_with (go_at_call 16; refine HIt.out.mono ?_; rintro e w4 ⟨rfl, rfl⟩)
          refine HF.out.mono ?_
          rintro e w4 ⟨rfl, h6⟩
          exact ⟨rfl, H5.out.trans h6, by rw [HXe.out]; rfl⟩
      | _ =>
        go_enter Tryz.func33, Tryz.ntmps33
        go_wp2_with fail
        refine HC.out.mono ?_
        rintro e w2 ⟨v2, rfl, rfl, h3, h4⟩
        rw [← HSt.out]
        obtain ⟨⟨tp, p, hv⟩, -⟩ := HE.out.below h3.low
        have HA := Lib.hid (Tryz.strconv_Atoi_syntax_var s (by have := HSz.out; omega) ha tp p w2 hv)
        have H3 := Lib.hid h3
        have H4 := Lib.hid h4
        clear h3 h4 hv ha
        go_wp2_with fail
        refine HA.out.mono ?_
        rintro e w3 ⟨N, rfl, hN, hN2, hb⟩
        have HF := Lib.hid (HFl.out w3 (H3.out.below hb))
        have H5 := Lib.hid (H4.out.trans (below_mod hb))
        clear hb hN hN2
        go_wp2_with fail
        refine HF.out.mono ?_
        rintro e w4 ⟨rfl, h6⟩
        exact ⟨rfl, H5.out.trans h6, by rw [HXe.out]; rfl⟩
    · obtain ⟨n, hn, hl, hqd⟩ := lim_some hlim
      have HXe : Hid (xp = .ok (n : Int) r) := Lib.hid (by rw [HXp.out, HX.out]; show (if _ then _ else _) = _; rw [if_neg hlim, hl])
      have ha := lim_atoi hn
      have htx := lim_text hn
      rw [← hqd] at ha htx
      obtain ⟨s, hs⟩ : ∃ s, s = textZ (ints q) := ⟨_, rfl⟩
      have HSt := Lib.hid hs
      rw [← hs] at ha HSz htx
      have HTx := Lib.hid htx
      clear hlim hs hqd hl htx
      go_enter Tryz.func33, Tryz.ntmps33
      go_wp2_with fail
      refine HC.out.mono ?_
      rintro e w2 ⟨v2, rfl, rfl, h3, h4⟩
      rw [← HSt.out]
      have HA := Lib.hid (Tryz.strconv_Atoi_ok s (by have := HSz.out; omega) (n : Int) ha w2)
      have H3 := Lib.hid h3
      have H4 := Lib.hid h4
      clear h3 h4 ha
      go_wp2_with fail
      refine HA.out.mono ?_
      rintro e w3 ⟨rfl, hw3⟩
      have hb : Below w2.heap.size w2 w3 := by
        rcases hw3 with rfl | ⟨t, rfl⟩
        · exact Below.refl _ _
        · exact bytes_below _ _ _
      have HR := Lib.hid (H3.out.below hb)
      have H5 := Lib.hid (H4.out.trans (below_mod hb))
      have HIt := Lib.hid (Tryz.strconv_Itoa_small n (by omega) w3)
      rw [← HTx.out] at HIt
      clear hb hw3
      have h64i : ¬ (64 : Int) < (n : Int) := by omega
      have heq2 : (s.toList == s.toList) = true := by simp
      go_wp2_with (go_at_call 16; refine HIt.out.mono ?_; rintro e w4 ⟨rfl, rfl⟩)
      go_ret
      refine ⟨H5.out, ?_⟩
      rw [HXe.out]
      exact ⟨_, rfl, rfl, HR.out⟩
set_option maxRecDepth 100000 in
theorem text_ne {q l : List Nat} (hq : ∀ c ∈ q, okR c) (hl : ∀ c ∈ l, c < 128) (h : ¬ q = l) : ¬ textZ (ints q) = textZ (ints l) := by
  intro e
  have e2 : runesOf (textZ (ints q)) = q := by rw [runes_textZ, norm_ints hq]
  rw [e, runes_textZ, norm_ints (low_ok hl)] at e2
  exact h e2.symm
set_option maxRecDepth 100000 in
theorem text_new : textZ (ints [110, 101, 119]) = ⟨#[110, 101, 119]⟩ := by decide +kernel
set_option maxRecDepth 100000 in
theorem text_rank : textZ (ints [114, 97, 110, 107]) = ⟨#[114, 97, 110, 107]⟩ := by decide +kernel
set_option maxRecDepth 100000 in
set_option maxHeartbeats 4000000 in
theorem order_any {W0 w : World} {rb : Nat} {R : List Nat} (h : Rdr W0 w rb R 0) :
    Calls Tryz.prog 34 #[.pointer (some ⟨rb, 0, none⟩)] w (Did W0 w rb 0 (orderP R) IntV) := by
  have HW := Lib.hid (word_any (k := 8) h (Nat.le_refl _))
  have hokR := h.okr
  obtain ⟨xp, hxp⟩ : ∃ xp, xp = orderP R := ⟨_, rfl⟩
  rw [← hxp]
  have hL : xp = (wordP 8 R).bind fun q r => if q = [110, 101, 119] then .ok 1 r else if q = [114, 97, 110, 107] then .ok 0 r else .err (failE 8 r) := hxp
  have HXp := Lib.hid hL
  clear h hxp hL
  cases hx : wordP 8 R with
  | err c =>
    have HC := Lib.hid (did_err HW.out hx)
    have HX := Lib.hid hx
    clear hx hokR
    go_enter Tryz.func34, Tryz.ntmps34
    go_wp2_with fail
    refine HC.out.mono ?_
    rintro e w2 ⟨rfl, h2⟩
    exact ⟨rfl, h2, by rw [HXp.out, HX.out]; rfl⟩
  | ok q r =>
    have HC := Lib.hid (did_ok HW.out hx)
    have HX := Lib.hid hx
    have hq : ∀ c ∈ q, okR c := fun c hc => hokR c ((word_parts hx).2 c hc).1
    have hfl : ∀ (w3 : World), Rdr W0 w3 rb r 0 → Calls Tryz.prog 35 #[.pointer (some ⟨rb, 0, none⟩)] w3 fun e w' => e = errE (failE 8 r) ∧ Mod (fun k => k = rb) w3 w' := fun w3 h3 => fail_any (k := 8) h3 (Nat.le_refl _)
    have HFl := Lib.hid hfl
    clear hfl hx hokR
    by_cases h1 : q = [110, 101, 119]
    · have HXe : Hid (xp = .ok 1 r) := Lib.hid (by rw [HXp.out, HX.out]; show (if _ then _ else _) = _; rw [if_pos h1])
      subst h1
      clear hq
      go_enter Tryz.func34, Tryz.ntmps34
      go_wp2_with fail
      refine HC.out.mono ?_
      rintro e w2 ⟨v2, rfl, hv2, h3, h4⟩
      obtain rfl : v2 = .string ⟨#[110, 101, 119]⟩ := hv2.trans (by rw [text_new])
      have H3 := Lib.hid h3
      have H4 := Lib.hid h4
      clear h3 h4 hv2
      go_wp2_with fail
      try rw [Exit.noGoto_ret]
      go_ret
      refine ⟨H4.out, ?_⟩
      rw [HXe.out]
      exact ⟨_, rfl, rfl, H3.out⟩
    · by_cases h2 : q = [114, 97, 110, 107]
      · have HXe : Hid (xp = .ok 0 r) := Lib.hid (by rw [HXp.out, HX.out]; show (if _ then _ else _) = _; rw [if_neg h1, if_pos h2])
        subst h2
        clear hq h1
        go_enter Tryz.func34, Tryz.ntmps34
        go_wp2_with fail
        refine HC.out.mono ?_
        rintro e w2 ⟨v2, rfl, hv2, h3, h4⟩
        obtain rfl : v2 = .string ⟨#[114, 97, 110, 107]⟩ := hv2.trans (by rw [text_rank])
        have H3 := Lib.hid h3
        have H4 := Lib.hid h4
        clear h3 h4 hv2
        go_wp2_with fail
        try rw [Exit.noGoto_ret]
        go_ret
        refine ⟨H4.out, ?_⟩
        rw [HXe.out]
        exact ⟨_, rfl, rfl, H3.out⟩
      · have HXe : Hid (xp = .err (failE 8 r)) := Lib.hid (by rw [HXp.out, HX.out]; show (if _ then _ else _) = _; rw [if_neg h1, if_neg h2])
        have n1 := text_ne hq (by decide) h1
        have n2 := text_ne hq (by decide) h2
        rw [text_new] at n1
        rw [text_rank] at n2
        obtain ⟨s, hs⟩ : ∃ s, s = textZ (ints q) := ⟨_, rfl⟩
        have HSt := Lib.hid hs
        rw [← hs] at n1 n2
        have c1 : (s.toList == [110, 101, 119]) = false := by rw [← show (⟨#[110, 101, 119]⟩ : ByteArray).toList = [110, 101, 119] by decide +kernel]; exact list_ne n1
        have c2 : (s.toList == [114, 97, 110, 107]) = false := by rw [← show (⟨#[114, 97, 110, 107]⟩ : ByteArray).toList = [114, 97, 110, 107] by decide +kernel]; exact list_ne n2
        clear hs h1 h2 hq n1 n2
        go_enter Tryz.func34, Tryz.ntmps34
        go_wp2_with fail
        refine HC.out.mono ?_
        rintro e w2 ⟨v2, rfl, rfl, h3, h4⟩
        rw [← HSt.out]
        have HF := Lib.hid (HFl.out w2 h3)
        have H4 := Lib.hid h4
        clear h3 h4
        go_wp2_with fail
        refine HF.out.mono ?_
        rintro e w4 ⟨rfl, h6⟩
        exact ⟨rfl, H4.out.trans h6, by rw [HXe.out]; rfl⟩
end Go.Proofs.YthkpaelpnofbgaaGreatDoor
/-
  Layer 17 as it landed: a query is read. Over the program's own text.
-/
namespace Go.Proofs.YthkpaelpnofbgaaGreatDoor
open Go.RowKit

def qryC (r : Rn) (lim ord : Int) : List Value := rnC r ++ [.int .i64 lim, .int .i64 ord]
def QueryV (S : Nat → Prop) (w : World) (x : Nd × Opt) (v : Value) : Prop := ∃ r, v = .agg (qryC r x.2.lim x.2.ord).toArray ∧ RdN w S x.1 r
set_option maxRecDepth 100000 in
theorem qry_info (r : Rn) (lim ord : Int) : (Tryz.prog.info? 27).map (·.size) = some (qryC r lim ord).toArray.size := by kernel_rfl
set_option maxRecDepth 100000 in
theorem qry_one {k f lim ord : Int} {ta ka : Option Addr} {tn tc kn kc : Nat} : (qryC (k, f, .slice ta tn tc, .slice ka kn kc) lim ord).toArray.all (·.oneCell') = true := by simp [qryC, rnC, Value.oneCell']
def zeroQ : Array Value := #[.int .i64 0, .int .u8 0, .slice none 0 0, .slice none 0 0, .int .i64 0, .int .i64 0]
/-- A query on its way. -/
structure OnWay (W0 w w1 wr : World) (rb qb : Nat) (R : List Nat) (r : Rn) (o : Opt) : Prop where
  box : wr.heap[qb]? = some (.cells (qryC r o.lim o.ord).toArray 27 (0, 0))
  rdr : Rdr W0 wr rb R 0
  mod : Mod (fun k => k = rb ∨ k = qb) w1 wr
section
variable {W0 w w1 wr w2 : World} {rb qb : Nat} {R R1 : List Nat} {r : Rn} {o o' : Opt}
set_option maxRecDepth 100000 in
theorem OnWay.on (h : OnWay W0 w w1 wr rb qb R r o) (hne : qb ≠ rb) (hm : Mod (fun k => k = rb) wr w2) (hr : Rdr W0 w2 rb R1 0) : OnWay W0 w w1 w2 rb qb R1 r o :=
  ⟨(hm.block qb (lt_of_heap h.box) hne).trans h.box, hr, h.mod.trans (hm.mono fun _ _ hk => .inl hk)⟩
set_option maxRecDepth 100000 in
theorem OnWay.set (h : OnWay W0 w w1 wr rb qb R r o) (hlt : rb < qb) (j : Nat) (v : Value) (hs : (qryC r o.lim o.ord).toArray.setIfInBounds j v = (qryC r o'.lim o'.ord).toArray) : OnWay W0 w w1 (wr.setCell ⟨qb, j, none⟩ v) rb qb R r o' :=
  ⟨by rw [← hs]; exact heap_setCell_same _ qb j _ _ v h.box, h.rdr.high (Below.setCell (Below.refl _ _) hlt _), Mod.setCell (S := fun k => k = rb ∨ k = qb) h.mod (.inr (.inr rfl)) _⟩
end
def OnRel (W0 w w1 : World) (rb qb : Nat) (r : Rn) (xp : PR Opt) (v4 v5 : Value) (wr : World) : Prop := ∃ o R', v4 = .bool o.limd ∧ v5 = .bool o.ordd ∧ OnWay W0 w w1 wr rb qb R' r o ∧ xp = optR o R'
set_option maxRecDepth 100000 in
set_option maxHeartbeats 8000000 in
theorem query_any {W0 w : World} {rb : Nat} {R : List Nat} (hE : ErrsIn W0) (h : Rdr W0 w rb R 0) :
    Calls Tryz.prog 20 #[.pointer (some ⟨rb, 0, none⟩)] w (Did W0 w rb 0 (parseR R) (QueryV (fromB w.heap.size))) := by
  have HE := Lib.hid hE
  have hrb := h.lt
  have H1 := Lib.hid (or_of (and_of (all_ok 8 (Nat.le_refl _))) W0 _ rb R (h.below (below_one (A := .cells zeroQ 27))))
  rw [show (8 : Int) - ((8 : Nat) : Int) = 0 by decide] at H1
  obtain ⟨xp, hxp⟩ : ∃ xp, xp = parseR R := ⟨_, rfl⟩
  rw [← hxp]
  rw [parseR_eq] at hxp
  have HXp := Lib.hid hxp
  have HI := Lib.hid hrb
  have hZ : zeroQ = #[.int .i64 0, .int .u8 0, .slice none 0 0, .slice none 0 0, .int .i64 0, .int .i64 0] := rfl
  clear h hrb hxp hE
  cases hx : orP (andP (notP 8)) R with
  | err c =>
    have H2 := Lib.hid (did_err H1.out hx)
    have HX := Lib.hid hx
    clear hx
    go_enter Tryz.func20, Tryz.ntmps20
    go_wp2_with fail
    refine H2.out.mono ?_
    rintro e w2 ⟨rfl, h2⟩
    exact ⟨rfl, ((Mod.refl _ _).alloc _).trans h2, by rw [HXp.out, HX.out]; rfl⟩
  | ok n R1 =>
    have H2 := Lib.hid (did_ok H1.out hx)
    have HX := Lib.hid hx
    clear hx
    go_enter Tryz.func20, Tryz.ntmps20
    go_wp2_with fail
    refine H2.out.mono ?_
    rintro e w2 ⟨v, rfl, ⟨⟨kd, fd, tv, kv⟩, rfl, hrd⟩, h3, h4⟩
    obtain ⟨ta, tn, tc, ka, kn, kc, rfl, rfl⟩ := hrd.slices
    rw [show rnV (kd, fd, .slice ta tn tc, .slice ka kn kc) = .agg #[.int .i64 kd, .int .u8 fd, .slice ta tn tc, .slice ka kn kc] from rfl]
    have hz1 : (w.alloc (.cells zeroQ 27)).heap.size = w.heap.size + 1 := by simp
    have hs2 : w.heap.size + 1 ≤ w2.heap.size := by have := h4.size; rw [hz1] at this; exact this
    rw [hz1] at hrd
    have hres := (h4.block w.heap.size (by simp) (by have := HI.out; omega)).trans (heap_alloc_new w _)
    have HRd := Lib.hid hrd
    have H3 := Lib.hid h3
    have H4 := Lib.hid h4
    have HS2 := Lib.hid hs2
    have HRes := Lib.hid hres
    clear hrd h3 h4 hz1 hs2 hres H1 H2
    go_wp2_with fail
    have hbx := heap_alloc_new w2 (.cells #[.int .i64 kd, .int .u8 fd, .slice ta tn tc, .slice ka kn kc, .int .i64 10, .int .i64 0] 27)
    have hal := below_one (w := w2) (A := .cells #[.int .i64 kd, .int .u8 fd, .slice ta tn tc, .slice ka kn kc, .int .i64 10, .int .i64 0] 27)
    have hrd1 := (HRd.out.mono (S' := fun b => w.heap.size + 1 ≤ b ∧ b < w2.heap.size) fun b h1 h2 => ⟨h2, h1⟩).after hal
    have hres1 := blk_low HRes.out hal
    have hr1 := H3.out.below hal
    have hm1 := H4.out.trans (below_mod (S := fun k => k = rb) hal)
    generalize w2.alloc (.cells #[.int .i64 kd, .int .u8 fd, .slice ta tn tc, .slice ka kn kc, .int .i64 10, .int .i64 0] 27) = w1 at hbx hrd1 hres1 hr1 hm1 ⊢
    have HO0 := Lib.hid (show OnWay W0 w w1 w1 rb w2.heap.size R1 (kd, fd, .slice ta tn tc, .slice ka kn kc) ⟨10, false, 0, false⟩ from ⟨hbx, hr1, Mod.refl _ _⟩)
    have HRd1 := Lib.hid hrd1
    have HRes1 := Lib.hid hres1
    have HM1 := Lib.hid hm1
    have HQlt := Lib.hid (show rb < w2.heap.size by have := HI.out; have := HS2.out; omega)
    have HQ := Lib.hid (show w2.heap.size ≠ rb by have := HQlt.out; omega)
    have HTop := Lib.hid (fun wz (hz : Mod (fun k => k = rb ∨ k = w2.heap.size) w1 wz) => (show Mod (fun k => k = rb) w wz from by
      have h5 := ((Mod.refl (fun k => k = rb) w).alloc (.cells zeroQ 27)).trans HM1.out
      refine ⟨hz.os.trans h5.os, hz.tape.trans h5.tape, hz.output.trans h5.output, Nat.le_trans h5.size hz.size, fun k hk hkr => ?_⟩
      have := HS2.out
      exact (hz.block k (Nat.lt_of_lt_of_le hk h5.size) (by rintro (e | e) <;> omega)).trans (h5.block k hk hkr)))
    obtain ⟨po, hpo⟩ : ∃ po, po = optR ⟨10, false, 0, false⟩ R1 := ⟨_, rfl⟩
    have HPo := Lib.hid hpo
    have HXq := Lib.hid (show xp = po.map fun o => (n, o) from by rw [HXp.out, HX.out, hpo]; rfl)
    clear hbx hal hrd1 hres1 hr1 hm1 H3 H4 HRd HRes hpo
    go_loopw [4, 5] (fun v4 v5 wr => OnRel W0 w w1 rb w2.heap.size (kd, fd, .slice ta tn tc, .slice ka kn kc) po v4 v5 wr) (fun _ _ wr => restLen wr rb)
    case atStart => exact ⟨_, R1, rfl, rfl, HO0.out, HPo.out⟩
    case round =>
      obtain ⟨⟨ol, od, oo, oe⟩, R', rfl, rfl, hon, hpr⟩ := hrel
      have HMr := Lib.hid hon.rdr.rest
      have HN := Lib.hid (next_any hon.rdr)
      have HOn := Lib.hid hon
      rw [optR_step] at hpr
      obtain ⟨hd, hhd⟩ : ∃ hd, hd = headZ (skipB R') := ⟨_, rfl⟩
      rw [← hhd] at HN hpr
      have HHd := Lib.hid hhd
      simp only at hpr
      clear hon hhd
      by_cases c1 : hd = 35 ∧ od = false
      · rw [if_pos c1] at hpr
        have HXr := Lib.hid hpr
        obtain ⟨rfl, rfl⟩ := c1
        clear hpr
        go_wp2_with fail
        refine HN.out.mono ?_
        rintro e w3 ⟨rfl, h3, h4⟩
        have HPs := Lib.hid (pass_any h3 (head_len (HHd.out.symm.trans rfl) (by omega)))
        have HO3 := Lib.hid (HOn.out.on HQ.out h4 h3)
        clear h3 h4 HN
        go_wp2_with fail
        refine HPs.out.mono ?_
        rintro e w4 ⟨rfl, h5, h6⟩
        have HC := Lib.hid (limit_any HE.out h5)
        have HO4 := Lib.hid (HO3.out.on HQ.out h6 h5)
        clear h5 h6 HPs
        cases hx2 : limitP ((skipB R').drop 1) with
        | err c =>
          have HC2 := Lib.hid (did_err HC.out hx2)
          have HX2 := Lib.hid hx2
          clear hx2
          go_wp2_with fail
          refine HC2.out.mono ?_
          rintro e w5 ⟨rfl, h7⟩
          exact ⟨rfl, HTop.out _ (HO4.out.mod.trans (h7.mono fun _ _ hk => .inl hk)), by rw [HXq.out, HXr.out, HX2.out]; rfl⟩
        | ok m R2 =>
          have HC2 := Lib.hid (did_ok HC.out hx2)
          have HX2 := Lib.hid hx2
          have HLs := Lib.hid (limit_less _ _ _ hx2)
          clear hx2
          go_wp2_with fail
          refine HC2.out.mono ?_
          rintro e w5 ⟨v5, rfl, rfl, h7, h8⟩
          have hon := HO4.out.on HQ.out h8 h7
          have q4 := cell_at hon.box 4
          have f4 := free_at hon.box 4
          have hst := hon.set (o' := ⟨m, true, oo, oe⟩) HQlt.out 4 (.int .i64 m) rfl
          have hre : restLen (w5.setCell ⟨w2.heap.size, 4, none⟩ (.int .i64 m)) rb = R2.length := hst.rdr.rest
          have HSt := Lib.hid hst
          have HRe := Lib.hid hre
          clear h7 h8 hon hst hre
          go_wp2_with fail
          go_roundw
          case rel => exact ⟨_, R2, rfl, rfl, HSt.out, by rw [HXr.out, HX2.out]; rfl⟩
          case measure => simp only [HRe.out, HMr.out]; have := HLs.out; have := skipB_le R'; have := List.length_drop (i := 1) (l := skipB R'); omega
      · rw [if_neg c1] at hpr
        by_cases c2 : hd = 64 ∧ oe = false
        · rw [if_pos c2] at hpr
          have HXr := Lib.hid hpr
          obtain ⟨rfl, rfl⟩ := c2
          clear hpr c1
          go_wp2_with fail
          refine HN.out.mono ?_
          rintro e w3 ⟨rfl, h3, h4⟩
          have HPs := Lib.hid (pass_any h3 (head_len (HHd.out.symm.trans rfl) (by omega)))
          have HO3 := Lib.hid (HOn.out.on HQ.out h4 h3)
          clear h3 h4 HN
          go_wp2_with fail
          refine HPs.out.mono ?_
          rintro e w4 ⟨rfl, h5, h6⟩
          have HC := Lib.hid (order_any h5)
          have HO4 := Lib.hid (HO3.out.on HQ.out h6 h5)
          clear h5 h6 HPs
          cases hx2 : orderP ((skipB R').drop 1) with
          | err c =>
            have HC2 := Lib.hid (did_err HC.out hx2)
            have HX2 := Lib.hid hx2
            clear hx2
            go_wp2_with fail
            refine HC2.out.mono ?_
            rintro e w5 ⟨rfl, h7⟩
            exact ⟨rfl, HTop.out _ (HO4.out.mod.trans (h7.mono fun _ _ hk => .inl hk)), by rw [HXq.out, HXr.out, HX2.out]; rfl⟩
          | ok m R2 =>
            have HC2 := Lib.hid (did_ok HC.out hx2)
            have HX2 := Lib.hid hx2
            have HLs := Lib.hid (order_less _ _ _ hx2)
            clear hx2
            go_wp2_with fail
            refine HC2.out.mono ?_
            rintro e w5 ⟨v5, rfl, rfl, h7, h8⟩
            have hon := HO4.out.on HQ.out h8 h7
            have q4 := cell_at hon.box 5
            have f4 := free_at hon.box 5
            have hst := hon.set (o' := ⟨ol, od, m, true⟩) HQlt.out 5 (.int .i64 m) rfl
            have hre : restLen (w5.setCell ⟨w2.heap.size, 5, none⟩ (.int .i64 m)) rb = R2.length := hst.rdr.rest
            have HSt := Lib.hid hst
            have HRe := Lib.hid hre
            clear h7 h8 hon hst hre
            go_wp2_with fail
            go_roundw
            case rel => exact ⟨_, R2, rfl, rfl, HSt.out, by rw [HXr.out, HX2.out]; rfl⟩
            case measure => simp only [HRe.out, HMr.out]; have := HLs.out; have := skipB_le R'; have := List.length_drop (i := 1) (l := skipB R'); omega
        · rw [if_neg c2] at hpr
          by_cases c3 : hd = -1
          · rw [if_pos c3] at hpr
            have HXr := Lib.hid hpr
            subst c3
            clear hpr c1 c2
            go_wp2_with fail
            refine HN.out.mono ?_
            rintro e w3 ⟨rfl, h3, h4⟩
            have HO3 := Lib.hid (HOn.out.on HQ.out h4 h3)
            have HSk := Lib.hid (show skipB R' = [] from by
              cases hc : skipB R' with
              | nil => rfl
              | cons c r => have := HHd.out; rw [hc] at this; simp only [headZ] at this; omega)
            clear h3 h4 HN
            have hbx := HO3.out.box
            have hrs := (HO3.out.mod.block w.heap.size (lt_of_heap HRes1.out) (by have := HI.out; have := HS2.out; rintro (e | e) <;> omega)).trans HRes1.out
            have HBx := Lib.hid hbx
            have HRs := Lib.hid hrs
            clear hbx hrs
            go_wp2_with (first
              | (refine wpList_load_row rfl 27 (.tmp 3) rfl w2.heap.size rfl 27 (qryC (kd, fd, .slice ta tn tc, .slice ka kn kc) ol oo).toArray (0, 0) _ HBx.out Tryz.underlying27 rfl (qry_info (kd, fd, .slice ta tn tc, .slice ka kn kc) ol oo) ?_)
              | (refine wpList_store_row rfl 27 (.tmp 2) (.tmp 41) rfl w.heap.size (qryC (kd, fd, .slice ta tn tc, .slice ka kn kc) ol oo).toArray rfl rfl 27 zeroQ HRs.out (qry_info (kd, fd, .slice ta tn tc, .slice ka kn kc) ol oo) rfl qry_one ?_)
              | fail)
            try rw [Exit.noGoto_ret]
            refine bodyPost_ret (v := .agg (qryC (kd, fd, .slice ta tn tc, .slice ka kn kc) ol oo).toArray) (results_cell_row rfl _ _ w.heap.size _ _ (0, 0) _ rfl (setRow_heap _ _ _ _ _ _ HRs.out) Tryz.underlying27 rfl (qry_info (kd, fd, .slice ta tn tc, .slice ka kn kc) ol oo)) rfl ?_
            refine ⟨mod_low (HTop.out _ HO3.out.mod) (below_row (Below.refl _ _) (Nat.le_refl w.heap.size) _) (Nat.le_refl _), ?_⟩
            rw [HXq.out, HXr.out]
            have hrr := (HO3.out.rdr.high (below_row (Below.refl _ _) HI.out (qryC (kd, fd, .slice ta tn tc, .slice ka kn kc) ol oo).toArray))
            rw [HSk.out] at hrr
            have hnd : RdN w3 (fun b => w.heap.size + 1 ≤ b ∧ b < w2.heap.size) n (kd, fd, .slice ta tn tc, .slice ka kn kc) := HRd1.out.keep fun b hb hb2 => HO3.out.mod.block b hb2 (by have := HI.out; rintro (e | e) <;> omega)
            exact ⟨_, rfl, ⟨_, rfl, (hnd.keep fun b hb _ => setRow_other _ _ _ _ (by omega)).mono fun b _ hb => by unfold fromB; omega⟩, hrr⟩
          · rw [if_neg c3] at hpr
            have HXr := Lib.hid hpr
            clear hpr
            by_cases d1 : hd = 35
            · have d2 : od = true := by cases od with | true => rfl | false => exact absurd ⟨d1, rfl⟩ c1
              subst d1 d2
              clear c1 c2 c3
              go_wp2_with fail
              refine HN.out.mono ?_
              rintro e w3 ⟨rfl, h3, h4⟩
              have HFl := Lib.hid (fail_any (k := 8) (show Rdr W0 w3 rb (skipB R') (8 - ((8 : Nat) : Int)) from h3) (Nat.le_refl _))
              have H4 := Lib.hid (HOn.out.mod.trans (h4.mono fun _ _ hk => .inl hk))
              clear h3 h4 HN
              go_wp2_with fail
              refine HFl.out.mono ?_
              rintro e w5 ⟨rfl, h6⟩
              exact ⟨rfl, HTop.out _ (H4.out.trans (h6.mono fun _ _ hk => .inl hk)), by rw [HXq.out, HXr.out]; rfl⟩
            · by_cases d3 : hd = 64
              · have d4 : oe = true := by cases oe with | true => rfl | false => exact absurd ⟨d3, rfl⟩ c2
                subst d3 d4
                clear c1 c2 c3 d1
                go_wp2_with fail
                refine HN.out.mono ?_
                rintro e w3 ⟨rfl, h3, h4⟩
                have HFl := Lib.hid (fail_any (k := 8) (show Rdr W0 w3 rb (skipB R') (8 - ((8 : Nat) : Int)) from h3) (Nat.le_refl _))
                have H4 := Lib.hid (HOn.out.mod.trans (h4.mono fun _ _ hk => .inl hk))
                clear h3 h4 HN
                go_wp2_with fail
                refine HFl.out.mono ?_
                rintro e w5 ⟨rfl, h6⟩
                exact ⟨rfl, HTop.out _ (H4.out.trans (h6.mono fun _ _ hk => .inl hk)), by rw [HXq.out, HXr.out]; rfl⟩
              · clear c1 c2
                go_wp2_with fail
                refine HN.out.mono ?_
                rintro e w3 ⟨rfl, h3, h4⟩
                have HFl := Lib.hid (fail_any (k := 8) (show Rdr W0 w3 rb (skipB R') (8 - ((8 : Nat) : Int)) from h3) (Nat.le_refl _))
                have H4 := Lib.hid (HOn.out.mod.trans (h4.mono fun _ _ hk => .inl hk))
                clear h3 h4 HN
                go_wp2_with fail
                refine HFl.out.mono ?_
                rintro e w5 ⟨rfl, h6⟩
                exact ⟨rfl, HTop.out _ (H4.out.trans (h6.mono fun _ _ hk => .inl hk)), by rw [HXq.out, HXr.out]; rfl⟩
end Go.Proofs.YthkpaelpnofbgaaGreatDoor
/-
  Layer 17 as it landed: Parse, which recovers. Over the program's own text.
-/
namespace Go.Proofs.YthkpaelpnofbgaaGreatDoor
open Go.RowKit

set_option maxRecDepth 100000 in
theorem assert_err (v : Value) (w : World) : (Instr.typeAssert (.iface 30 v) 20 30 true).run Tryz.prog w = .ok (.tuple #[v, .bool true]) w := by
  unfold Instr.typeAssert
  simp only [Sem.run_bind, run_underlying Tryz.underlying30 w]
  rfl
set_option maxRecDepth 100000 in
set_option maxHeartbeats 2000000 in
theorem catch_panicking (eb : Nat) (c : Int) (older : List PanicEntry) (w : World) (v : Value) (hc : w.cell? ⟨eb, 0, none⟩ = some v) (hz : w.frozen? ⟨eb, 0, none⟩ = false) :
    CallsD Tryz.prog 18 #[.pointer (some ⟨eb, 0, none⟩)] (.panicking ({ v := .iface 30 (.int .i64 c), recovered := false } :: older)) w fun e u' w' =>
      e = .returned (.tuple #[]) ∧ u' = .panicking ({ v := .iface 30 (.int .i64 c), recovered := true } :: older) ∧ w' = w.setCell ⟨eb, 0, none⟩ (.int .i64 c) := by
  refine callsD_of_wpS Tryz.func18 rfl fun c₀ cs hu => ?_
  apply wpS_seq
  apply wpS_region
  simp [wpOpsS, go_sem, recoverD, hu, Tryz.ntmps18, Exit.thenS]
  refine wpS_of_wp ?_
  rw [show (#[.pointer (some ⟨eb, 0, none⟩)] ++ ((Array.replicate 15 undef).setIfInBounds 3 (Value.iface 30 (.int .i64 c))).setIfInBounds 0 (Value.iface 30 (.int .i64 c)) : Array Value) = #[.pointer (some ⟨eb, 0, none⟩), .iface 30 (.int .i64 c), undef, undef, .iface 30 (.int .i64 c), undef, undef, undef, undef, undef, undef, undef, undef, undef, undef, undef] from rfl]
  have hta := assert_err
  go_wp2_with fail
  simp [bodyPostS, results, Tryz.results18, go_sem]
set_option maxRecDepth 100000 in
set_option maxHeartbeats 2000000 in
theorem catch_idle (eb : Nat) (w : World) :
    CallsD Tryz.prog 18 #[.pointer (some ⟨eb, 0, none⟩)] .returning w fun e u' w' => e = .returned (.tuple #[]) ∧ u' = .returning ∧ w' = w := by
  refine callsD_of_wpS Tryz.func18 rfl fun c₀ cs hu => ?_
  apply wpS_seq
  apply wpS_region
  simp [wpOpsS, go_sem, recoverD, hu, Tryz.ntmps18, Exit.thenS]
  refine wpS_of_wp ?_
  rw [show (#[.pointer (some ⟨eb, 0, none⟩)] ++ ((Array.replicate 15 undef).setIfInBounds 3 Value.nilIface).setIfInBounds 0 Value.nilIface : Array Value) = #[.pointer (some ⟨eb, 0, none⟩), .nilIface, undef, undef, .nilIface, undef, undef, undef, undef, undef, undef, undef, undef, undef, undef, undef] from rfl]
  go_wp2_with fail
  cases c₀
  simp_all [bodyPostS, results, Tryz.results18, go_sem]
set_option maxRecDepth 100000 in
theorem node_zero (w : World) (S : Nat → Prop) : RdN w S (.mk 0 0 [] []) (0, 0, .slice none 0 0, .slice none 0 0) :=
  RdN.mk (ts := []) (ks := []) (ta := none) (tc := 0) (ka := none) (kc := 0) (rs := []) (by decide) (by decide) (fun j x hj => by simp at hj) (Nat.le_refl _) (by decide) (fun a ha _ => by cases ha) (fun j r hj => by simp at hj) (Nat.le_refl _) (by decide) (fun a ha _ => by cases ha) rfl (fun j x r hj _ => by simp at hj)
/-- What Parse answers: a node, a limit, an order, an error. -/
def zeroNode : Nd := .mk 0 0 [] []
def parseX (s : ByteArray) : (Nd × Opt) × Int :=
  if 256 < s.size then ((zeroNode, ⟨0, false, 0, false⟩), 4)
  else match parseR (runesOf s) with
    | .ok x _ => (x, 0)
    | .err c => ((zeroNode, ⟨0, false, 0, false⟩), c)
def ParseD (W : World) (y : (Nd × Opt) × Int) (e : Ending) (w' : World) : Prop := ∃ v, e = .returned (.tuple #[v, .int .i64 y.2]) ∧ QueryV (fromB W.heap.size) w' y.1 v ∧ Below W.heap.size W w'
set_option maxRecDepth 100000 in
theorem results_cells {P : Program} {fn : Func} {p q : Tmp} {ty ty2 : TypeId} (h : fn.results = #[.cell p ty, .cell q ty2]) (tmps : Array Value) (w : World) (g g2 : Nat) (t : TypeId) (cs : Array Value) (fr : Nat × Nat) (d : TypeDesc) (v : Value)
    (hp : tmps.getD p undef = .pointer (some ⟨g, 0, none⟩)) (hq : tmps.getD q undef = .pointer (some ⟨g2, 0, none⟩)) (hg : w.heap[g]? = some (.cells cs t fr)) (hg2 : (loadVar ty2 ⟨g2, 0, none⟩).run P w = .ok v w)
    (hu : P.underlying ty = some d) (hd : (match d with | .struct _ | .array _ _ => true | _ => false) = true) (hi : (P.info? ty).map (·.size) = some cs.size) :
    (results fn tmps).run P w = .ok (.tuple #[.agg cs, v]) w := by
  have hp' : tmps[p]?.getD undef = .pointer (some ⟨g, 0, none⟩) := by simpa using hp
  have hq' : tmps[q]?.getD undef = .pointer (some ⟨g2, 0, none⟩) := by simpa using hq
  simp [results, h, hp', hq', asAddr, run_loadVar_row w g t ty cs fr d hg hu hd hi, hg2]
set_option maxRecDepth 100000 in
theorem load_err {w : World} {g : Nat} {v : Value} (h : w.cell? ⟨g, 0, none⟩ = some v) : (loadVar 30 ⟨g, 0, none⟩).run Tryz.prog w = .ok v w := by
  unfold loadVar
  simp [Sem.run_bind, Tryz.isAgg30, go_sem, h]
set_option maxRecDepth 100000 in
set_option maxHeartbeats 4000000 in
theorem parse_any (W : World) (s : ByteArray) (hT : TabsIn W) (hE : ErrsIn W) (hs : s.size ≤ 1000000) :
    Calls Tryz.prog 9 #[.string s] W fun e w' => ParseD W (parseX s) e w' := by
  have hmf : ∀ (fn : Fn) (first cap : Array Value) (w : World), (Instr.makeFunc fn first cap).run Tryz.prog w = .ok (.func fn first cap) w := fun _ _ _ _ => rfl
  have HT := Lib.hid hT
  have HE := Lib.hid hE
  obtain ⟨y, hy⟩ : ∃ y, y = parseX s := ⟨_, rfl⟩
  rw [← hy]
  have hZ : zeroQ = #[.int .i64 0, .int .u8 0, .slice none 0 0, .slice none 0 0, .int .i64 0, .int .i64 0] := rfl
  by_cases hl : 256 < s.size
  · have HY : Hid (y = ((zeroNode, ⟨0, false, 0, false⟩), 4)) := Lib.hid (by rw [hy]; unfold parseX; rw [if_pos hl])
    have hli : (256 : Int) < (s.size : Int) := by omega
    clear hT hE hs hy
    go_enter_defers Tryz.func9, Tryz.ntmps9
    go_wp2_with fail
    refine ⟨_, results_cells rfl _ _ W.heap.size (W.heap.size + 1) _ _ (0, 0) _ (.int .i64 4) rfl rfl (heap2_0 W _ _) (load_err (cell_at (heap2_1 W _ _) 0)) Tryz.underlying27 rfl (qry_info (0, 0, .slice none 0 0, .slice none 0 0) 0 0), ?_⟩
    rw [HY.out]
    exact ⟨_, rfl, ⟨(0, 0, .slice none 0 0, .slice none 0 0), rfl, node_zero _ _⟩, below_al2⟩
  · have hsl : s.size ≤ 256 := by omega
    have hli : ¬ (256 : Int) < (s.size : Int) := by omega
    have HRn := Lib.hid (fun w => kept.runes w s hs)
    have hrl := (runesOf_many s).1
    have hok := runesOf_ok s
    have HL := Lib.hid (And.intro hrl (And.intro hok hsl))
    have HY : Hid (y = match parseR (runesOf s) with
      | .ok x _ => (x, 0)
      | .err c => ((zeroNode, ⟨0, false, 0, false⟩), c)) := Lib.hid (by rw [hy]; unfold parseX; rw [if_neg hl])
    clear hT hE hs hy hrl hok hsl
    go_enter_defers Tryz.func9, Tryz.ntmps9
    go_wp2_with fail
    refine (HRn.out _).mono ?_
    rintro e w3 ⟨oa, c, rfl, hc, hm, hr, hb3, -⟩
    rw [ints_length] at hc ⊢
    have hB0 : Below W.heap.size W ((W.alloc (.cells zeroQ 27)).alloc (.cells #[.int .i64 0] 30)) := below_al2
    have hlow : Below W.heap.size W w3 := hB0.trans (hb3.mono hB0.size)
    have hs3 : W.heap.size + 2 ≤ w3.heap.size := by have := hb3.size; simp at this; omega
    have hQ := blk_low (heap2_0 W (.cells zeroQ 27) (.cells #[.int .i64 0] 30)) hb3
    have hR := blk_low (heap2_1 W (.cells zeroQ 27) (.cells #[.int .i64 0] 30)) hb3
    have hal := below_one (w := w3) (A := .cells #[.slice oa (runesOf s).length c, .int .i64 0] 53)
    have hrd : Rdr W (w3.alloc (.cells #[.slice oa (runesOf s).length c, .int .i64 0] 53)) w3.heap.size (runesOf s) 0 := by
      obtain ⟨g1, g2, g3⟩ := HL.out
      refine ⟨HT.out, hlow.trans (hal.mono hlow.size), hlow.size, g2, by omega, by omega, oa, c, heap_alloc_new w3 _, hc, hm, hr.below hal, fun a ha hne => ?_⟩
      obtain ⟨x, hx⟩ : ∃ x, (runesOf s)[0]? = some x := by cases hq : runesOf s with | nil => exact absurd hq hne | cons y l => exact ⟨y, rfl⟩
      obtain ⟨ad, k1, k2⟩ := hr 0 _ (ints_get hx)
      rw [ha] at k1
      injection k1 with k1
      subst k1
      have := cell_lt k2
      have e : (a.add 0).block = a.block := by unfold Addr.add; split <;> rfl
      omega
    have HQa := Lib.hid (query_any HE.out hrd)
    have HQ := Lib.hid (blk_low hQ hal)
    have HR := Lib.hid (blk_low hR hal)
    have HLow := Lib.hid (hlow.trans (hal.mono hlow.size))
    have HS := Lib.hid (And.intro hs3 (show (w3.alloc (.cells #[.slice oa (runesOf s).length c, .int .i64 0] 53)).heap.size = w3.heap.size + 1 from by simp))
    clear hc hm hr hb3 hB0 hlow hs3 hQ hR hal hrd HRn
    go_upto_region 5 with fail
    generalize w3.alloc (.cells #[.slice oa (runesOf s).length c, .int .i64 0] 53) = w4 at HQa HQ HR HLow HS ⊢
    cases hx : parseR (runesOf s) with
    | err c2 =>
      have HC := Lib.hid (did_err HQa.out hx)
      have HYe : Hid (y = ((zeroNode, ⟨0, false, 0, false⟩), c2)) := Lib.hid (by rw [HY.out, hx])
      clear hx
      go_wp2_with fail
      refine HC.out.mono ?_
      rintro e w5 ⟨rfl, h5⟩
      have hQ5 := (h5.block W.heap.size (lt_of_heap HQ.out) (by have := HS.out.1; omega)).trans HQ.out
      have hR5 := (h5.block (W.heap.size + 1) (lt_of_heap HR.out) (by have := HS.out.1; omega)).trans HR.out
      have hlow5 : Below W.heap.size W w5 := Mod.lower HLow.out h5 (by have := HS.out.1; omega)
      refine leaves_cons (f := 18) (args := #[.pointer (some ⟨W.heap.size + 1, 0, none⟩)]) (by simp) (by simp [go_sem]) ?_
      refine (catch_panicking (W.heap.size + 1) c2 [] w5 _ (cell_at hR5 0) (free_at hR5 0)).mono ?_
      rintro e u' w6 ⟨rfl, rfl, rfl⟩
      have hQ6 := blk_ne hQ5 (show W.heap.size ≠ W.heap.size + 1 by omega) (.int .i64 c2) 0
      have hR6 := cell_at (heap_setCell_same _ _ 0 _ _ (.int .i64 c2) hR5) 0
      have hlow6 : Below W.heap.size W (w5.setCell ⟨W.heap.size + 1, 0, none⟩ (.int .i64 c2)) := Below.setCell hlow5 (Nat.le_succ _) _
      refine ⟨_, results_cells rfl _ _ W.heap.size (W.heap.size + 1) _ _ (0, 0) _ (.int .i64 c2) rfl rfl hQ6 (load_err hR6) Tryz.underlying27 rfl (qry_info (0, 0, .slice none 0 0, .slice none 0 0) 0 0), ?_⟩
      rw [HYe.out]
      exact ⟨_, rfl, ⟨(0, 0, .slice none 0 0, .slice none 0 0), rfl, node_zero _ _⟩, hlow6⟩
    | ok x R2 =>
      obtain ⟨x, o⟩ := x
      have HC := Lib.hid (did_ok HQa.out hx)
      have HYe : Hid (y = ((x, o), 0)) := Lib.hid (by rw [HY.out, hx])
      clear hx
      go_wp2_with fail
      refine HC.out.mono ?_
      rintro e w5 ⟨v, rfl, ⟨⟨kd, fd, tv, kv⟩, rfl, hrd⟩, h7, h5⟩
      obtain ⟨ta, tn, tc, ka, kn, kc, rfl, rfl⟩ := hrd.slices
      have hQ5 := (h5.block W.heap.size (lt_of_heap HQ.out) (by have := HS.out.1; omega)).trans HQ.out
      have hR5 := (h5.block (W.heap.size + 1) (lt_of_heap HR.out) (by have := HS.out.1; omega)).trans HR.out
      have hlow5 : Below W.heap.size W w5 := Mod.lower HLow.out h5 (by have := HS.out.1; omega)
      have HQ5 := Lib.hid hQ5
      have HLow5 := Lib.hid hlow5
      have HRd := Lib.hid hrd
      have hR6 := (setRow_other w5 W.heap.size (W.heap.size + 1) (qryC (kd, fd, .slice ta tn tc, .slice ka kn kc) o.lim o.ord).toArray (by omega)).trans hR5
      have qe := cell_at hR6 0
      have fe := free_at hR6 0
      have HR6 := Lib.hid hR6
      clear hrd h7 h5 hQ5 hR5 hlow5 hR6
      go_wp2_with (first
        | (refine wpList_store_row rfl 27 (.tmp 2) (.tmp 13) rfl W.heap.size (qryC (kd, fd, .slice ta tn tc, .slice ka kn kc) o.lim o.ord).toArray rfl rfl 27 zeroQ HQ5.out (qry_info (kd, fd, .slice ta tn tc, .slice ka kn kc) o.lim o.ord) rfl qry_one ?_)
        | fail)
      have hQ6 := blk_ne (setRow_heap _ _ _ (qryC (kd, fd, .slice ta tn tc, .slice ka kn kc) o.lim o.ord).toArray _ _ HQ5.out) (show W.heap.size ≠ W.heap.size + 1 by omega) (.int .i64 0) 0
      have hR7 := cell_at (heap_setCell_same _ _ 0 _ _ (.int .i64 0) HR6.out) 0
      have hlow6 := Below.setCell (below_row HLow5.out (Nat.le_refl _) (qryC (kd, fd, .slice ta tn tc, .slice ka kn kc) o.lim o.ord).toArray) (p := ⟨W.heap.size + 1, 0, none⟩) (Nat.le_succ _) (.int .i64 0)
      refine leaves_cons (f := 18) (args := #[.pointer (some ⟨W.heap.size + 1, 0, none⟩)]) (by simp) (by simp [go_sem]) ?_
      refine (catch_idle (W.heap.size + 1) _).mono ?_
      rintro e u' w6 ⟨rfl, rfl, rfl⟩
      refine ⟨_, results_cells rfl _ _ W.heap.size (W.heap.size + 1) _ _ (0, 0) _ (.int .i64 0) rfl rfl hQ6 (load_err hR7) Tryz.underlying27 rfl (qry_info (kd, fd, .slice ta tn tc, .slice ka kn kc) o.lim o.ord), ?_⟩
      rw [HYe.out]
      refine ⟨_, rfl, ⟨(kd, fd, .slice ta tn tc, .slice ka kn kc), rfl, ?_⟩, hlow6⟩
      have hh := HRd.out.mono (S' := fun b => W.heap.size + 2 ≤ b) fun b _ hb => by have := HS.out; unfold fromB at hb; omega
      refine (hh.keep fun b hb _ => ?_).mono fun b _ hb => by unfold fromB; omega
      rw [Below.heap_setCell _ _ _ _ (show b ≠ W.heap.size + 1 by omega), setRow_other _ _ _ _ (by omega)]
end Go.Proofs.YthkpaelpnofbgaaGreatDoor
