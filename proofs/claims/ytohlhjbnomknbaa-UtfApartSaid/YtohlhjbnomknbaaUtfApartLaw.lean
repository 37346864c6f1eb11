/-
  Behind a letter below 128 all is read as if nothing had stood ahead of it: the statement itself, of the landed code, with no further condition.
-/
import Derived.Test.YtohlhjbnomknbaaUtfLands
import Derived.Test.YtohlhjbnomknbaaUtfArgs
import Derived.Test.YtohlhjbnomknbaaFrame
import Derived.Test.YtohlhjbnomknbaaUtfTextsLaw
import Derived.Laws.AppendOwnNone
namespace Go.Proofs.Ytohlhjbnomknbaa.utfApart
open Go.ChangeShapes Go.WideShapes Go.ChangeAt Go.ChangeMaps Go.RowKit Go.Deep

theorem read_none {w : World} {L : List Int} (h : ReadI w none L) : L = [] := by
  cases L with
  | nil => rfl
  | cons r l => obtain ⟨_, e, _⟩ := h 0 r rfl; cases e
/-- A row of runes behind a row of runes. -/
theorem runes_join {w w1 w2 : World} {v v' : Value} {l m : List Nat} (hl : Below w.heap.size w w1) (hr : RunesIn w1 w.heap.size v l) (ho : w2.ownsRow w.heap.size 21 1 v' (l.length + m.length) (l.map (fun (r : Nat) => Value.int .i32 (r : Int)) ++ m.map (fun (r : Nat) => Value.int .i32 (r : Int)))) (hg : w1.grownBy w2 v.ownBlock) :
    RunesIn w2 w.heap.size v' (l ++ m) ∧ Below w.heap.size w w2 :=
  ⟨by unfold RunesIn; simpa using ho, hl.grown hg hl.size (fun k hk => (World.ownsRow.lt hr k hk).1)⟩
theorem append_read {W w : World} {ops : Array Oper} {rest : List Oper} {o : Oper} {a : Act} {Q : Exit → Act → World → Prop} (hgd : o.guard = none) (s x : Operand)
    (ho : o.op = .call { callee := .builtin .append, args := #[s, x], argTypes := #[24, 24] }) (v : Value) (l m : List Nat) (hs : a.eval s = v) (oa : Option Addr) (n c : Nat) (hx : a.eval x = .slice oa n c) (hn : n = m.length)
    (hl : Below W.heap.size W w) (hr : RunesIn w W.heap.size v l) (hm : ReadI w oa (ints m)) (h0 : oa = none → c = 0) (h63 : l.length + m.length ≤ 1000000)
    (hK : ∀ v' w', RunesIn w' W.heap.size v' (l ++ m) ∧ Below W.heap.size W w' → wpList Try.prog ops Q rest (a.put o.dst v') w') : wpList Try.prog ops Q (o :: rest) a w := by
  obtain ⟨i0, hi, hz0, hz1, hz2⟩ := info_parts info_i32
  subst hn
  rcases oa with _ | ad
  · have he : m = [] := by
      have h := read_none hm
      have h2 := ints_length m
      rw [h] at h2
      exact List.eq_nil_of_length_eq_zero h2.symm
    subst he
    obtain rfl := h0 rfl
    exact wpList_append_own_none hgd s x 24 ho W.heap.size 21 i0 1 Try.underlying24 hi v l.length _ hs hr hx (hK _ _ (by simpa using ⟨hr, hl⟩))
  · have hc : ∀ j u, (m.map (fun (r : Nat) => Value.int .i32 (r : Int)))[j]? = some u → w.cell? (ad.add j) = some u := by
      intro j u hj
      simp at hj
      obtain ⟨r, hr1, rfl⟩ := hj
      obtain ⟨ad', e, h⟩ := hm j (r : Int) (by simp [ints, hr1])
      cases e
      exact h
    refine wpList_append_own _ hgd s x 24 ho W.heap.size 21 i0 _ 1 4 Try.underlying24 hi hz0 hz1 hz2 rfl (by decide) v l.length _ hs hr ad m.length c (m.map fun (r : Nat) => Value.int .i32 (r : Int)) hx (by simp) hc ?_ (by unfold maxLen; omega) (by omega) hl.size ?_
    · intro u hu
      simp at hu
      obtain ⟨r, _, rfl⟩ := hu
      rfl
    · intro v' w' h1 h2 _
      exact hK v' w' (runes_join hl hr h1 h2)

theorem encode_eq (r : Int) : Utf8.encode r = byteText (encR (normR r)) := by
  have hv : (if Utf8.valid r then r.toNat else Utf8.runeError) = normR r := by
    unfold normR
    by_cases h : 0 ≤ r ∧ okR r.toNat
    · rw [if_pos h, if_pos]
      unfold okR at h
      unfold Utf8.valid
      simp
      omega
    · rw [if_neg h, if_neg]
      · rfl
      · unfold okR at h
        unfold Utf8.valid
        simp
        omega
  unfold Utf8.encode encR
  simp only [hv]
  split
  · rfl
  · split
    · rfl
    · split <;> rfl
theorem encode_low {r : Int} {n : Nat} (h : (n : Int) = r) (hn : n < 128) : bytesL (Utf8.encode r) = [n] := by
  rw [encode_eq, ← h, normR_self (by unfold okR; omega), bytesL_byteText]
  · unfold encR; rw [if_pos hn]
  · intro b hb
    unfold encR at hb
    rw [if_pos hn] at hb
    simp at hb
    omega

set_option maxRecDepth 100000 in
set_option maxHeartbeats 2000000 in
theorem walk_all (K : Kept) (a b : ByteArray) (c : Int) (ha : (a.size : Int) ≤ 9223372036854775807) (hb : (b.size : Int) ≤ 9223372036854775807) (h0 : 0 ≤ c) (h1 : c < 256) (W : World) : Calls Try.prog 7 #[.string a, .int .u8 c, .string b] W fun e w' => e = .returned (.bool true) ∧ Below W.heap.size W w' := by
  by_cases hla : (500 : Int) < (a.size : Int)
  · have HF := Lib.hid (fixed_any K)
    go_enter Try.func7, Try.ntmps7
    go_wp2_with fail
    refine (HF.out _).mono ?_; rintro e w' ⟨rfl, hb⟩
    go_wp2_with fail
    go_ret
    exact ⟨rfl, hb⟩
  · by_cases hlb : (500 : Int) < (b.size : Int)
    · have HF := Lib.hid (fixed_any K)
      go_enter Try.func7, Try.ntmps7
      go_wp2_with fail
      refine (HF.out _).mono ?_; rintro e w' ⟨rfl, hb⟩
      go_wp2_with fail
      go_ret
      exact ⟨rfl, hb⟩
    · have HF := Lib.hid (fixed_any K)
      have RA := Lib.hid (K.runes · a (by omega))
      have RB := Lib.hid (K.runes · b (by omega))
      obtain ⟨cn, hcn⟩ : ∃ cn : Nat, (cn : Int) = c % 128 := ⟨(c % 128).toNat, by omega⟩
      have HC := Lib.hid (And.intro (show ints [cn] = [c % 128] by simp [ints, hcn]) (And.intro hcn (show cn < 128 by omega)))
      clear hcn
      have HMa := Lib.hid (runesOf_many a).1
      have HMb := Lib.hid (runesOf_many b).1
      go_enter Try.func7, Try.ntmps7
      go_wp2_with fail
      refine (RA.out _).mono ?_; rintro e w1 ⟨oa, ca, rfl, hc1, hc2, hr, hb1, hn1⟩
      have HO := Lib.hid (show RunesIn w1 _ _ [] from owned_below (owned_lit0 W _ _) hb1)
      have HR := Lib.hid hr
      have HN := Lib.hid hn1
      have HB := Lib.hid (below_one.trans (hb1.mono (by simp)))
      clear hr hb1 hn1
      go_wp2_with (first
        | (at_builtin; refine append_read (W := W) rfl (.tmp 19) (.tmp 21) rfl _ [] (runesOf a) rfl oa _ ca rfl (ints_length _) HB.out HO.out HR.out HN.out (by have := HMa.out; simp; omega) ?_; intro v2 w2 h2; have H2 := Lib.hid h2; clear h2)
        | (at_builtin; refine append_read (W := W) rfl (.tmp 22) (.tmp 25) rfl _ (runesOf a) [cn] rfl (some ⟨_, 0, none⟩) 1 1 rfl rfl (H2.out.2.alloc H2.out.2.size _) (World.ownsRow.alloc H2.out.1 _) (by rw [HC.out.1]; exact read_new _ [c % 128] _) (fun h => by cases h) (by have := HMa.out; simp; omega) ?_; intro v3 w3 h3; have H3 := Lib.hid h3; clear h3))
      refine (RB.out _).mono ?_; rintro e w4 ⟨ob, cb, rfl, hc3, hc4, hr, hb4, hn4⟩
      have H3 := Lib.hid (And.intro (show RunesIn w4 _ _ (runesOf a ++ [cn]) from owned_below H3.out.1 hb4) (H3.out.2.trans (hb4.mono H3.out.2.size)))
      have HR := Lib.hid hr
      have HN := Lib.hid hn4
      clear hr hb4 hn4
      go_wp2_with (at_builtin; refine append_read (W := W) rfl (.tmp 26) (.tmp 28) rfl _ (runesOf a ++ [cn]) (runesOf b) rfl ob _ cb rfl (ints_length _) H3.out.2 H3.out.1 HR.out HN.out (by have := HMa.out; have := HMb.out; simp; omega) ?_; intro v5 w5 h5; have H5 := Lib.hid h5; clear h5)
      refine (HF.out _).mono ?_; rintro e w6 ⟨rfl, hb6⟩
      obtain ⟨od, cd, hv5, hrd⟩ := utfTexts.runes_reads (show RunesIn w6 _ _ (runesOf a ++ [cn] ++ runesOf b) from owned_below H5.out.1 hb6)
      have HB := Lib.hid (H5.out.2.trans (hb6.mono H5.out.2.size))
      have HR := Lib.hid hrd
      clear hb6 hrd
      subst hv5
      have hd := encode_low HC.out.2.1 HC.out.2.2
      have hds : (Utf8.encode (c % 128)).size = 1 := by rw [← bytesL_length, hd]; rfl
      have hap := runesOf_apart a b cn (Utf8.encode (c % 128)) hd HC.out.2.2
      have hll : (runesOf a ++ [cn] ++ runesOf b).length = (runesOf a).length + ((runesOf b).length + 1) := by simp
      have hil : (ints (runesOf a ++ [cn] ++ runesOf b)).length = (runesOf a).length + ((runesOf b).length + 1) := by rw [ints_length, hll]
      have hsz : (a ++ Utf8.encode (c % 128) ++ b).size ≤ 1000000 := by simp only [ByteArray.size_append]; omega
      have hcall := K.runes_of (a ++ Utf8.encode (c % 128) ++ b) (ints (runesOf a ++ [cn] ++ runesOf b)) hsz (by rw [hap]; simp)
      rw [hil] at hcall
      have RC := Lib.hid hcall
      have hle : (runesOf a).length + ((runesOf b).length + 1) ≤ 1000000 := by have := HMa.out; have := HMb.out; omega
      have HSm := Lib.hid (show ∀ (w : World) (ob oa : Option Addr) (cb ca : Nat), ReadI w ob (ints (runesOf a ++ [cn] ++ runesOf b)) → ReadI w oa (ints (runesOf a ++ [cn] ++ runesOf b)) → Calls Try.prog 10 #[.slice ob ((runesOf a).length + ((runesOf b).length + 1)) cb, .slice oa ((runesOf a).length + ((runesOf b).length + 1)) ca] w fun e w' => e = .returned (.bool true) ∧ Below w.heap.size w w' from by
        intro w ob oa cb ca h1 h2
        have h := ref_same w ob oa cb ca _ _ h1 h2 (by omega)
        rw [hil] at h
        simpa using h)
      have n1 : ¬ 9223372036854775807 < a.size + (Utf8.encode (c % 128)).size := by omega
      have n2 : ¬ 9223372036854775807 < a.size + (Utf8.encode (c % 128)).size + b.size := by omega
      clear hcall hap hll hil hsz hd hle
      go_wp2_with fail
      refine (RC.out _).mono ?_; rintro e w7 ⟨oc, cc, rfl, hd1, hd2, hr, hb⟩
      have HR := Lib.hid (HR.out.below hb)
      have HR' := Lib.hid hr
      have HB := Lib.hid (HB.out.trans (hb.mono HB.out.size))
      clear hb hr
      go_wp2_with fail
      refine (HSm.out _ _ _ _ _ HR'.out HR.out).mono ?_; rintro e w8 ⟨rfl, hb⟩
      have HB := Lib.hid (HB.out.trans (hb.mono HB.out.size))
      clear hb
      go_wp2_with fail
      go_ret
      exact ⟨rfl, HB.out⟩
-- closing
set_option linter.unusedVariables false in
theorem walk (K : Kept) {H : Type} {enc : TypeId × Value → H} (W : World) (args : Array Value) (ds : List (DataW H)) (hin : ArgsIn enc Try.prog Try.f7.params.toList W args ds) :
    Calls Try.prog 7 args W fun e W' => e = .returned (.bool true) ∧ Below W.heap.size W W' := by
  obtain ⟨⟨p, hA, hlt⟩, ⟨base, hval⟩, hsz⟩ := hin
  rw [Try.params7] at hA hval hsz
  obtain ⟨v0, vs0, d0, ds0, p0, q0, hargs, rfl, rfl, h0, r0⟩ := trodAll_cons hA
  obtain ⟨v1, vs1, d1, ds1, p1, q1, rfl, rfl, rfl, h1, r1⟩ := trodAll_cons r0
  obtain ⟨v2, vs2, d2, ds2, p2, q2, rfl, rfl, rfl, h2, r2⟩ := trodAll_cons r1
  obtain ⟨rfl, rfl, rfl⟩ := trodAll_nil r2
  obtain rfl : args = #[v0, v1, v2] := by cases args; simp_all
  obtain ⟨a0, rfl, rfl, rfl, w0⟩ := open_string Try.underlying9 (hval 0 9 v0 rfl rfl) h0
  obtain ⟨a1, rfl, rfl, rfl, w1⟩ := open_int Try.underlying5 (hval 1 5 v1 rfl rfl) h1
  obtain ⟨a2, rfl, rfl, rfl, w2⟩ := open_string Try.underlying9 (hval 2 9 v2 rfl rfl) h2
  exact walk_all K a0 a2 a1 (size_int w0) (size_int w2) (u8_lo w1) (by have := u8_hi w1; omega) W

set_option maxRecDepth 100000 in
theorem proved_of (K : Kept) : Rows.UtfApartSaid :=
  OpenClaim.holds_of_wide 7 Try.f7 rfl rfl rfl rfl rfl rfl rfl ⟨rfl, rfl, rfl, rfl, rfl⟩ rfl rfl rfl rfl rfl (by kernel_rfl) Try.func7 (by kernel_rfl)
    (of_decide_eq_true (by kernel_rfl)) (by unfold Func.isWrapper; first | (rw [if_pos (by decide +kernel)]; kernel_rfl) | (rw [if_neg (by decide +kernel)]; exact ⟨rfl, rfl⟩))
    (fun os started H enc _ => law_lifted (s := Rows.utfApartSpec) own started (by kernel_rfl) Try.func7 laidOut (by kernel_rfl) (by kernel_rfl) Try.underlying4 rfl
      (ChangeSpec.witness6 (enc := enc) (C := Try.checked) false ⟨#[], #[.string ByteArray.empty, .int .u8 0, .string ByteArray.empty], []⟩ 8 (by kernel_rfl) (by kernel_rfl) (by kernel_rfl) (by kernel_rfl))
      (fun ds h => match ds, h with | [_, _, _], _ => rfl) (walk K))
theorem proved : Rows.UtfApartSaid := proved_of kept
#print axioms proved
end Go.Proofs.Ytohlhjbnomknbaa.utfApart
