/-
  A text has at most as many runes as bytes, and at least a quarter of that, and one that begins with another one has its whole letters first: the statement itself, of the landed code, with no further condition.
-/
import Derived.Test.YtohlhjbnomknbaaUtfKept
import Derived.Test.YtohlhjbnomknbaaUtfLands
import Derived.Test.YtohlhjbnomknbaaUtfArgs
import Derived.Test.YtohlhjbnomknbaaFrame
import Derived.Test.YtohlhjbnomknbaaRegion
namespace Go.Proofs.Ytohlhjbnomknbaa.utfLess
open Go.ChangeShapes Go.WideShapes Go.ChangeAt Go.ChangeMaps Go.RowKit Go.Deep

set_option maxRecDepth 100000 in
set_option maxHeartbeats 2000000 in
theorem walk_all (K : Kept) (s : ByteArray) (n : Int) (hs : (s.size : Int) ≤ 9223372036854775807) (h1 : -9223372036854775808 ≤ n) (h2 : n ≤ 9223372036854775807) (W : World) : Calls Try.prog 8 #[.string s, .int .i64 n] W fun e w' => e = .returned (.bool true) ∧ Below W.heap.size W w' := by
  by_cases hlen : (1000 : Int) < (s.size : Int)
  · have HF := Lib.hid (fixed_any K)
    go_enter Try.func8, Try.ntmps8
    go_wp2_with fail
    refine (HF.out _).mono ?_; rintro e w' ⟨rfl, hb⟩
    go_wp2_with fail
    go_ret
    exact ⟨rfl, hb⟩
  · have HF := Lib.hid (fixed_any K)
    have R1 := Lib.hid (K.runes_all s (by omega))
    have R2 := Lib.hid (K.fit · s n (by omega) h1 h2)
    have HM := runesOf_many s
    have hruns := fit_runes s n
    have hk := fitK_le (ints (runesOf s)) n
    have hints : ints (runesOf (textZ ((ints (runesOf s)).take (fitK (ints (runesOf s)) n)))) = (ints (runesOf s)).take (fitK (ints (runesOf s)) n) := by rw [hruns, ints_take]
    rw [← ints_length (runesOf s)] at HM
    have hsz : (textZ ((ints (runesOf s)).take (fitK (ints (runesOf s)) n))).size ≤ 1000000 := by
      rw [textZ_size]
      have := textB_le ((ints (runesOf s)).take (fitK (ints (runesOf s)) n))
      rw [List.length_take] at this
      omega
    clear hruns
    generalize hT : textZ ((ints (runesOf s)).take (fitK (ints (runesOf s)) n)) = t at R2 hints hsz
    clear hT
    generalize fitK (ints (runesOf s)) n = k at hk hints
    have R3 := Lib.hid (K.runes_of t _ hsz hints)
    clear hints
    generalize ints (runesOf s) = L at R1 R3 HM hk
    have hkl : (L.take k).length = k := by simp; omega
    rw [hkl] at R3
    obtain ⟨hm1, hm2⟩ := HM
    have hi1 : (L.length : Int) ≤ (s.size : Int) := by omega
    have hi2 : (s.size : Int) ≤ 4 * (L.length : Int) := by omega
    have hi3 : (k : Int) ≤ (L.length : Int) := by omega
    have HSm := Lib.hid (show ∀ (w : World) (ob oa : Option Addr) (cb ca : Nat), ReadI w ob (L.take k) → ReadI w oa (L.take k) → Calls Try.prog 10 #[.slice ob k cb, .slice oa k ca] w fun e w' => e = .returned (.bool true) ∧ Below w.heap.size w w' from by
      intro w ob oa cb ca h1 h2
      have h := ref_same w ob oa cb ca _ _ h1 h2 (by omega)
      rw [hkl] at h
      simpa using h)
    clear hkl
    go_enter Try.func8, Try.ntmps8
    go_wp2_with fail
    refine (R1.out _).mono ?_; rintro e w1 ⟨oa, c, rfl, hc1, hc2, hr, hb⟩
    have HR := Lib.hid hr
    have HB := Lib.hid hb
    clear hr hb
    go_wp2_with fail
    refine (R2.out _).mono ?_; rintro e w2 ⟨rfl, hb⟩
    have HR := Lib.hid (HR.out.below hb)
    have HB := Lib.hid (HB.out.trans (hb.mono HB.out.size))
    clear hb
    go_wp2_with fail
    refine (R3.out _).mono ?_; rintro e w3 ⟨ob, c', rfl, hc3, hc4, _, hb⟩
    have HR := Lib.hid (HR.out.below hb)
    have HB := Lib.hid (HB.out.trans (hb.mono HB.out.size))
    clear hb
    go_wp2_with fail
    have hkc : k ≤ c := by omega
    refine wp_region_by (fun (s' : Option Addr × Nat) j => [.bool true, .bool true, .int .i64 k, .slice oa L.length c, .int .i64 L.length, .bool true, .bool true, .bool true, .string t, .slice s'.1 k s'.2, .slice oa L.length c, .int .i64 k, .slice oa k c, .bool true, .bool true, .bool true].getD j undef)
      (fun s' l wx => Below W.heap.size W wx ∧ ReadI wx oa L ∧ (l 9 = true → ReadI wx s'.1 (L.take k)))
      (by kernel_rfl) (by kernel_rfl) (fun s' => by simp only [putTo, dstOf, Act.put, List.size_toArray, List.length_cons, List.length_nil, List.getElem?_toArray, Nat.reduceAdd, Option.bind_some, List.getElem?_cons_zero, List.getElem?_cons_succ, List.setIfInBounds_toArray, List.set_cons_zero, List.set_cons_succ, List.getD_cons_zero, List.getD_cons_succ]; exact rfl) (none, 0) ?_ ?_ ?_
    · exact ⟨HB.out.drew, HR.out.drewN 1, fun h => by cases h⟩
    · intro i o ho s' l wx hR hl he K hK
      rcases i with _ | _ | _ | _ | _ | _ | _ | _ | _ | _ | _ | _ | _ | _ | _ | _ | i
      · obtain rfl : _ = o := Option.some.inj ho
        go_simp
        refine (HF.out _).mono ?_; rintro e w2 ⟨rfl, hb2⟩
        exact hK s' w2 (fun _ _ => rfl) ⟨hR.1.trans (hb2.mono hR.1.size), hR.2.1.below hb2, fun h => (hR.2.2 h).below hb2⟩
      · obtain rfl : _ = o := Option.some.inj ho
        go_simp
        exact hK s' wx (fun _ _ => rfl) hR
      · obtain rfl : _ = o := Option.some.inj ho
        go_simp
        exact hK s' wx (fun _ _ => rfl) hR
      · obtain rfl : _ = o := Option.some.inj ho
        go_simp
        exact hK s' wx (fun _ _ => rfl) hR
      · obtain rfl : _ = o := Option.some.inj ho
        go_simp
        exact hK s' wx (fun _ _ => rfl) hR
      · obtain rfl : _ = o := Option.some.inj ho
        go_simp
        exact hK s' wx (fun _ _ => rfl) hR
      · obtain rfl : _ = o := Option.some.inj ho
        go_simp
        exact hK s' wx (fun _ _ => rfl) hR
      · obtain rfl : _ = o := Option.some.inj ho
        go_simp
        exact hK s' wx (fun _ _ => rfl) hR
      · obtain rfl : _ = o := Option.some.inj ho
        go_simp
        exact hK s' wx (fun _ _ => rfl) hR
      · obtain rfl : _ = o := Option.some.inj ho
        go_simp
        refine (R3.out _).mono ?_; rintro e w2 ⟨oc, cc, rfl, hc5, hc6, hr2, hb2⟩
        refine hK (oc, cc) w2 (fun j hj => ?_) ⟨hR.1.trans (hb2.mono hR.1.size), hR.2.1.below hb2, fun _ => hr2⟩
        rcases j with _ | _ | _ | _ | _ | _ | _ | _ | _ | _ | j
        all_goals first | rfl | (rw [hl] at hj; cases hj)
      · obtain rfl : _ = o := Option.some.inj ho
        go_simp
        exact hK s' wx (fun _ _ => rfl) hR
      · obtain rfl : _ = o := Option.some.inj ho
        go_simp
        exact hK s' wx (fun _ _ => rfl) hR
      · obtain rfl : _ = o := Option.some.inj ho
        go_simp
        exact hK s' wx (fun _ _ => rfl) hR
      · obtain rfl : _ = o := Option.some.inj ho
        have h9 := he ⟨9, .data⟩ (by simp) rfl
        go_simp
        refine (HSm.out _ _ _ _ _ (hR.2.2 h9) (hR.2.1.take _)).mono ?_; rintro e w2 ⟨rfl, hb2⟩
        exact hK s' w2 (fun _ _ => rfl) ⟨hR.1.trans (hb2.mono hR.1.size), hR.2.1.below hb2, fun h => (hR.2.2 h).below hb2⟩
      · obtain rfl : _ = o := Option.some.inj ho
        go_simp
        exact hK s' wx (fun _ _ => rfl) hR
      · obtain rfl : _ = o := Option.some.inj ho
        go_simp
        exact hK s' wx (fun _ _ => rfl) hR
      · simp at ho
    · intro s' l wx hl hR
      have hB := hR.1
      clear hR
      go_wp2_with fail
      go_ret
      exact ⟨rfl, hB⟩
-- closing
set_option linter.unusedVariables false in
theorem walk (K : Kept) {H : Type} {enc : TypeId × Value → H} (W : World) (args : Array Value) (ds : List (DataW H)) (hin : ArgsIn enc Try.prog Try.f8.params.toList W args ds) :
    Calls Try.prog 8 args W fun e W' => e = .returned (.bool true) ∧ Below W.heap.size W W' := by
  obtain ⟨⟨p, hA, hlt⟩, ⟨base, hval⟩, hsz⟩ := hin
  rw [Try.params8] at hA hval hsz
  obtain ⟨v0, vs0, d0, ds0, p0, q0, hargs, rfl, rfl, h0, r0⟩ := trodAll_cons hA
  obtain ⟨v1, vs1, d1, ds1, p1, q1, rfl, rfl, rfl, h1, r1⟩ := trodAll_cons r0
  obtain ⟨rfl, rfl, rfl⟩ := trodAll_nil r1
  obtain rfl : args = #[v0, v1] := by cases args; simp_all
  obtain ⟨a0, rfl, rfl, rfl, w0⟩ := open_string Try.underlying9 (hval 0 9 v0 rfl rfl) h0
  obtain ⟨a1, rfl, rfl, rfl, w1⟩ := open_int Try.underlying3 (hval 1 3 v1 rfl rfl) h1
  exact walk_all K a0 a1 (size_int w0) (i64_lo w1) (i64_hi w1) W

set_option maxRecDepth 100000 in
theorem proved_of (K : Kept) : Rows.UtfLessSaid :=
  OpenClaim.holds_of_wide 8 Try.f8 rfl rfl rfl rfl rfl rfl rfl ⟨rfl, rfl, rfl, rfl, rfl⟩ rfl rfl rfl rfl rfl (by kernel_rfl) Try.func8 (by kernel_rfl)
    (of_decide_eq_true (by kernel_rfl)) (by unfold Func.isWrapper; first | (rw [if_pos (by decide +kernel)]; kernel_rfl) | (rw [if_neg (by decide +kernel)]; exact ⟨rfl, rfl⟩))
    (fun os started H enc _ => law_lifted (s := Rows.utfLessSpec) own started (by kernel_rfl) Try.func8 laidOut (by kernel_rfl) (by kernel_rfl) Try.underlying4 rfl
      (ChangeSpec.witness6 (enc := enc) (C := Try.checked) false ⟨#[], #[.string ByteArray.empty, .int .i64 0], []⟩ 8 (by kernel_rfl) (by kernel_rfl) (by kernel_rfl) (by kernel_rfl))
      (fun ds h => match ds, h with | [_, _], _ => rfl) (walk K))
theorem proved : Rows.UtfLessSaid := proved_of kept
#print axioms proved
end Go.Proofs.Ytohlhjbnomknbaa.utfLess
