/-
  The law TableVersions' walk. Over the program's own text.
-/
import Derived.Test.YtgponhdmhgdalaaTableSaw
import Derived.Test.YtgponhdmhgdalaaTableFixed
namespace Go.Proofs.Ytgponhdmhgdalaa
open Go.RowKit

theorem info_sns : (Try.prog.info? 34).map (fun i => (i.zero, i.size, i.bytes)) = some (some (.slice none 0 0), 1, 24) := by kernel_rfl
set_option maxRecDepth 100000 in
set_option maxHeartbeats 4000000 in
theorem vers_walk {rowP : Int → Int → Pr R4} {seenP : Int → Int → Int → Pr (List Sn)} {findP : Int → Int → Int → Pr Int} (K : KeptTable rowP seenP findP) (W : World) (oi : Option Addr) (ni ci : Nat) (R : List Ac) (hn : R.length = ni) (hR : ReadAc W oi R) (hnm : ni ≤ maxLen) :
    Calls Try.prog 3 #[.slice oi ni ci] W fun e w' => e = .returned (.bool true) ∧ Below W.heap.size W w' := by
  have HK := Lib.hid K
  have HFx := Lib.hid (fun w => fixed_any K w)
  have HE := Lib.hid (And.intro hn hR)
  have s1 : (ni : Int) ≤ 9223372036854775807 := by unfold maxLen at hnm; omega
  obtain ⟨i0, hi0, hz0, hz1, hz2⟩ := info_parts info_sns
  have HI := Lib.hid (And.intro hi0 (And.intro hz0 (And.intro hz1 hz2)))
  clear K hn hR hnm hi0 hz0 hz1 hz2
  go_enter Try.func3, Try.ntmps3
  go_wp2_with fail
  refine (new_ok W 64 (by omega) (by omega)).mono ?_; rintro e w1 ⟨rfl, hm, hb1⟩
  obtain ⟨cb, hcb⟩ : ∃ cb, cb = W.heap.size := ⟨_, rfl⟩
  rw [← hcb] at hm ⊢
  obtain ⟨mb, hmb⟩ : ∃ mb, mb = cb + 1 := ⟨_, rfl⟩
  rw [← hmb] at hm ⊢
  have HO := Lib.hid (show W.heap.size ≤ cb ∧ cb < mb by omega)
  have HT := Lib.hid (TM.new 64 hm)
  have HB := Lib.hid hb1
  clear hm hb1 hcb hmb
  go_wp2_with fail
  refine (HFx.out _).mono ?_; rintro e w2 ⟨rfl, hb2⟩
  have HT := Lib.hid (HT.out.below hb2)
  have HB := Lib.hid (low_more HB.out hb2)
  clear hb2
  go_upto_region 5 with fail
  obtain ⟨g0, hg0⟩ : ∃ g0, g0 = w2.heap.size := ⟨_, rfl⟩
  obtain ⟨wa, hwa⟩ : ∃ wa, wa = w2.alloc (.cells #[.slice none 0 0] 34) := ⟨_, rfl⟩
  have hba : Below w2.heap.size w2 wa := by rw [hwa]; exact below_one
  have HV := Lib.hid (show VR W mb cb g0 g0 1 0 0 0 wa from ⟨⟨_, _, _, HT.out.below hba, Vers.new, by rw [hg0, hwa]; exact SawR.new (Nat.le_refl _), SawAll.new⟩, low_more HB.out hba, by have := HT.out.lt; have := HO.out; omega⟩)
  have HW := Lib.hid (And.intro hwa hg0)
  clear hba hwa hg0 HT HB
  go_upto_block 0 with fail
  rw [← HW.out.1, ← HW.out.2]
  clear HW
  go_cut [7] (fun sv wx => ∃ g cap n v N l : Nat, Hid (l = v + 1) ∧ N ≤ 20000 ∧ v ≤ 41 ∧ l ≤ 42 ∧ sv = .slice (some ⟨g, 0, none⟩) l cap ∧ Hid (VR W mb cb g0 g cap n v N wx))
  case first =>
    go_wp2_with fail
    go_loopw [5, 6, 7, 29] (fun nv vv sv iv wr => ∃ g cap n v i l : Nat, Hid (l = v + 1) ∧ i ≤ ni ∧ i ≤ 41 ∧ v ≤ i ∧ l ≤ 42 ∧ nv = .int .i64 (n : Int) ∧ vv = .int .u32 (v : Int) ∧ sv = .slice (some ⟨g, 0, none⟩) l cap ∧ iv = .int .i64 (i : Int) ∧ Hid (VR W mb cb g0 g cap n v (300 * i) wr)) (fun _ _ _ iv _ => ni - (intOf iv).toNat)
    case atStart => exact ⟨g0, 1, 0, 0, 0, 1, Lib.hid rfl, by omega, by omega, by omega, by omega, rfl, rfl, rfl, rfl, HV⟩
    case round =>
      clear HV
      obtain ⟨g, cap, n, v, i, l, HL, hi, hi41, hvi, hl42, rfl, rfl, rfl, rfl, HR⟩ := hrel
      by_cases hlt : i < ni
      · have hlt1 : (i : Int) < (ni : Int) := by omega
        obtain ⟨y, hy⟩ : ∃ y, R[i]? = some y := ⟨_, List.getElem?_eq_getElem (by rw [HE.out.1]; exact hlt)⟩
        obtain ⟨hok, gq, oq, rfl, c0, c1, c2, c3⟩ := (HE.out.2.below HR.out.low) i y hy
        obtain ⟨kl, ai, id, ln⟩ := y
        simp only at c0 c1 c2 c3
        have HOk := Lib.hid hok
        clear hy hok
        obtain ⟨wb, hwb⟩ : ∃ wb, wb = wr.alloc (.cells #[.bool kl, .int .u8 ai, .int .u32 id, .int .u32 ln] 31) := ⟨_, rfl⟩
        have hbb : Below wr.heap.size wr wb := by rw [hwb]; exact below_one
        have gb : wb.heap[wr.heap.size]? = some (.cells #[.bool kl, .int .u8 ai, .int .u32 id, .int .u32 ln] 31 (0, 0)) := by rw [hwb]; exact heap_alloc_new _ _
        have HRb := Lib.hid (HR.out.mod hbb)
        have HWb := Lib.hid (And.intro hwb gb)
        clear hbb hwb gb
        by_cases h40 : 40 < i
        · have h40b : (40 : Int) < (i : Int) := by omega
          go_wp2_with fail
          rw [← HWb.out.1]
          go_meet
          exact ⟨g, cap, n, v, 300 * i, l, HL, by omega, by omega, by omega, rfl, HRb⟩
        have h40b : ¬ (40 : Int) < (i : Int) := by omega
        obtain ⟨⟨cs, Hs, Ls, hT, hV, hSaw, hAll⟩, hlow, hord⟩ := HRb.out
        have hok := HOk.out
        unfold Ac.Ok at hok
        simp only at hok
        have hch := change_at HK.out hT (by omega) hV (by omega) (by omega) kl ai id ln hok.1.1 hok.1.2 hok.2.1 hok.2.2
        have HCh := Lib.hid hch
        have HA := Lib.hid (And.intro hV (And.intro hSaw (And.intro hAll (And.intro hlow hord))))
        clear hch hT hV hSaw hAll hlow hord hok HOk HR HRb
        go_wp2_with fail
        rw [← HWb.out.1]
        clear c0 c1 c2 c3
        refine HCh.out.mono ?_; rintro e w3 ⟨n', v', rfl, hC⟩
        obtain ⟨hmod, cs', hT', hcase⟩ := hC
        obtain ⟨hV, hSaw, hAll, hlow, hord⟩ := HA.out
        clear HCh HA
        rcases hcase with ⟨rfl, rfl, rfl⟩ | ⟨hv', hV', hsee⟩
        · have HR := Lib.hid (show VR W mb cb g0 g cap n' v (300 * (i + 1)) w3 from ⟨⟨_, _, _, hT'.more _ (by omega), hV, hSaw.mod hmod (by omega), hAll⟩, mem_low hlow hmod (by omega) (by omega), hord⟩)
          clear hmod hT' hV hSaw hAll hlow hord HWb
          go_wp2_with fail
          go_roundw
          case rel => exact ⟨g, cap, n', v, i + 1, l, HL, by omega, by omega, by omega, by omega, rfl, rfl, rfl, by go_num, HR⟩
          case measure => simp [intOf]; omega
        · obtain ⟨v2, hv2⟩ : ∃ v2 : Nat, v2 = v + 1 := ⟨_, rfl⟩
          obtain rfl : v' = (v2 : Int) := by omega
          have b1 : ((v2 : Int) == (v : Int)) = false := by simp; omega
          obtain ⟨L, hL⟩ : ∃ L, seenZ cs' 0 16 (v2 : Int) = L := ⟨_, rfl⟩
          have hLn : L.length ≤ 16 := by rw [← hL]; exact seenF_len _ _ _ _ _
          have hA2 := hAll.more hsee
          rw [show (v : Int) + 1 = (v2 : Int) by omega, hL] at hA2
          have hse := seen_at HK.out hT' (by omega) 0 16 (v2 : Int) (by omega) (by omega) (by omega) ⟨by omega, by omega⟩ (by have := hV'.len; omega) L hL L.length rfl
          have hS3 := hSaw.mod hmod (by omega)
          have hgb := hS3.block
          have hl3 := mem_low hlow hmod (by omega) (by omega)
          have HSe := Lib.hid hse
          have HA := Lib.hid (And.intro hV' (And.intro hS3 (And.intro hA2 (And.intro hl3 hord))))
          have HV2 := Lib.hid (And.intro hv2 (And.intro hLn hgb))
          clear hse hmod hT' hV hSaw hAll hlow hsee hV' hv' hA2 hL hS3 hl3 hord HWb hv2 hLn hgb
          go_wp2_with fail
          refine HSe.out.mono ?_; rintro e w4 ⟨hmod, hT4, oa, c, rfl, q1, q2, q3, q4⟩
          obtain ⟨hV', hS3, hA2, hl3, hord⟩ := HA.out
          obtain ⟨hv2, hLn, hgb⟩ := HV2.out
          have hS4 := hS3.mod hmod (by omega)
          have hl4 := mem_low hl3 hmod (by omega) (by omega)
          obtain ⟨wd, hwd⟩ : ∃ wd, wd = w4.alloc (.cells #[.slice oa L.length c] 34) := ⟨_, rfl⟩
          have hbd : Below w4.heap.size w4 wd := by rw [hwd]; exact below_one
          have hSd := hS4.below hbd
          have hHd : Hd wd g0 g (.slice oa L.length c) L := ⟨oa, c, rfl, q1, q2, q3.below hbd, fun ad e hL => by have := q4 ad e; omega⟩
          have hnews : ∀ (j : Nat) (u : Value), [Value.slice oa L.length c][j]? = some u → wd.cell? ((⟨w4.heap.size, 0, none⟩ : Addr).add j) = some u := by rw [hwd]; exact one_cell
          have hbase : g0 ≤ wd.heap.size := by have := hSd.block; omega
          have HN := Lib.hid (And.intro hSd (And.intro hHd (And.intro hnews hbase)))
          have HA := Lib.hid (And.intro hV' (And.intro hA2 (And.intro (low_more hl4 hbd) (And.intro hord (And.intro (hT4.below hbd) (hSd.block))))))
          have HWd := Lib.hid hwd
          have hl1 : l = v + 1 := HL.out
          subst hl1
          clear hmod hT4 q1 q2 q3 q4 hV' hS3 hA2 hl3 hord hv2 hLn hgb hS4 hl4 hwd hbd hSd hHd hnews hbase HSe
          go_wp2_with (at_builtin; rw [← HWd.out]; refine wpList_append_lies _ rfl (.tmp 56) (.tmp 58) 29 rfl g0 34 i0 _ 1 24 Try.underlying29 HI.out.1 HI.out.2.1 HI.out.2.2.1 HI.out.2.2.2 rfl (by decide) (.slice (some ⟨g, 0, none⟩) (v + 1) cap) (v + 1) Hs rfl HN.out.1.own ⟨w4.heap.size, 0, none⟩ 1 1 [.slice oa L.length c] rfl rfl HN.out.2.2.1 (by simp [Value.oneCell']) (by decide) (by unfold maxLen; omega) (by omega) HN.out.2.2.2 _ rfl ?_; intro g' c' w5 ho2 hg2 hl2 _; have HO2 := Lib.hid (And.intro ho2 (And.intro hg2 hl2)); clear ho2 hg2 hl2)
          go_roundw
          case rel =>
            obtain ⟨ho2, hg2, hl2⟩ := HO2.out
            obtain ⟨hV', hA2, hl5, hord, hT5, hgb⟩ := HA.out
            have hS5 := HN.out.1.more HN.out.2.1 ho2 hg2 hl2
            have hmg : Mod (fun k => k = g) wd w5 := (Mod.of_grown hg2).mono fun k _ e => by
              have e2 : some g = some k := e
              injection e2 with e2
              exact e2.symm
            have hgm : g0 ≤ g := hgb.1
            obtain ⟨hv2, _, _⟩ := HV2.out
            subst hv2
            exact ⟨g', c', n', v + 1, i + 1, v + 1 + 1, Lib.hid rfl, by omega, by omega, by omega, by omega, rfl, rfl, rfl, by go_num, Lib.hid ⟨⟨_, _, _, (hT5.mod hmg (by omega) (by omega)).more _ (by omega), hV', hS5, hA2⟩, low_mod hl5 hmg (by intro k e; omega), hord⟩⟩
          case measure => simp [intOf]; omega
      · go_wp2_with fail
        go_meet
        exact ⟨g, cap, n, v, 300 * i, l, HL, by omega, by omega, by omega, rfl, HR⟩
  case rest =>
    clear HV
    obtain ⟨g, cap, n, v, N, l, HL, hN, hv, hl42, rfl, HR⟩ := hcut
    go_wp2_with fail
    go_loopw [63] (fun kv wr => ∃ k : Nat, k ≤ l ∧ kv = .int .i64 (k : Int) ∧ Hid (VR W mb cb g0 g cap n v (N + 200 * k) wr)) (fun kv _ => l - (intOf kv).toNat)
    case atStart => exact ⟨0, by omega, rfl, HR⟩
    case round =>
      clear HR
      obtain ⟨k, hk, rfl, HR⟩ := hrel
      by_cases hlt : k < l
      · have hlt1 : (k : Int) < (l : Int) := by omega
        have s2 : IntKind.u32.wrap (k : Int) = (k : Int) := IntWalk.u32_in _ (by omega)
        obtain ⟨⟨cs, Hs, Ls, hT, hV, hSaw, hAll⟩, hlow, hord⟩ := HR.out
        obtain ⟨L, hL⟩ : ∃ L, seenZ cs 0 16 (k : Int) = L := ⟨_, rfl⟩
        have hLn : L.length ≤ 16 := by rw [← hL]; exact seenF_len _ _ _ _ _
        have hLk := hAll.2 k (by have := HL.out; omega)
        rw [hL] at hLk
        have hse := seen_at HK.out hT (by omega) 0 16 (k : Int) (by omega) (by omega) (by omega) ⟨by omega, by omega⟩ (by have := hV.len; omega) L hL L.length rfl
        have HSe := Lib.hid hse
        have HA := Lib.hid (And.intro hV (And.intro hSaw (And.intro hAll (And.intro hlow hord))))
        have HLk := Lib.hid (And.intro hLk hLn)
        clear hse hT hV hSaw hAll hlow hord hL hLk hLn HR
        go_wp2_with fail
        refine HSe.out.mono ?_; rintro e w4 ⟨hmod, hT4, oa, c, rfl, q1, q2, q3, q4⟩
        obtain ⟨hV, hSaw, hAll, hlow, hord⟩ := HA.out
        have hS4 := hSaw.mod hmod (by omega)
        obtain ⟨ob, c', hc', _, _, hRb⟩ := hS4.get HLk.out.1
        have hsm := same_sns w4 oa ob c c' L L q3 hRb (by have := HLk.out.2; omega)
        rw [decide_eq_true rfl] at hsm
        have HSm := Lib.hid hsm
        have HR := Lib.hid (show VR W mb cb g0 g cap n v (N + 200 * (k + 1)) w4 from ⟨⟨_, _, _, hT4.more _ (by omega), hV, hS4, hAll⟩, mem_low hlow hmod (by omega) (by omega), hord⟩)
        clear hmod hT4 q1 q2 q3 q4 hV hSaw hAll hlow hord hS4 hRb hsm HSe HA
        go_wp2_with fail
        refine HSm.out.mono ?_; rintro e w5 ⟨rfl, hb5⟩
        have HR := Lib.hid (HR.out.mod hb5)
        clear hb5 HSm hc'
        go_wp2_with fail
        go_roundw
        case rel => exact ⟨k + 1, by omega, by go_num, HR⟩
        case measure => simp [intOf]; omega
      · go_wp2_with fail
        go_ret
        exact ⟨rfl, HR.out.low⟩
end Go.Proofs.Ytgponhdmhgdalaa
