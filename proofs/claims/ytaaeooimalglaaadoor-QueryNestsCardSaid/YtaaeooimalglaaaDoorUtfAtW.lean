/-
  The reference's at, over the program's own text.
-/
import Derived.Test.YtaaeooimalglaaaDoorUtfAt
namespace Go.Proofs.YtaaeooimalglaaaDoor
open Go.RowKit

set_option maxRecDepth 100000 in
set_option maxHeartbeats 2000000 in
theorem at_any (w : World) (s : ByteArray) (i : Nat) (hi : i < s.size) (hs : s.size ≤ maxLen) :
    Calls Tryd.prog 19 #[.string s, .int .i64 i] w fun e w' => e = .returned (.tuple #[.int .i32 (atR s i).1, .int .i64 (atR s i).2]) ∧ Below w.heap.size w w' := by
  unfold maxLen at hs
  have hg : (s[i]'hi).toNat = byteAt s i := byte_get hi
  have e0 : ((s[i]'hi).toNat : Int) ≤ 255 := by have := byteAt_lt s i; omega
  obtain ⟨r, hr⟩ : ∃ r : Int, r = (atR s i).1 := ⟨_, rfl⟩
  obtain ⟨m, hm⟩ : ∃ m : Int, m = (atR s i).2 := ⟨_, rfl⟩
  rw [← hr, ← hm]
  have HR := Lib.hid (And.intro hr hm)
  have HG := Lib.hid hg
  clear hr hm hg
  go_enter Tryd.func19, Tryd.ntmps19
  go_upto_region 4 with fail
  generalize hb : ((s[i]'hi).toNat : Int) = b
  have hb0 : 0 ≤ b := by omega
  have hb1 : b ≤ 255 := by omega
  have HB := Lib.hid (show b = (byteAt s i : Nat) by rw [← hb, HG.out])
  clear hb e0 HG
  by_cases hlow : b < 128
  · have HV := Lib.hid (at_low (s := s) (i := i) (by have := HB.out; omega))
    obtain rfl : r = b := by rw [HR.out.1, HV.out, HB.out]
    obtain rfl : m = 1 := by rw [HR.out.2, HV.out]; rfl
    clear HR HB HV
    go_wp2_with fail
    go_ret2
    exact ⟨rfl, Below.refl _ _⟩
  have hcase : b < 192 ∨ 248 ≤ b ∨ (192 ≤ b ∧ b < 224) ∨ (224 ≤ b ∧ b < 240) ∨ (240 ≤ b ∧ b < 248) := by omega
  rcases hcase with hcase | hcase | hcase | hcase | hcase
  · have HV := Lib.hid (at_none (s := s) (i := i) (n := 0) (k := 0) (.inl ⟨rfl, by have := HB.out; omega, by have := HB.out; omega⟩) (.inl rfl))
    obtain rfl : r = 0 := by rw [HR.out.1, HV.out]; rfl
    obtain rfl : m = 0 := by rw [HR.out.2, HV.out]; rfl
    have n2 : ¬ 192 ≤ b := by omega
    have n4 : ¬ 224 ≤ b := by omega
    have n5 : ¬ 240 ≤ b := by omega
    clear hcase HR HB HV
    go_wp2_with fail
    go_ret2
    exact ⟨rfl, Below.refl _ _⟩
  · have HV := Lib.hid (at_none (s := s) (i := i) (n := 0) (k := 0) (.inl ⟨rfl, by have := HB.out; omega, by have := HB.out; omega⟩) (.inl rfl))
    obtain rfl : r = 0 := by rw [HR.out.1, HV.out]; rfl
    obtain rfl : m = 0 := by rw [HR.out.2, HV.out]; rfl
    have n2 : 192 ≤ b := by omega
    have n3 : ¬ b < 224 := by omega
    have n4 : 224 ≤ b := by omega
    have n6 : ¬ b < 240 := by omega
    have n5 : 240 ≤ b := by omega
    have n7 : ¬ b < 248 := by omega
    clear hcase HR HB HV
    go_wp2_with fail
    go_ret2
    exact ⟨rfl, Below.refl _ _⟩
  · obtain ⟨n, hn⟩ : ∃ n : Nat, (n : Int) = b - 192 := ⟨(b - 192).toNat, by omega⟩
    have hS : Start (byteAt s i) n 2 := .inr (.inl ⟨rfl, by have := HB.out; omega, by have := HB.out; omega, by have := HB.out; omega⟩)
    have n2 : 192 ≤ b := by omega
    have n3 : b < 224 := by omega
    have n4 : ¬ 224 ≤ b := by omega
    have n5 : ¬ 240 ≤ b := by omega
    have hnb : Bnd (2 - 1) n := ⟨fun h => by omega, fun h => by omega, fun h => by omega, fun h => by omega⟩
    have HS := Lib.hid hS
    have HNB := Lib.hid hnb
    clear hcase hS hnb
    go_upto_region 12 with fail
    rw [← hn]
    clear HB hn hb0 hb1 hlow
    by_cases hsh : s.size < i + 2
    · have HV := Lib.hid (at_none HS.out (.inr hsh))
      obtain rfl : r = 0 := by rw [HR.out.1, HV.out]; rfl
      obtain rfl : m = 0 := by rw [HR.out.2, HV.out]; rfl
      have hsh1 : (s.size : Int) - (i : Int) < 2 := by omega
      clear hsh HR HS HV HNB
      go_wp2_with fail
      go_ret2
      exact ⟨rfl, Below.refl _ _⟩
    · have hsh1 : ¬ (s.size : Int) - (i : Int) < 2 := by omega
      have hsz : i + 2 ≤ s.size := by omega
      clear hsh
      go_wp2_with fail
      go_loop [7, 9] (fun v7 v9 => ∃ (j n' : Nat), 1 ≤ j ∧ j ≤ 2 ∧ v9 = .int .i64 j ∧ v7 = .int .i64 n' ∧ Bnd (2 - j) n' ∧ n' = accU s i n j ∧ Conts s i j) (fun _ v9 => 2 - (intOf v9).toNat)
      case atStart => exact ⟨1, n, by omega, by omega, rfl, rfl, HNB.out, rfl, fun t h1 h2 => by omega⟩
      case round =>
        obtain ⟨j, n', hj1, hjK, rfl, rfl, hB, hacc, hco⟩ := hrel
        have HA := Lib.hid (And.intro hB (And.intro hacc hco))
        clear hB hacc hco
        by_cases hlt : j < 2
        · have hij : i + j < s.size := by omega
          have hg : (s[i + j]'hij).toNat = byteAt s (i + j) := byte_get hij
          have e0 : ((s[i + j]'hij).toNat : Int) ≤ 255 := by have := byteAt_lt s (i + j); omega
          have HG := Lib.hid hg
          have hn7 : (n' : Int) ≤ 32767 := by
            obtain ⟨_, b1, b2, b3⟩ := HA.out.1
            have : 2 - j = 1 ∨ 2 - j = 2 ∨ 2 - j = 3 := by omega
            rcases this with h | h | h
            · have := b1 h; omega
            · have := b2 h; omega
            · have := b3 h; omega
          clear hg
          go_upto_region 18 with fail
          generalize hc : ((s[i + j]'hij).toNat : Int) = c
          have hc0 : 0 ≤ c := by omega
          have hc1 : c ≤ 255 := by omega
          have HC := Lib.hid (show c = (byteAt s (i + j) : Nat) by rw [← hc, HG.out])
          clear hc e0 HG
          by_cases hbad : c < 128 ∨ 191 < c
          · have HV := Lib.hid (at_bad HS.out hj1 hlt (by have := HC.out; omega))
            obtain rfl : r = 0 := by rw [HR.out.1, HV.out]; rfl
            obtain rfl : m = 0 := by rw [HR.out.2, HV.out]; rfl
            clear HR HV HC HS HA
            rcases hbad with hbad | hbad
            · go_wp2_with fail
              go_ret2
              exact ⟨rfl, Below.refl _ _⟩
            · have hbad2 : ¬ c < 128 := by omega
              go_wp2_with fail
              go_ret2
              exact ⟨rfl, Below.refl _ _⟩
          · have hb2 : ¬ c < 128 := by omega
            have hb3 : ¬ 191 < c := by omega
            clear hbad
            go_wp2_with fail
            go_round
            case rel =>
              obtain ⟨b0, hacc, hco⟩ := HA.out
              have hC := HC.out
              refine ⟨j + 1, n' * 64 + byteAt s (i + j) % 64, by omega, by omega, by go_num, ?_, ?_, ?_, ?_⟩
              · have : (n' : Int) * 64 + c - 128 = ((n' * 64 + byteAt s (i + j) % 64 : Nat) : Int) := by omega
                rw [this]
              · obtain ⟨d0, d1, d2, d3⟩ := b0
                refine ⟨fun h => ?_, fun h => ?_, fun h => ?_, fun h => ?_⟩
                · have := d1 (by omega); omega
                · have := d2 (by omega); omega
                · have := d3 (by omega); omega
                · omega
              · obtain ⟨j', rfl⟩ : ∃ j', j = j' + 1 := ⟨j - 1, by omega⟩
                rw [accU, ← hacc]
              · intro t h1 h2
                by_cases e : t < j
                · exact hco t h1 e
                · obtain rfl : t = j := by omega
                  omega
            case measure => simp [intOf]; omega
        · obtain rfl : j = 2 := by omega
          obtain ⟨b0, hacc, hco⟩ := HA.out
          have hn7 : (n' : Int) ≤ 2097151 := by have := b0.1 (by omega); omega
          have HG := Lib.hid (at_good HS.out (by omega) hco)
          rw [← hacc] at HG
          by_cases hok : okR n'
          · have hlen := encR_length n'
            obtain ⟨le, hle⟩ : ∃ le, le = (encR n').length := ⟨_, rfl⟩
            have HBY := Lib.hid (show ∀ w : World, Calls Tryd.prog 21 #[.int .i32 n'] w fun e w' => ∃ g, e = .returned (.slice (some ⟨g, 0, none⟩) le le) ∧ Below w.heap.size w w' from fun w => by rw [hle]; exact (bytes_ok w n' hok).mono fun _ _ ⟨g, h1, _, h3⟩ => ⟨g, h1, h3⟩)
            have HMY := Lib.hid (fun w => may_yes w n' hok)
            by_cases hk : le = 2
            · obtain rfl : r = n' := by rw [HR.out.1, HG.out, if_pos ⟨hok, by rw [← hle]; exact hk⟩]
              obtain rfl : m = 2 := by rw [HR.out.2, HG.out, if_pos ⟨hok, by rw [← hle]; exact hk⟩]; rfl
              have hk2 : ((le : Int) != 2) = false := by simp [hk]
              clear HR HG HS HA b0 hacc hco hlen hle hk hok
              go_wp2_with (first
                | (go_at_call 31; refine (HMY.out _).mono ?_; rintro e w' ⟨rfl, rfl⟩)
                | (go_at_call 21; refine (HBY.out _).mono ?_; rintro e w2 ⟨g, rfl, hb2⟩; have HB2 := Lib.hid hb2; clear hb2))
              go_ret2
              exact ⟨rfl, HB2.out⟩
            · have hne : ¬ (okR n' ∧ (encR n').length = 2) := fun h => hk (hle.trans h.2)
              obtain rfl : r = 0 := by rw [HR.out.1, HG.out, if_neg hne]; rfl
              obtain rfl : m = 0 := by rw [HR.out.2, HG.out, if_neg hne]; rfl
              have hk2 : ((le : Int) != 2) = true := by simp; omega
              clear HR HG HS HA b0 hacc hco hlen hle hk hok hne
              go_wp2_with (first
                | (go_at_call 31; refine (HMY.out _).mono ?_; rintro e w' ⟨rfl, rfl⟩)
                | (go_at_call 21; refine (HBY.out _).mono ?_; rintro e w2 ⟨g, rfl, hb2⟩; have HB2 := Lib.hid hb2; clear hb2))
              go_ret2
              exact ⟨rfl, HB2.out⟩
          · have hne : ¬ (okR n' ∧ (encR n').length = 2) := fun h => hok h.1
            obtain rfl : r = 0 := by rw [HR.out.1, HG.out, if_neg hne]; rfl
            obtain rfl : m = 0 := by rw [HR.out.2, HG.out, if_neg hne]; rfl
            have HMY := Lib.hid (fun w => may_no w n' (fun h => hok (by simpa using h.2)))
            clear HR HG HS HA b0 hacc hco hne hok
            go_wp2_with (go_at_call 31; refine (HMY.out _).mono ?_; rintro e w' ⟨rfl, rfl⟩)
            go_ret2
            exact ⟨rfl, Below.refl _ _⟩
  · obtain ⟨n, hn⟩ : ∃ n : Nat, (n : Int) = b - 224 := ⟨(b - 224).toNat, by omega⟩
    have hS : Start (byteAt s i) n 3 := .inr (.inr (.inl ⟨rfl, by have := HB.out; omega, by have := HB.out; omega, by have := HB.out; omega⟩))
    have n2 : 192 ≤ b := by omega
    have n3 : ¬ b < 224 := by omega
    have n4 : 224 ≤ b := by omega
    have n6 : b < 240 := by omega
    have n5 : ¬ 240 ≤ b := by omega
    have hnb : Bnd (3 - 1) n := ⟨fun h => by omega, fun h => by omega, fun h => by omega, fun h => by omega⟩
    have HS := Lib.hid hS
    have HNB := Lib.hid hnb
    clear hcase hS hnb
    go_upto_region 12 with fail
    rw [← hn]
    clear HB hn hb0 hb1 hlow
    by_cases hsh : s.size < i + 3
    · have HV := Lib.hid (at_none HS.out (.inr hsh))
      obtain rfl : r = 0 := by rw [HR.out.1, HV.out]; rfl
      obtain rfl : m = 0 := by rw [HR.out.2, HV.out]; rfl
      have hsh1 : (s.size : Int) - (i : Int) < 3 := by omega
      clear hsh HR HS HV HNB
      go_wp2_with fail
      go_ret2
      exact ⟨rfl, Below.refl _ _⟩
    · have hsh1 : ¬ (s.size : Int) - (i : Int) < 3 := by omega
      have hsz : i + 3 ≤ s.size := by omega
      clear hsh
      go_wp2_with fail
      go_loop [7, 9] (fun v7 v9 => ∃ (j n' : Nat), 1 ≤ j ∧ j ≤ 3 ∧ v9 = .int .i64 j ∧ v7 = .int .i64 n' ∧ Bnd (3 - j) n' ∧ n' = accU s i n j ∧ Conts s i j) (fun _ v9 => 3 - (intOf v9).toNat)
      case atStart => exact ⟨1, n, by omega, by omega, rfl, rfl, HNB.out, rfl, fun t h1 h2 => by omega⟩
      case round =>
        obtain ⟨j, n', hj1, hjK, rfl, rfl, hB, hacc, hco⟩ := hrel
        have HA := Lib.hid (And.intro hB (And.intro hacc hco))
        clear hB hacc hco
        by_cases hlt : j < 3
        · have hij : i + j < s.size := by omega
          have hg : (s[i + j]'hij).toNat = byteAt s (i + j) := byte_get hij
          have e0 : ((s[i + j]'hij).toNat : Int) ≤ 255 := by have := byteAt_lt s (i + j); omega
          have HG := Lib.hid hg
          have hn7 : (n' : Int) ≤ 32767 := by
            obtain ⟨_, b1, b2, b3⟩ := HA.out.1
            have : 3 - j = 1 ∨ 3 - j = 2 ∨ 3 - j = 3 := by omega
            rcases this with h | h | h
            · have := b1 h; omega
            · have := b2 h; omega
            · have := b3 h; omega
          clear hg
          go_upto_region 18 with fail
          generalize hc : ((s[i + j]'hij).toNat : Int) = c
          have hc0 : 0 ≤ c := by omega
          have hc1 : c ≤ 255 := by omega
          have HC := Lib.hid (show c = (byteAt s (i + j) : Nat) by rw [← hc, HG.out])
          clear hc e0 HG
          by_cases hbad : c < 128 ∨ 191 < c
          · have HV := Lib.hid (at_bad HS.out hj1 hlt (by have := HC.out; omega))
            obtain rfl : r = 0 := by rw [HR.out.1, HV.out]; rfl
            obtain rfl : m = 0 := by rw [HR.out.2, HV.out]; rfl
            clear HR HV HC HS HA
            rcases hbad with hbad | hbad
            · go_wp2_with fail
              go_ret2
              exact ⟨rfl, Below.refl _ _⟩
            · have hbad2 : ¬ c < 128 := by omega
              go_wp2_with fail
              go_ret2
              exact ⟨rfl, Below.refl _ _⟩
          · have hb2 : ¬ c < 128 := by omega
            have hb3 : ¬ 191 < c := by omega
            clear hbad
            go_wp2_with fail
            go_round
            case rel =>
              obtain ⟨b0, hacc, hco⟩ := HA.out
              have hC := HC.out
              refine ⟨j + 1, n' * 64 + byteAt s (i + j) % 64, by omega, by omega, by go_num, ?_, ?_, ?_, ?_⟩
              · have : (n' : Int) * 64 + c - 128 = ((n' * 64 + byteAt s (i + j) % 64 : Nat) : Int) := by omega
                rw [this]
              · obtain ⟨d0, d1, d2, d3⟩ := b0
                refine ⟨fun h => ?_, fun h => ?_, fun h => ?_, fun h => ?_⟩
                · have := d1 (by omega); omega
                · have := d2 (by omega); omega
                · have := d3 (by omega); omega
                · omega
              · obtain ⟨j', rfl⟩ : ∃ j', j = j' + 1 := ⟨j - 1, by omega⟩
                rw [accU, ← hacc]
              · intro t h1 h2
                by_cases e : t < j
                · exact hco t h1 e
                · obtain rfl : t = j := by omega
                  omega
            case measure => simp [intOf]; omega
        · obtain rfl : j = 3 := by omega
          obtain ⟨b0, hacc, hco⟩ := HA.out
          have hn7 : (n' : Int) ≤ 2097151 := by have := b0.1 (by omega); omega
          have HG := Lib.hid (at_good HS.out (by omega) hco)
          rw [← hacc] at HG
          by_cases hok : okR n'
          · have hlen := encR_length n'
            obtain ⟨le, hle⟩ : ∃ le, le = (encR n').length := ⟨_, rfl⟩
            have HBY := Lib.hid (show ∀ w : World, Calls Tryd.prog 21 #[.int .i32 n'] w fun e w' => ∃ g, e = .returned (.slice (some ⟨g, 0, none⟩) le le) ∧ Below w.heap.size w w' from fun w => by rw [hle]; exact (bytes_ok w n' hok).mono fun _ _ ⟨g, h1, _, h3⟩ => ⟨g, h1, h3⟩)
            have HMY := Lib.hid (fun w => may_yes w n' hok)
            by_cases hk : le = 3
            · obtain rfl : r = n' := by rw [HR.out.1, HG.out, if_pos ⟨hok, by rw [← hle]; exact hk⟩]
              obtain rfl : m = 3 := by rw [HR.out.2, HG.out, if_pos ⟨hok, by rw [← hle]; exact hk⟩]; rfl
              have hk2 : ((le : Int) != 3) = false := by simp [hk]
              clear HR HG HS HA b0 hacc hco hlen hle hk hok
              go_wp2_with (first
                | (go_at_call 31; refine (HMY.out _).mono ?_; rintro e w' ⟨rfl, rfl⟩)
                | (go_at_call 21; refine (HBY.out _).mono ?_; rintro e w2 ⟨g, rfl, hb2⟩; have HB2 := Lib.hid hb2; clear hb2))
              go_ret2
              exact ⟨rfl, HB2.out⟩
            · have hne : ¬ (okR n' ∧ (encR n').length = 3) := fun h => hk (hle.trans h.2)
              obtain rfl : r = 0 := by rw [HR.out.1, HG.out, if_neg hne]; rfl
              obtain rfl : m = 0 := by rw [HR.out.2, HG.out, if_neg hne]; rfl
              have hk2 : ((le : Int) != 3) = true := by simp; omega
              clear HR HG HS HA b0 hacc hco hlen hle hk hok hne
              go_wp2_with (first
                | (go_at_call 31; refine (HMY.out _).mono ?_; rintro e w' ⟨rfl, rfl⟩)
                | (go_at_call 21; refine (HBY.out _).mono ?_; rintro e w2 ⟨g, rfl, hb2⟩; have HB2 := Lib.hid hb2; clear hb2))
              go_ret2
              exact ⟨rfl, HB2.out⟩
          · have hne : ¬ (okR n' ∧ (encR n').length = 3) := fun h => hok h.1
            obtain rfl : r = 0 := by rw [HR.out.1, HG.out, if_neg hne]; rfl
            obtain rfl : m = 0 := by rw [HR.out.2, HG.out, if_neg hne]; rfl
            have HMY := Lib.hid (fun w => may_no w n' (fun h => hok (by simpa using h.2)))
            clear HR HG HS HA b0 hacc hco hne hok
            go_wp2_with (go_at_call 31; refine (HMY.out _).mono ?_; rintro e w' ⟨rfl, rfl⟩)
            go_ret2
            exact ⟨rfl, Below.refl _ _⟩
  · obtain ⟨n, hn⟩ : ∃ n : Nat, (n : Int) = b - 240 := ⟨(b - 240).toNat, by omega⟩
    have hS : Start (byteAt s i) n 4 := .inr (.inr (.inr ⟨rfl, by have := HB.out; omega, by have := HB.out; omega, by have := HB.out; omega⟩))
    have n2 : 192 ≤ b := by omega
    have n3 : ¬ b < 224 := by omega
    have n4 : 224 ≤ b := by omega
    have n6 : ¬ b < 240 := by omega
    have n5 : 240 ≤ b := by omega
    have n7 : b < 248 := by omega
    have hnb : Bnd (4 - 1) n := ⟨fun h => by omega, fun h => by omega, fun h => by omega, fun h => by omega⟩
    have HS := Lib.hid hS
    have HNB := Lib.hid hnb
    clear hcase hS hnb
    go_upto_region 12 with fail
    rw [← hn]
    clear HB hn hb0 hb1 hlow
    by_cases hsh : s.size < i + 4
    · have HV := Lib.hid (at_none HS.out (.inr hsh))
      obtain rfl : r = 0 := by rw [HR.out.1, HV.out]; rfl
      obtain rfl : m = 0 := by rw [HR.out.2, HV.out]; rfl
      have hsh1 : (s.size : Int) - (i : Int) < 4 := by omega
      clear hsh HR HS HV HNB
      go_wp2_with fail
      go_ret2
      exact ⟨rfl, Below.refl _ _⟩
    · have hsh1 : ¬ (s.size : Int) - (i : Int) < 4 := by omega
      have hsz : i + 4 ≤ s.size := by omega
      clear hsh
      go_wp2_with fail
      go_loop [7, 9] (fun v7 v9 => ∃ (j n' : Nat), 1 ≤ j ∧ j ≤ 4 ∧ v9 = .int .i64 j ∧ v7 = .int .i64 n' ∧ Bnd (4 - j) n' ∧ n' = accU s i n j ∧ Conts s i j) (fun _ v9 => 4 - (intOf v9).toNat)
      case atStart => exact ⟨1, n, by omega, by omega, rfl, rfl, HNB.out, rfl, fun t h1 h2 => by omega⟩
      case round =>
        obtain ⟨j, n', hj1, hjK, rfl, rfl, hB, hacc, hco⟩ := hrel
        have HA := Lib.hid (And.intro hB (And.intro hacc hco))
        clear hB hacc hco
        by_cases hlt : j < 4
        · have hij : i + j < s.size := by omega
          have hg : (s[i + j]'hij).toNat = byteAt s (i + j) := byte_get hij
          have e0 : ((s[i + j]'hij).toNat : Int) ≤ 255 := by have := byteAt_lt s (i + j); omega
          have HG := Lib.hid hg
          have hn7 : (n' : Int) ≤ 32767 := by
            obtain ⟨_, b1, b2, b3⟩ := HA.out.1
            have : 4 - j = 1 ∨ 4 - j = 2 ∨ 4 - j = 3 := by omega
            rcases this with h | h | h
            · have := b1 h; omega
            · have := b2 h; omega
            · have := b3 h; omega
          clear hg
          go_upto_region 18 with fail
          generalize hc : ((s[i + j]'hij).toNat : Int) = c
          have hc0 : 0 ≤ c := by omega
          have hc1 : c ≤ 255 := by omega
          have HC := Lib.hid (show c = (byteAt s (i + j) : Nat) by rw [← hc, HG.out])
          clear hc e0 HG
          by_cases hbad : c < 128 ∨ 191 < c
          · have HV := Lib.hid (at_bad HS.out hj1 hlt (by have := HC.out; omega))
            obtain rfl : r = 0 := by rw [HR.out.1, HV.out]; rfl
            obtain rfl : m = 0 := by rw [HR.out.2, HV.out]; rfl
            clear HR HV HC HS HA
            rcases hbad with hbad | hbad
            · go_wp2_with fail
              go_ret2
              exact ⟨rfl, Below.refl _ _⟩
            · have hbad2 : ¬ c < 128 := by omega
              go_wp2_with fail
              go_ret2
              exact ⟨rfl, Below.refl _ _⟩
          · have hb2 : ¬ c < 128 := by omega
            have hb3 : ¬ 191 < c := by omega
            clear hbad
            go_wp2_with fail
            go_round
            case rel =>
              obtain ⟨b0, hacc, hco⟩ := HA.out
              have hC := HC.out
              refine ⟨j + 1, n' * 64 + byteAt s (i + j) % 64, by omega, by omega, by go_num, ?_, ?_, ?_, ?_⟩
              · have : (n' : Int) * 64 + c - 128 = ((n' * 64 + byteAt s (i + j) % 64 : Nat) : Int) := by omega
                rw [this]
              · obtain ⟨d0, d1, d2, d3⟩ := b0
                refine ⟨fun h => ?_, fun h => ?_, fun h => ?_, fun h => ?_⟩
                · have := d1 (by omega); omega
                · have := d2 (by omega); omega
                · have := d3 (by omega); omega
                · omega
              · obtain ⟨j', rfl⟩ : ∃ j', j = j' + 1 := ⟨j - 1, by omega⟩
                rw [accU, ← hacc]
              · intro t h1 h2
                by_cases e : t < j
                · exact hco t h1 e
                · obtain rfl : t = j := by omega
                  omega
            case measure => simp [intOf]; omega
        · obtain rfl : j = 4 := by omega
          obtain ⟨b0, hacc, hco⟩ := HA.out
          have hn7 : (n' : Int) ≤ 2097151 := by have := b0.1 (by omega); omega
          have HG := Lib.hid (at_good HS.out (by omega) hco)
          rw [← hacc] at HG
          by_cases hok : okR n'
          · have hlen := encR_length n'
            obtain ⟨le, hle⟩ : ∃ le, le = (encR n').length := ⟨_, rfl⟩
            have HBY := Lib.hid (show ∀ w : World, Calls Tryd.prog 21 #[.int .i32 n'] w fun e w' => ∃ g, e = .returned (.slice (some ⟨g, 0, none⟩) le le) ∧ Below w.heap.size w w' from fun w => by rw [hle]; exact (bytes_ok w n' hok).mono fun _ _ ⟨g, h1, _, h3⟩ => ⟨g, h1, h3⟩)
            have HMY := Lib.hid (fun w => may_yes w n' hok)
            by_cases hk : le = 4
            · obtain rfl : r = n' := by rw [HR.out.1, HG.out, if_pos ⟨hok, by rw [← hle]; exact hk⟩]
              obtain rfl : m = 4 := by rw [HR.out.2, HG.out, if_pos ⟨hok, by rw [← hle]; exact hk⟩]; rfl
              have hk2 : ((le : Int) != 4) = false := by simp [hk]
              clear HR HG HS HA b0 hacc hco hlen hle hk hok
              go_wp2_with (first
                | (go_at_call 31; refine (HMY.out _).mono ?_; rintro e w' ⟨rfl, rfl⟩)
                | (go_at_call 21; refine (HBY.out _).mono ?_; rintro e w2 ⟨g, rfl, hb2⟩; have HB2 := Lib.hid hb2; clear hb2))
              go_ret2
              exact ⟨rfl, HB2.out⟩
            · have hne : ¬ (okR n' ∧ (encR n').length = 4) := fun h => hk (hle.trans h.2)
              obtain rfl : r = 0 := by rw [HR.out.1, HG.out, if_neg hne]; rfl
              obtain rfl : m = 0 := by rw [HR.out.2, HG.out, if_neg hne]; rfl
              have hk2 : ((le : Int) != 4) = true := by simp; omega
              clear HR HG HS HA b0 hacc hco hlen hle hk hok hne
              go_wp2_with (first
                | (go_at_call 31; refine (HMY.out _).mono ?_; rintro e w' ⟨rfl, rfl⟩)
                | (go_at_call 21; refine (HBY.out _).mono ?_; rintro e w2 ⟨g, rfl, hb2⟩; have HB2 := Lib.hid hb2; clear hb2))
              go_ret2
              exact ⟨rfl, HB2.out⟩
          · have hne : ¬ (okR n' ∧ (encR n').length = 4) := fun h => hok h.1
            obtain rfl : r = 0 := by rw [HR.out.1, HG.out, if_neg hne]; rfl
            obtain rfl : m = 0 := by rw [HR.out.2, HG.out, if_neg hne]; rfl
            have HMY := Lib.hid (fun w => may_no w n' (fun h => hok (by simpa using h.2)))
            clear HR HG HS HA b0 hacc hco hne hok
            go_wp2_with (go_at_call 31; refine (HMY.out _).mono ?_; rintro e w' ⟨rfl, rfl⟩)
            go_ret2
            exact ⟨rfl, Below.refl _ _⟩
end Go.Proofs.YtaaeooimalglaaaDoor
