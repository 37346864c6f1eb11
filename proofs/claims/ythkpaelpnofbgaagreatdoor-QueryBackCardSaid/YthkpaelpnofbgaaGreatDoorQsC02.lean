/-
  The reference's at, over the program's own text.
-/
import Derived.Test.YthkpaelpnofbgaaGreatDoorQsC01
import Derived.OwnWalk
import Derived.Laws.AppendOwn
import Derived.Lib.BufferRead
import Derived.Lib.AppendStr
import Derived.BigQuiet
namespace Go.Proofs.YthkpaelpnofbgaaGreatDoor
open Go.RowKit

set_option maxRecDepth 100000 in
set_option maxHeartbeats 2000000 in
theorem at_any (w : World) (s : ByteArray) (i : Nat) (hi : i < s.size) (hs : s.size ≤ maxLen) :
    Calls Tryz.prog 99 #[.string s, .int .i64 i] w fun e w' => e = .returned (.tuple #[.int .i32 (atR s i).1, .int .i64 (atR s i).2]) ∧ Below w.heap.size w w' := by
  unfold maxLen at hs
  have hg : (s[i]'hi).toNat = byteAt s i := byte_get hi
  have e0 : ((s[i]'hi).toNat : Int) ≤ 255 := by have := byteAt_lt s i; omega
  obtain ⟨r, hr⟩ : ∃ r : Int, r = (atR s i).1 := ⟨_, rfl⟩
  obtain ⟨m, hm⟩ : ∃ m : Int, m = (atR s i).2 := ⟨_, rfl⟩
  rw [← hr, ← hm]
  have HR := Lib.hid (And.intro hr hm)
  have HG := Lib.hid hg
  clear hr hm hg
  go_enter Tryz.func99, Tryz.ntmps99
  go_upto_region 4 with fail
  generalize hb : ((s[i]'hi).toNat : Int) = b
  have hb0 : 0 ≤ b := by omega
  have hb1 : b ≤ 255 := by omega
  have HB := Lib.hid (show b = (byteAt s i : Nat) by rw [← hb, HG.out])
  clear hb e0 HG
  by_cases hlow : b < 128
  · have HV := Lib.hid (at_low (s := s) (i := i) (by have := HB.out; omega))
    obtain rfl : r = b := by rw [HR.out.1, HV.out, HB.out]
    obtain rfl : m = 1 := by rw [HR.out.2, HV.out]; rfl
    clear HR HB HV
    go_wp2_with fail
    go_ret2
    exact ⟨rfl, Below.refl _ _⟩
  have hcase : b < 192 ∨ 248 ≤ b ∨ (192 ≤ b ∧ b < 224) ∨ (224 ≤ b ∧ b < 240) ∨ (240 ≤ b ∧ b < 248) := by omega
  rcases hcase with hcase | hcase | hcase | hcase | hcase
  · have HV := Lib.hid (at_none (s := s) (i := i) (n := 0) (k := 0) (.inl ⟨rfl, by have := HB.out; omega, by have := HB.out; omega⟩) (.inl rfl))
    obtain rfl : r = 0 := by rw [HR.out.1, HV.out]; rfl
    obtain rfl : m = 0 := by rw [HR.out.2, HV.out]; rfl
    have n2 : ¬ 192 ≤ b := by omega
    have n4 : ¬ 224 ≤ b := by omega
    have n5 : ¬ 240 ≤ b := by omega
    clear hcase HR HB HV
    go_wp2_with fail
    go_ret2
    exact ⟨rfl, Below.refl _ _⟩
  · have HV := Lib.hid (at_none (s := s) (i := i) (n := 0) (k := 0) (.inl ⟨rfl, by have := HB.out; omega, by have := HB.out; omega⟩) (.inl rfl))
    obtain rfl : r = 0 := by rw [HR.out.1, HV.out]; rfl
    obtain rfl : m = 0 := by rw [HR.out.2, HV.out]; rfl
    have n2 : 192 ≤ b := by omega
    have n3 : ¬ b < 224 := by omega
    have n4 : 224 ≤ b := by omega
    have n6 : ¬ b < 240 := by omega
    have n5 : 240 ≤ b := by omega
    have n7 : ¬ b < 248 := by omega
    clear hcase HR HB HV
    go_wp2_with fail
    go_ret2
    exact ⟨rfl, Below.refl _ _⟩
  · obtain ⟨n, hn⟩ : ∃ n : Nat, (n : Int) = b - 192 := ⟨(b - 192).toNat, by omega⟩
    have hS : Start (byteAt s i) n 2 := .inr (.inl ⟨rfl, by have := HB.out; omega, by have := HB.out; omega, by have := HB.out; omega⟩)
    have n2 : 192 ≤ b := by omega
    have n3 : b < 224 := by omega
    have n4 : ¬ 224 ≤ b := by omega
    have n5 : ¬ 240 ≤ b := by omega
    have hnb : Bnd (2 - 1) n := ⟨fun h => by omega, fun h => by omega, fun h => by omega, fun h => by omega⟩
    have HS := Lib.hid hS
    have HNB := Lib.hid hnb
    clear hcase hS hnb
    go_upto_region 12 with fail
    rw [← hn]
    clear HB hn hb0 hb1 hlow
    by_cases hsh : s.size < i + 2
    · have HV := Lib.hid (at_none HS.out (.inr hsh))
      obtain rfl : r = 0 := by rw [HR.out.1, HV.out]; rfl
      obtain rfl : m = 0 := by rw [HR.out.2, HV.out]; rfl
      have hsh1 : (s.size : Int) - (i : Int) < 2 := by omega
      clear hsh HR HS HV HNB
      go_wp2_with fail
      go_ret2
      exact ⟨rfl, Below.refl _ _⟩
    · have hsh1 : ¬ (s.size : Int) - (i : Int) < 2 := by omega
      have hsz : i + 2 ≤ s.size := by omega
      clear hsh
      go_wp2_with fail
      go_loop [7, 9] (fun v7 v9 => ∃ (j n' : Nat), 1 ≤ j ∧ j ≤ 2 ∧ v9 = .int .i64 j ∧ v7 = .int .i64 n' ∧ Bnd (2 - j) n' ∧ n' = accU s i n j ∧ Conts s i j) (fun _ v9 => 2 - (intOf v9).toNat)
      case atStart => exact ⟨1, n, by omega, by omega, rfl, rfl, HNB.out, rfl, fun t h1 h2 => by omega⟩
      case round =>
        obtain ⟨j, n', hj1, hjK, rfl, rfl, hB, hacc, hco⟩ := hrel
        have HA := Lib.hid (And.intro hB (And.intro hacc hco))
        clear hB hacc hco
        by_cases hlt : j < 2
        · have hij : i + j < s.size := by omega
          have hg : (s[i + j]'hij).toNat = byteAt s (i + j) := byte_get hij
          have e0 : ((s[i + j]'hij).toNat : Int) ≤ 255 := by have := byteAt_lt s (i + j); omega
          have HG := Lib.hid hg
          have hn7 : (n' : Int) ≤ 32767 := by
            obtain ⟨_, b1, b2, b3⟩ := HA.out.1
            have : 2 - j = 1 ∨ 2 - j = 2 ∨ 2 - j = 3 := by omega
            rcases this with h | h | h
            · have := b1 h; omega
            · have := b2 h; omega
            · have := b3 h; omega
          clear hg
          go_upto_region 18 with fail
          generalize hc : ((s[i + j]'hij).toNat : Int) = c
          have hc0 : 0 ≤ c := by omega
          have hc1 : c ≤ 255 := by omega
          have HC := Lib.hid (show c = (byteAt s (i + j) : Nat) by rw [← hc, HG.out])
          clear hc e0 HG
          by_cases hbad : c < 128 ∨ 191 < c
          · have HV := Lib.hid (at_bad HS.out hj1 hlt (by have := HC.out; omega))
            obtain rfl : r = 0 := by rw [HR.out.1, HV.out]; rfl
            obtain rfl : m = 0 := by rw [HR.out.2, HV.out]; rfl
            clear HR HV HC HS HA
            rcases hbad with hbad | hbad
            · go_wp2_with fail
              go_ret2
              exact ⟨rfl, Below.refl _ _⟩
            · have hbad2 : ¬ c < 128 := by omega
              go_wp2_with fail
              go_ret2
              exact ⟨rfl, Below.refl _ _⟩
          · have hb2 : ¬ c < 128 := by omega
            have hb3 : ¬ 191 < c := by omega
            clear hbad
            go_wp2_with fail
            go_round
            case rel =>
              obtain ⟨b0, hacc, hco⟩ := HA.out
              have hC := HC.out
              refine ⟨j + 1, n' * 64 + byteAt s (i + j) % 64, by omega, by omega, by go_num, ?_, ?_, ?_, ?_⟩
              · have : (n' : Int) * 64 + c - 128 = ((n' * 64 + byteAt s (i + j) % 64 : Nat) : Int) := by omega
                rw [this]
              · obtain ⟨d0, d1, d2, d3⟩ := b0
                refine ⟨fun h => ?_, fun h => ?_, fun h => ?_, fun h => ?_⟩
                · have := d1 (by omega); omega
                · have := d2 (by omega); omega
                · have := d3 (by omega); omega
                · omega
              · obtain ⟨j', rfl⟩ : ∃ j', j = j' + 1 := ⟨j - 1, by omega⟩
                rw [accU, ← hacc]
              · intro t h1 h2
                by_cases e : t < j
                · exact hco t h1 e
                · obtain rfl : t = j := by omega
                  omega
            case measure => simp [intOf]; omega
        · obtain rfl : j = 2 := by omega
          obtain ⟨b0, hacc, hco⟩ := HA.out
          have hn7 : (n' : Int) ≤ 2097151 := by have := b0.1 (by omega); omega
          have HG := Lib.hid (at_good HS.out (by omega) hco)
          rw [← hacc] at HG
          by_cases hok : okR n'
          · have hlen := encR_length n'
            obtain ⟨le, hle⟩ : ∃ le, le = (encR n').length := ⟨_, rfl⟩
            have HBY := Lib.hid (show ∀ w : World, Calls Tryz.prog 83 #[.int .i32 n'] w fun e w' => ∃ g, e = .returned (.slice (some ⟨g, 0, none⟩) le le) ∧ Below w.heap.size w w' from fun w => by rw [hle]; exact (bytes_ok w n' hok).mono fun _ _ ⟨g, h1, _, h3⟩ => ⟨g, h1, h3⟩)
            have HMY := Lib.hid (fun w => may_yes w n' hok)
            by_cases hk : le = 2
            · obtain rfl : r = n' := by rw [HR.out.1, HG.out, if_pos ⟨hok, by rw [← hle]; exact hk⟩]
              obtain rfl : m = 2 := by rw [HR.out.2, HG.out, if_pos ⟨hok, by rw [← hle]; exact hk⟩]; rfl
              have hk2 : ((le : Int) != 2) = false := by simp [hk]
              clear HR HG HS HA b0 hacc hco hlen hle hk hok
              go_wp2_with (first
                | (go_at_call 101; refine (HMY.out _).mono ?_; rintro e w' ⟨rfl, rfl⟩)
                | (go_at_call 83; refine (HBY.out _).mono ?_; rintro e w2 ⟨g, rfl, hb2⟩; have HB2 := Lib.hid hb2; clear hb2))
              go_ret2
              exact ⟨rfl, HB2.out⟩
            · have hne : ¬ (okR n' ∧ (encR n').length = 2) := fun h => hk (hle.trans h.2)
              obtain rfl : r = 0 := by rw [HR.out.1, HG.out, if_neg hne]; rfl
              obtain rfl : m = 0 := by rw [HR.out.2, HG.out, if_neg hne]; rfl
              have hk2 : ((le : Int) != 2) = true := by simp; omega
              clear HR HG HS HA b0 hacc hco hlen hle hk hok hne
              go_wp2_with (first
                | (go_at_call 101; refine (HMY.out _).mono ?_; rintro e w' ⟨rfl, rfl⟩)
                | (go_at_call 83; refine (HBY.out _).mono ?_; rintro e w2 ⟨g, rfl, hb2⟩; have HB2 := Lib.hid hb2; clear hb2))
              go_ret2
              exact ⟨rfl, HB2.out⟩
          · have hne : ¬ (okR n' ∧ (encR n').length = 2) := fun h => hok h.1
            obtain rfl : r = 0 := by rw [HR.out.1, HG.out, if_neg hne]; rfl
            obtain rfl : m = 0 := by rw [HR.out.2, HG.out, if_neg hne]; rfl
            have HMY := Lib.hid (fun w => may_no w n' (fun h => hok (by simpa using h.2)))
            clear HR HG HS HA b0 hacc hco hne hok
            go_wp2_with (go_at_call 101; refine (HMY.out _).mono ?_; rintro e w' ⟨rfl, rfl⟩)
            go_ret2
            exact ⟨rfl, Below.refl _ _⟩
  · obtain ⟨n, hn⟩ : ∃ n : Nat, (n : Int) = b - 224 := ⟨(b - 224).toNat, by omega⟩
    have hS : Start (byteAt s i) n 3 := .inr (.inr (.inl ⟨rfl, by have := HB.out; omega, by have := HB.out; omega, by have := HB.out; omega⟩))
    have n2 : 192 ≤ b := by omega
    have n3 : ¬ b < 224 := by omega
    have n4 : 224 ≤ b := by omega
    have n6 : b < 240 := by omega
    have n5 : ¬ 240 ≤ b := by omega
    have hnb : Bnd (3 - 1) n := ⟨fun h => by omega, fun h => by omega, fun h => by omega, fun h => by omega⟩
    have HS := Lib.hid hS
    have HNB := Lib.hid hnb
    clear hcase hS hnb
    go_upto_region 12 with fail
    rw [← hn]
    clear HB hn hb0 hb1 hlow
    by_cases hsh : s.size < i + 3
    · have HV := Lib.hid (at_none HS.out (.inr hsh))
      obtain rfl : r = 0 := by rw [HR.out.1, HV.out]; rfl
      obtain rfl : m = 0 := by rw [HR.out.2, HV.out]; rfl
      have hsh1 : (s.size : Int) - (i : Int) < 3 := by omega
      clear hsh HR HS HV HNB
      go_wp2_with fail
      go_ret2
      exact ⟨rfl, Below.refl _ _⟩
    · have hsh1 : ¬ (s.size : Int) - (i : Int) < 3 := by omega
      have hsz : i + 3 ≤ s.size := by omega
      clear hsh
      go_wp2_with fail
      go_loop [7, 9] (fun v7 v9 => ∃ (j n' : Nat), 1 ≤ j ∧ j ≤ 3 ∧ v9 = .int .i64 j ∧ v7 = .int .i64 n' ∧ Bnd (3 - j) n' ∧ n' = accU s i n j ∧ Conts s i j) (fun _ v9 => 3 - (intOf v9).toNat)
      case atStart => exact ⟨1, n, by omega, by omega, rfl, rfl, HNB.out, rfl, fun t h1 h2 => by omega⟩
      case round =>
        obtain ⟨j, n', hj1, hjK, rfl, rfl, hB, hacc, hco⟩ := hrel
        have HA := Lib.hid (And.intro hB (And.intro hacc hco))
        clear hB hacc hco
        by_cases hlt : j < 3
        · have hij : i + j < s.size := by omega
          have hg : (s[i + j]'hij).toNat = byteAt s (i + j) := byte_get hij
          have e0 : ((s[i + j]'hij).toNat : Int) ≤ 255 := by have := byteAt_lt s (i + j); omega
          have HG := Lib.hid hg
          have hn7 : (n' : Int) ≤ 32767 := by
            obtain ⟨_, b1, b2, b3⟩ := HA.out.1
            have : 3 - j = 1 ∨ 3 - j = 2 ∨ 3 - j = 3 := by omega
            rcases this with h | h | h
            · have := b1 h; omega
            · have := b2 h; omega
            · have := b3 h; omega
          clear hg
          go_upto_region 18 with fail
          generalize hc : ((s[i + j]'hij).toNat : Int) = c
          have hc0 : 0 ≤ c := by omega
          have hc1 : c ≤ 255 := by omega
          have HC := Lib.hid (show c = (byteAt s (i + j) : Nat) by rw [← hc, HG.out])
          clear hc e0 HG
          by_cases hbad : c < 128 ∨ 191 < c
          · have HV := Lib.hid (at_bad HS.out hj1 hlt (by have := HC.out; omega))
            obtain rfl : r = 0 := by rw [HR.out.1, HV.out]; rfl
            obtain rfl : m = 0 := by rw [HR.out.2, HV.out]; rfl
            clear HR HV HC HS HA
            rcases hbad with hbad | hbad
            · go_wp2_with fail
              go_ret2
              exact ⟨rfl, Below.refl _ _⟩
            · have hbad2 : ¬ c < 128 := by omega
              go_wp2_with fail
              go_ret2
              exact ⟨rfl, Below.refl _ _⟩
          · have hb2 : ¬ c < 128 := by omega
            have hb3 : ¬ 191 < c := by omega
            clear hbad
            go_wp2_with fail
            go_round
            case rel =>
              obtain ⟨b0, hacc, hco⟩ := HA.out
              have hC := HC.out
              refine ⟨j + 1, n' * 64 + byteAt s (i + j) % 64, by omega, by omega, by go_num, ?_, ?_, ?_, ?_⟩
              · have : (n' : Int) * 64 + c - 128 = ((n' * 64 + byteAt s (i + j) % 64 : Nat) : Int) := by omega
                rw [this]
              · obtain ⟨d0, d1, d2, d3⟩ := b0
                refine ⟨fun h => ?_, fun h => ?_, fun h => ?_, fun h => ?_⟩
                · have := d1 (by omega); omega
                · have := d2 (by omega); omega
                · have := d3 (by omega); omega
                · omega
              · obtain ⟨j', rfl⟩ : ∃ j', j = j' + 1 := ⟨j - 1, by omega⟩
                rw [accU, ← hacc]
              · intro t h1 h2
                by_cases e : t < j
                · exact hco t h1 e
                · obtain rfl : t = j := by omega
                  omega
            case measure => simp [intOf]; omega
        · obtain rfl : j = 3 := by omega
          obtain ⟨b0, hacc, hco⟩ := HA.out
          have hn7 : (n' : Int) ≤ 2097151 := by have := b0.1 (by omega); omega
          have HG := Lib.hid (at_good HS.out (by omega) hco)
          rw [← hacc] at HG
          by_cases hok : okR n'
          · have hlen := encR_length n'
            obtain ⟨le, hle⟩ : ∃ le, le = (encR n').length := ⟨_, rfl⟩
            have HBY := Lib.hid (show ∀ w : World, Calls Tryz.prog 83 #[.int .i32 n'] w fun e w' => ∃ g, e = .returned (.slice (some ⟨g, 0, none⟩) le le) ∧ Below w.heap.size w w' from fun w => by rw [hle]; exact (bytes_ok w n' hok).mono fun _ _ ⟨g, h1, _, h3⟩ => ⟨g, h1, h3⟩)
            have HMY := Lib.hid (fun w => may_yes w n' hok)
            by_cases hk : le = 3
            · obtain rfl : r = n' := by rw [HR.out.1, HG.out, if_pos ⟨hok, by rw [← hle]; exact hk⟩]
              obtain rfl : m = 3 := by rw [HR.out.2, HG.out, if_pos ⟨hok, by rw [← hle]; exact hk⟩]; rfl
              have hk2 : ((le : Int) != 3) = false := by simp [hk]
              clear HR HG HS HA b0 hacc hco hlen hle hk hok
              go_wp2_with (first
                | (go_at_call 101; refine (HMY.out _).mono ?_; rintro e w' ⟨rfl, rfl⟩)
                | (go_at_call 83; refine (HBY.out _).mono ?_; rintro e w2 ⟨g, rfl, hb2⟩; have HB2 := Lib.hid hb2; clear hb2))
              go_ret2
              exact ⟨rfl, HB2.out⟩
            · have hne : ¬ (okR n' ∧ (encR n').length = 3) := fun h => hk (hle.trans h.2)
              obtain rfl : r = 0 := by rw [HR.out.1, HG.out, if_neg hne]; rfl
              obtain rfl : m = 0 := by rw [HR.out.2, HG.out, if_neg hne]; rfl
              have hk2 : ((le : Int) != 3) = true := by simp; omega
              clear HR HG HS HA b0 hacc hco hlen hle hk hok hne
              go_wp2_with (first
                | (go_at_call 101; refine (HMY.out _).mono ?_; rintro e w' ⟨rfl, rfl⟩)
                | (go_at_call 83; refine (HBY.out _).mono ?_; rintro e w2 ⟨g, rfl, hb2⟩; have HB2 := Lib.hid hb2; clear hb2))
              go_ret2
              exact ⟨rfl, HB2.out⟩
          · have hne : ¬ (okR n' ∧ (encR n').length = 3) := fun h => hok h.1
            obtain rfl : r = 0 := by rw [HR.out.1, HG.out, if_neg hne]; rfl
            obtain rfl : m = 0 := by rw [HR.out.2, HG.out, if_neg hne]; rfl
            have HMY := Lib.hid (fun w => may_no w n' (fun h => hok (by simpa using h.2)))
            clear HR HG HS HA b0 hacc hco hne hok
            go_wp2_with (go_at_call 101; refine (HMY.out _).mono ?_; rintro e w' ⟨rfl, rfl⟩)
            go_ret2
            exact ⟨rfl, Below.refl _ _⟩
  · obtain ⟨n, hn⟩ : ∃ n : Nat, (n : Int) = b - 240 := ⟨(b - 240).toNat, by omega⟩
    have hS : Start (byteAt s i) n 4 := .inr (.inr (.inr ⟨rfl, by have := HB.out; omega, by have := HB.out; omega, by have := HB.out; omega⟩))
    have n2 : 192 ≤ b := by omega
    have n3 : ¬ b < 224 := by omega
    have n4 : 224 ≤ b := by omega
    have n6 : ¬ b < 240 := by omega
    have n5 : 240 ≤ b := by omega
    have n7 : b < 248 := by omega
    have hnb : Bnd (4 - 1) n := ⟨fun h => by omega, fun h => by omega, fun h => by omega, fun h => by omega⟩
    have HS := Lib.hid hS
    have HNB := Lib.hid hnb
    clear hcase hS hnb
    go_upto_region 12 with fail
    rw [← hn]
    clear HB hn hb0 hb1 hlow
    by_cases hsh : s.size < i + 4
    · have HV := Lib.hid (at_none HS.out (.inr hsh))
      obtain rfl : r = 0 := by rw [HR.out.1, HV.out]; rfl
      obtain rfl : m = 0 := by rw [HR.out.2, HV.out]; rfl
      have hsh1 : (s.size : Int) - (i : Int) < 4 := by omega
      clear hsh HR HS HV HNB
      go_wp2_with fail
      go_ret2
      exact ⟨rfl, Below.refl _ _⟩
    · have hsh1 : ¬ (s.size : Int) - (i : Int) < 4 := by omega
      have hsz : i + 4 ≤ s.size := by omega
      clear hsh
      go_wp2_with fail
      go_loop [7, 9] (fun v7 v9 => ∃ (j n' : Nat), 1 ≤ j ∧ j ≤ 4 ∧ v9 = .int .i64 j ∧ v7 = .int .i64 n' ∧ Bnd (4 - j) n' ∧ n' = accU s i n j ∧ Conts s i j) (fun _ v9 => 4 - (intOf v9).toNat)
      case atStart => exact ⟨1, n, by omega, by omega, rfl, rfl, HNB.out, rfl, fun t h1 h2 => by omega⟩
      case round =>
        obtain ⟨j, n', hj1, hjK, rfl, rfl, hB, hacc, hco⟩ := hrel
        have HA := Lib.hid (And.intro hB (And.intro hacc hco))
        clear hB hacc hco
        by_cases hlt : j < 4
        · have hij : i + j < s.size := by omega
          have hg : (s[i + j]'hij).toNat = byteAt s (i + j) := byte_get hij
          have e0 : ((s[i + j]'hij).toNat : Int) ≤ 255 := by have := byteAt_lt s (i + j); omega
          have HG := Lib.hid hg
          have hn7 : (n' : Int) ≤ 32767 := by
            obtain ⟨_, b1, b2, b3⟩ := HA.out.1
            have : 4 - j = 1 ∨ 4 - j = 2 ∨ 4 - j = 3 := by omega
            rcases this with h | h | h
            · have := b1 h; omega
            · have := b2 h; omega
            · have := b3 h; omega
          clear hg
          go_upto_region 18 with fail
          generalize hc : ((s[i + j]'hij).toNat : Int) = c
          have hc0 : 0 ≤ c := by omega
          have hc1 : c ≤ 255 := by omega
          have HC := Lib.hid (show c = (byteAt s (i + j) : Nat) by rw [← hc, HG.out])
          clear hc e0 HG
          by_cases hbad : c < 128 ∨ 191 < c
          · have HV := Lib.hid (at_bad HS.out hj1 hlt (by have := HC.out; omega))
            obtain rfl : r = 0 := by rw [HR.out.1, HV.out]; rfl
            obtain rfl : m = 0 := by rw [HR.out.2, HV.out]; rfl
            clear HR HV HC HS HA
            rcases hbad with hbad | hbad
            · go_wp2_with fail
              go_ret2
              exact ⟨rfl, Below.refl _ _⟩
            · have hbad2 : ¬ c < 128 := by omega
              go_wp2_with fail
              go_ret2
              exact ⟨rfl, Below.refl _ _⟩
          · have hb2 : ¬ c < 128 := by omega
            have hb3 : ¬ 191 < c := by omega
            clear hbad
            go_wp2_with fail
            go_round
            case rel =>
              obtain ⟨b0, hacc, hco⟩ := HA.out
              have hC := HC.out
              refine ⟨j + 1, n' * 64 + byteAt s (i + j) % 64, by omega, by omega, by go_num, ?_, ?_, ?_, ?_⟩
              · have : (n' : Int) * 64 + c - 128 = ((n' * 64 + byteAt s (i + j) % 64 : Nat) : Int) := by omega
                rw [this]
              · obtain ⟨d0, d1, d2, d3⟩ := b0
                refine ⟨fun h => ?_, fun h => ?_, fun h => ?_, fun h => ?_⟩
                · have := d1 (by omega); omega
                · have := d2 (by omega); omega
                · have := d3 (by omega); omega
                · omega
              · obtain ⟨j', rfl⟩ : ∃ j', j = j' + 1 := ⟨j - 1, by omega⟩
                rw [accU, ← hacc]
              · intro t h1 h2
                by_cases e : t < j
                · exact hco t h1 e
                · obtain rfl : t = j := by omega
                  omega
            case measure => simp [intOf]; omega
        · obtain rfl : j = 4 := by omega
          obtain ⟨b0, hacc, hco⟩ := HA.out
          have hn7 : (n' : Int) ≤ 2097151 := by have := b0.1 (by omega); omega
          have HG := Lib.hid (at_good HS.out (by omega) hco)
          rw [← hacc] at HG
          by_cases hok : okR n'
          · have hlen := encR_length n'
            obtain ⟨le, hle⟩ : ∃ le, le = (encR n').length := ⟨_, rfl⟩
            have HBY := Lib.hid (show ∀ w : World, Calls Tryz.prog 83 #[.int .i32 n'] w fun e w' => ∃ g, e = .returned (.slice (some ⟨g, 0, none⟩) le le) ∧ Below w.heap.size w w' from fun w => by rw [hle]; exact (bytes_ok w n' hok).mono fun _ _ ⟨g, h1, _, h3⟩ => ⟨g, h1, h3⟩)
            have HMY := Lib.hid (fun w => may_yes w n' hok)
            by_cases hk : le = 4
            · obtain rfl : r = n' := by rw [HR.out.1, HG.out, if_pos ⟨hok, by rw [← hle]; exact hk⟩]
              obtain rfl : m = 4 := by rw [HR.out.2, HG.out, if_pos ⟨hok, by rw [← hle]; exact hk⟩]; rfl
              have hk2 : ((le : Int) != 4) = false := by simp [hk]
              clear HR HG HS HA b0 hacc hco hlen hle hk hok
              go_wp2_with (first
                | (go_at_call 101; refine (HMY.out _).mono ?_; rintro e w' ⟨rfl, rfl⟩)
                | (go_at_call 83; refine (HBY.out _).mono ?_; rintro e w2 ⟨g, rfl, hb2⟩; have HB2 := Lib.hid hb2; clear hb2))
              go_ret2
              exact ⟨rfl, HB2.out⟩
            · have hne : ¬ (okR n' ∧ (encR n').length = 4) := fun h => hk (hle.trans h.2)
              obtain rfl : r = 0 := by rw [HR.out.1, HG.out, if_neg hne]; rfl
              obtain rfl : m = 0 := by rw [HR.out.2, HG.out, if_neg hne]; rfl
              have hk2 : ((le : Int) != 4) = true := by simp; omega
              clear HR HG HS HA b0 hacc hco hlen hle hk hok hne
              go_wp2_with (first
                | (go_at_call 101; refine (HMY.out _).mono ?_; rintro e w' ⟨rfl, rfl⟩)
                | (go_at_call 83; refine (HBY.out _).mono ?_; rintro e w2 ⟨g, rfl, hb2⟩; have HB2 := Lib.hid hb2; clear hb2))
              go_ret2
              exact ⟨rfl, HB2.out⟩
          · have hne : ¬ (okR n' ∧ (encR n').length = 4) := fun h => hok h.1
            obtain rfl : r = 0 := by rw [HR.out.1, HG.out, if_neg hne]; rfl
            obtain rfl : m = 0 := by rw [HR.out.2, HG.out, if_neg hne]; rfl
            have HMY := Lib.hid (fun w => may_no w n' (fun h => hok (by simpa using h.2)))
            clear HR HG HS HA b0 hacc hco hne hok
            go_wp2_with (go_at_call 101; refine (HMY.out _).mono ?_; rintro e w' ⟨rfl, rfl⟩)
            go_ret2
            exact ⟨rfl, Below.refl _ _⟩
end Go.Proofs.YthkpaelpnofbgaaGreatDoor
/-
  A text's bytes as numbers, and back; a row of bytes of one's own. Nothing of one layer stands here.
-/
namespace Go.Proofs.YthkpaelpnofbgaaGreatDoor
open Go.RowKit

/-- A text's bytes as numbers. -/
def bytesL (s : ByteArray) : List Nat := s.data.toList.map (·.toNat)
set_option maxRecDepth 100000 in
theorem bytesL_length (s : ByteArray) : (bytesL s).length = s.size := by simp [bytesL]
def byteText (l : List Nat) : ByteArray := ⟨(l.map UInt8.ofNat).toArray⟩
set_option maxRecDepth 100000 in
theorem byteText_bytesL (s : ByteArray) : byteText (bytesL s) = s := by
  unfold byteText bytesL
  apply ByteArray.ext
  apply Array.toList_inj.1
  simp only [List.map_map]
  conv => rhs; rw [← List.map_id s.data.toList]
  apply List.map_congr_left
  intro b _
  simp
set_option maxRecDepth 100000 in
theorem bytesL_byteText (l : List Nat) (h : ∀ b ∈ l, b < 256) : bytesL (byteText l) = l := by
  unfold byteText bytesL
  simp only [List.map_map]
  conv => rhs; rw [← List.map_id l]
  apply List.map_congr_left
  intro b hb
  simpa using Nat.mod_eq_of_lt (h b hb)

def BytesIn (w : World) (base : Nat) (v : Value) (l : List Nat) : Prop := w.ownsRow base 5 1 v l.length (l.map fun (b : Nat) => Value.int .u8 (b : Int))
set_option maxRecDepth 100000 in
theorem info_u8 : (Tryz.prog.info? 5).map (fun i => (i.zero, i.size, i.bytes)) = some (some (.int .u8 0), 1, 1) := by kernel_rfl
set_option maxRecDepth 100000 in
theorem bytesL_lt (s : ByteArray) : ∀ b ∈ bytesL s, b < 256 := by
  intro b hb
  unfold bytesL at hb
  obtain ⟨u, _, rfl⟩ := List.mem_map.1 hb
  exact u.toNat_lt
set_option maxRecDepth 100000 in
theorem bytesL_append (a b : ByteArray) : bytesL (a ++ b) = bytesL a ++ bytesL b := by
  unfold bytesL
  simp
set_option maxRecDepth 100000 in
theorem bytesL_inj {a b : ByteArray} (h : bytesL a = bytesL b) : a = b := by rw [← byteText_bytesL a, ← byteText_bytesL b, h]
set_option maxRecDepth 100000 in
theorem bytes_string {w : World} {base : Nat} {v : Value} {l : List Nat} (h : BytesIn w base v l) (hl : ∀ b ∈ l, b < 256) : (convert 45 9 v).run Tryz.prog w = .ok (.string (byteText l)) w := by
  rcases h.2 with ⟨rfl, h0⟩ | ⟨g, cap, cur, rfl, _, hg, _, _, _, ht⟩
  · have : l = [] := List.eq_nil_of_length_eq_zero h0
    subst this
    rw [Lib.run_convert_nil_bytes (P := Tryz.prog) w 45 9 5 0 Tryz.underlying45 Tryz.underlying5 Tryz.underlying9]
    rfl
  · have hc := World.ownsRow.cells h (g := g) rfl
    have := run_convert_bytes_back (P := Tryz.prog) w 45 9 5 ⟨g, 0, none⟩ cap (l.map UInt8.ofNat) Tryz.underlying45 Tryz.underlying5 Tryz.underlying9 (fun j hj => by
      have hj' : j < l.length := by simpa using hj
      rw [hc j (.int .u8 ((l[j] : Nat) : Int)) (by simp [List.getElem?_eq_getElem hj'])]
      have := hl l[j] (List.getElem_mem hj')
      simp [Nat.mod_eq_of_lt this])
    simpa [byteText] using this
end Go.Proofs.YthkpaelpnofbgaaGreatDoor
/-
  The reference of layer 4: a text's runes. Over the program's own text.
-/
namespace Go.Proofs.YthkpaelpnofbgaaGreatDoor
open Go.RowKit

set_option maxRecDepth 100000 in
theorem bytesL_get (s : ByteArray) (i : Nat) : (bytesL s).getD i 0 = byteAt s i := by
  unfold bytesL byteAt
  rw [List.getD_eq_getElem?_getD, List.getD_eq_getElem?_getD, List.getElem?_map]
  cases h : s.data.toList[i]? <;> simp
set_option maxRecDepth 100000 in
theorem decAt_drop (s : ByteArray) (i : Nat) : decL ((bytesL s).drop i) = decAt s i := by
  unfold decL decAt
  have h : ∀ j, ((bytesL s).drop i).getD j 0 = byteAt s (i + j) := by
    intro j
    rw [← bytesL_get]
    simp [List.getD_eq_getElem?_getD]
  rw [h 0, h 1, h 2, h 3]
  rfl
def runesOf (s : ByteArray) : List Nat := runesL (bytesL s)
set_option maxRecDepth 100000 in
theorem runes_at {s : ByteArray} {i : Nat} (h : i < s.size) : runesL ((bytesL s).drop i) = (decAt s i).1 :: runesL ((bytesL s).drop (i + (decAt s i).2)) := by
  have hne : (bytesL s).drop i ≠ [] := by
    intro e
    have := congrArg List.length e
    simp [bytesL_length] at this
    omega
  rw [runesL_step hne, decAt_drop, List.drop_drop]
set_option maxRecDepth 100000 in
theorem decAt_le {s : ByteArray} {i : Nat} (h : i < s.size) : 1 ≤ (decAt s i).2 ∧ i + (decAt s i).2 ≤ s.size ∧ (decAt s i).2 ≤ 4 := by
  have hne : (bytesL s).drop i ≠ [] := by
    intro e
    have := congrArg List.length e
    simp [bytesL_length] at this
    omega
  have h1 := decL_len ((bytesL s).drop i)
  have h2 := decL_in ((bytesL s).drop i) hne
  rw [decAt_drop] at h1 h2
  simp [bytesL_length] at h2
  omega
/-- Runes in memory. -/
def RunesIn (w : World) (base : Nat) (v : Value) (l : List Nat) : Prop := w.ownsRow base 21 1 v l.length (l.map fun (r : Nat) => Value.int .i32 (r : Int))
set_option maxRecDepth 100000 in
theorem info_i32 : (Tryz.prog.info? 21).map (fun i => (i.zero, i.size, i.bytes)) = some (some (.int .i32 0), 1, 4) := by kernel_rfl
set_option maxRecDepth 100000 in
theorem owned_lit0 (w : World) (e : TypeId) (size : Nat) : (w.alloc (.cells #[] e)).ownsRow w.heap.size e size (.slice (some ⟨w.heap.size, 0, none⟩) 0 0) 0 [] :=
  World.ownsRow_lit (base := w.heap.size) (e := e) (size := size) w #[] 0 (Nat.le_refl _) (by decide) (by simp)
set_option maxRecDepth 100000 in
theorem one_cell {w : World} {v : Value} {t : TypeId} : ∀ (j : Nat) (u : Value), [v][j]? = some u → (w.alloc (.cells #[v] t)).cell? ((⟨w.heap.size, 0, none⟩ : Addr).add j) = some u := by
  intro j u hj
  rcases j with _ | j
  · simp at hj; subst hj
    rw [Addr.add_lit]; exact cell_at (heap_alloc_new w _) 0
  · simp at hj

set_option maxRecDepth 100000 in
theorem owned_below {w w' : World} {e : TypeId} {size n base : Nat} {v : Value} {xs : List Value} (h : w.ownsRow base e size v n xs) (hb : Below w.heap.size w w') : w'.ownsRow base e size v n xs := by
  obtain ⟨h0, h | ⟨g, cap, cur, h1, h2, h3, h4⟩⟩ := h
  · exact ⟨h0, .inl h⟩
  · exact ⟨h0, .inr ⟨g, cap, cur, h1, h2, (hb.block _ (lt_of_heap h3)).trans h3, h4⟩⟩
set_option maxRecDepth 100000 in
/-- A rune more. -/
theorem runes_more {w w1 w2 : World} {v v' : Value} {l : List Nat} {r : Nat} {o : Obj} (hl : Below w.heap.size w w1) (hr : RunesIn w1 w.heap.size v l) (ho : w2.ownsRow w.heap.size 21 1 v' (l.length + 1) (l.map (fun (r : Nat) => Value.int .i32 (r : Int)) ++ [.int .i32 r])) (hg : (w1.alloc o).grownBy w2 v.ownBlock) :
    RunesIn w2 w.heap.size v' (l ++ [r]) ∧ Below w.heap.size w w2 :=
  ⟨by unfold RunesIn; simpa using ho, (hl.alloc hl.size _).grown hg (by have := hl.size; simp; omega) (fun k hk => (World.ownsRow.lt hr k hk).1)⟩

set_option maxRecDepth 100000 in
set_option maxHeartbeats 1000000 in
theorem ref_runes (w : World) (s : ByteArray) (hs : s.size ≤ 1000000) :
    Calls Tryz.prog 81 #[.string s] w fun e w' => ∃ v, e = .returned v ∧ v ≠ .slice none 0 0 ∧ RunesIn w' w.heap.size v (runesOf s) ∧ Below w.heap.size w w' := by
  obtain ⟨i0, hi, hz0, hz1, hz2⟩ := info_parts info_i32
  have HI := Lib.hid (And.intro hi (And.intro hz0 (And.intro hz1 hz2)))
  have HL := Lib.hid (runesL_many (bytesL s)).1
  clear hi hz0 hz1 hz2
  go_enter Tryz.func81, Tryz.ntmps81
  go_wp2_with fail
  go_loopw [3, 4] (fun v iv wr => ∃ (i : Nat) (l : List Nat), i ≤ s.size ∧ iv = .int .i64 i ∧ runesOf s = l ++ runesL ((bytesL s).drop i) ∧ v ≠ .slice none 0 0 ∧ RunesIn wr w.heap.size v l ∧ Below w.heap.size w wr) (fun _ iv _ => s.size - (intOf iv).toNat)
  case atStart => exact ⟨0, [], by omega, rfl, by simp [runesOf], by simp, owned_lit0 w _ _, below_one⟩
  case round =>
    obtain ⟨i, l, hi, rfl, hl, hnn, hown, hlow⟩ := hrel
    by_cases hlt : i < s.size
    · have hd := decAt_le hlt
      have HD := Lib.hid (runes_at hlt)
      have HS := Lib.hid hl
      have HO := Lib.hid hown
      have HW := Lib.hid hlow
      have hll : l.length ≤ 1000000 := by have := congrArg List.length hl; have := HL.out; rw [bytesL_length] at this; simp [runesOf] at *; omega
      obtain ⟨r, hr⟩ : ∃ r, r = (decAt s i).1 := ⟨_, rfl⟩
      obtain ⟨k, hk⟩ : ∃ k, k = (decAt s i).2 := ⟨_, rfl⟩
      rw [← hk] at hd
      have HRK := Lib.hid (And.intro hr hk)
      have hlt1 : (i : Int) < (s.size : Int) := by omega
      have hcall : ∀ w : World, Calls Tryz.prog 99 #[.string s, .int .i64 i] w fun e w' => e = .returned (.tuple #[.int .i32 (atR s i).1, .int .i64 (atR s i).2]) ∧ Below w.heap.size w w' := fun w => at_any w s i hlt (by unfold maxLen; omega)
      obtain ⟨hd1, hd2, hd3⟩ := hd
      by_cases hz : decAt s i = (65533, 1)
      · have e : atR s i = (0, 0) := by unfold atR; rw [if_pos hz]
        rw [e] at hcall
        have HC := Lib.hid hcall
        obtain rfl : r = 65533 := by rw [hr, hz]
        obtain rfl : k = 1 := by rw [hk, hz]
        clear hcall hl hown hlow hr hk hz e
        go_wp2_with fail
        refine (HC.out _).mono ?_; rintro e w2 ⟨rfl, hb2⟩
        have HO := Lib.hid (show RunesIn w2 _ _ l from owned_below HO.out hb2)
        have HW := Lib.hid (HW.out.trans (hb2.mono HW.out.size))
        clear hb2
        go_wp2_with (at_builtin; refine wpList_append_own _ rfl (.tmp 20) (.tmp 22) 50 rfl w.heap.size 21 i0 _ 1 4 Tryz.underlying50 HI.out.1 HI.out.2.1 HI.out.2.2.1 HI.out.2.2.2 rfl (by decide) _ l.length (l.map fun (r : Nat) => Value.int .i32 (r : Int)) rfl (World.ownsRow.alloc HO.out _) ⟨w2.heap.size, 0, none⟩ 1 1 [.int .i32 65533] rfl rfl one_cell (by simp [Value.oneCell']) (by unfold maxLen; omega) (by omega) (by have := HW.out.size; simp; omega) ?_; intro v' w5 ho hg hn'; have HN5 := Lib.hid (fun h => absurd (hn'.1 h).2 (by decide) : v' ≠ .slice none 0 0); have HO5 := Lib.hid (runes_more (r := 65533) HW.out HO.out ho hg); clear ho hg hn')
        go_roundw
        case rel =>
          refine ⟨i + 1, l ++ [65533], by omega, by go_num, ?_, HN5.out, HO5.out.1, HO5.out.2⟩
          rw [HS.out, HD.out, ← HRK.out.1, ← HRK.out.2]
          simp
        case measure => simp [intOf]; omega
      · have e : atR s i = (r, k) := by unfold atR; rw [if_neg hz, hr, hk]
        rw [e] at hcall
        have HC := Lib.hid hcall
        have hk0 : ((k : Int) == 0) = false := by simp; omega
        clear hcall hl hown hlow hr hk hz e
        go_wp2_with fail
        refine (HC.out _).mono ?_; rintro e w2 ⟨rfl, hb2⟩
        have HO := Lib.hid (show RunesIn w2 _ _ l from owned_below HO.out hb2)
        have HW := Lib.hid (HW.out.trans (hb2.mono HW.out.size))
        clear hb2
        go_wp2_with (at_builtin; refine wpList_append_own _ rfl (.tmp 20) (.tmp 22) 50 rfl w.heap.size 21 i0 _ 1 4 Tryz.underlying50 HI.out.1 HI.out.2.1 HI.out.2.2.1 HI.out.2.2.2 rfl (by decide) _ l.length (l.map fun (r : Nat) => Value.int .i32 (r : Int)) rfl (World.ownsRow.alloc HO.out _) ⟨w2.heap.size, 0, none⟩ 1 1 [.int .i32 r] rfl rfl one_cell (by simp [Value.oneCell']) (by unfold maxLen; omega) (by omega) (by have := HW.out.size; simp; omega) ?_; intro v' w5 ho hg hn'; have HN5 := Lib.hid (fun h => absurd (hn'.1 h).2 (by decide) : v' ≠ .slice none 0 0); have HO5 := Lib.hid (runes_more (r := r) HW.out HO.out ho hg); clear ho hg hn')
        go_roundw
        case rel =>
          refine ⟨i + k, l ++ [r], by omega, by go_num, ?_, HN5.out, HO5.out.1, HO5.out.2⟩
          rw [HS.out, HD.out, ← HRK.out.1, ← HRK.out.2]
          simp
        case measure => simp [intOf]; omega
    · go_wp2_with fail
      go_ret
      refine ⟨_, rfl, hnn, ?_, hlow⟩
      have : runesOf s = l := by
        rw [hl, List.drop_eq_nil_of_le (by rw [bytesL_length]; omega)]
        simp [runesL_nil]
      rw [this]
      exact hown
end Go.Proofs.YthkpaelpnofbgaaGreatDoor
/-
  The reference of layer 4: the text of runes. Over the program's own text.
-/
namespace Go.Proofs.YthkpaelpnofbgaaGreatDoor
open Go.RowKit

set_option maxRecDepth 100000 in
theorem enc_le (n : Nat) : (encR n).length ≤ 4 := by
  rw [encR_length]
  repeat' split
  all_goals omega
/-- The bytes of a row of runes, those that may not be as 65533's. -/
def textB (l : List Int) : List Nat := l.flatMap fun r => encR (normR r)
def textZ (l : List Int) : ByteArray := byteText (textB l)
set_option maxRecDepth 100000 in
theorem textB_snoc (l : List Int) (r : Int) : textB (l ++ [r]) = textB l ++ encR (normR r) := by simp [textB]
set_option maxRecDepth 100000 in
theorem textB_le : ∀ l : List Int, (textB l).length ≤ 4 * l.length
  | [] => by simp [textB]
  | r :: l => by
    have h1 := textB_le l
    have h2 := encR_length (normR r)
    have e : textB (r :: l) = encR (normR r) ++ textB l := rfl
    rw [e, List.length_append, List.length_cons]
    split at h2
    · omega
    · split at h2
      · omega
      · split at h2 <;> omega
set_option maxRecDepth 100000 in
theorem bytes_more {w w1 w2 : World} {v v' : Value} {l x : List Nat} (hl : Below w.heap.size w w1) (hr : BytesIn w1 w.heap.size v l) (ho : w2.ownsRow w.heap.size 5 1 v' (l.length + x.length) (l.map (fun (b : Nat) => Value.int .u8 (b : Int)) ++ x.map (fun (b : Nat) => Value.int .u8 (b : Int)))) (hg : w1.grownBy w2 v.ownBlock) :
    BytesIn w2 w.heap.size v' (l ++ x) ∧ Below w.heap.size w w2 :=
  ⟨by unfold BytesIn; simpa using ho, hl.grown hg (by have := hl.size; omega) (fun k hk => (World.ownsRow.lt hr k hk).1)⟩
set_option maxRecDepth 100000 in
theorem bytesAt_cell {w : World} {g : Nat} {l : List Nat} (h : BytesAt w g l) : ∀ j u, (l.map fun (b : Nat) => Value.int .u8 (b : Int))[j]? = some u → w.cell? ((⟨g, 0, none⟩ : Addr).add j) = some u := by
  intro j u hj
  rw [Addr.add_lit, cell_of_row w g (0 + j) _ _ _ h]
  simpa using hj
set_option maxRecDepth 100000 in
theorem bytes_oneCell (l : List Nat) : ∀ u ∈ (l.map fun (b : Nat) => Value.int .u8 (b : Int)), u.oneCell' = true := by
  intro u hu
  simp at hu
  obtain ⟨b, _, rfl⟩ := hu
  rfl

set_option maxRecDepth 100000 in
theorem encR_byte (n : Nat) (h : okR n) : ∀ b ∈ encR n, b < 256 := by
  unfold okR at h
  intro b hb
  unfold encR at hb
  split at hb
  · simp at hb; omega
  · split at hb
    · simp at hb; omega
    · split at hb
      · simp at hb; omega
      · simp at hb; omega
set_option maxRecDepth 100000 in
theorem textB_byte (l : List Int) : ∀ b ∈ textB l, b < 256 := by
  intro b hb
  simp [textB] at hb
  obtain ⟨r, _, h⟩ := hb
  exact encR_byte _ (normR_ok r) b h

/-- A row of runes that is only read. -/
def ReadI (w : World) (oa : Option Addr) (l : List Int) : Prop := ∀ j r, l[j]? = some r → ∃ ad, oa = some ad ∧ w.cell? (ad.add j) = some (.int .i32 r)
set_option maxRecDepth 100000 in
theorem ReadI.below {w w' : World} {oa : Option Addr} {l : List Int} (h : ReadI w oa l) (hb : Below w.heap.size w w') : ReadI w' oa l := fun j r hj => (h j r hj).imp fun _ h => ⟨h.1, below_cell h.2 hb⟩

end Go.Proofs.YthkpaelpnofbgaaGreatDoor
/-
  What the words of layer 4 keep: there and back, byte by byte, what fits. No program in it.
-/
namespace Go.Proofs.YthkpaelpnofbgaaGreatDoor
open Go.RowKit

set_option maxRecDepth 100000 in
theorem ReadI.drewN {w : World} {oa : Option Addr} {l : List Int} (h : ReadI w oa l) (m : Nat) : ReadI (w.drewN m) oa l := fun j r hj => (h j r hj).imp fun _ h => ⟨h.1, by simpa using h.2⟩
set_option maxRecDepth 100000 in
theorem ReadI.take {w : World} {oa : Option Addr} {l : List Int} (h : ReadI w oa l) (k : Nat) : ReadI w oa (l.take k) := fun j r hj => h j r (by
  rw [List.getElem?_take] at hj
  split at hj
  · exact hj
  · cases hj)
set_option maxRecDepth 100000 in
/-- A row of runes of its own can be read. -/
theorem runes_read {w : World} {base : Nat} {v : Value} {l : List Nat} (h : RunesIn w base v l) (hn : v ≠ .slice none 0 0) : ∃ g cap, v = .slice (some ⟨g, 0, none⟩) l.length cap ∧ base ≤ g ∧ g < w.heap.size ∧ l.length ≤ cap ∧ cap ≤ maxLen ∧ ReadI w (some ⟨g, 0, none⟩) (l.map fun (r : Nat) => (r : Int)) := by
  rcases h.2 with ⟨rfl, h0⟩ | ⟨g, cap, cur, rfl, hb, hg, hc, hm, _, ht⟩
  · exact absurd rfl hn
  · refine ⟨g, cap, rfl, hb, (Array.getElem?_eq_some_iff.1 hg).1, hc, hm, ?_⟩
    intro j r hj
    refine ⟨_, rfl, World.ownsRow.cells h (g := g) rfl j _ ?_⟩
    simp at hj ⊢
    obtain ⟨a, ha, rfl⟩ := hj
    exact ⟨a, ha, rfl⟩
/-- The longest beginning that fits, of the first k ones tried. -/
def bestTo (l : List Int) (n : Int) : Nat → ByteArray
  | 0 => ⟨#[]⟩
  | k + 1 => if ((textZ (l.take k)).size : Int) ≤ n then textZ (l.take k) else bestTo l n k

set_option maxRecDepth 100000 in
set_option maxHeartbeats 1000000 in
theorem ref_runes_read (w : World) (s : ByteArray) (hs : s.size ≤ 1000000) :
    Calls Tryz.prog 81 #[.string s] w fun e w' => ∃ g cap, e = .returned (.slice (some ⟨g, 0, none⟩) ((runesOf s).map fun (r : Nat) => (r : Int)).length cap) ∧ ((runesOf s).map fun (r : Nat) => (r : Int)).length ≤ cap ∧ cap ≤ maxLen ∧ ReadI w' (some ⟨g, 0, none⟩) ((runesOf s).map fun (r : Nat) => (r : Int)) ∧ Below w.heap.size w w' := by
  refine (ref_runes w s hs).mono ?_
  rintro e w1 ⟨v, rfl, hv, hr, hb⟩
  obtain ⟨g, cap, rfl, _, _, hc1, hc2, hread⟩ := runes_read hr hv
  exact ⟨g, cap, by simp, by simpa using hc1, hc2, hread, hb⟩
set_option maxRecDepth 100000 in
theorem textB_textL (l : List Int) : textB l = textL (l.map normR) := by
  unfold textB textL
  rw [List.flatMap_map]
set_option maxRecDepth 100000 in
theorem bytesL_textZ (l : List Int) : bytesL (textZ l) = textB l := bytesL_byteText _ (textB_byte l)
set_option maxRecDepth 100000 in
theorem textZ_size (l : List Int) : (textZ l).size = (textB l).length := by rw [← bytesL_length, bytesL_textZ]

set_option maxRecDepth 100000 in
/-- The runes of runes' text. -/
theorem runes_textZ (l : List Int) : runesOf (textZ l) = l.map normR := by
  unfold runesOf
  rw [bytesL_textZ, textB_textL]
  have h := runes_text (l.map normR) (by intro r hr; obtain ⟨x, _, rfl⟩ := List.mem_map.1 hr; exact normR_ok x) []
  simpa [runesL_nil] using h
set_option maxRecDepth 100000 in
theorem runesOf_ok (s : ByteArray) : ∀ r ∈ runesOf s, okR r := runesL_ok _
def ints (l : List Nat) : List Int := l.map fun (r : Nat) => (r : Int)
set_option maxRecDepth 100000 in
theorem ints_length (l : List Nat) : (ints l).length = l.length := by simp [ints]
set_option maxRecDepth 100000 in
theorem ints_take (l : List Nat) (k : Nat) : (ints l).take k = ints (l.take k) := by simp [ints]
set_option maxRecDepth 100000 in
theorem norm_ints {l : List Nat} (h : ∀ r ∈ l, okR r) : (ints l).map normR = l := by
  unfold ints
  rw [List.map_map]
  conv => rhs; rw [← List.map_id l]
  exact List.map_congr_left fun r hr => normR_self (h r hr)
set_option maxRecDepth 100000 in
theorem norm_norm (l : List Int) : (ints (l.map normR)).map normR = l.map normR := norm_ints (by intro r hr; obtain ⟨x, _, rfl⟩ := List.mem_map.1 hr; exact normR_ok x)
set_option maxRecDepth 100000 in
theorem textZ_norm (l : List Int) : textZ (ints (l.map normR)) = textZ l := by
  unfold textZ
  rw [textB_textL, textB_textL, norm_norm]
set_option maxRecDepth 100000 in
/-- A text's runes' text has the same runes. -/
theorem runes_back (s : ByteArray) : runesOf (textZ (ints (runesOf s))) = runesOf s := by rw [runes_textZ, norm_ints (runesOf_ok s)]
set_option maxRecDepth 100000 in
theorem text_back (s : ByteArray) : textZ (ints (runesOf (textZ (ints (runesOf s))))) = textZ (ints (runesOf s)) := by rw [runes_back]
set_option maxRecDepth 100000 in
/-- A text of nothing but runes' bytes. -/
theorem text_whole (s : ByteArray) (h : ∀ r ∈ runesOf s, r ≠ 65533) : textZ (ints (runesOf s)) = s := by
  apply bytesL_inj
  rw [bytesL_textZ, textB_textL, norm_ints (runesOf_ok s)]
  exact text_runes _ (bytesL_lt s) h
set_option maxRecDepth 100000 in
/-- Byte by byte. -/
theorem runesOf_apart (a b : ByteArray) (c : Nat) (d : ByteArray) (hd : bytesL d = [c]) (hc : c < 128) : runesOf (a ++ d ++ b) = runesOf a ++ c :: runesOf b := by
  unfold runesOf
  rw [bytesL_append, bytesL_append, hd, List.append_assoc]
  exact runes_apart c (bytesL b) hc (bytesL a)
set_option maxRecDepth 100000 in
theorem runesOf_many (s : ByteArray) : (runesOf s).length ≤ s.size ∧ s.size ≤ 4 * (runesOf s).length := by
  have h := runesL_many (bytesL s)
  rw [bytesL_length] at h
  exact h

/-! ### What fits -/
/-- How many of the first runes fit. -/
def fitK : List Int → Int → Nat
  | [], _ => 0
  | r :: l, n => if ((encR (normR r)).length : Int) ≤ n then fitK l (n - (encR (normR r)).length) + 1 else 0
set_option maxRecDepth 100000 in
theorem fitK_le : ∀ (l : List Int) (n : Int), fitK l n ≤ l.length
  | [], _ => by simp [fitK]
  | r :: l, n => by
    unfold fitK
    split
    · have := fitK_le l (n - (encR (normR r)).length); simp; omega
    · simp
set_option maxRecDepth 100000 in
theorem textB_cons (r : Int) (l : List Int) : textB (r :: l) = encR (normR r) ++ textB l := rfl
set_option maxRecDepth 100000 in
/-- Just the first so many fit. -/
theorem fitK_iff : ∀ (l : List Int) (n : Int) (k : Nat), 0 ≤ n → k ≤ l.length → (((textB (l.take k)).length : Int) ≤ n ↔ k ≤ fitK l n)
  | [], n, k, h0, hk => by
    have : k = 0 := by simpa using hk
    subst this
    simp [textB, fitK, h0]
  | r :: l, n, 0, h0, _ => by simp [textB, h0]
  | r :: l, n, k + 1, h0, hk => by
    have hk' : k ≤ l.length := by simpa using hk
    rw [List.take_succ_cons, textB_cons, List.length_append]
    unfold fitK
    split
    · rename_i hr
      have := fitK_iff l (n - (encR (normR r)).length) k (by omega) hk'
      rw [Nat.add_le_add_iff_right, ← this]
      omega
    · rename_i hr
      constructor
      · intro h; omega
      · intro h; omega
set_option maxRecDepth 100000 in
/-- The reference's way comes to that. -/
theorem best_fit (l : List Int) (n : Int) (h0 : 0 ≤ n) : ∀ k, k ≤ l.length + 1 → bestTo l n k = if k = 0 then ⟨#[]⟩ else textZ (l.take (min (k - 1) (fitK l n)))
  | 0, _ => by simp [bestTo]
  | k + 1, hk => by
    have hk' : k ≤ l.length := by omega
    have ih := best_fit l n h0 k (by omega)
    have hi := fitK_iff l n k h0 hk'
    unfold bestTo
    rw [textZ_size]
    by_cases h : k ≤ fitK l n
    · rw [if_pos (hi.2 h), if_neg (by omega), Nat.add_sub_cancel, Nat.min_eq_left h]
    · rw [if_neg (fun e => h (hi.1 e)), ih, if_neg (by omega), if_neg (by omega)]
      congr 2
      omega
set_option maxRecDepth 100000 in
theorem best_none (l : List Int) (n : Int) (h0 : n < 0) : ∀ k, bestTo l n k = ⟨#[]⟩
  | 0 => rfl
  | k + 1 => by
    unfold bestTo
    rw [if_neg (by omega)]
    exact best_none l n h0 k
set_option maxRecDepth 100000 in
theorem textZ_nil : textZ [] = ⟨#[]⟩ := rfl
set_option maxRecDepth 100000 in
theorem fitK_neg (l : List Int) (n : Int) (h : n < 0) : fitK l n = 0 := by
  cases l with
  | nil => rfl
  | cons r l => unfold fitK; rw [if_neg (by omega)]
set_option maxRecDepth 100000 in
/-- At every number. -/
theorem best_is (l : List Int) (n : Int) : bestTo l n (l.length + 1) = textZ (l.take (fitK l n)) := by
  by_cases h : 0 ≤ n
  · rw [best_fit l n h _ (Nat.le_refl _), if_neg (by omega), Nat.add_sub_cancel, Nat.min_eq_right (fitK_le l n)]
  · rw [best_none l n (by omega), fitK_neg l n (by omega)]
    rfl
set_option maxRecDepth 100000 in
theorem fit_fits (l : List Int) (n : Int) (h : 0 ≤ n) : ((textZ (l.take (fitK l n))).size : Int) ≤ n := by
  rw [textZ_size]
  exact (fitK_iff l n _ h (fitK_le l n)).2 (Nat.le_refl _)
set_option maxRecDepth 100000 in
/-- The runes of what fits are the first runes. -/
theorem fit_runes (s : ByteArray) (n : Int) : runesOf (textZ ((ints (runesOf s)).take (fitK (ints (runesOf s)) n))) = (runesOf s).take (fitK (ints (runesOf s)) n) := by
  rw [runes_textZ, ints_take]
  exact norm_ints fun r hr => runesOf_ok s r (List.mem_of_mem_take hr)
end Go.Proofs.YthkpaelpnofbgaaGreatDoor
/-
  Letters, digits and what a number folds to, without the program's text: once is enough, no more than three fold to one, what is no letter stays.
-/
namespace Go.Proofs.YthkpaelpnofbgaaGreatDoor

def digitZ (r : Int) : Prop := (48 ≤ r ∧ r ≤ 57) ∨ (1632 ≤ r ∧ r ≤ 1641)
def letterZ (r : Int) : Prop := (65 ≤ r ∧ r ≤ 90) ∨ (97 ≤ r ∧ r ≤ 122) ∨ (192 ≤ r ∧ r ≤ 591 ∧ r ≠ 215 ∧ r ≠ 247) ∨ r = 902 ∨ (904 ≤ r ∧ r ≤ 906) ∨ r = 908 ∨ (910 ≤ r ∧ r ≤ 929) ∨ (931 ≤ r ∧ r ≤ 974) ∨
  (1024 ≤ r ∧ r ≤ 1153) ∨ (1162 ≤ r ∧ r ≤ 1327) ∨ (1488 ≤ r ∧ r ≤ 1514) ∨ (19968 ≤ r ∧ r ≤ 40959) ∨ (44032 ≤ r ∧ r ≤ 55203)
instance (r : Int) : Decidable (digitZ r) := by unfold digitZ; exact inferInstance
instance (r : Int) : Decidable (letterZ r) := by unfold letterZ; exact inferInstance
def classZ (r : Int) : Int := if digitZ r then 2 else if letterZ r then 1 else 0
def upZ (r : Int) : Prop := (65 ≤ r ∧ r ≤ 90) ∨ (192 ≤ r ∧ r ≤ 222 ∧ r ≠ 215) ∨ (913 ≤ r ∧ r ≤ 939 ∧ r ≠ 930) ∨ (1040 ≤ r ∧ r ≤ 1071)
def evenZ (r : Int) : Prop := (256 ≤ r ∧ r ≤ 311) ∨ (330 ≤ r ∧ r ≤ 375) ∨ (1120 ≤ r ∧ r ≤ 1153) ∨ (1162 ≤ r ∧ r ≤ 1215) ∨ (1232 ≤ r ∧ r ≤ 1327)
def oddZ (r : Int) : Prop := (313 ≤ r ∧ r ≤ 328) ∨ (377 ≤ r ∧ r ≤ 382)
instance (r : Int) : Decidable (upZ r) := by unfold upZ; exact inferInstance
instance (r : Int) : Decidable (evenZ r) := by unfold evenZ; exact inferInstance
instance (r : Int) : Decidable (oddZ r) := by unfold oddZ; exact inferInstance
def foldZ (r : Int) : Int :=
  if upZ r then r + 32
  else if (evenZ r ∧ r % 2 = 0) ∨ (oddZ r ∧ r % 2 = 1) then r + 1
  else if r = 376 then 255 else if r = 383 then 115 else if r = 902 then 940 else if r = 908 then 972 else if r = 962 then 963
  else if 904 ≤ r ∧ r ≤ 906 then r + 37 else if 910 ≤ r ∧ r ≤ 911 then r + 63 else if 1024 ≤ r ∧ r ≤ 1039 then r + 80 else if 1632 ≤ r ∧ r ≤ 1641 then r - 1584
  else r

set_option maxRecDepth 100000 in
theorem fold_far {r : Int} (h : r < 0 ∨ 1641 < r) : foldZ r = r := by
  unfold foldZ upZ evenZ oddZ
  repeat' split
  all_goals omega
set_option maxRecDepth 100000 in
theorem once_near : ∀ n : Nat, n < 1642 → foldZ (foldZ ((n : Nat) : Int)) = foldZ ((n : Nat) : Int) ∧ classZ (foldZ ((n : Nat) : Int)) = classZ ((n : Nat) : Int) := by decide +kernel
set_option maxRecDepth 100000 in
/-- Once is enough. -/
theorem fold_once (r : Int) : foldZ (foldZ r) = foldZ r ∧ classZ (foldZ r) = classZ r := by
  by_cases h : r < 0 ∨ 1641 < r
  · rw [fold_far h, fold_far h]
    exact ⟨rfl, rfl⟩
  · obtain ⟨n, rfl⟩ := Int.eq_ofNat_of_zero_le (by omega : 0 ≤ r)
    exact once_near n (by omega)
set_option maxRecDepth 100000 in
theorem fold_plain {r : Int} (h : classZ r = 0) : foldZ r = r := by
  have h1 : ¬ digitZ r := fun hd => by simp [classZ, hd] at h
  have h2 : ¬ letterZ r := fun hd => by simp [classZ, h1, hd] at h
  clear h
  unfold foldZ upZ evenZ oddZ
  unfold digitZ letterZ at *
  repeat' split
  all_goals omega
set_option maxRecDepth 100000 in
theorem fold_i32 {r : Int} (h0 : -2147483648 ≤ r) (h1 : r ≤ 2147483647) : -2147483648 ≤ foldZ r ∧ foldZ r ≤ 2147483647 := by
  unfold foldZ upZ evenZ oddZ
  repeat' split
  all_goals omega

/-! ### No more than three -/
/-- The numbers that fold to f beside f itself. -/
def first (f : Int) : Int :=
  if 97 ≤ f ∧ f ≤ 122 ∨ 224 ≤ f ∧ f ≤ 254 ∨ 945 ≤ f ∧ f ≤ 971 ∨ 1072 ≤ f ∧ f ≤ 1103 then f - 32
  else if f = 255 then 376 else if f = 940 then 902 else if f = 972 then 908
  else if 941 ≤ f ∧ f ≤ 943 then f - 37 else if 973 ≤ f ∧ f ≤ 974 then f - 63 else if 1104 ≤ f ∧ f ≤ 1119 then f - 80 else if 48 ≤ f ∧ f ≤ 57 then f + 1584
  else f - 1
def second (f : Int) : Int := if f = 115 then 383 else if f = 963 then 962 else f
set_option maxRecDepth 100000 in
theorem few_near : ∀ n : Nat, n < 1642 → (n : Int) = foldZ ((n : Nat) : Int) ∨ (n : Int) = first (foldZ ((n : Nat) : Int)) ∨ (n : Int) = second (foldZ ((n : Nat) : Int)) := by decide +kernel
set_option maxRecDepth 100000 in
theorem fold_few (r : Int) : r = foldZ r ∨ r = first (foldZ r) ∨ r = second (foldZ r) := by
  by_cases h : r < 0 ∨ 1641 < r
  · exact .inl (fold_far h).symm
  · obtain ⟨n, rfl⟩ := Int.eq_ofNat_of_zero_le (by omega : 0 ≤ r)
    exact few_near n (by omega)
set_option maxRecDepth 100000 in
theorem few_of {a b c d f : Int} (ha : foldZ a = f) (hb : foldZ b = f) (hc : foldZ c = f) (hd : foldZ d = f) : a = b ∨ a = c ∨ a = d ∨ b = c ∨ b = d ∨ c = d := by
  have h1 := fold_few a
  have h2 := fold_few b
  have h3 := fold_few c
  have h4 := fold_few d
  rw [ha] at h1; rw [hb] at h2; rw [hc] at h3; rw [hd] at h4
  generalize first f = x at *
  generalize second f = y at *
  omega
end Go.Proofs.YthkpaelpnofbgaaGreatDoor
