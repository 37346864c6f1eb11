/-
  A law's walk of layer 6, given what the program's functions keep: a document of words that are all alike. Over the program's own text.
-/
import Derived.Test.YtpfbhafcjipmeaaDoorTokKept
namespace Go.Proofs.YtpfbhafcjipmeaaDoor
open Go.RowKit

/-- A text so many times. -/
def repZ (u : ByteArray) : Nat → ByteArray
  | 0 => ⟨#[]⟩
  | n + 1 => repZ u n ++ u
theorem repZ_size (u : ByteArray) : ∀ n, (repZ u n).size = n * u.size
  | 0 => by rw [Nat.zero_mul]; rfl
  | n + 1 => by rw [repZ, ByteArray.size_append, repZ_size u n, Nat.succ_mul]
theorem allT_nil : allT ⟨#[]⟩ = [] := by decide +kernel
theorem allT_rep (u v : ByteArray) (hu : u = ⟨#[32]⟩ ++ v) (l : List (List Nat)) (hv : allT v = l) : ∀ n, allT (repZ u n) = (List.replicate n l).flatten
  | 0 => allT_nil
  | n + 1 => by
    have e : repZ u (n + 1) = repZ u n ++ ⟨#[32]⟩ ++ v := by rw [repZ, hu, ByteArray.append_assoc]
    rw [e, allT_blank _ _ _ rfl, allT_rep u v hu l hv n, hv, List.replicate_succ', List.flatten_append]
    simp
theorem places_count : ∀ (l : List (List Nat)) (n : Nat), (placesF n l).length = (l.filter fun t => !stopB t).length
  | [], _ => rfl
  | t :: l, n => by
    have h := places_count l (n + 1)
    rw [placesF]
    cases hs : stopB t <;> simp [hs, h]
def uX : ByteArray := ⟨#[32, 120]⟩
def uY : ByteArray := ⟨#[32, 121, 32, 116, 104, 101]⟩
theorem count_rep (l : List (List Nat)) (h : (l.filter fun t => !stopB t).length = 1) : ∀ n, ((List.replicate n l).flatten.filter fun t => !stopB t).length = n
  | 0 => rfl
  | n + 1 => by
    rw [List.replicate_succ, List.flatten_cons, List.filter_append, List.length_append, h, count_rep l h n]
    omega
theorem words_x (n : Nat) : (wordsT (repZ uX n)).length = n := by
  unfold wordsT
  rw [places_count, allT_rep uX ⟨#[120]⟩ (by decide) [[120]] (by decide +kernel), count_rep _ (by decide)]
theorem words_y (n : Nat) : (wordsT (repZ uY n)).length = n := by
  unfold wordsT
  rw [places_count, allT_rep uY ⟨#[121, 32, 116, 104, 101]⟩ (by decide) [[121], [116, 104, 101]] (by decide +kernel), count_rep _ (by decide)]
theorem fields_xy (n m : Nat) : (fieldsT [repZ uX n, repZ uY m]).length = n + m := by
  simp [fieldsT, fieldsF, toksP_length, words_x, words_y]
theorem bad_xy (n m : Nat) (hn : n < 100) : badF [repZ uX n, repZ uY m] ↔ 64 < n + m ∨ 512 < m * 6 := by
  have h1 : (repZ uX n).size = n * 2 := repZ_size uX n
  have h2 : (repZ uY m).size = m * 6 := repZ_size uY m
  unfold badF longF
  rw [fields_xy]
  simp only [List.length_cons, List.length_nil, List.mem_cons, List.not_mem_nil, or_false]
  constructor
  · rintro ((h | ⟨x, rfl | rfl, h⟩) | h)
    · omega
    · omega
    · right; omega
    · left; omega
  · rintro (h | h)
    · exact .inr h
    · exact .inl (.inr ⟨_, .inr rfl, by omega⟩)

section
variable {T : World → Prop} (K : KeptTok T) (W : World) (hT : T W)
include K hT

set_option maxRecDepth 100000 in
set_option maxHeartbeats 600000 in
theorem many_all (n m : Int) (hn0 : 0 ≤ n) (hn1 : n ≤ 255) (hm0 : 0 ≤ m) (hm1 : m ≤ 255) : Calls Tryd.prog 5 #[.int .u8 n, .int .u8 m] W fun e w' => e = .returned (.bool true) ∧ Below W.heap.size W w' := by
  have HF := Lib.hid (fun w h => fixed_any K w h)
  have HT := Lib.hid hT
  have HK := Lib.hid (fun w w' => K.keep w w')
  obtain ⟨N, hN⟩ : ∃ N : Nat, (N : Int) = n % 100 := ⟨(n % 100).toNat, by omega⟩
  obtain ⟨M, hM⟩ : ∃ M : Nat, (M : Int) = m % 100 := ⟨(m % 100).toNat, by omega⟩
  have hNl : N < 100 := by omega
  have hMl : M < 100 := by omega
  have HNe := Lib.hid hN
  have HMe := Lib.hid hM
  have hux : uX.size = 2 := rfl
  have huy : uY.size = 6 := rfl
  have hszs : ∀ x ∈ [repZ uX N, repZ uY M], x.size ≤ 1000000 := by intro x hx; simp at hx; rcases hx with rfl | rfl <;> (rw [repZ_size]; first | (rw [hux]; omega) | (rw [huy]; omega))
  have hbd := bad_xy N M hNl
  have hfl := fields_xy N M
  have hsy : (repZ uY M).size = M * 6 := by rw [repZ_size, huy]
  obtain ⟨tx, htx⟩ : ∃ tx, repZ uX N = tx := ⟨_, rfl⟩
  obtain ⟨ty, hty⟩ : ∃ ty, repZ uY M = ty := ⟨_, rfl⟩
  rw [htx, hty] at hszs hbd hfl
  rw [hty] at hsy
  have HX := Lib.hid htx
  have HY := Lib.hid hty
  have HTk := Lib.hid (K.tokens_of [tx, ty] 2 rfl hszs (by decide))
  have hbad : badF [tx, ty] → docL [tx, ty] = [] ∧ docE [tx, ty] = 4 := fun h => ⟨by unfold docL; rw [if_pos h], by unfold docE; rw [if_pos h]⟩
  have hgood : ¬ badF [tx, ty] → (docL [tx, ty]).length = N + M ∧ docE [tx, ty] = 0 := fun h => ⟨by unfold docL; rw [if_neg h, hfl], by unfold docE; rw [if_neg h]⟩
  have HBad := Lib.hid hbad
  have HGood := Lib.hid hgood
  have HBd := Lib.hid hbd
  clear hszs hbd hfl hbad hgood htx hty
  clear K hT hN hM
  go_enter Tryd.func5, Tryd.ntmps5
  go_wp2_with fail
  rw [← HNe.out]
  go_loopw [5, 13] (fun av iv wr => ∃ i : Nat, i ≤ N ∧ iv = .int .i64 i ∧ av = .string (repZ uX i) ∧ wr = W) (fun _ iv _ => N - (intOf iv).toNat)
  case atStart => exact ⟨0, by omega, rfl, rfl, rfl⟩
  case round =>
    obtain ⟨i, hi, rfl, rfl, hw⟩ := hrel
    have hw' : W = wr := hw.symm
    subst hw'
    by_cases hlt : i < N
    · have hsz : (repZ uX i).size ≤ 200 := by rw [repZ_size, hux]; omega
      have hadd : (Op.stringOp .add (repZ uX i) ⟨#[32, 120]⟩).run Tryd.prog W = .ok (.string (repZ uX (i + 1))) W := run_string_add_sum W _ _ (by rw [show (⟨#[32, 120]⟩ : ByteArray).size = 2 from rfl]; omega)
      go_wp2_with fail
      go_roundw
      case rel => exact ⟨i + 1, by omega, by go_num, rfl, trivial⟩
      case measure => simp [intOf]; omega
    · have hi' : N = i := by omega
      subst hi'
      go_wp2_with fail
      rw [← HMe.out]
      go_loopw [6, 21] (fun bv iv wr => ∃ i : Nat, i ≤ M ∧ iv = .int .i64 i ∧ bv = .string (repZ uY i) ∧ wr = W) (fun _ iv _ => M - (intOf iv).toNat)
      case atStart => exact ⟨0, by omega, rfl, rfl, rfl⟩
      case round =>
        obtain ⟨i, hi, rfl, rfl, hw⟩ := hrel
        have hw' : W = wr := hw.symm
        subst hw'
        by_cases hlt : i < M
        · have hsz : (repZ uY i).size ≤ 600 := by rw [repZ_size, huy]; omega
          have hadd : (Op.stringOp .add (repZ uY i) ⟨#[32, 121, 32, 116, 104, 101]⟩).run Tryd.prog W = .ok (.string (repZ uY (i + 1))) W := run_string_add_sum W _ _ (by rw [show (⟨#[32, 121, 32, 116, 104, 101]⟩ : ByteArray).size = 6 from rfl]; omega)
          go_wp2_with fail
          go_roundw
          case rel => exact ⟨i + 1, by omega, by go_num, rfl, trivial⟩
          case measure => simp [intOf]; omega
        · have hi' : M = i := by omega
          subst hi'
          rw [HX.out, HY.out]
          have HRs := Lib.hid (show ReadS (W.alloc (.cells #[.string tx, .string ty] 9)) (some ⟨W.heap.size, 0, none⟩) [tx, ty] from readS_new W [tx, ty] 9)
          have HB1 := Lib.hid (show Below W.heap.size W (W.alloc (.cells #[.string tx, .string ty] 9)) from below_one)
          have HT1 := Lib.hid (HK.out _ _ HT.out HB1.out)
          by_cases hb : badF [tx, ty]
          · obtain ⟨hl, he⟩ := HBad.out hb
            have hbd := HBd.out.1 hb
            rw [hl, he] at HTk
            clear hl he hb
            go_wp2_with fail
            refine (HTk.out _ (some ⟨W.heap.size, 0, none⟩) 2 HT1.out HRs.out (Nat.le_refl _) (by decide)).mono ?_
            rintro e w5 ⟨ob, d, rfl, _, ht, hbw⟩
            have HT5 := Lib.hid ht
            have HB5 := Lib.hid (low_more HB1.out hbw)
            clear ht hbw
            have h1 := HNe.out
            have h2 := HMe.out
            by_cases h64 : (64 : Int) < n % 100 + m % 100
            · clear hbd h1 h2
              go_wp2_with fail
              refine (HF.out _ HT5.out).mono ?_; rintro e w6 ⟨rfl, _, hb6⟩
              have HB6 := Lib.hid (low_more HB5.out hb6)
              clear hb6
              go_wp2_with fail
              go_ret
              exact ⟨rfl, HB6.out⟩
            · have h512 : (512 : Int) < (M : Int) * 6 := by omega
              clear hbd h1 h2
              go_wp2_with fail
              refine (HF.out _ HT5.out).mono ?_; rintro e w6 ⟨rfl, _, hb6⟩
              have HB6 := Lib.hid (low_more HB5.out hb6)
              clear hb6
              go_wp2_with fail
              go_ret
              exact ⟨rfl, HB6.out⟩
          · obtain ⟨hl, he⟩ := HGood.out hb
            have hbd : ¬ (64 < N + M ∨ 512 < M * 6) := fun h => hb (HBd.out.2 h)
            rw [hl, he] at HTk
            clear hl he hb
            go_wp2_with fail
            refine (HTk.out _ (some ⟨W.heap.size, 0, none⟩) 2 HT1.out HRs.out (Nat.le_refl _) (by decide)).mono ?_
            rintro e w5 ⟨ob, d, rfl, _, ht, hbw⟩
            have HT5 := Lib.hid ht
            have HB5 := Lib.hid (low_more HB1.out hbw)
            clear ht hbw
            have h1 := HNe.out
            have h2 := HMe.out
            have h64 : ¬ (64 : Int) < n % 100 + m % 100 := by omega
            have h512 : ¬ (512 : Int) < (M : Int) * 6 := by omega
            have hq : ((N : Int) + (M : Int) == n % 100 + m % 100) = true := by rw [h1, h2]; simp
            clear hbd h1 h2
            go_wp2_with fail
            refine (HF.out _ HT5.out).mono ?_; rintro e w6 ⟨rfl, _, hb6⟩
            have HB6 := Lib.hid (low_more HB5.out hb6)
            clear hb6
            go_wp2_with fail
            go_ret
            exact ⟨rfl, HB6.out⟩
end
end Go.Proofs.YtpfbhafcjipmeaaDoor
