/-
  Layer 17 as it landed: words and phrases, fields. Over the program's own text.
-/
import Derived.Test.YtaaeooimalglaaaDoorQryLandB
namespace Go.Proofs.YtaaeooimalglaaaDoor
open Go.RowKit

/-- What a part of the reading does. -/
def Did {α : Type} (W0 w : World) (rb : Nat) (op : Int) (x : PR α) (V : World → α → Value → Prop) (e : Ending) (w' : World) : Prop :=
  Mod (fun k => k = rb) w w' ∧ match x with
    | .ok a r => ∃ v, e = .returned v ∧ V w' a v ∧ Rdr W0 w' rb r op
    | .err c => e = errE c
set_option maxRecDepth 100000 in
theorem did_ok {α : Type} {W0 w : World} {rb : Nat} {op : Int} {x : PR α} {V : World → α → Value → Prop} {f : FuncId} {args : Array Value} (h : Calls Tryd.prog f args w (Did W0 w rb op x V)) {a : α} {r : List Nat} (hx : x = .ok a r) : Calls Tryd.prog f args w fun e w' => ∃ v, e = .returned v ∧ V w' a v ∧ Rdr W0 w' rb r op ∧ Mod (fun k => k = rb) w w' := by
  subst hx
  exact h.mono fun _ _ ⟨h1, v, h2, h3, h4⟩ => ⟨v, h2, h3, h4, h1⟩
set_option maxRecDepth 100000 in
theorem did_err {α : Type} {W0 w : World} {rb : Nat} {op : Int} {x : PR α} {V : World → α → Value → Prop} {f : FuncId} {args : Array Value} (h : Calls Tryd.prog f args w (Did W0 w rb op x V)) {c : Int} (hx : x = .err c) : Calls Tryd.prog f args w fun e w' => e = errE c ∧ Mod (fun k => k = rb) w w' := by
  subst hx
  exact h.mono fun _ _ ⟨h1, h2⟩ => ⟨h2, h1⟩
set_option maxRecDepth 100000 in
theorem take_stop (p : Nat → Bool) : ∀ (R : List Nat) (i x : Nat), i ≤ (R.takeWhile p).length → R[i]? = some x → p x = false → (R.takeWhile p).length = i
  | [], _, _, _, h, _ => by simp at h
  | c :: R, 0, x, _, h, hp => by simp at h; subst h; simp [hp]
  | c :: R, i + 1, x, hi, h, hp => by
    rw [List.takeWhile_cons] at hi ⊢
    split at hi
    · rename_i hc
      rw [if_pos hc, List.length_cons, take_stop p R i x (by simpa using hi) (by simpa using h) hp]
    · simp at hi
set_option maxRecDepth 100000 in
theorem take_go (p : Nat → Bool) : ∀ (R : List Nat) (i x : Nat), i ≤ (R.takeWhile p).length → R[i]? = some x → p x = true → i + 1 ≤ (R.takeWhile p).length
  | [], _, _, _, h, _ => by simp at h
  | c :: R, 0, x, _, h, hp => by simp at h; subst h; simp [hp]
  | c :: R, i + 1, x, hi, h, hp => by
    rw [List.takeWhile_cons] at hi ⊢
    split at hi
    · rename_i hc
      have := take_go p R i x (by simpa using hi) (by simpa using h) hp
      rw [if_pos hc, List.length_cons]; omega
    · simp at hi
set_option maxRecDepth 100000 in
theorem take_le (p : Nat → Bool) (R : List Nat) : (R.takeWhile p).length ≤ R.length := (List.takeWhile_prefix p).length_le
set_option maxRecDepth 100000 in
theorem take_tw (p : Nat → Bool) : ∀ R : List Nat, R.take (R.takeWhile p).length = R.takeWhile p ∧ R.drop (R.takeWhile p).length = R.dropWhile p
  | [] => by simp
  | c :: R => by
    obtain ⟨h1, h2⟩ := take_tw p R
    rw [List.takeWhile_cons, List.dropWhile_cons]
    split
    · exact ⟨by rw [List.length_cons, List.take_succ_cons, h1], by rw [List.length_cons, List.drop_succ_cons, h2]⟩
    · simp
def foundZ (p : Nat → Bool) (R : List Nat) : Int := if (R.takeWhile p).length < R.length then ((R.takeWhile p).length : Int) else -1
section
variable {W0 w w' : World} {rb : Nat} {R : List Nat} {op : Int}
set_option maxRecDepth 100000 in
set_option maxHeartbeats 2000000 in
theorem begins_any (w : World) (c : Int) (hT : TabsIn w) :
    Calls Tryd.prog 39 #[.int .i32 c] w fun e w' => e = .returned (.bool (beginB c)) ∧ Below w.heap.size w w' := by
  have HC := Lib.hid (class_tab w c hT)
  have hbr := Lib.hid (Below.refl w.heap.size w)
  clear hT
  by_cases h1 : c = 33
  · have HE := Lib.hid (show beginB c = true by unfold beginB; rw [h1]; rfl)
    go_enter Tryd.func39, Tryd.ntmps39
    go_wp2_with fail
    go_ret
    exact ⟨by rw [HE.out]; rfl, hbr.out⟩
  · by_cases h2 : c = 40
    · have HE := Lib.hid (show beginB c = true by unfold beginB; rw [h2]; rfl)
      go_enter Tryd.func39, Tryd.ntmps39
      go_wp2_with fail
      go_ret
      exact ⟨by rw [HE.out]; rfl, hbr.out⟩
    · by_cases h3 : c = 34
      · have HE := Lib.hid (show beginB c = true by unfold beginB; rw [h3]; rfl)
        go_enter Tryd.func39, Tryd.ntmps39
        go_wp2_with fail
        go_ret
        exact ⟨by rw [HE.out]; rfl, hbr.out⟩
      · have HE := Lib.hid (show beginB c = (classZ c != 0) by unfold beginB; rw [show (c == 33) = false by simp [h1], show (c == 40) = false by simp [h2], show (c == 34) = false by simp [h3]]; rfl)
        obtain ⟨z, hz⟩ : ∃ z, z = classZ c := ⟨_, rfl⟩
        rw [← hz] at HC HE
        clear hz
        go_enter Tryd.func39, Tryd.ntmps39
        by_cases hz0 : z = 0
        · go_wp2_with (go_at_call 40; refine HC.out.mono ?_; rintro e w2 ⟨rfl, hb⟩; have HB := Lib.hid hb; clear hb)
          go_ret
          exact ⟨by rw [HE.out]; simp [hz0, h1, h2, h3], HB.out⟩
        · go_wp2_with (go_at_call 40; refine HC.out.mono ?_; rintro e w2 ⟨rfl, hb⟩; have HB := Lib.hid hb; clear hb)
          go_ret
          exact ⟨by rw [HE.out]; simp [hz0, h1, h2, h3], HB.out⟩
set_option maxRecDepth 100000 in
set_option maxHeartbeats 2000000 in
theorem letter_any (w : World) (c : Int) (hT : TabsIn w) :
    Calls Tryd.prog 42 #[.int .i32 c] w fun e w' => e = .returned (.bool (classZ c == 0)) ∧ Below w.heap.size w w' := by
  have HC := Lib.hid (class_tab w c hT)
  obtain ⟨z, hz⟩ : ∃ z, z = classZ c := ⟨_, rfl⟩
  rw [← hz] at HC
  rw [← hz]
  clear hT hz
  go_enter Tryd.func42, Tryd.ntmps42
  go_wp2_with (go_at_call 40; refine HC.out.mono ?_; rintro e w2 ⟨rfl, hb⟩; have HB := Lib.hid hb; clear hb)
  go_ret
  exact ⟨rfl, HB.out⟩
set_option maxRecDepth 100000 in
set_option maxHeartbeats 2000000 in
theorem index_any (w : World) (oa : Option Addr) (c : Nat) (R : List Nat) (hr : ReadI w oa (ints R)) (hn : R.length ≤ 1000000) :
    Calls Tryd.prog 69 #[.slice oa R.length c, .int .i32 34] w fun e w' => e = .returned (.int .i64 (foundZ (· != 34) R)) ∧ w' = w := by
  have HR := Lib.hid hr
  obtain ⟨n, hnn⟩ : ∃ n, n = R.length := ⟨_, rfl⟩
  obtain ⟨t, ht⟩ : ∃ t, t = (R.takeWhile (· != 34)).length := ⟨_, rfl⟩
  have hle := take_le (· != 34) R
  have HF := Lib.hid (show foundZ (· != 34) R = if t < n then (t : Int) else -1 by unfold foundZ; rw [ht, hnn])
  have HSt := Lib.hid (fun (i x : Nat) (h1 : i ≤ t) (h2 : R[i]? = some x) (h3 : x = 34) => ht.trans (take_stop (· != 34) R i x (by rw [← ht]; exact h1) h2 (by rw [h3]; rfl)))
  have HGo := Lib.hid (fun (i x : Nat) (h1 : i ≤ t) (h2 : R[i]? = some x) (h3 : ¬ x = 34) => (show i + 1 ≤ t by rw [ht]; exact take_go (· != 34) R i x (by rw [← ht]; exact h1) h2 (bne_iff_ne.2 h3)))
  rw [← hnn] at hn hle ⊢
  rw [← ht] at hle
  have HN := Lib.hid hnn
  clear hr hnn ht
  go_enter Tryd.func69, Tryd.ntmps69
  go_wp2_with fail
  go_loopw [8] (fun iv wr => ∃ i : Nat, i ≤ n ∧ i ≤ t ∧ iv = .int .i64 i ∧ wr = w) (fun iv _ => n - (intOf iv).toNat)
  case atStart => exact ⟨0, by omega, by omega, rfl, rfl⟩
  case round =>
    obtain ⟨i, hi, hit, rfl, rfl⟩ := hrel
    by_cases hlt : i < n
    · obtain ⟨x, hx⟩ : ∃ x, R[i]? = some x := ⟨_, List.getElem?_eq_getElem (by rw [← HN.out]; exact hlt)⟩
      obtain ⟨ad, rfl, hcell⟩ := HR.out i _ (ints_get hx)
      by_cases h34 : x = 34
      · have h1 := HSt.out i x hit hx h34
        have HE := Lib.hid (show (if t < n then (t : Int) else -1) = (i : Int) by rw [if_pos (by omega), h1])
        have h342 : (x : Int) = 34 := by omega
        clear h1 hx h34
        go_wp2_with fail
        try rw [Exit.noGoto_ret]
        go_ret
        exact ⟨by rw [HF.out, HE.out]; rfl, rfl⟩
      · have h1 := HGo.out i x hit hx h34
        have h342 : ¬ (x : Int) = 34 := by omega
        have h343 : ¬ (34 : Int) = (x : Int) := by omega
        clear hx h34
        go_wp2_with fail
        go_roundw
        case rel => exact ⟨i + 1, by omega, h1, by go_num, trivial⟩
        case measure => simp [intOf]; omega
    · have HE := Lib.hid (show (if t < n then (t : Int) else -1) = -1 by rw [if_neg (by omega)])
      go_wp2_with fail
      go_ret
      exact ⟨by rw [HF.out, HE.out]; rfl, rfl⟩
set_option maxRecDepth 100000 in
set_option maxHeartbeats 2000000 in
theorem indexf_any (w : World) (oa : Option Addr) (c : Nat) (R : List Nat) (hT : TabsIn w) (hr : ReadI w oa (ints R)) (hn : R.length ≤ 1000000) :
    Calls Tryd.prog 41 #[.slice oa R.length c, .func (.func 42) #[] #[]] w fun e w' => e = .returned (.int .i64 (foundZ letB R)) ∧ Below w.heap.size w w' := by
  have HR := Lib.hid hr
  have HT := Lib.hid hT
  have HL := Lib.hid (fun w' c => letter_any w' c)
  obtain ⟨n, hnn⟩ : ∃ n, n = R.length := ⟨_, rfl⟩
  obtain ⟨t, ht⟩ : ∃ t, t = (R.takeWhile letB).length := ⟨_, rfl⟩
  have hle := take_le letB R
  have HF := Lib.hid (show foundZ letB R = if t < n then (t : Int) else -1 by unfold foundZ; rw [ht, hnn])
  have HSt := Lib.hid (fun (i x : Nat) (h1 : i ≤ t) (h2 : R[i]? = some x) (h3 : classZ (x : Int) = 0) => ht.trans (take_stop letB R i x (by rw [← ht]; exact h1) h2 (by unfold letB; simp [h3])))
  have HGo := Lib.hid (fun (i x : Nat) (h1 : i ≤ t) (h2 : R[i]? = some x) (h3 : ¬ classZ (x : Int) = 0) => (show i + 1 ≤ t by rw [ht]; exact take_go letB R i x (by rw [← ht]; exact h1) h2 (by unfold letB; simp [h3])))
  rw [← hnn] at hn hle ⊢
  rw [← ht] at hle
  have HN := Lib.hid hnn
  clear hr hnn ht hT
  go_enter Tryd.func41, Tryd.ntmps41
  go_wp2_with fail
  go_loopw [8] (fun iv wr => ∃ i : Nat, i ≤ n ∧ i ≤ t ∧ iv = .int .i64 i ∧ Below w.heap.size w wr) (fun iv _ => n - (intOf iv).toNat)
  case atStart => exact ⟨0, by omega, by omega, rfl, Below.refl _ _⟩
  case round =>
    obtain ⟨i, hi, hit, rfl, hb0⟩ := hrel
    by_cases hlt : i < n
    · obtain ⟨x, hx⟩ : ∃ x, R[i]? = some x := ⟨_, List.getElem?_eq_getElem (by rw [← HN.out]; exact hlt)⟩
      obtain ⟨ad, rfl, hcell⟩ := (HR.out.below hb0) i _ (ints_get hx)
      have HC := Lib.hid (HL.out wr (x : Int) (HT.out.below hb0))
      have HB0 := Lib.hid hb0
      clear hb0
      by_cases h34 : classZ (x : Int) = 0
      · have h1 := HSt.out i x hit hx h34
        have HE := Lib.hid (show (if t < n then (t : Int) else -1) = (i : Int) by rw [if_pos (by omega), h1])
        rw [show (classZ (x : Int) == 0) = true by simp [h34]] at HC
        clear h1 hx h34
        go_wp2_with (go_at_call 42; refine HC.out.mono ?_; rintro e w2 ⟨rfl, hb⟩; have HB := Lib.hid hb; clear hb)
        try rw [Exit.noGoto_ret]
        go_ret
        exact ⟨by rw [HF.out, HE.out]; rfl, low_more HB0.out HB.out⟩
      · have h1 := HGo.out i x hit hx h34
        rw [show (classZ (x : Int) == 0) = false by simp [h34]] at HC
        clear hx h34
        go_wp2_with (go_at_call 42; refine HC.out.mono ?_; rintro e w2 ⟨rfl, hb⟩; have HB := Lib.hid (low_more HB0.out hb); clear hb)
        go_roundw
        case rel => exact ⟨i + 1, by omega, h1, by go_num, HB.out⟩
        case measure => simp [intOf]; omega
    · have HE := Lib.hid (show (if t < n then (t : Int) else -1) = -1 by rw [if_neg (by omega)])
      have HB := Lib.hid hb0
      clear hb0
      go_wp2_with fail
      go_ret
      exact ⟨by rw [HF.out, HE.out]; rfl, HB.out⟩
end
end Go.Proofs.YtaaeooimalglaaaDoor
