/-
  The laws' 'whole' of a program that stores nothing, wherever it goes. Over the program's own text.
-/
import Derived.Test.YteliaammffmmiaaAccRo
import Derived.Deep.CutBlock
import Derived.Deep.DeepCutAuto
namespace Go.Proofs.Yteliaammffmmiaa
open Go.RowKit
variable {α : Type}

set_option maxHeartbeats 1000000 in
theorem whole_ro {W : World} {mb cb : Nat} {cs : List Int} {l s : Int} {F : FuncId} {caps : Array Value} {S : Nat → Prop} {I : World → Prop} {p : Pr α} {Post : α → World → Prop} {B : Nat} (hm : MemAt W mb cb cs l s) (h0 : 0 ≤ l) (h1 : 0 ≤ s) (hcu : ∀ y ∈ cs, U y) (hro : p.RO)
    (hC : ∀ rb, W.heap.size ≤ rb → Clo F caps rb mb cb S I p Post B) (hI : I W) (hS : ∀ k, S k → k < W.heap.size ∧ k ≠ mb ∧ k ≠ cb) (hn2 : 262146 ≤ B) (ht : l + s + 262146 ≤ B) :
    Calls Try.prog 19 #[.pointer (some ⟨mb, 0, none⟩), .func (.func F) #[] caps] W fun e w' => ∃ b, e = .returned (.bool b) ∧ Roams W W.heap.size mb cb S I cs (l + s) 262144 w' := by
  have HG := Lib.hid (fun (w1 : World) (hb : Below W.heap.size W w1) (hr : RunAt w1 W.heap.size mb none 0 [] 0 false false false false 0) => Roams.new (rb := W.heap.size) (S := S) (I := I) hm h0 h1 hcu hb hr ((hC _ (Nat.le_refl _)).keepI W w1 hI hb.size fun k hk hl => hb.block k hl))
  have HC := Lib.hid (hC W.heap.size (Nat.le_refl _))
  have HS := Lib.hid hS
  have HT := Lib.hid ht
  have HR := Lib.hid hro
  clear hm hcu hC hI hS ht h0 h1 hro
  go_enter Try.func19, Try.ntmps19
  go_wp2_with fail
  refine (new_run _ mb).mono ?_; rintro e w1 ⟨rfl, hr, hb⟩
  have HG := Lib.hid (HG.out w1 hb hr)
  clear hr hb
  go_wp2_with fail
  go_loopw [8] (fun iv wr => ∃ i : Nat, i ≤ 262144 ∧ iv = .int .i64 i ∧ Roams W W.heap.size mb cb S I cs (l + s) i wr) (fun iv _ => 262144 - (intOf iv).toNat)
  case atStart => exact ⟨0, by omega, rfl, HG.out⟩
  case round =>
    clear HG
    obtain ⟨i, hi, rfl, hg⟩ := hrel
    by_cases hlt : i < 262144
    · have hlt2 : (i : Int) < 262144 := by omega
      have HT2 : l + s + (i : Int) + 1 ≤ B := by have := HT.out; omega
      have HK := Lib.hid (hg.step HR.out (Nat.le_refl _) HC.out HS.out (by omega) HT2)
      clear hg HT2
      go_wp2_with fail
      refine HK.out.mono ?_
      clear HK
      rintro e w2 ⟨b, rfl, hg⟩
      cases b with
      | true =>
        obtain ⟨⟨st, go, hrm, c1, c2, c3, c4, c5, c6, c7, c8, c9⟩, c10, c11⟩ := hg
        obtain ⟨cap, hr⟩ := hrm.run
        have HR2 := Lib.hid hr
        obtain ⟨er, her⟩ : ∃ er, er = st.err := ⟨_, rfl⟩
        have HF := Lib.hid (show Roams W W.heap.size mb cb S I cs (l + s) 262144 w2 from ⟨⟨st, go, hrm, c1, c2, by omega, c4, c5, by omega, c7, c8, c9⟩, c10, c11⟩)
        rw [← her] at HR2
        clear hrm c1 c2 c3 c4 c5 c6 c7 c8 c9 c10 c11 hr her
        by_cases he : er = 0
        · have he2 : (er == 0) = true := by simpa using he
          go_wp2_with (go_at_call 38; refine (err_at HR2.out).mono ?_; rintro e w3 ⟨rfl, rfl⟩)
          go_ret
          exact ⟨_, rfl, HF.out⟩
        · have he2 : (er == 0) = false := by simpa using he
          go_wp2_with (go_at_call 38; refine (err_at HR2.out).mono ?_; rintro e w3 ⟨rfl, rfl⟩)
          go_ret
          exact ⟨_, rfl, HF.out⟩
      | false =>
        have HG := Lib.hid hg
        clear hg
        go_wp2_with fail
        go_roundw
        case rel => exact ⟨i + 1, by omega, by go_num, HG.out⟩
        case measure => simp [intOf]; omega
    · have hi2 : i = 262144 := by omega
      subst hi2
      obtain ⟨⟨st, go, hrm, c1, c2, c3, c4, c5, c6, c7, c8, c9⟩, c10, c11⟩ := hg
      obtain ⟨cap, hr⟩ := hrm.run
      have HR2 := Lib.hid hr
      obtain ⟨er, her⟩ : ∃ er, er = st.err := ⟨_, rfl⟩
      have HF := Lib.hid (show Roams W W.heap.size mb cb S I cs (l + s) 262144 wr from ⟨⟨st, go, hrm, c1, c2, by omega, c4, c5, by omega, c7, c8, c9⟩, c10, c11⟩)
      rw [← her] at HR2
      clear hrm c1 c2 c3 c4 c5 c6 c7 c8 c9 c10 c11 hr her hlt hi
      by_cases he : er = 0
      · have he2 : (er == 0) = true := by simpa using he
        go_wp2_with (go_at_call 38; refine (err_at HR2.out).mono ?_; rintro e w3 ⟨rfl, rfl⟩)
        go_ret
        exact ⟨_, rfl, HF.out⟩
      · have he2 : (er == 0) = false := by simpa using he
        go_wp2_with (go_at_call 38; refine (err_at HR2.out).mono ?_; rintro e w3 ⟨rfl, rfl⟩)
        go_ret
        exact ⟨_, rfl, HF.out⟩
end Go.Proofs.Yteliaammffmmiaa
