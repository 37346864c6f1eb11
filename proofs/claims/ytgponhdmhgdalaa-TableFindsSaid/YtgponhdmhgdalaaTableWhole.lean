/-
  The laws' 'whole': a program runs to its end, and whether it met no error. Over the program's own text.
-/
import Derived.Test.YtgponhdmhgdalaaAccWhole
import Derived.Deep.CutBlock
import Derived.Deep.DeepCutAuto
namespace Go.Proofs.Ytgponhdmhgdalaa
open Go.RowKit
variable {α : Type}

set_option maxHeartbeats 1000000 in
theorem whole_at {W : World} {mb cb : Nat} {cs cs' : List Int} {l s : Int} {F : FuncId} {caps : Array Value} {S : Nat → Prop} {I : World → Prop} {p : Pr α} {Post : α → World → Prop} {x : α} {n B : Nat} (hm : MemAt W mb cb cs l s) (h0 : 0 ≤ l) (h1 : 0 ≤ s) (hcu : ∀ y ∈ cs, U y) (hd : Does p cs n x cs')
    (hC : ∀ rb, W.heap.size ≤ rb → Clo F caps rb mb cb S I p Post B) (hI : I W) (hS : ∀ k, S k → k < W.heap.size ∧ k ≠ mb ∧ k ≠ cb) (hn : n ≤ 49152) (hn2 : n + 1 ≤ B) (ht : l + s + n + 1 ≤ B) :
    Calls Try.prog 10 #[.pointer (some ⟨mb, 0, none⟩), .func (.func F) #[] caps] W fun e w' => e = .returned (.bool true) ∧ Final W mb cb S I Post x cs' (l + s + n) w' := by
  have HG := Lib.hid (fun (w1 : World) (hb : Below W.heap.size W w1) (hr : RunAt w1 W.heap.size mb none 0 [] 0 false false false false 0) => Going.new (rb := W.heap.size) (S := S) (I := I) (w0 := W) hm h0 h1 hcu hd hb hr ((hC _ (Nat.le_refl _)).keepI W w1 hI hb.size fun k hk hl => hb.block k hl) rfl)
  have HC := Lib.hid (hC W.heap.size (Nat.le_refl _))
  have HS := Lib.hid hS
  have HT := Lib.hid ht
  clear hm hcu hd hC hI hS ht h0 h1
  go_enter Try.func10, Try.ntmps10
  go_wp2_with fail
  refine (new_run _ mb).mono ?_; rintro e w1 ⟨rfl, hr, hb⟩
  have HG := Lib.hid (HG.out w1 hb hr)
  clear hr hb
  go_wp2_with fail
  go_loopw [8] (fun iv wr => ∃ i : Nat, i ≤ n ∧ iv = .int .i64 i ∧ Going W W.heap.size mb cb S I p x cs' (l + s + n) n i wr) (fun iv _ => 65536 - (intOf iv).toNat)
  case atStart => exact ⟨0, by omega, rfl, HG.out⟩
  case round =>
    clear HG
    obtain ⟨i, hi, rfl, hg⟩ := hrel
    have hlt : (i : Int) < 65536 := by omega
    have HK := Lib.hid (hg.stepE (Nat.le_refl _) HC.out HS.out hn2 HT.out)
    clear hg
    go_wp2_with fail
    refine HK.out.mono ?_
    clear HK
    rintro e w2 (⟨rfl, hf, cap, go', log, at_, ma, off, ov, hr⟩ | ⟨rfl, hg, hin⟩)
    · have HF := Lib.hid hf
      have HR := Lib.hid hr
      clear hf hr
      go_wp2_with (go_at_call 27; refine (err_at HR.out).mono ?_; rintro e w3 ⟨rfl, rfl⟩)
      go_ret
      exact ⟨rfl, HF.out⟩
    · have HG := Lib.hid hg
      clear hg
      go_wp2_with fail
      go_roundw
      case rel => exact ⟨i + 1, by omega, by go_num, HG.out⟩
      case measure => simp [intOf]; omega
end Go.Proofs.Ytgponhdmhgdalaa
