/-
  Layer 13's laws: the contracts as the walks take them; the law's own bound and example. Over the program's own text.
-/
import Derived.Test.YtpmhkmakkeckkaaBlkRefF
import Derived.Test.YtpmhkmakkeckkaaBlkRefE
import Derived.Test.YtpmhkmakkeckkaaBlkRefD
import Derived.Test.YtpmhkmakkeckkaaCopy32
namespace Go.Proofs.Ytpmhkmakkeckkaa
open Go.RowKit

/-! ### The contracts -/
def EncAt (f : Nat) (N n : Nat) (l : List En) (X : List Nat) (er : Int) : Prop := ∀ (w : World) (oa : Option Addr) (c : Nat), ReadE w oa l → N ≤ c → Calls Try.prog f #[.slice oa N c] w fun e w' => ∃ ob d, e = .returned (.tuple #[.slice ob n d, .int .i64 er]) ∧ n ≤ d ∧ d ≤ maxLen ∧ ReadN .u32 w' ob X ∧ Below w.heap.size w w'
set_option maxRecDepth 100000 in
theorem enc_of {N n : Nat} {l : List En} {X : List Nat} {er : Int} (en : l.length = N) (hl : N ≤ 100000) (hE : encE l = er) (hX : encX l = X) (hn : X.length = n) : EncAt 25 N n l X er := by
  intro w oa c ha hc
  subst hE hX
  refine (lands_encode w oa c N l en ha hc hl).mono fun _ _ ⟨v, h1, h2, h3⟩ => ?_
  obtain ⟨ob, d, rfl, h4, h5, _, h6⟩ := h2.reads_of n hn
  exact ⟨ob, d, h1, h4, h5, h6, h3⟩
set_option maxRecDepth 100000 in
theorem ref_enc_of {N n : Nat} {l : List En} {X : List Nat} {er : Int} (en : l.length = N) (hl : N ≤ 100000) (hE : encE l = er) (hX : encX l = X) (hn : X.length = n) : EncAt 27 N n l X er := by
  intro w oa c ha hc
  subst hE hX
  refine (ref_encode13 w oa c N l en ha hl).mono fun _ _ ⟨v, h1, h2, h3⟩ => ?_
  obtain ⟨ob, d, rfl, h4, h5, _, h6⟩ := h2.reads_of n hn
  exact ⟨ob, d, h1, h4, h5, h6, h3⟩
def DecAt (f : Nat) (N n : Nat) (C : List Nat) (l : List En) (er : Int) : Prop := ∀ (w : World) (oa : Option Addr) (c : Nat), ReadN .u32 w oa C → N ≤ c → c ≤ maxLen → Calls Try.prog f #[.slice oa N c] w fun e w' => ∃ ob d, e = .returned (.tuple #[.slice ob n d, .int .i64 er]) ∧ n ≤ d ∧ d ≤ maxLen ∧ ReadE w' ob l ∧ Below w.heap.size w w'
set_option maxRecDepth 100000 in
theorem dec_of {N n : Nat} {C : List Nat} {l : List En} {er : Int} (en : C.length = N) (hl : N ≤ 200000) (hx : ∀ x ∈ C, x < 4294967296) (hD : decS C = (l, er)) (hn : l.length = n) : DecAt 43 N n C l er := by
  intro w oa c ha hc hm
  refine (lands_decode13 w oa c N C en ha hc hm hl hx).mono fun _ _ ⟨v, h1, h2, h3⟩ => ?_
  rw [dec_same, hD] at h1 h2
  obtain ⟨ob, d, rfl, h4, h5, _, h6⟩ := h2.reads
  simp only [hn] at h4 h1
  exact ⟨ob, d, h1, h4, h5, h6, h3⟩
set_option maxRecDepth 100000 in
theorem ref_dec_of {N n : Nat} {C : List Nat} {l : List En} {er : Int} (en : C.length = N) (hl : N ≤ 200000) (hx : ∀ x ∈ C, x < 4294967296) (hD : decS C = (l, er)) (hn : l.length = n) : DecAt 30 N n C l er := by
  intro w oa c ha hc hm
  refine (ref_decode13 w oa c N C en ha hc hm hl hx).mono fun _ _ ⟨v, h1, h2, h3⟩ => ?_
  rw [hD] at h1 h2
  obtain ⟨ob, d, rfl, h4, h5, _, h6⟩ := h2.reads
  simp only [hn] at h4 h1
  exact ⟨ob, d, h1, h4, h5, h6, h3⟩
set_option maxRecDepth 100000 in
theorem same13_eq (w : World) (oa ob : Option Addr) (ca cb n : Nat) (A : List En) (ea : A.length = n) (ha : ReadE w oa A) (hb : ReadE w ob A) (hn : n ≤ 1000000) (hpa : ∀ e ∈ A, e.2.length ≤ 1000000) :
    Calls Try.prog 31 #[.slice oa n ca, .slice ob n cb] w fun e w' => e = .returned (.bool true) ∧ Below w.heap.size w w' := by
  refine (ref_same13 w oa ob ca cb n n A A ea ea ha hb hn hpa).mono fun _ _ ⟨h1, h2⟩ => ⟨?_, h2⟩
  rw [h1, decide_eq_true rfl]
set_option maxRecDepth 100000 in
theorem same32_eq (w : World) (oa ob : Option Addr) (ca cb n : Nat) (A : List Nat) (ea : A.length = n) (ha : ReadN .u32 w oa A) (hb : ReadN .u32 w ob A) (hn : n ≤ 1000000) :
    Calls Try.prog 12 #[.slice oa n ca, .slice ob n cb] w fun e w' => e = .returned (.bool true) ∧ Below w.heap.size w w' := by
  refine (same32_at w oa ob ca cb n n A A ea ea ha hb hn).mono fun _ _ ⟨h1, h2⟩ => ⟨?_, h2⟩
  rw [h1, decide_eq_true rfl]

/-! ### More than is gone through? -/
def sumP : List En → Nat
  | [] => 0
  | e :: l => e.2.length + sumP l
set_option maxRecDepth 100000 in
theorem sumP_append : ∀ (l m : List En), sumP (l ++ m) = sumP l + sumP m
  | [], m => by simp [sumP]
  | e :: l, m => by simp only [List.cons_append, sumP, sumP_append l m]; omega
set_option maxRecDepth 100000 in
theorem sumP_take (l : List En) (n : Nat) : sumP (l.take n) ≤ sumP l := by
  have := sumP_append (l.take n) (l.drop n)
  rw [List.take_append_drop] at this
  omega
set_option maxRecDepth 100000 in
theorem sumP_mem : ∀ {l : List En} {e : En}, e ∈ l → e.2.length ≤ sumP l
  | x :: l, e, h => by
    simp only [sumP]
    rcases List.mem_cons.1 h with rfl | h
    · omega
    · have := sumP_mem h
      omega
def greatB (l : List En) : Bool := decide (100 < l.length ∨ 3000 < sumP l)
set_option maxRecDepth 100000 in
theorem great_no {l : List En} (h : greatB l = false) : l.length ≤ 100 ∧ ∀ e ∈ l, e.2.length ≤ 3000 := by
  have h := of_decide_eq_false h
  refine ⟨by omega, fun e he => ?_⟩
  have := sumP_mem he
  omega

/-! ### The chapter's examples -/
end Go.Proofs.Ytpmhkmakkeckkaa
