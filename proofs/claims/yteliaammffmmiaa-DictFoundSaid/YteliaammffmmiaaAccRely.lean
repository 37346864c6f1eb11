/-
  Programs that only load, on cells that others turn by a rule: what they come to, whoever stores between their Steps. Without the program's text.
-/
import Derived.Test.YteliaammffmmiaaAcc
namespace Go.Proofs.Yteliaammffmmiaa
open Go.RowKit
variable {α σ : Type}

/-- It loads alone, at most n times, and answers what Post says of the state then; I: what a state says of the cells; le: how states go on. -/
inductive Rely (I : σ → List Int → Prop) (le : σ → σ → Prop) (Post : σ → α → Prop) : Nat → σ → Pr α → Prop
  | ret {n : Nat} {s : σ} {x : α} : Post s x → Rely I le Post n s (.ret x)
  | load {n : Nat} {s : σ} {a : Int} {k : Int → Pr α} : (∀ s' cs, le s s' → I s' cs → 0 ≤ a ∧ a < cs.length) → (∀ s' cs, le s s' → I s' cs → Rely I le Post n s' (k (cs.getD a.toNat 0))) → Rely I le Post (n + 1) s (.load a k)
theorem Rely.load2 {I : σ → List Int → Prop} {le : σ → σ → Prop} {Post : σ → α → Prop} {n : Nat} {s : σ} {a : Int} {k : Int → Pr α} (h : ∀ s' cs, le s s' → I s' cs → (0 ≤ a ∧ a < cs.length) ∧ Rely I le Post n s' (k (cs.getD a.toNat 0))) : Rely I le Post (n + 1) s (.load a k) := .load (fun s' cs h1 h2 => (h s' cs h1 h2).1) fun s' cs h1 h2 => (h s' cs h1 h2).2
section
variable {I : σ → List Int → Prop} {le : σ → σ → Prop} {Post : σ → α → Prop} {n : Nat} {s : σ} {q : Pr α}
theorem Rely.more (h : Rely I le Post n s q) : ∀ m, n ≤ m → Rely I le Post m s q := by
  induction h with
  | ret hp => exact fun m _ => .ret hp
  | load hin _ ih =>
    intro m hm
    obtain ⟨j, rfl⟩ : ∃ j, m = j + 1 := ⟨m - 1, by omega⟩
    exact .load hin fun s' cs h1 h2 => ih s' cs h1 h2 j (by omega)
/-- The others go on. -/
theorem Rely.turn (h : Rely I le Post n s q) (ht : ∀ a b c, le a b → le b c → le a c) (hP : ∀ a b x, le a b → Post a x → Post b x) {s' : σ} (hs : le s s') : Rely I le Post n s' q := by
  cases h with
  | ret hp => exact .ret (hP _ _ _ hs hp)
  | load hin hk => exact .load (fun s2 cs h1 h2 => hin s2 cs (ht _ _ _ hs h1) h2) fun s2 cs h1 h2 => hk s2 cs (ht _ _ _ hs h1) h2
/-- A Step. -/
theorem Rely.step (h : Rely I le Post n s q) (hr : le s s) {cs : List Int} (hI : I s cs) : q.In cs.length ∧ Rely I le Post (n - 1) s (q.next cs).1 ∧ (q.next cs).2 = cs ∧ (0 < n ∨ ∃ x, (q.next cs).1 = .ret x) := by
  cases h with
  | ret hp => exact ⟨trivial, .ret hp, rfl, .inr ⟨_, rfl⟩⟩
  | load hin hk => exact ⟨hin s cs hr hI, hk s cs hr hI, rfl, .inl (by omega)⟩
theorem Rely.end_ {x : α} (h : Rely I le Post n s (.ret x)) : Post s x := by
  cases h with
  | ret hp => exact hp
/-- At once. -/
theorem Rely.does (h : Rely I le Post n s q) (hr : ∀ a, le a a) {cs : List Int} (hI : I s cs) : ∃ m x, m ≤ n ∧ Does q cs m x cs ∧ Post s x := by
  induction h with
  | ret hp => exact ⟨0, _, Nat.zero_le _, .ret _ _, hp⟩
  | @load n s a k hin hk ih =>
    have h1 := hin s cs (hr s) hI
    obtain ⟨m, x, hm, hd, hp⟩ := ih s cs (hr s) hI hI
    exact ⟨m + 1, x, by omega, .load h1.1 h1.2 hd, hp⟩
end
end Go.Proofs.Yteliaammffmmiaa
