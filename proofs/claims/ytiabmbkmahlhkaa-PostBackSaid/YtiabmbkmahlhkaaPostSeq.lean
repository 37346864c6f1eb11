/-
  Puts, one behind the other, on one memory: a state of it, and what one more Put makes of that. Over the program's own text.
-/
import Derived.Test.YtiabmbkmahlhkaaPostCalls
namespace Go.Proofs.Ytiabmbkmahlhkaa
open Go.RowKit

/-- A memory on which N words at most were added: its lists' tails, what is used, what is done. -/
structure PS (B S : Nat → Int) (C : Int) (mb cb : Nat) (tails : Nat → Int) (Us : Nat → Int) (cs : List Int) (D : Int → Prop) (N : Nat) (w : World) : Prop where
  mem : ∃ l s, MemAt w mb cb cs l s ∧ 0 ≤ l ∧ 0 ≤ s ∧ l + s ≤ N
  inv : Inv B S C cs Us D tails
  cells : ∀ y ∈ cs, U y
theorem PS.mod {B S : Nat → Int} {C : Int} {mb cb : Nat} {tails Us : Nat → Int} {cs : List Int} {D : Int → Prop} {N : Nat} {w w' : World} (h : PS B S C mb cb tails Us cs D N w) {T : Nat → Prop} (hm : Mod T w w') (h1 : ¬ T mb) (h2 : ¬ T cb) : PS B S C mb cb tails Us cs D N w' := by
  obtain ⟨⟨l, s, hmem, a, b, c⟩, hi, hc⟩ := h
  exact ⟨⟨l, s, hmem.mod hm h1 h2, a, b, c⟩, hi, hc⟩
theorem PS.below {B S : Nat → Int} {C : Int} {mb cb : Nat} {tails Us : Nat → Int} {cs : List Int} {D : Int → Prop} {N : Nat} {w w' : World} (h : PS B S C mb cb tails Us cs D N w) (hb : Below w.heap.size w w') : PS B S C mb cb tails Us cs D N w' := by
  obtain ⟨⟨l, s, hmem, a, b, c⟩, hi, hc⟩ := h
  exact ⟨⟨l, s, hmem.below hb, a, b, c⟩, hi, hc⟩
theorem PS.lt {B S : Nat → Int} {C : Int} {mb cb : Nat} {tails Us : Nat → Int} {cs : List Int} {D : Int → Prop} {N : Nat} {w : World} (h : PS B S C mb cb tails Us cs D N w) : mb < w.heap.size ∧ cb < w.heap.size := by
  obtain ⟨⟨l, s, hmem, _⟩, _, _⟩ := h
  exact ⟨lt_of_heap hmem.rec_, lt_of_heap hmem.row⟩
theorem PS.setCell {B S : Nat → Int} {C : Int} {mb cb : Nat} {tails Us : Nat → Int} {cs : List Int} {D : Int → Prop} {N : Nat} {w : World} (h : PS B S C mb cb tails Us cs D N w) {p : Addr} (v : Value) (h1 : p.block ≠ mb) (h2 : p.block ≠ cb) : PS B S C mb cb tails Us cs D N (w.setCell p v) :=
  h.mod (T := fun k => k = p.block) (Mod.setCell (S := fun k => k = p.block) (Mod.refl _ _) (.inr rfl) _) (Ne.symm h1) (Ne.symm h2)
theorem PS.setRow {B S : Nat → Int} {C : Int} {mb cb : Nat} {tails Us : Nat → Int} {cs : List Int} {D : Int → Prop} {N : Nat} {w : World} (h : PS B S C mb cb tails Us cs D N w) {g : Nat} (c : Array Value) (h1 : g ≠ mb) (h2 : g ≠ cb) : PS B S C mb cb tails Us cs D N (w.setRow g c) :=
  h.mod (T := fun k => k = g) (Mod.setRow (S := fun k => k = g) (Mod.refl _ _) (.inr rfl) _) (Ne.symm h1) (Ne.symm h2)
/-- A new memory. -/
theorem PS.new {B S : Nat → Int} {C : Int} (hL : Laid B S C) {mb cb : Nat} {w : World} (h0 : 0 ≤ C) (h : MemAt w mb cb (List.replicate C.toNat 0) 0 0) : PS B S C mb cb (fun _ => 0) (fun _ => 0) (List.replicate C.toNat 0) (fun _ => False) 0 w :=
  ⟨⟨0, 0, h, by omega, by omega, by omega⟩, Inv.new hL C.toNat (by omega), fun y hy => by rw [(List.mem_replicate.1 hy).2]; exact u_zero⟩

/-- A word is added to the i-th list, or there is no room. -/
theorem PS.put {walkP : (Nat → Int) → (Nat → Int) → Int → Int → Pr (List Nat)} (K : KeptPost walkP) {B S : Nat → Int} {C T L : Int} (hL : Laid B S C) {mb cb : Nat} {tails Us : Nat → Int} {cs : List Int} {D : Int → Prop} {N : Nat} {w : World} (h : PS B S C mb cb tails Us cs D N w) (hN : N ≤ 90000000) {i : Nat} (hi : i < 8) {t : Int} (ht : tails i = t) (x : Nat) (hx : x < 4294967296) :
    Calls Try.prog 9 #[.pointer (some ⟨mb, 0, none⟩), .agg (planC B S C T L), .agg (six Us), .int .i64 t, .int .u32 (x : Int)] w fun e w' => Mod (fun k => k = mb ∨ k = cb) w w' ∧
      ((∃ V, e = .returned (.tuple #[.int .i64 0, .agg (six V), .int .i64 3]) ∧ leftT B S t = 0 ∧ S (nextT B S t) - Us (nextT B S t) < slab (nextT B S t) ∧ PS B S C mb cb tails Us cs D (N + 2) w') ∨
       ∃ t' U' cs' D', e = .returned (.tuple #[.int .i64 t', .agg (six U'), .int .i64 0]) ∧ PS B S C mb cb (setT tails i t') U' cs' D' (N + 2) w' ∧ PutOk B S C cs Us D tails i t x cs' U' D' t') := by
  obtain ⟨⟨l, s, hm, l0, s0, hls⟩, hinv, hcu⟩ := h
  obtain ⟨n, R, cs', hn, hd, hR⟩ := hinv.put hL hi ht x hx
  have ht2 : -9223372036854775808 ≤ t ∧ t ≤ 9223372036854775807 := by
    rcases hinv.tail i hi with h0 | ⟨k', z', r', hz', _, hr0', hr1', htz', _, _⟩
    · omega
    · have h1 := (hL.in_slab hz' (show 0 ≤ r' by omega) hr1').2
      have := hL.at_ (show 0 < atOf B S (z' + r') by omega)
      have := hL.c1
      omega
  refine (put_at K (T := T) (L := L) hm l0 s0 (by omega) hcu hd hn hL hinv.used ht2.1 ht2.2 (by omega) (by omega)).mono ?_
  rintro e w' ⟨rfl, ⟨l', s', hm', a0, a1, a2⟩, hcu', hmod⟩
  refine ⟨hmod, ?_⟩
  rcases hR with ⟨rfl, hcs, h1, h2⟩ | ⟨t', U', D', rfl, hok⟩
  · left
    exact ⟨fun _ => 0, rfl, h1, h2, ⟨l', s', by rw [← hcs]; exact hm', a0, a1, by omega⟩, hinv, hcu⟩
  · right
    exact ⟨t', U', cs', D', rfl, ⟨⟨l', s', hm', a0, a1, by omega⟩, hok.inv, hcu'⟩, hok⟩
end Go.Proofs.Ytiabmbkmahlhkaa
