/-
  A map of texts to numbers that is the call's own; what it says of a dictionary. Over the program's own text.
-/
import Derived.Test.YteliaammffmmiaaDictAdd
import Derived.Test.YteliaammffmmiaaStrs
import Derived.Maps.OwnOps
import Derived.Maps.OwnSet
import Derived.Maps.Views
import Derived.Maps.RangeWalk
import Derived.StringKeys
namespace Go.Proofs.Yteliaammffmmiaa
open Go.RowKit Go.Maps

theorem lawS : Keyed Try.prog 9 := string_keyed Try.underlying9
theorem zeroI (w : World) : (zeroValue 3).run Try.prog w = .ok (.int .i64 0) w := by kernel_rfl
theorem wf_i64 {x : Int} (h0 : -9223372036854775808 ≤ x) (h1 : x ≤ 9223372036854775807) : (Lit.int .i64 x).wf = true := by
  simp [Lit.wf, IntKind.min, IntKind.max, IntKind.signed, IntKind.bits]; omega
def keyL (x : ByteArray) : Lit := .string x.data.toList
theorem keyL_inj {x y : ByteArray} (h : keyL x = keyL y) : x = y := by
  unfold keyL at h
  injection h with h
  exact ByteArray.ext (Array.toList_inj.1 h)
theorem key_of {x : ByteArray} (h : x.size ≤ maxLen) : keyOf Try.prog 9 (.string x) = some (keyL x) := WideMaps.keyOf_string_mk Try.underlying9 h
theorem key_inv {v : Value} {kl : Lit} (h : keyOf Try.prog 9 v = some kl) : ∃ x : ByteArray, v = .string x ∧ kl = keyL x ∧ x.size ≤ maxLen := by
  have h1 : Try.prog.underlying 9 = some .string := Try.underlying9
  cases v <;> simp [keyOf, h1, mapKey] at h
  rename_i x
  exact ⟨x, rfl, h.2.symm, h.1⟩
def StrMap (w : World) (m n : Nat) (D : DataW Unit) : Prop := w.ownsMap Try.prog 9 (plainElem (H := Unit) Try.prog 3) m n D
theorem StrMap.lt {w : World} {m n : Nat} {D : DataW Unit} (h : StrMap w m n D) : m < w.heap.size := World.ownsMap.lt h
theorem StrMap.block {w w' : World} {m n : Nat} {D : DataW Unit} (h : StrMap w m n D) (hb : w'.heap[m]? = w.heap[m]?) : StrMap w' m n D := by
  obtain ⟨es, clock, h1, h2⟩ := h
  exact ⟨es, clock, hb.trans h1, h2⟩
theorem StrMap.below {w w' : World} {m n : Nat} {D : DataW Unit} (h : StrMap w m n D) (hb : Below w.heap.size w w') : StrMap w' m n D := h.block (hb.block m h.lt)
def IterAt (w : World) (m r n : Nat) (D : DataW Unit) (left : Lit → Bool) (cnt : Nat) : Prop := w.ranges Try.prog 9 (plainElem (H := Unit) Try.prog 3) m r n D left cnt
theorem IterAt.blocks {w w' : World} {m r n : Nat} {D : DataW Unit} {left : Lit → Bool} {cnt : Nat} (h : IterAt w m r n D left cnt) (hm : w'.heap[m]? = w.heap[m]?) (hr : w'.heap[r]? = w.heap[r]?) : IterAt w' m r n D left cnt := by
  obtain ⟨es, clock, since, seen, c0, h1, h2, h3, h4, h5, h6⟩ := h
  exact ⟨es, clock, since, seen, c0, hm.trans h1, h2, h3, h4, hr.trans h5, h6⟩
theorem IterAt.map {w : World} {m r n : Nat} {D : DataW Unit} {left : Lit → Bool} {cnt : Nat} (h : IterAt w m r n D left cnt) : StrMap w m n D := World.ranges.owns h
theorem IterAt.few {w : World} {m r n : Nat} {D : DataW Unit} {left : Lit → Bool} {cnt : Nat} (h : IterAt w m r n D left cnt) : cnt ≤ n := by
  obtain ⟨es, clock, since, seen, c0, h1, h2, h3, h4, h5, h6, h7, h8⟩ := h
  rw [← h7]
  unfold leftOf
  exact Nat.le_trans Array.size_filter_le h3
theorem mod_grown {w w' : World} {b : Option Nat} (hg : w.grownBy w' b) : Mod (fun k => b = some k) w w' := ⟨hg.os, hg.tape, hg.output, hg.size, fun i hi hs => hg.block i hi fun e => hs e.symm⟩

/-- The map's entries are the keys that were put, with their records; D: the map as it reads. -/
structure MapD (D : DataW Unit) (d : Dict) : Prop where
  at_ : ∀ x : ByteArray, (∃ a, Has d (bytesL x) a ∧ D.atKey (keyL x) (.lit (.int .i64 0)) = .lit (.int .i64 a)) ∨ ((∀ a, ¬ Has d (bytesL x) a) ∧ D.atKey (keyL x) (.lit (.int .i64 0)) = .lit (.int .i64 0))
  has : ∀ x : ByteArray, Maps.has D (keyL x) = true → ∃ a, Has d (bytesL x) a
theorem MapD.new : MapD (.map []) (fun _ => none) := ⟨fun x => .inr ⟨(fun a ⟨i, h⟩ => by cases h), rfl⟩, fun x h => by cases h⟩
theorem MapD.put {D : DataW Unit} {d : Dict} (h : MapD D d) (hD : IsMap D) {x : ByteArray} {i : Nat} {a : Int} (hle : d.Le (d.put i (a, bytesL x))) : MapD (D.put (keyL x) (.lit (.int .i64 a))) (d.put i (a, bytesL x)) := by
  have hk : WideAt.IsKeyLit (keyL x) := trivial
  have hself : Has (d.put i (a, bytesL x)) (bytesL x) a := ⟨i, by unfold Dict.put; rw [if_pos rfl]⟩
  refine ⟨fun y => ?_, fun y hy => ?_⟩
  · by_cases e : y = x
    · subst e
      exact .inl ⟨a, hself, atKey_put_same hD hk _ _⟩
    · have hne : keyL y ≠ keyL x := fun h => e (keyL_inj h)
      rw [atKey_put_other hne]
      rcases h.at_ y with ⟨b, h1, h2⟩ | ⟨h1, h2⟩
      · exact .inl ⟨b, h1.le hle, h2⟩
      · refine .inr ⟨fun b hb => ?_, h2⟩
        rcases hb.put with h3 | h3
        · exact h1 b h3
        · exact e (bytesL_inj h3)
  · by_cases e : y = x
    · subst e
      exact ⟨a, hself⟩
    · have hne : keyL y ≠ keyL x := fun h => e (keyL_inj h)
      rw [has_put_other hne] at hy
      obtain ⟨b, hb⟩ := h.has y hy
      exact ⟨b, hb.le hle⟩
/-- A look-up tells what a Find does. -/
theorem MapD.same {D : DataW Unit} {d : Dict} (h : MapD D d) {n : Nat} {s lo hi : Int} {cs : List Int} (hd : DictAt n s lo hi d cs) {x : ByteArray} {a : Int} (hf : (Has d (bytesL x) a ∧ a ≠ 0) ∨ (a = 0 ∧ ∀ b, ¬ Has d (bytesL x) b)) {c : Int} (hc : D.atKey (keyL x) (.lit (.int .i64 0)) = .lit (.int .i64 c)) : a = c := by
  rcases h.at_ x with ⟨b, h1, h2⟩ | ⟨h1, h2⟩
  · rw [h2] at hc
    injection hc with hc
    injection hc with _ hc
    rcases hf with ⟨h3, _⟩ | ⟨_, h3⟩
    · rw [← hc]; exact hd.has_eq h3 h1
    · exact absurd h1 (h3 b)
  · rw [h2] at hc
    injection hc with hc
    injection hc with _ hc
    rcases hf with ⟨h3, _⟩ | ⟨h3, _⟩
    · exact absurd h3 (h1 a)
    · omega

/-- Where the law stands: behind so many texts. -/
structure FndRel (W : World) (p mb cb bu m i : Nat) (Us : Nat → Int) (d : Dict) (cs : List Int) (N : Nat) (D : DataW Unit) (wr : World) : Prop where
  law : LawD W 599 618 p mb cb Us d cs N wr
  u : wr.heap[bu]? = some (.cells (six Us) 23 (0, 0))
  map : StrMap wr m i D
  rel : MapD D d
  cnt : N ≤ 2300 * i ∧ i ≤ 31
  ord : mb < bu ∧ bu < m
section
variable {W wr w' : World} {p mb cb bu m i : Nat} {Us : Nat → Int} {d : Dict} {cs : List Int} {N : Nat} {D : DataW Unit}
theorem FndRel.below (h : FndRel W p mb cb bu m i Us d cs N D wr) (hb : Below wr.heap.size wr w') : FndRel W p mb cb bu m i Us d cs N D w' := ⟨h.law.below hb, (hb.block _ (lt_of_heap h.u)).trans h.u, h.map.below hb, h.rel, h.cnt, h.ord⟩
theorem FndRel.turn (h : FndRel W p mb cb bu m i Us d cs N D wr) (hm : Mod (fun k => k = mb ∨ k = cb) wr w') {N' : Nat} (hd : DS 16 602 (dB 599) (dS 599) Us 618 mb cb d cs N' w') (hN : N' ≤ 2300 * i) : FndRel W p mb cb bu m i Us d cs N' D w' := by
  obtain ⟨o1, o2, o3⟩ := h.law.old
  obtain ⟨q1, q2⟩ := h.ord
  refine ⟨h.law.turn hm (by rw [(d_vals 599).2.1]; exact hd), (hm.block _ (lt_of_heap h.u) (by omega)).trans h.u, h.map.block (hm.block _ h.map.lt (by omega)), h.rel, ⟨hN, h.cnt.2⟩, h.ord⟩
theorem FndRel.next (h : FndRel W p mb cb bu m i Us d cs N D wr) (hi : i + 1 ≤ 31) : FndRel W p mb cb bu m (i + 1) Us d cs N D wr := ⟨h.law, h.u, World.ownsMap.mono h.map (by omega), h.rel, ⟨by have := h.cnt; omega, hi⟩, h.ord⟩
end
end Go.Proofs.Yteliaammffmmiaa
