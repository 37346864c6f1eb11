/-
  What the program's three functions of layer 4 keep, as the laws' walks take it. Over the program's own text.
-/
import Derived.Test.YtaaeooimalglaaaDoorUtfWords
namespace Go.Proofs.YtaaeooimalglaaaDoor
open Go.RowKit

/-- Each of the three answers as the chapter says: taken as given here, proved of the landed code elsewhere. -/
structure Kept : Prop where
  runes : ∀ (w : World) (s : ByteArray), s.size ≤ 1000000 → Calls Tryd.prog 17 #[.string s] w fun e w' => ∃ oa c, e = .returned (.slice oa (ints (runesOf s)).length c) ∧ (ints (runesOf s)).length ≤ c ∧ c ≤ maxLen ∧ ReadI w' oa (ints (runesOf s)) ∧ Below w.heap.size w w' ∧ (oa = none → c = 0)
  text : ∀ (w : World) (oa : Option Addr) (c : Nat) (l : List Int), l.length ≤ 1000000 → l.length ≤ c → c ≤ maxLen → ReadI w oa l → (∀ r ∈ l, -2147483648 ≤ r ∧ r ≤ 2147483647) → Calls Tryd.prog 43 #[.slice oa l.length c] w fun e w' => e = .returned (.string (textZ l)) ∧ Below w.heap.size w w'
  fit : ∀ (w : World) (s : ByteArray) (n : Int), s.size ≤ 1000000 → -9223372036854775808 ≤ n → n ≤ 9223372036854775807 → Calls Tryd.prog 85 #[.string s, .int .i64 n] w fun e w' => e = .returned (.string (textZ ((ints (runesOf s)).take (fitK (ints (runesOf s)) n)))) ∧ Below w.heap.size w w'

set_option maxRecDepth 100000 in
theorem ints_i32 {l : List Nat} (h : ∀ r ∈ l, okR r) : ∀ r ∈ ints l, -2147483648 ≤ r ∧ r ≤ 2147483647 := by
  intro r hr
  obtain ⟨x, hx, rfl⟩ := List.mem_map.1 hr
  have := h x hx
  unfold okR at this
  omega
set_option maxRecDepth 100000 in
theorem Kept.runes_of (K : Kept) (s : ByteArray) (L : List Int) (hs : s.size ≤ 1000000) (hL : ints (runesOf s) = L) (w : World) : Calls Tryd.prog 17 #[.string s] w fun e w' => ∃ oa c, e = .returned (.slice oa L.length c) ∧ L.length ≤ c ∧ c ≤ maxLen ∧ ReadI w' oa L ∧ Below w.heap.size w w' := by
  subst hL
  exact (K.runes w s hs).mono fun _ _ ⟨oa, c, h1, h2, h3, h4, h5, _⟩ => ⟨oa, c, h1, h2, h3, h4, h5⟩
set_option maxRecDepth 100000 in
theorem Kept.runes_all (K : Kept) (s : ByteArray) (hs : s.size ≤ 1000000) (w : World) : Calls Tryd.prog 17 #[.string s] w fun e w' => ∃ oa c, e = .returned (.slice oa (ints (runesOf s)).length c) ∧ (ints (runesOf s)).length ≤ c ∧ c ≤ maxLen ∧ ReadI w' oa (ints (runesOf s)) ∧ Below w.heap.size w w' := K.runes_of s _ hs rfl w
set_option maxRecDepth 100000 in
theorem Kept.fit_of (K : Kept) (s t : ByteArray) (n : Int) (hs : s.size ≤ 1000000) (h1 : -9223372036854775808 ≤ n) (h2 : n ≤ 9223372036854775807) (ht : textZ ((ints (runesOf s)).take (fitK (ints (runesOf s)) n)) = t) (w : World) : Calls Tryd.prog 85 #[.string s, .int .i64 n] w fun e w' => e = .returned (.string t) ∧ Below w.heap.size w w' := by
  subst ht
  exact K.fit w s n hs h1 h2
set_option maxRecDepth 100000 in
/-- A row just made, read. -/
theorem read_new (w : World) (l : List Int) (t : TypeId) : ReadI (w.alloc (.cells (l.map (Value.int .i32)).toArray t)) (some ⟨w.heap.size, 0, none⟩) l := by
  intro j r hj
  refine ⟨_, rfl, ?_⟩
  rw [Addr.add_lit, cell_of_row _ _ _ _ _ _ (heap_alloc_new w _)]
  simp [hj]

end Go.Proofs.YtaaeooimalglaaaDoor
