/-
  Words and trees in memory, that are only read. Over the program's own text.
-/
import Derived.Test.YtaaeooimalglaaaDoorKit
import Derived.OwnWalk
import Derived.Laws.AppendOwn
namespace Go.Proofs.YtaaeooimalglaaaDoor
open Go.RowKit

/-! ### Words in memory -/
/-- A word: its field, its term, its place. -/
abbrev Tk := Int × ByteArray × Int
def tokC (x : Tk) : List Value := [.int .u8 x.1, .string x.2.1, .int .i64 x.2.2]
def toksC (l : List Tk) : List Value := l.flatMap tokC
set_option maxRecDepth 100000 in
theorem toksC_append (a b : List Tk) : toksC (a ++ b) = toksC a ++ toksC b := List.flatMap_append
set_option maxRecDepth 100000 in
theorem toksC_length : ∀ l : List Tk, (toksC l).length = l.length * 3
  | [] => rfl
  | x :: l => by
    have e : toksC (x :: l) = tokC x ++ toksC l := rfl
    rw [e, List.length_append, toksC_length l, List.length_cons]
    simp [tokC]
    omega
set_option maxRecDepth 100000 in
theorem toksC_get : ∀ (l : List Tk) (j : Nat) (x : Tk), l[j]? = some x → (toksC l)[j * 3]? = some (.int .u8 x.1) ∧ (toksC l)[j * 3 + 1]? = some (.string x.2.1) ∧ (toksC l)[j * 3 + 2]? = some (.int .i64 x.2.2)
  | [], j, x, h => by simp at h
  | y :: l, 0, x, h => by
    simp at h
    subst h
    exact ⟨rfl, rfl, rfl⟩
  | y :: l, j + 1, x, h => by
    have := toksC_get l j x (by simpa using h)
    have e : toksC (y :: l) = tokC y ++ toksC l := rfl
    rw [e, show (j + 1) * 3 = (tokC y).length + j * 3 by simp [tokC]; omega]
    refine ⟨?_, ?_, ?_⟩
    · rw [List.getElem?_append_right (by omega), Nat.add_sub_cancel_left]; exact this.1
    · rw [Nat.add_assoc, List.getElem?_append_right (by omega), Nat.add_sub_cancel_left]; exact this.2.1
    · rw [Nat.add_assoc, List.getElem?_append_right (by omega), Nat.add_sub_cancel_left]; exact this.2.2
def ToksIn (w : World) (base : Nat) (v : Value) (l : List Tk) : Prop := w.ownsRow base 42 3 v l.length (toksC l)
set_option maxRecDepth 100000 in
theorem info_tok : (Tryd.prog.info? 42).map (fun i => (i.zero, i.size, i.bytes)) = some (some (.agg #[.int .u8 0, .string ⟨#[]⟩, .int .i64 0]), 3, 32) := by kernel_rfl
/-- A row of words that is only read. -/
def ReadT (w : World) (oa : Option Addr) (l : List Tk) : Prop := ∀ (j : Nat) (x : Tk), l[j]? = some x → ∃ g o : Nat, oa = some ⟨g, o, none⟩ ∧ w.cell? ⟨g, o + j * 3, none⟩ = some (.int .u8 x.1) ∧ w.cell? ⟨g, o + j * 3 + 1, none⟩ = some (.string x.2.1) ∧ w.cell? ⟨g, o + j * 3 + 2, none⟩ = some (.int .i64 x.2.2)
set_option maxRecDepth 100000 in
theorem ReadT.below {w w' : World} {oa : Option Addr} {l : List Tk} (h : ReadT w oa l) (hb : Below w.heap.size w w') : ReadT w' oa l := fun j x hj => by
  obtain ⟨g, o, h0, h1, h2, h3⟩ := h j x hj
  exact ⟨g, o, h0, below_cell h1 hb, below_cell h2 hb, below_cell h3 hb⟩
set_option maxRecDepth 100000 in
theorem toks_reads {w : World} {base : Nat} {v : Value} {l : List Tk} (h : ToksIn w base v l) : ∃ oa cap, v = .slice oa l.length cap ∧ l.length ≤ cap ∧ cap ≤ maxLen ∧ ReadT w oa l := by
  rcases h.2 with ⟨rfl, h0⟩ | ⟨g, cap, cur, rfl, hb, hg, hn, hm, hs, ht⟩
  · have : l = [] := List.eq_nil_of_length_eq_zero h0
    subst this
    exact ⟨none, 0, rfl, by simp, by simp [maxLen], fun j x hj => by simp at hj⟩
  · refine ⟨_, cap, rfl, hn, hm, fun j x hj => ⟨g, 0, rfl, ?_⟩⟩
    have h3 := toksC_get l j x hj
    have hc := World.ownsRow.cells h (g := g) rfl
    simp only [Addr.add_lit] at hc
    exact ⟨hc _ _ h3.1, by simpa [Nat.add_assoc] using hc _ _ h3.2.1, by simpa [Nat.add_assoc] using hc _ _ h3.2.2⟩
/-- A tree. -/
inductive Nd where
  | mk (kind field : Int) (terms : List Tk) (kids : List Nd)
def Nd.kind : Nd → Int | .mk k _ _ _ => k
def Nd.field : Nd → Int | .mk _ f _ _ => f
def Nd.terms : Nd → List Tk | .mk _ _ t _ => t
def Nd.kids : Nd → List Nd | .mk _ _ _ l => l


set_option maxRecDepth 100000 in
theorem some_ne {α : Type} {l : List α} {j : Nat} {x : α} (h : l[j]? = some x) : l ≠ [] := by rintro rfl; simp at h
set_option maxRecDepth 100000 in
theorem cell_lt {w : World} {a : Addr} {v : Value} (h : w.cell? a = some v) : a.block < w.heap.size := by
  unfold World.cell? at h
  rcases Nat.lt_or_ge a.block w.heap.size with h1 | h1
  · exact h1
  · rw [Array.getElem?_eq_none h1] at h
    simp at h
/-- A node as a struct: its kind, its field, the values of its two slices. -/
abbrev Rn := Int × Int × Value × Value
def rnC (r : Rn) : List Value := [.int .i64 r.1, .int .u8 r.2.1, r.2.2.1, r.2.2.2]
def rnsC (l : List Rn) : List Value := l.flatMap rnC
set_option maxRecDepth 100000 in
theorem rnsC_append (a b : List Rn) : rnsC (a ++ b) = rnsC a ++ rnsC b := List.flatMap_append
set_option maxRecDepth 100000 in
theorem rnsC_length : ∀ l : List Rn, (rnsC l).length = l.length * 4
  | [] => rfl
  | x :: l => by
    show (rnC x ++ rnsC l).length = _
    rw [List.length_append, rnsC_length l, List.length_cons]
    show 4 + _ = _
    omega
set_option maxRecDepth 100000 in
theorem rnsC_get : ∀ (l : List Rn) (j : Nat) (r : Rn), l[j]? = some r → ∀ i, i < 4 → (rnsC l)[j * 4 + i]? = (rnC r)[i]?
  | [], _, _, h, _, _ => by simp at h
  | x :: l, 0, r, h, i, hi => by
    simp at h; subst h
    show (rnC x ++ rnsC l)[0 * 4 + i]? = _
    rw [List.getElem?_append_left (by show _ < 4; omega)]
    simp
  | x :: l, j + 1, r, h, i, hi => by
    show (rnC x ++ rnsC l)[(j + 1) * 4 + i]? = _
    rw [List.getElem?_append_right (by show 4 ≤ _; omega), ← rnsC_get l j r (by simpa using h) i hi]
    congr 1
    show (j + 1) * 4 + i - 4 = _
    omega
def ReadR (w : World) (oa : Option Addr) (l : List Rn) : Prop := ∀ (j : Nat) (r : Rn), l[j]? = some r → ∃ g o : Nat, oa = some ⟨g, o, none⟩ ∧ ∀ i v, (rnC r)[i]? = some v → w.cell? ⟨g, o + j * 4 + i, none⟩ = some v
inductive RdN (w : World) (S : Nat → Prop) : Nd → Rn → Prop
  | mk {k f : Int} {ts : List Tk} {ks : List Nd} {ta ka : Option Addr} {tc kc : Nat} {rs : List Rn} (hf0 : 0 ≤ f) (hf1 : f ≤ 255) (ht : ReadT w ta ts) (htl : ts.length ≤ tc) (htm : tc ≤ maxLen) (htb : ∀ a, ta = some a → ts ≠ [] → S a.block)
      (hk : ReadR w ka rs) (hkl : ks.length ≤ kc) (hkm : kc ≤ maxLen) (hkb : ∀ a, ka = some a → ks ≠ [] → S a.block) (hl : rs.length = ks.length) (hr : ∀ (j : Nat) x r, ks[j]? = some x → rs[j]? = some r → RdN w S x r) : RdN w S (.mk k f ts ks) (k, f, .slice ta ts.length tc, .slice ka ks.length kc)
section
variable {w w' : World} {S S' : Nat → Prop}
set_option maxRecDepth 100000 in
theorem cell_keep (hk : ∀ b, S b → b < w.heap.size → w'.heap[b]? = w.heap[b]?) {g o : Nat} {v : Value} (hg : S g) (h : w.cell? ⟨g, o, none⟩ = some v) : w'.cell? ⟨g, o, none⟩ = some v := by
  rw [World.cell?_of_block (hk g hg (cell_lt h))]
  exact h
set_option maxRecDepth 100000 in
theorem readT_keep (hk : ∀ b, S b → b < w.heap.size → w'.heap[b]? = w.heap[b]?) {oa : Option Addr} {l : List Tk} (h : ReadT w oa l) (hb : ∀ a, oa = some a → l ≠ [] → S a.block) : ReadT w' oa l := fun j x hj => by
  obtain ⟨g, o, h1, h2, h3, h4⟩ := h j x hj
  have hg := hb _ h1 (some_ne hj)
  exact ⟨g, o, h1, cell_keep hk hg h2, cell_keep hk hg h3, cell_keep hk hg h4⟩
set_option maxRecDepth 100000 in
theorem len_ne {α β : Type} {a : List α} {b : List β} (h : a.length = b.length) (ha : a ≠ []) : b ≠ [] := by
  rintro rfl
  exact ha (List.eq_nil_of_length_eq_zero h)
set_option maxRecDepth 100000 in
theorem RdN.keep (hk : ∀ b, S b → b < w.heap.size → w'.heap[b]? = w.heap[b]?) {x : Nd} {r : Rn} (h : RdN w S x r) : RdN w' S x r := by
  induction h with
  | mk hf0 hf1 ht htl htm htb hkk hkl hkm hkb hl hr ih =>
    refine .mk hf0 hf1 (readT_keep hk ht htb) htl htm htb (fun j r hj => ?_) hkl hkm hkb hl ih
    obtain ⟨g, o, h1, h2⟩ := hkk j r hj
    exact ⟨g, o, h1, fun i v hv => cell_keep hk (hkb _ h1 (len_ne hl (some_ne hj))) (h2 i v hv)⟩
set_option maxRecDepth 100000 in
theorem RdN.mono {x : Nd} {r : Rn} (h : RdN w S x r) (hS : ∀ b, b < w.heap.size → S b → S' b) : RdN w S' x r := by
  induction h with
  | mk hf0 hf1 ht htl htm htb hkk hkl hkm hkb hln hr ih =>
    refine .mk hf0 hf1 ht htl htm (fun a ha hne => hS _ ?_ (htb a ha hne)) hkk hkl hkm (fun a ha hne => hS _ ?_ (hkb a ha hne)) hln ih
    · rename_i ts _ _ _ _ _ _
      obtain ⟨x, hx⟩ : ∃ x, ts[0]? = some x := by cases ts with | nil => exact absurd rfl hne | cons y l => exact ⟨y, rfl⟩
      obtain ⟨g, o, h1, h2, _⟩ := ht 0 x hx
      rw [ha] at h1
      injection h1 with h1
      subst h1
      exact cell_lt h2
    · rename_i rs
      obtain ⟨x, hx⟩ : ∃ x, rs[0]? = some x := by
        have := len_ne hln.symm hne
        cases rs with | nil => exact absurd rfl this | cons y l => exact ⟨y, rfl⟩
      obtain ⟨g, o, h1, h2⟩ := hkk 0 x hx
      rw [ha] at h1
      injection h1 with h1
      subst h1
      exact cell_lt (h2 0 _ rfl)
set_option maxRecDepth 100000 in
theorem RdN.after {x : Nd} {r : Rn} (h : RdN w S x r) (hb : Below w.heap.size w w') : RdN w' S x r := h.keep fun b _ hb2 => hb.block b hb2
set_option maxRecDepth 100000 in
theorem RdN.mod {x : Nd} {r : Rn} {rb : Nat} (h : RdN w S x r) (hm : Mod (fun k => k = rb) w w') (hl : ∀ b, S b → b ≠ rb) : RdN w' S x r := h.keep fun b h1 h2 => hm.block b h2 (hl b h1)
set_option maxRecDepth 100000 in
theorem RdN.parts {x : Nd} {r : Rn} (h : RdN w S x r) : r.1 = x.kind ∧ r.2.1 = x.field ∧ 0 ≤ x.field ∧ x.field ≤ 255 := by
  cases h with
  | mk hf0 hf1 => exact ⟨rfl, rfl, hf0, hf1⟩
/-- Several. -/
def RdNs (w : World) (S : Nat → Prop) (ps : List Nd) (rs : List Rn) : Prop := rs.length = ps.length ∧ ∀ (j : Nat) x r, ps[j]? = some x → rs[j]? = some r → RdN w S x r
set_option maxRecDepth 100000 in
theorem RdNs.keep (hk : ∀ b, S b → b < w.heap.size → w'.heap[b]? = w.heap[b]?) {ps : List Nd} {rs : List Rn} (h : RdNs w S ps rs) : RdNs w' S ps rs := ⟨h.1, fun j x r h1 h2 => (h.2 j x r h1 h2).keep hk⟩
set_option maxRecDepth 100000 in
theorem RdNs.mono (hS : ∀ b, b < w.heap.size → S b → S' b) {ps : List Nd} {rs : List Rn} (h : RdNs w S ps rs) : RdNs w S' ps rs := ⟨h.1, fun j x r h1 h2 => (h.2 j x r h1 h2).mono hS⟩
set_option maxRecDepth 100000 in
theorem RdNs.one {x : Nd} {r : Rn} (h : RdN w S x r) : RdNs w S [x] [r] := ⟨rfl, fun j y s h1 h2 => by
  cases j with
  | zero => simp at h1 h2; subst h1 h2; exact h
  | succ j => simp at h1⟩
set_option maxRecDepth 100000 in
theorem RdNs.snoc {ps : List Nd} {rs : List Rn} {x : Nd} {r : Rn} (h : RdNs w S ps rs) (hx : RdN w S x r) : RdNs w S (ps ++ [x]) (rs ++ [r]) := by
  refine ⟨by simp [h.1], fun j y s h1 h2 => ?_⟩
  by_cases hj : j < ps.length
  · rw [List.getElem?_append_left hj] at h1
    rw [List.getElem?_append_left (by rw [h.1]; exact hj)] at h2
    exact h.2 j y s h1 h2
  · rw [List.getElem?_append_right (by omega)] at h1
    rw [List.getElem?_append_right (by rw [h.1]; omega), h.1] at h2
    cases hjj : j - ps.length with
    | zero => rw [hjj] at h1 h2; simp at h1 h2; subst h1 h2; exact hx
    | succ m => rw [hjj] at h1; simp at h1
end
/-- A node as a value. -/
def rnV (r : Rn) : Value := .agg (rnC r).toArray
def fromB (lo b : Nat) : Prop := lo ≤ b
def NodeV (S : Nat → Prop) (w : World) (x : Nd) (v : Value) : Prop := ∃ r, v = rnV r ∧ RdN w S x r
set_option maxRecDepth 100000 in
theorem info_node : (Tryd.prog.info? 26).map (fun i => (i.zero, i.size, i.bytes)) = some (some (.agg #[.int .i64 0, .int .u8 0, .slice none 0 0, .slice none 0 0]), 4, 64) := by kernel_rfl
set_option maxRecDepth 100000 in
theorem node_info (r : Rn) : (Tryd.prog.info? 26).map (·.size) = some (rnC r).toArray.size := by kernel_rfl
set_option maxRecDepth 100000 in
theorem node_one {k f : Int} {ta ka : Option Addr} {tn tc kn kc : Nat} : (rnC (k, f, .slice ta tn tc, .slice ka kn kc)).toArray.all (·.oneCell') = true := by simp [rnC, Value.oneCell']
set_option maxRecDepth 100000 in
theorem RdN.one {w : World} {S : Nat → Prop} {x : Nd} {r : Rn} (h : RdN w S x r) : (rnC r).toArray.all (·.oneCell') = true := by
  cases h with
  | mk => exact node_one
/-- A row of nodes of one's own. -/
def NodesIn (w : World) (base : Nat) (v : Value) (l : List Rn) : Prop := w.ownsRow base 26 4 v l.length (rnsC l)
set_option maxRecDepth 100000 in
theorem nodes_reads {w : World} {base : Nat} {v : Value} {l : List Rn} (h : NodesIn w base v l) : ∃ oa cap, v = .slice oa l.length cap ∧ l.length ≤ cap ∧ cap ≤ maxLen ∧ ReadR w oa l ∧ ∀ a, oa = some a → base ≤ a.block := by
  rcases h.2 with ⟨rfl, h0⟩ | ⟨g, cap, cur, rfl, hb, hg, hn, hm, hs, ht⟩
  · have : l = [] := List.eq_nil_of_length_eq_zero h0
    subst this
    exact ⟨none, 0, rfl, by simp, by simp [maxLen], fun j x hj => by simp at hj, fun a ha => by cases ha⟩
  · refine ⟨_, cap, rfl, hn, hm, fun j r hj => ⟨g, 0, rfl, fun i v hv => ?_⟩, fun a ha => by injection ha with ha; subst ha; exact hb⟩
    have hi : i < 4 := by
      have := (List.getElem?_eq_some_iff.1 hv).1
      exact this
    have h3 := rnsC_get l j r hj i hi
    rw [hv] at h3
    have := World.ownsRow.cells h (g := g) rfl _ v h3
    rw [Nat.zero_add]
    rw [Addr.add_lit, Nat.zero_add] at this
    exact this
end Go.Proofs.YtaaeooimalglaaaDoor
