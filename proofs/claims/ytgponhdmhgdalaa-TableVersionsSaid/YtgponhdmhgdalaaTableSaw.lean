/-
  What was seen, version by version: a row of rows. Over the program's own text.
-/
import Derived.Test.YtgponhdmhgdalaaTableChange
import Derived.Deep.AppendLies
namespace Go.Proofs.Ytgponhdmhgdalaa
open Go.RowKit

/-- A row that was seen, in a block behind B0 that is not g. -/
def Hd (w : World) (B0 g : Nat) (x : Value) (L : List Sn) : Prop := ∃ oa c, x = .slice oa L.length c ∧ L.length ≤ c ∧ c ≤ maxLen ∧ ReadSn w oa L ∧ ∀ ad, oa = some ad → L ≠ [] → B0 ≤ ad.block ∧ ad.block ≠ g
theorem readSn_lt {w : World} {oa : Option Addr} {L : List Sn} (h : ReadSn w oa L) {ad : Addr} (e : oa = some ad) (hL : L ≠ []) : ad.block < w.heap.size := by
  obtain ⟨x, l, rfl⟩ := List.exists_cons_of_ne_nil hL
  obtain ⟨g, o, e2, hc, _⟩ := h 0 x rfl
  rw [e] at e2
  injection e2 with e2
  rw [e2]
  exact lt_of_cell hc
theorem Hd.mod {w w' : World} {B0 g : Nat} {x : Value} {L : List Sn} (h : Hd w B0 g x L) {T : Nat → Prop} (hm : Mod T w w') (hT : ∀ k, T k → B0 ≤ k → k = g) : Hd w' B0 g x L := by
  obtain ⟨oa, c, e, h1, h2, h3, h4⟩ := h
  refine ⟨oa, c, e, h1, h2, readSn_keep h3 hm fun j y gg o hj e2 _ ht => ?_, h4⟩
  have := h4 _ e2 (fun e => by rw [e] at hj; simp at hj)
  simp only at this
  exact this.2 (hT _ ht this.1)
theorem Hd.to {w : World} {B0 g g' : Nat} {x : Value} {L : List Sn} (h : Hd w B0 g x L) (hg : g' = g ∨ w.heap.size ≤ g') : Hd w B0 g' x L := by
  obtain ⟨oa, c, e, h1, h2, h3, h4⟩ := h
  refine ⟨oa, c, e, h1, h2, h3, fun ad e2 hL => ?_⟩
  have := h4 ad e2 hL
  have := readSn_lt h3 e2 hL
  omega
structure SawR (w : World) (B0 g cap n : Nat) (Hs : List Value) (Ls : List (List Sn)) : Prop where
  own : w.ownsRow B0 34 1 (.slice (some ⟨g, 0, none⟩) n cap) n Hs
  len : Ls.length = n
  hd : ∀ (k : Nat) (x : Value) (L : List Sn), Hs[k]? = some x → Ls[k]? = some L → Hd w B0 g x L
theorem SawR.lens {w : World} {B0 g cap n : Nat} {Hs : List Value} {Ls : List (List Sn)} (h : SawR w B0 g cap n Hs Ls) : Hs.length = n := by
  have := h.own.1
  omega
theorem SawR.block {w : World} {B0 g cap n : Nat} {Hs : List Value} {Ls : List (List Sn)} (h : SawR w B0 g cap n Hs Ls) : B0 ≤ g ∧ g < w.heap.size := by
  rcases h.own.2 with ⟨e, _⟩ | ⟨g', cap', cur, e, hb, hg, _⟩
  · cases e
  · injection e with e _ _
    injection e with e
    injection e with e
    subst e
    exact ⟨hb, lt_of_heap hg⟩
theorem SawR.mod {w w' : World} {B0 g cap n : Nat} {Hs : List Value} {Ls : List (List Sn)} (h : SawR w B0 g cap n Hs Ls) {T : Nat → Prop} (hm : Mod T w w') (hT : ∀ k, T k → k < B0) : SawR w' B0 g cap n Hs Ls := by
  have hg := h.block
  refine ⟨?_, h.len, fun k x L h1 h2 => (h.hd k x L h1 h2).mod hm fun j hj hB => by have := hT j hj; omega⟩
  rcases h.own with ⟨h0, ⟨e, _⟩ | ⟨g', cap', cur, e, hb, hg2, hr⟩⟩
  · cases e
  · refine ⟨h0, .inr ⟨g', cap', cur, e, hb, ?_, hr⟩⟩
    exact (hm.block _ (lt_of_heap hg2) (fun ht => by have := hT _ ht; omega)).trans hg2
theorem SawR.below {w w' : World} {B0 g cap n : Nat} {Hs : List Value} {Ls : List (List Sn)} (h : SawR w B0 g cap n Hs Ls) (hb : Below w.heap.size w w') : SawR w' B0 g cap n Hs Ls :=
  h.mod (Below.mod hb (fun _ => False) fun k hk hk' => by omega) fun k hk => hk.elim
theorem SawR.more {w w' : World} {B0 g g' cap cap' n : Nat} {Hs : List Value} {Ls : List (List Sn)} {x : Value} {L : List Sn} (h : SawR w B0 g cap n Hs Ls) (hx : Hd w B0 g x L)
    (ho : w'.ownsRow B0 34 1 (.slice (some ⟨g', 0, none⟩) (n + 1) cap') (n + 1) (Hs ++ [x])) (hg : w.grownBy w' (some g)) (hl : some g = some g' ∨ g' = w.heap.size) : SawR w' B0 g' cap' (n + 1) (Hs ++ [x]) (Ls ++ [L]) := by
  have hm := Mod.of_grown hg
  have hgg : g' = g ∨ w.heap.size ≤ g' := by
    rcases hl with e | e
    · injection e with e
      exact .inl e.symm
    · exact .inr (by omega)
  have hlen := h.lens
  have key : ∀ {y : Value} {M : List Sn}, Hd w B0 g y M → Hd w' B0 g' y M := by
    intro y M hy
    obtain ⟨oa, c, e, h1, h2, h3, h4⟩ := hy
    refine ⟨oa, c, e, h1, h2, readSn_keep h3 hm fun j y gg o hj e2 _ ht => ?_, fun ad e2 hM => ?_⟩
    · have := h4 _ e2 (fun e => by rw [e] at hj; simp at hj)
      injection ht with ht
      exact this.2 ht.symm
    · have := h4 ad e2 hM
      have := readSn_lt h3 e2 hM
      omega
  refine ⟨ho, by rw [List.length_append, h.len]; rfl, fun k y M h1 h2 => ?_⟩
  by_cases hk : k < n
  · rw [List.getElem?_append_left (by omega)] at h1
    rw [List.getElem?_append_left (by rw [h.len]; omega)] at h2
    exact key (h.hd k y M h1 h2)
  · rw [List.getElem?_append_right (by omega)] at h1
    rw [List.getElem?_append_right (by rw [h.len]; omega), h.len] at h2
    rw [hlen] at h1
    obtain ⟨j, hj⟩ : ∃ j, k - n = j := ⟨_, rfl⟩
    rw [hj] at h1 h2
    rcases j with _ | j
    · simp at h1 h2
      subst h1 h2
      exact key hx
    · simp at h1
theorem SawR.new {w : World} {B0 : Nat} (h : B0 ≤ w.heap.size) : SawR (w.alloc (.cells #[.slice none 0 0] 34)) B0 w.heap.size 1 1 [.slice none 0 0] [[]] := by
  refine ⟨World.ownsRow_lit (base := B0) (e := 34) (size := 1) w #[.slice none 0 0] 1 h (by decide) (by simp), rfl, fun k x L h1 h2 => ?_⟩
  rcases k with _ | k
  · simp at h1 h2
    subst h1 h2
    exact ⟨none, 0, rfl, by simp, by simp [maxLen], fun j x hj => by simp at hj, fun ad e => by cases e⟩
  · simp at h1
theorem SawR.get {w : World} {B0 g cap n k : Nat} {Hs : List Value} {Ls : List (List Sn)} {L : List Sn} (h : SawR w B0 g cap n Hs Ls) (hk : Ls[k]? = some L) : ∃ oa c, w.cell? ⟨g, k, none⟩ = some (.slice oa L.length c) ∧ L.length ≤ c ∧ c ≤ maxLen ∧ ReadSn w oa L := by
  have hlt : k < n := by have := (List.getElem?_eq_some_iff.1 hk).1; rw [h.len] at this; exact this
  obtain ⟨x, hx⟩ : ∃ x, Hs[k]? = some x := ⟨_, List.getElem?_eq_getElem (by rw [h.lens]; exact hlt)⟩
  obtain ⟨oa, c, rfl, h1, h2, h3, _⟩ := h.hd k x L hx hk
  have := World.ownsRow.cells h.own (g := g) rfl k _ hx
  rw [Addr.add_lit, Nat.zero_add] at this
  exact ⟨oa, c, this, h1, h2, h3⟩

/-! ### Acts -/
structure Ac where
  kl : Bool
  ai : Int
  id : Int
  ln : Int
def Ac.Ok (x : Ac) : Prop := (0 ≤ x.ai ∧ x.ai ≤ 255) ∧ U x.id ∧ U x.ln
/-- A row of acts that is only read. -/
def ReadAc (w : World) (oa : Option Addr) (l : List Ac) : Prop := ∀ (j : Nat) (x : Ac), l[j]? = some x → x.Ok ∧ ∃ g o : Nat, oa = some ⟨g, o, none⟩ ∧ w.cell? ⟨g, o + j * 4, none⟩ = some (.bool x.kl) ∧ w.cell? ⟨g, o + j * 4 + 1, none⟩ = some (.int .u8 x.ai) ∧ w.cell? ⟨g, o + j * 4 + 2, none⟩ = some (.int .u32 x.id) ∧ w.cell? ⟨g, o + j * 4 + 3, none⟩ = some (.int .u32 x.ln)
theorem ReadAc.below {w w' : World} {oa : Option Addr} {l : List Ac} (h : ReadAc w oa l) (hb : Below w.heap.size w w') : ReadAc w' oa l := fun j x hj => by
  obtain ⟨hx, g, o, h0, h1, h2, h3, h4⟩ := h j x hj
  exact ⟨hx, g, o, h0, below_cell h1 hb, below_cell h2 hb, below_cell h3 hb, below_cell h4 hb⟩

/-! ### The law's rounds -/
/-- What each version saw is what it sees. -/
def SawAll (cs : List Int) (v : Nat) (Ls : List (List Sn)) : Prop := Ls.length = v + 1 ∧ ∀ k : Nat, k ≤ v → Ls[k]? = some (seenZ cs 0 16 (k : Int))
theorem SawAll.new : SawAll (List.replicate 64 0) 0 [[]] := by
  refine ⟨rfl, fun k hk => ?_⟩
  have e : k = 0 := by omega
  rw [e]
  decide +kernel
theorem SawAll.more {cs cs' : List Int} {v : Nat} {Ls : List (List Sn)} (h : SawAll cs v Ls) (hk : ∀ k : Int, k ≤ (v : Int) → seenZ cs' 0 16 k = seenZ cs 0 16 k) : SawAll cs' (v + 1) (Ls ++ [seenZ cs' 0 16 ((v : Int) + 1)]) := by
  refine ⟨by rw [List.length_append, h.1]; rfl, fun k hkv => ?_⟩
  by_cases e : k ≤ v
  · rw [List.getElem?_append_left (by rw [h.1]; omega), h.2 k e, hk _ (by omega)]
  · obtain rfl : k = v + 1 := by omega
    rw [List.getElem?_append_right (by rw [h.1]; omega), h.1, Nat.sub_self]
    rfl
structure VR (W : World) (mb cb B0 g cap n v N : Nat) (wr : World) : Prop where
  tm : ∃ cs Hs Ls, TM mb cb cs N wr ∧ Vers cs n (v : Int) ∧ SawR wr B0 g cap (v + 1) Hs Ls ∧ SawAll cs v Ls
  low : Below W.heap.size W wr
  ord : W.heap.size ≤ cb ∧ cb < mb ∧ mb < B0
theorem VR.mod {W wr w' : World} {mb cb B0 g cap n v N : Nat} (h : VR W mb cb B0 g cap n v N wr) (hb : Below wr.heap.size wr w') : VR W mb cb B0 g cap n v N w' := by
  obtain ⟨⟨cs, Hs, Ls, h1, h2, h3, h4⟩, h5, h6⟩ := h
  exact ⟨⟨cs, Hs, Ls, h1.below hb, h2, h3.below hb, h4⟩, low_more h5 hb, h6⟩
end Go.Proofs.Ytgponhdmhgdalaa
