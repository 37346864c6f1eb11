/-
  What the program's three functions of layer 6 keep, as the laws' walks take it; the laws' own example, given that. Over the program's own text.
-/
import Derived.Test.YtpfbhafcjipmeaaDoorTokDoc
namespace Go.Proofs.YtpfbhafcjipmeaaDoor
open Go.RowKit

/-- Each of the three answers as the chapter says, in a world where T holds (what the tables read as): taken as given here, proved of the landed code elsewhere. -/
structure KeptTok (T : World → Prop) : Prop where
  words : ∀ (w : World) (s : ByteArray), T w → s.size ≤ 1000000 → Calls Tryd.prog 11 #[.string s] w fun e w' => ∃ v, e = .returned v ∧ ToksIn w' w.heap.size v (toksP 0 (wordsT s)) ∧ Below w.heap.size w w'
  stop : ∀ (w : World) (s : ByteArray), T w → s.size ≤ 1000000 → Calls Tryd.prog 13 #[.string s] w fun e w' => e = .returned (.bool (stopB (bytesL s))) ∧ Below w.heap.size w w'
  tokens : ∀ (w : World) (oa : Option Addr) (c : Nat) (F : List ByteArray), T w → ReadS w oa F → F.length ≤ c → c ≤ maxLen → (∀ x ∈ F, x.size ≤ 1000000) → F.length ≤ 1000000 → Calls Tryd.prog 15 #[.slice oa F.length c] w fun e w' => ∃ ob d, e = .returned (.tuple #[.slice ob (docL F).length d, .int .i64 (docE F)]) ∧ ReadT w' ob (docL F) ∧ Below w.heap.size w w'
  keep : ∀ (w w' : World), T w → Below w.heap.size w w' → T w'

/-- One call more. -/
theorem low_more {a b c : World} (h : Below a.heap.size a b) (k : Below b.heap.size b c) : Below a.heap.size a c := h.trans (k.mono h.size)
theorem toks_slice {w : World} {base : Nat} {v : Value} {l : List Tk} (h : ToksIn w base v l) : ∃ oa cap, v = .slice oa l.length cap ∧ l.length ≤ cap ∧ cap ≤ maxLen ∧ (oa = none → cap = 0) ∧ ReadT w oa l := by
  obtain ⟨oa, cap, rfl, h1, h2, h3⟩ := toks_reads h
  refine ⟨oa, cap, rfl, h1, h2, fun e => ?_, h3⟩
  subst e
  rcases h.2 with ⟨e, _⟩ | ⟨g, cap', cur, e, _⟩
  · injection e
  · cases e
theorem KeptTok.words_own {T : World → Prop} (K : KeptTok T) (s : ByteArray) (L : List Tk) (hs : s.size ≤ 1000000) (hL : toksP 0 (wordsT s) = L) (w : World) (h : T w) : Calls Tryd.prog 11 #[.string s] w fun e w' => ∃ v, e = .returned v ∧ ToksIn w' w.heap.size v L ∧ T w' ∧ Below w.heap.size w w' := by
  subst hL
  exact (K.words w s h hs).mono fun _ _ ⟨v, h1, h2, h6⟩ => ⟨v, h1, h2, K.keep _ _ h h6, h6⟩
theorem KeptTok.words_of {T : World → Prop} (K : KeptTok T) (s : ByteArray) (L : List Tk) (hs : s.size ≤ 1000000) (hL : toksP 0 (wordsT s) = L) (w : World) (h : T w) : Calls Tryd.prog 11 #[.string s] w fun e w' => ∃ oa c, e = .returned (.slice oa L.length c) ∧ L.length ≤ c ∧ c ≤ maxLen ∧ (oa = none → c = 0) ∧ ReadT w' oa L ∧ T w' ∧ Below w.heap.size w w' :=
  (K.words_own s L hs hL w h).mono fun _ _ ⟨v, h1, h2, h3, h4⟩ => by
    obtain ⟨oa, c, rfl, h5, h6, h7, h8⟩ := toks_slice h2
    exact ⟨oa, c, h1, h5, h6, h7, h8, h3, h4⟩
theorem KeptTok.stop_of {T : World → Prop} (K : KeptTok T) (s : ByteArray) (hs : s.size ≤ 1000000) (w : World) (h : T w) : Calls Tryd.prog 13 #[.string s] w fun e w' => e = .returned (.bool (stopB (bytesL s))) ∧ T w' ∧ Below w.heap.size w w' :=
  (K.stop w s h hs).mono fun _ _ ⟨h1, h2⟩ => ⟨h1, K.keep _ _ h h2, h2⟩
theorem KeptTok.tokens_of {T : World → Prop} (K : KeptTok T) (F : List ByteArray) (n : Nat) (hn : F.length = n) (hs : ∀ x ∈ F, x.size ≤ 1000000) (hn2 : n ≤ 1000000) (w : World) (oa : Option Addr) (c : Nat) (h : T w) (hF : ReadS w oa F) (hc : n ≤ c) (hm : c ≤ maxLen) : Calls Tryd.prog 15 #[.slice oa n c] w fun e w' => ∃ ob d, e = .returned (.tuple #[.slice ob (docL F).length d, .int .i64 (docE F)]) ∧ ReadT w' ob (docL F) ∧ T w' ∧ Below w.heap.size w w' := by
  subst hn
  exact (K.tokens w oa c F h hF hc hm hs hn2).mono fun _ _ ⟨ob, d, h1, h2, h3⟩ => ⟨ob, d, h1, h2, K.keep _ _ h h3, h3⟩
/-- A row just made, read. -/
theorem readT_new (w : World) (l : List Tk) (t : TypeId) : ReadT (w.alloc (.cells (toksC l).toArray t)) (some ⟨w.heap.size, 0, none⟩) l := by
  intro j x hj
  obtain ⟨h1, h2, h3⟩ := toksC_get l j x hj
  refine ⟨_, _, rfl, ?_, ?_, ?_⟩
  all_goals (rw [Lib.cell_of_heap (heap_alloc_new w _)]; simpa [Nat.zero_add])
theorem readS_new (w : World) (F : List ByteArray) (t : TypeId) : ReadS (w.alloc (.cells (F.map Value.string).toArray t)) (some ⟨w.heap.size, 0, none⟩) F := by
  intro j x hj
  refine ⟨_, _, rfl, ?_⟩
  rw [Lib.cell_of_heap (heap_alloc_new w _)]
  simp [hj]
theorem low_new {a b : World} {o : Obj} (h : Below a.heap.size a b) : Below a.heap.size a (b.alloc o) := h.alloc h.size o

set_option maxRecDepth 100000 in
set_option maxHeartbeats 2000000 in
theorem fixed_any {T : World → Prop} (K : KeptTok T) (w : World) (h : T w) : Calls Tryd.prog 9 #[] w fun e w' => e = .returned (.bool true) ∧ T w' ∧ Below w.heap.size w w' := by
  have HT := Lib.hid h
  have HB := Lib.hid (Below.refl w.heap.size w)
  have HK := Lib.hid (fun w w' => K.keep w w')
  have hE : docE [⟨#[]⟩, ⟨#[]⟩, ⟨#[]⟩, ⟨#[]⟩, ⟨#[]⟩] = 4 := by unfold docE; rw [if_pos (.inl (.inl (by decide)))]
  have d1 := K.tokens_of [⟨#[]⟩, ⟨#[]⟩, ⟨#[]⟩, ⟨#[]⟩, ⟨#[]⟩] 5 rfl (by decide) (by decide)
  rw [hE] at d1
  have D1 := Lib.hid d1
  have W1 := Lib.hid (K.words_of ⟨#[84, 104, 101, 32, 113, 117, 105, 99, 107, 44, 32, 81, 85, 73, 67, 75, 32, 102, 111, 120]⟩ [(0, ⟨#[113, 117, 105, 99, 107]⟩, 1), (0, ⟨#[113, 117, 105, 99, 107]⟩, 2), (0, ⟨#[102, 111, 120]⟩, 3)] (by decide) (by decide +kernel))
  have W2 := Lib.hid (K.words_of ⟨#[97, 49, 98, 32, 50]⟩ [(0, ⟨#[97, 49, 98]⟩, 0), (0, ⟨#[50]⟩, 1)] (by decide) (by decide +kernel))
  clear h K hE d1
  go_enter Tryd.func9, Tryd.ntmps9
  go_wp2_with fail
  refine (D1.out _ (some ⟨w.heap.size, 0, none⟩) 5 (HK.out _ _ HT.out below_one) (readS_new w [⟨#[]⟩, ⟨#[]⟩, ⟨#[]⟩, ⟨#[]⟩, ⟨#[]⟩] _) (Nat.le_refl _) (by decide)).mono ?_
  rintro e w1 ⟨ob, d, rfl, _, ht, hb⟩
  have HT := Lib.hid ht; have HB := Lib.hid (low_more (low_new HB.out) hb); clear ht hb
  go_wp2_with fail
  refine (W1.out _ HT.out).mono ?_
  rintro e w2 ⟨oa, c, rfl, _, _, _, hr, ht, hb⟩
  have HR := Lib.hid hr; have HT := Lib.hid ht; have HB := Lib.hid (low_more HB.out hb); clear hr ht hb
  go_wp2_with fail
  refine (same_toks _ oa (some ⟨w2.heap.size, 0, none⟩) c 3 [(0, ⟨#[113, 117, 105, 99, 107]⟩, 1), (0, ⟨#[113, 117, 105, 99, 107]⟩, 2), (0, ⟨#[102, 111, 120]⟩, 3)] [(0, ⟨#[113, 117, 105, 99, 107]⟩, 1), (0, ⟨#[113, 117, 105, 99, 107]⟩, 2), (0, ⟨#[102, 111, 120]⟩, 3)] (HR.out.below below_one) (readT_new w2 _ _) (by decide)).mono ?_
  rintro e w3 ⟨rfl, hb⟩
  have HT := Lib.hid (HK.out _ _ HT.out (low_more below_one hb)); have HB := Lib.hid (low_more (low_new HB.out) hb); clear hb
  go_wp2_with fail
  refine (W2.out _ HT.out).mono ?_
  rintro e w4 ⟨ob, c', rfl, _, _, _, hr, ht, hb⟩
  have HR := Lib.hid hr; have HT := Lib.hid ht; have HB := Lib.hid (low_more HB.out hb); clear hr ht hb
  go_wp2_with fail
  refine (same_toks _ ob (some ⟨w4.heap.size, 0, none⟩) c' 2 [(0, ⟨#[97, 49, 98]⟩, 0), (0, ⟨#[50]⟩, 1)] [(0, ⟨#[97, 49, 98]⟩, 0), (0, ⟨#[50]⟩, 1)] (HR.out.below below_one) (readT_new w4 _ _) (by decide)).mono ?_
  rintro e w5 ⟨rfl, hb⟩
  have HT := Lib.hid (HK.out _ _ HT.out (low_more below_one hb)); have HB := Lib.hid (low_more (low_new HB.out) hb); clear hb
  go_wp2_with fail
  go_ret
  exact ⟨rfl, HT.out, HB.out⟩
end Go.Proofs.YtpfbhafcjipmeaaDoor
