/-
  A word in brackets, behind signs that turn it: its text, the reference's parts of it, the walk of the law. Over the program's own text. (Written by mergenests.py out of its parts.)
-/
import Derived.Test.YtaaeooimalglaaaDoorQryBack
import Derived.Test.YtaaeooimalglaaaDoorQryPure
import Derived.Test.YtaaeooimalglaaaDoorTokKept
import Derived.Test.YtaaeooimalglaaaDoorFoldRef
import Derived.Test.YtaaeooimalglaaaDoorUtfWords
import Derived.Test.YtaaeooimalglaaaDoorBytes
import Derived.BigQuiet
import Derived.Test.YtaaeooimalglaaaDoorQryWalkB
import Derived.Test.YtaaeooimalglaaaDoorTokAll
namespace Go.Proofs.YtaaeooimalglaaaDoor
open Go.RowKit

section
set_option maxRecDepth 100000 in
theorem not33 (l : List Nat) : ¬ headZ (skipB (40 :: l)) = 33 := by
  rw [show headZ (skipB (40 :: l)) = 40 from rfl]
  decide
def Ends (T : List Nat) : Prop := headZ (skipB T) = 41 ∨ headZ (skipB T) = -1
set_option maxRecDepth 100000 in
theorem or_ends {k : Nat} {l T : List Nat} {t : Nd} (h : notP k l = .ok t T) (hT : Ends T) : orP (andP (notP k)) l = .ok t (skipB T) := by
  have h1 : andP (notP k) l = .ok t (skipB T) := by
    rw [andP_eq, h]
    show andR k [t] T = _
    have hb : beginB (headZ (skipB T)) = false := by rcases hT with h | h <;> rw [h] <;> decide +kernel
    rw [andR_step, if_neg (by rcases hT with h | h <;> rw [h] <;> decide), hb]
    rfl
  have h2 := or_single h1 (by rw [skipB_skip]; rcases hT with h | h <;> rw [h] <;> decide)
  rwa [skipB_skip] at h2
set_option maxRecDepth 100000 in
theorem let_facts {c : Nat} (h : letB c = true) : blankB c = false ∧ c ≠ 33 ∧ c ≠ 40 ∧ c ≠ 34 ∧ c ≠ 58 := by
  have key : ∀ d : Nat, letB d = true → d < 128 → blankB d = false ∧ d ≠ 33 ∧ d ≠ 40 ∧ d ≠ 34 ∧ d ≠ 58 := by
    have : ∀ d : Nat, d < 128 → letB d = true → blankB d = false ∧ d ≠ 33 ∧ d ≠ 40 ∧ d ≠ 34 ∧ d ≠ 58 := by decide +kernel
    exact fun d h1 h2 => this d h2 h1
  rcases Nat.lt_or_ge c 128 with h1 | h1
  · exact key c h h1
  · refine ⟨?_, by omega, by omega, by omega, by omega⟩
    unfold blankB
    simp
    omega
/-- Behind a word stands something else. -/
def Behind (T : List Nat) : Prop := ∀ c r, T = c :: r → letB c = false ∧ c ≠ 58
set_option maxRecDepth 100000 in
theorem Ends.behind {T : List Nat} (h : Ends T) : Behind T := by
  rintro c r rfl
  by_cases hb : blankB c = true
  · exact ⟨(blank_let c hb).1, (blank_let c hb).2.2⟩
  · unfold Ends at h
    rw [skipB, if_neg hb] at h
    simp only [headZ] at h
    have : c = 41 := by omega
    subst this
    exact ⟨by decide +kernel, by decide⟩
set_option maxRecDepth 100000 in
theorem behind_blank {B T : List Nat} (hB : Bl B) (h : Behind T) : Behind (B ++ T) := by
  cases B with
  | nil => exact h
  | cons b B =>
    rintro c r hc
    injection hc with hc _
    subst hc
    have := blank_let b (hB b (by simp))
    exact ⟨this.1, this.2.2⟩
section
variable {A w B : List Nat} (hA : Bl A) (hB : Bl B) (hw : w ≠ []) (hl : ∀ c ∈ w, letB c = true)
include hA hw hl
set_option maxRecDepth 100000 in
theorem skip_wordN (T : List Nat) : skipB (A ++ w ++ T) = w ++ T ∧ ∃ c r, w ++ T = c :: r ∧ letB c = true := by
  obtain ⟨c, q, rfl⟩ : ∃ c q, w = c :: q := by cases w with | nil => exact absurd rfl hw | cons c q => exact ⟨c, q, rfl⟩
  have hc := hl c (by simp)
  refine ⟨?_, c, q ++ T, rfl, hc⟩
  rw [List.append_assoc, skip_ahead hA, List.cons_append, skipB, if_neg (by rw [(let_facts hc).1]; decide)]
set_option maxRecDepth 100000 in
theorem leaf_wordN (k : Nat) {T : List Nat} (hT : Behind T) : leafP k (A ++ w ++ T) = .ok (leafNd 0 w) T := by
  obtain ⟨h1, c, r, h2, h3⟩ := skip_wordN hA hw hl T
  have hf := let_facts h3
  have hs : skipB (w ++ T) = w ++ T := by rw [← h1, skipB_skip]
  have hfi : fieldP (w ++ T) = (0, w ++ T) := by
    unfold fieldP
    rw [hs]
    split
    · rename_i c2 r2 he
      exfalso
      cases w with
      | nil => exact hw rfl
      | cons a q =>
        cases q with
        | nil =>
          simp only [List.cons_append, List.nil_append] at he
          injection he with _ he
          exact (hT 58 r2 he).2 rfl
        | cons d q =>
          simp only [List.cons_append] at he
          injection he with _ he
          injection he with he _
          exact (let_facts (hl d (by simp))).2.2.2.2 he
    · rfl
  rw [← leafP_skip, h1]
  unfold leafP
  rw [hfi]
  simp only
  rw [hs, if_neg (by rw [h2]; simp only [headZ]; omega), word_at k hw hl (fun c r h => (hT c r h).1)]
  rfl
set_option maxRecDepth 100000 in
theorem not_wordN (k : Nat) {T : List Nat} (hT : Behind T) : notP k (A ++ w ++ T) = .ok (leafNd 0 w) T := by
  obtain ⟨h1, c, r, h2, h3⟩ := skip_wordN hA hw hl T
  have hf := let_facts h3
  have h33 : ¬ headZ (skipB (A ++ w ++ T)) = 33 := by rw [h1, h2]; simp only [headZ]; omega
  have h40 : ¬ headZ (skipB (A ++ w ++ T)) = 40 := by rw [h1, h2]; simp only [headZ]; omega
  cases k with
  | zero => rw [notP, if_neg (fun h => h.elim h33 h40), leafP_skip]; exact leaf_wordN hA hw hl 0 hT
  | succ k => rw [notP, if_neg h33, if_neg h40, leafP_skip]; exact leaf_wordN hA hw hl (k + 1) hT
include hB
set_option maxRecDepth 100000 in
theorem nestN : ∀ (b k : Nat) (T : List Nat), b ≤ k → Ends T → ∃ R, skipB R = skipB T ∧ notP k (List.replicate b 40 ++ (A ++ w ++ B) ++ List.replicate b 41 ++ T) = .ok (leafNd 0 w) R
  | 0, k, T, _, hT => ⟨B ++ T, skip_ahead hB T, by
    have := not_wordN hA hw hl k (behind_blank hB hT.behind)
    simpa [List.append_assoc] using this⟩
  | b + 1, 0, T, h, _ => absurd h (by omega)
  | b + 1, k + 1, T, h, hT => by
    obtain ⟨R, h1, h2⟩ := nestN b k (41 :: T) (by omega) (.inl rfl)
    refine ⟨T, rfl, ?_⟩
    have hs41 : skipB (41 :: T) = 41 :: T := rfl
    have h3 := or_ends h2 (show Ends R by unfold Ends; rw [h1]; exact .inl rfl)
    have e : List.replicate (b + 1) 40 ++ (A ++ w ++ B) ++ List.replicate (b + 1) 41 ++ T = 40 :: (List.replicate b 40 ++ (A ++ w ++ B) ++ List.replicate b 41 ++ 41 :: T) := by
      rw [List.replicate_succ, List.replicate_succ']
      simp [List.append_assoc]
    rw [e, notP, if_neg (not33 _), if_pos (show headZ (skipB (40 :: _)) = 40 from rfl)]
    rw [show ∀ l : List Nat, (skipB (40 :: l)).drop 1 = l from fun _ => rfl, h3, h1, hs41]
    show (if headZ (skipB (41 :: T)) = 41 then PR.ok (leafNd 0 w) ((skipB (41 :: T)).drop 1) else PR.err (failE k (41 :: T))) = _
    rw [hs41, if_pos (show headZ (41 :: T) = 41 from rfl)]
    rfl
end
set_option maxRecDepth 100000 in
theorem deepB : ∀ (b k : Nat) (X : List Nat), k < b → notP k (List.replicate b 40 ++ X) = .err 9
  | 0, _, _, h => absurd h (by omega)
  | b + 1, 0, X, _ => by
    rw [List.replicate_succ, List.cons_append, notP, if_pos (.inr rfl)]
  | b + 1, k + 1, X, h => by
    rw [List.replicate_succ, List.cons_append, notP, if_neg (not33 _), if_pos (show headZ (skipB (40 :: _)) = 40 from rfl)]
    rw [show ∀ l : List Nat, (skipB (40 :: l)).drop 1 = l from fun _ => rfl, orP_eq, andP_eq, deepB b k X (by omega)]
    rfl
/-- So many Nots round a tree. -/
def turnedN : Nat → Nd → Nd
  | 0, t => t
  | n + 1, t => .mk 4 0 [] [turnedN n t]
set_option maxRecDepth 100000 in
theorem turnN : ∀ (n k : Nat) (X R : List Nat) (t : Nd), notP k X = .ok t R → notP (k + n) (List.replicate n 33 ++ X) = .ok (turnedN n t) R
  | 0, _, _, _, _, h => h
  | n + 1, k, X, R, t, h => by
    rw [List.replicate_succ, List.cons_append, show k + (n + 1) = (k + n) + 1 from rfl, notP, if_pos (show headZ (skipB (33 :: _)) = 33 from rfl)]
    rw [show ∀ l : List Nat, (skipB (33 :: l)).drop 1 = l from fun _ => rfl, turnN n k X R t h]
    rfl
set_option maxRecDepth 100000 in
theorem deepN : ∀ (n k : Nat) (X : List Nat), (k < n ∨ notP (k - n) X = .err 9) → notP k (List.replicate n 33 ++ X) = .err 9
  | 0, k, X, h => by
    rcases h with h | h
    · omega
    · exact h
  | n + 1, 0, X, _ => by
    rw [List.replicate_succ, List.cons_append, notP, if_pos (.inl rfl)]
  | n + 1, k + 1, X, h => by
    rw [List.replicate_succ, List.cons_append, notP, if_pos (show headZ (skipB (33 :: _)) = 33 from rfl)]
    rw [show ∀ l : List Nat, (skipB (33 :: l)).drop 1 = l from fun _ => rfl, deepN n k X (h.elim (fun h => .inl (by omega)) (fun h => .inr (by rwa [show k + 1 - (n + 1) = k - n by omega] at h)))]
    rfl
set_option maxRecDepth 100000 in
theorem nest_ok {A w B : List Nat} (hA : Bl A) (hB : Bl B) (hw : w ≠ []) (hl : ∀ c ∈ w, letB c = true) {b n : Nat} (h : b + n ≤ 8) :
    parseR (List.replicate n 33 ++ (List.replicate b 40 ++ (A ++ w ++ B) ++ List.replicate b 41)) = .ok (turnedN n (leafNd 0 w), ⟨10, false, 0, false⟩) [] := by
  obtain ⟨R, h1, h2⟩ := nestN hA hB hw hl b (8 - n) [] (by omega) (.inr rfl)
  rw [List.append_nil] at h2
  have h3 := turnN n (8 - n) _ R _ h2
  rw [show 8 - n + n = 8 by omega] at h3
  rw [parseR_eq, or_ends h3 (by unfold Ends; rw [h1]; exact .inr rfl), h1]
  rfl
set_option maxRecDepth 100000 in
theorem nest_deep {X : List Nat} {b n : Nat} (h : 8 < b + n) : parseR (List.replicate n 33 ++ (List.replicate b 40 ++ X)) = .err 9 := by
  have h1 : notP 8 (List.replicate n 33 ++ (List.replicate b 40 ++ X)) = .err 9 := by
    apply deepN
    rcases Nat.lt_or_ge 8 n with h2 | h2
    · exact .inl h2
    · exact .inr (deepB b (8 - n) X (by omega))
  rw [parseR_eq, orP_eq, andP_eq, h1]
  rfl
end

/-- From one place to another stand letters and digits. -/
def Lets (L : List Nat) (i n : Nat) : Prop := i + n ≤ L.length ∧ ∀ j, i ≤ j → j < i + n → ∃ r, L[j]? = some r ∧ letB r = true
set_option maxRecDepth 100000 in
theorem Lets.more {L : List Nat} {i n r : Nat} (h : Lets L i n) (hr : L[i + n]? = some r) (hl : letB r = true) : Lets L i (n + 1) := by
  refine ⟨by have := (List.getElem?_eq_some_iff.1 hr).1; omega, fun j h1 h2 => ?_⟩
  rcases Nat.lt_or_ge j (i + n) with h3 | h3
  · exact h.2 j h1 h3
  · obtain rfl : j = i + n := by omega
    exact ⟨r, hr, hl⟩
/-- All that stand there. -/
def LetEnd (L : List Nat) (i n : Nat) : Prop := Lets L i n ∧ ∀ r, L[i + n]? = some r → letB r = false
set_option maxRecDepth 100000 in
theorem LetEnd.eq {L : List Nat} {i n m : Nat} (h : LetEnd L i n) (h' : LetEnd L i m) : n = m := by
  rcases Nat.lt_trichotomy n m with h1 | h1 | h1
  · obtain ⟨r, h2, h3⟩ := h'.1.2 (i + n) (by omega) (by omega)
    rw [h.2 r h2] at h3
    cases h3
  · exact h1
  · obtain ⟨r, h2, h3⟩ := h.1.2 (i + m) (by omega) (by omega)
    rw [h'.2 r h2] at h3
    cases h3
set_option maxRecDepth 100000 in
set_option maxHeartbeats 2000000 in
theorem word_ref (w : World) (oa : Option Addr) (c : Nat) (L : List Nat) (h : ReadI w oa (ints L)) (hn : L.length ≤ 1000000) (i : Nat) (hi : i ≤ L.length) :
    Calls Tryd.prog 23 #[.slice oa L.length c, .int .i64 i] w fun e w' => ∃ n : Nat, e = .returned (.int .i64 n) ∧ w' = w ∧ LetEnd L i n := by
  have HR := Lib.hid h
  obtain ⟨N, hN⟩ : ∃ N, N = L.length := ⟨_, rfl⟩
  rw [← hN]
  have HN := Lib.hid hN
  rw [← hN] at hn hi
  clear h hN
  go_enter Tryd.func23, Tryd.ntmps23
  go_wp2_with fail
  go_loopw [5] (fun nv wr => ∃ n : Nat, nv = .int .i64 n ∧ wr = w ∧ Lets L i n) (fun nv _ => N - (intOf nv).toNat)
  case atStart => exact ⟨0, rfl, rfl, by rw [← HN.out]; omega, fun j h1 h2 => by omega⟩
  case round =>
    obtain ⟨n, rfl, hw, hl⟩ := hrel
    have hw' : w = wr := hw.symm
    subst hw'
    have hin := hl.1
    rw [← HN.out] at hin
    by_cases hlt : i + n < N
    · obtain ⟨r, hr⟩ : ∃ r, L[i + n]? = some r := ⟨_, List.getElem?_eq_getElem (by rw [← HN.out]; exact hlt)⟩
      obtain ⟨ad, h1, h2⟩ := HR.out (i + n) (r : Int) (by unfold ints; rw [List.getElem?_map, hr]; rfl)
      subst h1
      have HC := Lib.hid (fun w => ref_class w (r : Int))
      have hlti : (i : Int) + (n : Int) < (N : Int) := by omega
      by_cases hz : classZ (r : Int) = 0
      · have HL := Lib.hid (show LetEnd L i n from ⟨hl, fun r' h => by rw [hr] at h; injection h with h; subst h; unfold letB; simpa using hz⟩)
        rw [hz] at HC
        clear hl hr
        go_wp2_with fail
        refine (HC.out _).mono ?_; rintro e w5 ⟨rfl, rfl⟩
        go_wp2_with fail
        try rw [Exit.noGoto_ret]
        go_ret
        exact ⟨n, rfl, rfl, HL.out⟩
      · have HL := Lib.hid (hl.more hr (by unfold letB; simpa using hz))
        generalize classZ (r : Int) = k at HC hz
        clear hl hr
        go_wp2_with fail
        refine (HC.out _).mono ?_; rintro e w5 ⟨rfl, rfl⟩
        go_wp2_with fail
        go_roundw
        case rel => exact ⟨n + 1, by go_num, trivial, HL.out⟩
        case measure => simp [intOf]; omega
    · have hlti : ¬ (i : Int) + (n : Int) < (N : Int) := by omega
      have HL := Lib.hid (show LetEnd L i n from ⟨hl, fun r h => by have := (List.getElem?_eq_some_iff.1 h).1; rw [← HN.out] at this; omega⟩)
      clear hl
      go_wp2_with fail
      try rw [Exit.noGoto_ret]
      go_ret
      exact ⟨n, rfl, rfl, HL.out⟩

abbrev Pt := Int × ByteArray
def ptC (x : Pt) : List Value := [.int .i32 x.1, .string x.2]
def ptsC (l : List Pt) : List Value := l.flatMap ptC
set_option maxRecDepth 100000 in
theorem ptsC_append (a b : List Pt) : ptsC (a ++ b) = ptsC a ++ ptsC b := List.flatMap_append
set_option maxRecDepth 100000 in
theorem ptsC_length : ∀ l : List Pt, (ptsC l).length = l.length * 2
  | [] => rfl
  | x :: l => by
    show (ptC x ++ ptsC l).length = _
    rw [List.length_append, ptsC_length l, List.length_cons]
    show 2 + _ = _
    omega
set_option maxRecDepth 100000 in
theorem info_pt : (Tryd.prog.info? 46).map (fun i => (i.zero, i.size, i.bytes)) = some (some (.agg #[.int .i32 0, .string ⟨#[]⟩]), 2, 24) := by kernel_rfl
def OwnPt (w : World) (base : Nat) (v : Value) (l : List Pt) : Prop := w.ownsRow base 46 2 v l.length (ptsC l)
set_option maxRecDepth 100000 in
theorem OwnPt.more {W w1 w2 : World} {v v' : Value} {l : List Pt} {x : Pt} {o : Obj} {base : Nat} (hb : base ≤ w1.heap.size) (hl : Below base W w1) (hr : OwnPt w1 base v l) (ho : w2.ownsRow base 46 2 v' (l.length + 1) (ptsC l ++ [.int .i32 x.1, .string x.2])) (hg : (w1.alloc o).grownBy w2 v.ownBlock) :
    OwnPt w2 base v' (l ++ [x]) ∧ Below base W w2 := by
  refine ⟨?_, (hl.alloc hb _).grown hg (by simp; omega) (fun k hk => (World.ownsRow.lt hr k hk).1)⟩
  unfold OwnPt
  rw [ptsC_append]
  simpa [ptsC, ptC] using ho
set_option maxRecDepth 100000 in
theorem pt_mono {w : World} {b b2 : Nat} {v : Value} {l : List Pt} (h : OwnPt w b v l) (hb : b2 ≤ b) : OwnPt w b2 v l := by
  obtain ⟨h0, ⟨h1, h2⟩ | ⟨g', cap', cur, k1, k2, k3⟩⟩ := h
  · exact ⟨h0, .inl ⟨h1, h2⟩⟩
  · exact ⟨h0, .inr ⟨g', cap', cur, k1, by omega, k3⟩⟩
set_option maxRecDepth 100000 in
theorem two_pt {w : World} {u v : Value} {t : TypeId} : ∀ (j : Nat) (x : Value), [u, v][j]? = some x → (w.alloc (.cells #[u, v] t)).cell? ((⟨w.heap.size, 0, none⟩ : Addr).add j) = some x := by
  intro j x hj
  rw [Addr.add_lit, Lib.cell_of_heap (heap_alloc_new w _)]
  simpa using hj
set_option maxRecDepth 100000 in
theorem two_at {w : World} {g : Nat} {a b : Value} {t : TypeId} (h : w.heap[g]? = some (.cells #[a, b] t (0, 0))) : ∀ (j : Nat) (u : Value), [a, b][j]? = some u → w.cell? ((⟨g, 0, none⟩ : Addr).add j) = some u := by
  intro j u hj
  rw [Addr.add_lit, Nat.zero_add, cell_at h j]
  simpa using hj
/-- A word with blanks around it. -/
def OneWord (L : List Nat) : Prop := ∃ A w B, L = A ++ w ++ B ∧ Bl A ∧ Bl B ∧ w ≠ [] ∧ ∀ c ∈ w, letB c = true
def fieldB (L : List Nat) (i n r N : Nat) : Bool := decide (n = 1) && (decide (48 ≤ r) && (decide (r ≤ 51) && (decide (i + 1 < N) && decide (L[i + 1]?.getD 0 = 58))))
def signB (r : Nat) : Bool := decide (r = 40) || (decide (r = 41) || (decide (r = 38) || (decide (r = 124) || (decide (r = 33) || (decide (r = 35) || decide (r = 64))))))
set_option maxRecDepth 100000 in
theorem field_yes {L : List Nat} {i n r N : Nat} (h : fieldB L i n r N = true) : n = 1 ∧ 48 ≤ r ∧ r ≤ 51 ∧ i + 1 < N := by
  unfold fieldB at h
  simp only [Bool.and_eq_true, decide_eq_true_eq] at h
  exact ⟨h.1, h.2.1, h.2.2.1, h.2.2.2.1⟩
/-- The first part's kind: a word's or another's. -/
def Head (L : List Nat) (j : Nat) (k : Int) : Prop := ∃ n r, L[j]? = some r ∧ blankB r = false ∧ LetEnd L j n ∧ (k = 119 ↔ fieldB L j n r L.length = false ∧ 0 < n)
set_option maxRecDepth 100000 in
theorem bl_not {L : List Nat} {i j r : Nat} (h : L[i]? = some r) (hb : blankB r = false) (hij : i < j) (hB : Bl (L.take j)) : False := by
  have h1 : (L.take j)[i]? = some r := by rw [List.getElem?_take_of_lt hij, h]
  have h2 := hB r (List.mem_of_getElem? h1)
  rw [hb] at h2
  cases h2
set_option maxRecDepth 100000 in
theorem Head.same {L : List Nat} {i j : Nat} {k k' : Int} (h : Head L i k) (h' : Head L j k') (hi : Bl (L.take i)) (hj : Bl (L.take j)) : k = 119 ↔ k' = 119 := by
  obtain ⟨n, r, h1, h2, h3, h4⟩ := h
  obtain ⟨n', r', h1', h2', h3', h4'⟩ := h'
  rcases Nat.lt_trichotomy i j with h | h | h
  · exact (bl_not h1 h2 h hj).elim
  · subst h
    obtain rfl := h3.eq h3'
    rw [h1] at h1'
    injection h1' with h1'
    subst h1'
    exact h4.trans h4'.symm
  · exact (bl_not h1' h2' h hi).elim
set_option maxRecDepth 100000 in
theorem Head.other {L : List Nat} {i r : Nat} (hr : L[i]? = some r) (hb : blankB r = false) (hl : LetEnd L i 0) {k : Int} (hk : k ≠ 119) : Head L i k :=
  ⟨0, r, hr, hb, hl, fun h => absurd h hk, fun h => absurd h.2 (by omega)⟩
set_option maxRecDepth 100000 in
theorem LetEnd.first {L : List Nat} {i n r : Nat} (hr : L[i]? = some r) (hl : LetEnd L i n) (hn : 0 < n) : blankB r = false := by
  obtain ⟨c, h1, h2⟩ := hl.1.2 i (by omega) (by omega)
  rw [hr] at h1
  injection h1 with h1
  subst h1
  exact (let_facts h2).1
set_option maxRecDepth 100000 in
theorem Head.word {L : List Nat} {i n r : Nat} (hr : L[i]? = some r) (hl : LetEnd L i n) (hn : 0 < n) (hf : fieldB L i n r L.length = false) : Head L i 119 :=
  ⟨n, r, hr, hl.first hr hn, hl, fun _ => ⟨hf, hn⟩, fun _ => rfl⟩
set_option maxRecDepth 100000 in
theorem Head.field {L : List Nat} {i n r : Nat} (hr : L[i]? = some r) (hl : LetEnd L i n) (hf : fieldB L i n r L.length = true) {k : Int} (hk : k ≠ 119) : Head L i k :=
  ⟨n, r, hr, hl.first hr (by have := (field_yes hf).1; omega), hl, fun h => absurd h hk, fun h => by rw [hf] at h; cases h.1⟩
/-- Up to a place. -/
structure PtAt (L : List Nat) (i : Nat) (ps : List Pt) : Prop where
  none : ps = [] → Bl (L.take i)
  one : ps.map (·.1) = [119] → OneWord (L.take i)
  few : ps.length ≤ i
  head : ∀ x, ps[0]? = some x → ∃ j, Bl (L.take j) ∧ Head L j x.1
set_option maxRecDepth 100000 in
theorem PtAt.start (L : List Nat) : PtAt L 0 [] := ⟨fun _ => (by rw [List.take_zero]; intro c hc; cases hc), fun h => (by cases h), by simp, fun x h => (by cases h)⟩
set_option maxRecDepth 100000 in
theorem PtAt.snoc {L : List Nat} {i : Nat} {ps : List Pt} {x : Pt} (h : PtAt L i ps) (hh : Head L i x.1) : ∀ y, (ps ++ [x])[0]? = some y → ∃ j, Bl (L.take j) ∧ Head L j y.1 := by
  intro y hy
  cases ps with
  | nil =>
    have hy : some x = some y := hy
    injection hy with hy
    subst hy
    exact ⟨i, h.none rfl, hh⟩
  | cons z ps => exact h.head y hy
set_option maxRecDepth 100000 in
theorem snoc_one {ps : List Pt} {x : Pt} (h : (ps ++ [x]).map (·.1) = [119]) : ps = [] ∧ x.1 = 119 := by
  rw [List.map_append] at h
  cases ps with
  | nil => exact ⟨rfl, by simpa using h⟩
  | cons y ps =>
    have := congrArg List.length h
    simp at this
set_option maxRecDepth 100000 in
theorem PtAt.sign {L : List Nat} {i j : Nat} {ps : List Pt} {x : Pt} (h : PtAt L i ps) (hx : x.1 ≠ 119) (hj : i < j) (hh : Head L i x.1) : PtAt L j (ps ++ [x]) :=
  ⟨fun e => by simp at e, fun e => absurd (snoc_one e).2 hx, by rw [List.length_append]; have := h.few; simp; omega, h.snoc hh⟩
set_option maxRecDepth 100000 in
theorem PtAt.blank {L : List Nat} {i r : Nat} {ps : List Pt} (h : PtAt L i ps) (hr : L[i]? = some r) (hb : blankB r = true) : PtAt L (i + 1) ps := by
  have e : L.take (i + 1) = L.take i ++ [r] := by rw [List.take_add_one, hr]; rfl
  refine ⟨fun h0 => ?_, fun h0 => ?_, by have := h.few; omega, h.head⟩
  · rw [e]
    intro c hc
    rcases List.mem_append.1 hc with h1 | h1
    · exact h.none h0 c h1
    · have : c = r := by simpa using h1
      rw [this]; exact hb
  · obtain ⟨A, w, B, h1, h2, h3, h4, h5⟩ := h.one h0
    refine ⟨A, w, B ++ [r], by rw [e, h1]; simp, h2, fun c hc => ?_, h4, h5⟩
    rcases List.mem_append.1 hc with h6 | h6
    · exact h3 c h6
    · have : c = r := by simpa using h6
      rw [this]; exact hb
set_option maxRecDepth 100000 in
theorem PtAt.word {L : List Nat} {i n : Nat} {ps : List Pt} {t : ByteArray} (h : PtAt L i ps) (hl : Lets L i n) (hn : 0 < n) (hh : Head L i 119) : PtAt L (i + n) (ps ++ [(119, t)]) := by
  refine ⟨fun e => by simp at e, fun e => ?_, by rw [List.length_append]; have := h.few; simp; omega, h.snoc hh⟩
  have h0 := (snoc_one e).1
  have hlen := hl.1
  refine ⟨L.take i, (L.drop i).take n, [], ?_, h.none h0, fun c hc => (by cases hc), fun e => ?_, fun c hc => ?_⟩
  · rw [List.append_nil, List.take_add]
  · have := congrArg List.length e
    rw [List.length_take, List.length_drop, List.length_nil] at this
    omega
  · obtain ⟨j, hj, rfl⟩ := List.getElem_of_mem hc
    rw [List.length_take, List.length_drop] at hj
    obtain ⟨r, h1, h2⟩ := hl.2 (i + j) (by omega) (by omega)
    have : ((L.drop i).take n)[j]? = some r := by rw [List.getElem?_take_of_lt (by omega), List.getElem?_drop, h1]
    rw [List.getElem?_eq_getElem (by rw [List.length_take, List.length_drop]; omega)] at this
    injection this with this
    rw [this]; exact h2
/-- What the parts of a whole text tell. -/
def PtOk (L : List Nat) (ps : List Pt) : Prop := (ps.map (·.1) = [119] → OneWord L) ∧ (ps = [] → Bl L) ∧ ∀ x, ps[0]? = some x → ∃ j, Bl (L.take j) ∧ Head L j x.1
set_option maxRecDepth 100000 in
theorem PtAt.all {L : List Nat} {i : Nat} {ps : List Pt} (h : PtAt L i ps) (hi : L.length ≤ i) : PtOk L ps := by
  have e : L.take i = L := List.take_of_length_le hi
  exact ⟨fun h1 => by have := h.one h1; rwa [e] at this, fun h1 => by have := h.none h1; rwa [e] at this, h.head⟩
set_option maxRecDepth 100000 in
theorem PtAt.stop {L : List Nat} {i : Nat} {ps : List Pt} {x : Pt} (h : PtAt L i ps) (hx : x.1 ≠ 119) (hh : Head L i x.1) : PtOk L (ps ++ [x]) := ⟨fun e => absurd (snoc_one e).2 hx, fun e => by simp at e, h.snoc hh⟩
set_option maxRecDepth 100000 in
/-- The parts are asked for twice. -/
theorem PtOk.twice {L : List Nat} {ps qs : List Pt} (h : PtOk L ps) (h' : PtOk L qs) (h1 : ps.length = 1) : ∃ x, qs[0]? = some x ∧ (x.1 = 119 → OneWord L) := by
  obtain ⟨y, rfl⟩ := List.length_eq_one_iff.1 h1
  obtain ⟨j, hj, hy⟩ := h.2.2 y rfl
  cases qs with
  | nil =>
    obtain ⟨n, r, h2, h3, _⟩ := hy
    have h4 := h'.2.1 rfl r (List.mem_of_getElem? h2)
    rw [h3] at h4
    cases h4
  | cons x qs =>
    obtain ⟨i, hi, hx⟩ := h'.2.2 x rfl
    refine ⟨x, rfl, fun e => h.1 ?_⟩
    show [y.1] = [119]
    rw [(hx.same hy hi hj).1 e]
set_option maxRecDepth 100000 in
theorem size_rune17 (w : World) : (Go.sizeOf 21).run Tryd.prog w = .ok 1 w := by kernel_rfl
set_option maxRecDepth 100000 in
theorem elem_runes17 : Tryd.prog.elem 34 = 21 := by kernel_rfl
set_option maxRecDepth 100000 in
theorem under_runes17 : Tryd.prog.underlying 34 = some (.slice (Tryd.prog.elem 34)) := by rw [elem_runes17]; exact Tryd.underlying34
set_option maxRecDepth 100000 in
/-- Some runes out of a row. -/
theorem slice_mid {W : World} {oa : Option Addr} {L : List Nat} (n c i k : Nat) (hn : L.length = n) (hik : i ≤ k) (hk : k ≤ n) (hc : n ≤ c) (h : ReadI W oa (ints L)) :
    ∃ ob d, (∀ w : World, (Instr.slice 34 (.slice oa n c) (some (.int .i64 (i : Int))) (some (.int .i64 (k : Int))) none).run Tryd.prog w = .ok (.slice ob (ints ((L.drop i).take (k - i))).length d) w) ∧ ReadI W ob (ints ((L.drop i).take (k - i))) := by
  refine ⟨if c = i then oa else oa.map (·.add i), c - i, fun w => ?_, ?_⟩
  · rw [run_slice_lh w 34 oa n c under_runes17 .i64 .i64 (i : Int) (k : Int) (by omega) (by omega) (by omega), elem_runes17, size_rune17]
    have e1 : (ints ((L.drop i).take (k - i))).length = k - i := by rw [ints_length, List.length_take, List.length_drop]; omega
    rw [e1]
    simp [Result.andThen, sliced]
  · intro j r hj
    have hjl := (List.getElem?_eq_some_iff.1 hj).1
    rw [ints_length, List.length_take, List.length_drop] at hjl
    have hj2 : (ints L)[i + j]? = some r := by
      unfold ints at hj ⊢
      rw [List.getElem?_map, List.getElem?_take_of_lt (by omega), List.getElem?_drop] at hj
      rw [List.getElem?_map]
      exact hj
    obtain ⟨ad, rfl, h2⟩ := h _ r hj2
    rw [if_neg (by omega)]
    refine ⟨ad.add i, rfl, ?_⟩
    rw [Addr.add_add]
    exact h2
set_option maxRecDepth 100000 in
theorem byte_one (w : World) (r : Nat) (hr : r < 256) : (convert 56 9 (.slice (some ⟨w.heap.size, 0, none⟩) 1 1)).run Tryd.prog (w.alloc (.cells #[.int .u8 (r : Int)] 5)) = .ok (.string (byteText [r])) (w.alloc (.cells #[.int .u8 (r : Int)] 5)) :=
  bytes_string (base := w.heap.size) (show BytesIn _ _ _ [r] from World.ownsRow_lit (base := w.heap.size) (e := 5) (size := 1) w #[.int .u8 (r : Int)] 1 (Nat.le_refl _) (by decide) rfl) (fun b hb => by
    have : b = r := by simpa using hb
    omega)
set_option maxRecDepth 100000 in
/-- A piece of a text, as a text. -/
theorem piece_ref {W : World} {oa : Option Addr} {L : List Nat} (n c i k : Nat) (hn : L.length = n) (hik : i ≤ k) (hk : k ≤ n) (hc : n ≤ c) (h6 : n ≤ 1000) (h : ReadI W oa (ints L)) :
    ∃ ob m d t, (∀ w : World, (Instr.slice 34 (.slice oa n c) (some (.int .i64 (i : Int))) (some (.int .i64 (k : Int))) none).run Tryd.prog w = .ok (.slice ob m d) w) ∧ ∀ wx, Below W.heap.size W wx → Calls Tryd.prog 11 #[.slice ob m d] wx fun e w' => e = .returned (.string t) ∧ Below wx.heap.size wx w' := by
  obtain ⟨ob, d, h1, h2⟩ := slice_mid n c i k hn hik hk hc h
  exact ⟨ob, _, d, textZ (ints ((L.drop i).take (k - i))), h1, fun wx hb => ref_text wx ob d _ (h2.below hb) (by rw [ints_length, List.length_take, List.length_drop]; omega)⟩
set_option maxRecDepth 100000 in
set_option maxHeartbeats 16000000 in
theorem parts_ref (W : World) (s : ByteArray) (hs : s.size ≤ 40) :
    Calls Tryd.prog 14 #[.string s] W fun e w' => ∃ v ps, e = .returned v ∧ OwnPt w' W.heap.size v ps ∧ PtOk (runesOf s) ps ∧ Below W.heap.size W w' := by
  have hrl := (runesOf_many s).1
  obtain ⟨L, hL⟩ : ∃ L, L = runesOf s := ⟨_, rfl⟩
  have HRun := Lib.hid (ref_runes_read W s (by omega))
  rw [← hL] at HRun hrl ⊢
  obtain ⟨N, hN⟩ : ∃ N, N = L.length := ⟨_, rfl⟩
  have HN := Lib.hid hN
  have hil : (L.map fun (r : Nat) => (r : Int)).length = N := by rw [List.length_map, hN]
  rw [hil] at HRun
  have hN40 : N ≤ 40 := by omega
  clear hrl hL hN hil hs
  go_enter Tryd.func14, Tryd.ntmps14
  go_wp2_with fail
  refine HRun.out.mono ?_
  rintro e w1 ⟨g, cap, rfl, hc1, hc2, hrd, hb1⟩
  have HRd := Lib.hid (show ReadI w1 (some ⟨g, 0, none⟩) (ints L) from hrd)
  have HB1 := Lib.hid hb1
  have HO1 := Lib.hid (show OwnPt (w1.alloc (.cells #[] 46)) w1.heap.size (.slice (some ⟨w1.heap.size, 0, none⟩) 0 0) [] from World.ownsRow_lit (base := w1.heap.size) (e := 46) (size := 2) w1 #[] 0 (Nat.le_refl _) (by decide) (by simp))
  obtain ⟨i0, hi0, hz0, hz1, hz2⟩ := info_parts info_pt
  have HI := Lib.hid (And.intro hi0 (And.intro hz0 (And.intro hz1 hz2)))
  clear hi0 hz0 hz1 hz2 hrd hb1 HRun hc2
  go_wp2_with fail
  go_loopg [4, 5] N (fun gg s4 s5 wr => ∃ (i : Nat) (v4 : Value) (ps : List Pt), i + gg = N ∧ s5 = .int .i64 (i : Int) ∧ v4 = s4 ∧ Hid (PtAt L i ps) ∧ Hid (OwnPt wr w1.heap.size v4 ps ∧ Below w1.heap.size w1 wr))
  case atStart => exact ⟨0, _, [], by omega, rfl, rfl, Lib.hid (PtAt.start L), Lib.hid ⟨HO1.out, below_one⟩⟩
  case round =>
    clear HO1
    obtain ⟨i, v4, ps, hig, rfl, rfl, HP, HO⟩ := hrel
    cases gk with
    | zero =>
      have hiN : N = i := by omega
      have HOk := Lib.hid (HP.out.all (by rw [← HN.out]; omega))
      go_wp2_with fail
      go_ret
      exact ⟨_, ps, rfl, pt_mono HO.out.1 HB1.out.size, HOk.out, low_more HB1.out HO.out.2⟩
    | succ gg =>
      have hlt : i < N := by omega
      obtain ⟨r, hr⟩ : ∃ r, L[i]? = some r := ⟨_, List.getElem?_eq_getElem (by rw [← HN.out]; exact hlt)⟩
      have hcell : wr.cell? ⟨g, i, none⟩ = some (.int .i32 (r : Int)) := by
        obtain ⟨ad, h1, h2⟩ := (HRd.out.below HO.out.2) i (r : Int) (by unfold ints; rw [List.getElem?_map, hr]; rfl)
        injection h1 with h1
        subst h1
        rw [Addr.add_lit, Nat.zero_add] at h2
        exact h2
      have hlti : (i : Int) < (N : Int) := by omega
      have HR := Lib.hid hr
      have hW := word_ref wr (some ⟨g, 0, none⟩) cap L (HRd.out.below HO.out.2) (by rw [← HN.out]; omega) i (by rw [← HN.out]; omega)
      rw [← HN.out] at hW
      have HWd := Lib.hid hW
      have hps := HP.out.few
      clear hr hW
      go_wp2_with fail
      refine HWd.out.mono ?_
      rintro e w2 ⟨n, rfl, hw2, hlets⟩
      have hw3 : wr = w2 := hw2.symm
      subst hw3
      have HLt := Lib.hid hlets
      have hnN : i + n ≤ N := by rw [HN.out]; exact hlets.1.1
      clear hlets HWd hw2
      obtain ⟨fb, hfb⟩ : ∃ fb, fb = fieldB L i n r N := ⟨_, rfl⟩
      have HFb := Lib.hid hfb
      clear hfb
      go_upto_region 9 with fail
      go_cut [28] from 29 to 53 (fun cv wx => cv = .bool fb ∧ wx = wr)
      case first =>
        by_cases hn1 : n = 1
        · subst hn1
          by_cases h48 : 48 ≤ r
          · have h48i : (48 : Int) ≤ (r : Int) := by omega
            by_cases h51 : r ≤ 51
            · have h51i : (r : Int) ≤ 51 := by omega
              by_cases hi1 : i + 1 < N
              · have hi1i : (i : Int) + 1 < (N : Int) := by omega
                obtain ⟨r1, hr1⟩ : ∃ r1, L[i + 1]? = some r1 := ⟨_, List.getElem?_eq_getElem (by rw [← HN.out]; exact hi1)⟩
                have hc1 : wr.cell? ⟨g, i + 1, none⟩ = some (.int .i32 (r1 : Int)) := by
                  obtain ⟨ad, h1, h2⟩ := (HRd.out.below HO.out.2) (i + 1) (r1 : Int) (by unfold ints; rw [List.getElem?_map, hr1]; rfl)
                  injection h1 with h1
                  subst h1
                  rw [Addr.add_lit, Nat.zero_add] at h2
                  exact h2
                have hg1 : L[i + 1]?.getD 0 = r1 := by rw [hr1]; rfl
                clear hr1
                have HG1 := Lib.hid hg1
                clear hg1
                by_cases h58 : r1 = 58
                · subst h58
                  go_wp2_with fail
                  go_meet
                  case rel => exact ⟨congrArg Value.bool (show true = fb from by rw [HFb.out]; unfold fieldB; simp [h48, h51, hi1, HG1.out]), rfl⟩
                · have h58b : ((r1 : Int) == 58) = false := beq_eq_false_iff_ne.2 (by omega)
                  go_wp2_with fail
                  go_meet
                  case rel => exact ⟨congrArg Value.bool (show false = fb from by rw [HFb.out]; unfold fieldB; simp [h48, h51, hi1, HG1.out, h58]), rfl⟩
              · have hi1i : ¬ (i : Int) + 1 < (N : Int) := by omega
                go_wp2_with fail
                go_meet
                case rel => exact ⟨congrArg Value.bool (show false = fb from by rw [HFb.out]; unfold fieldB; simp [h48, h51, hi1]), rfl⟩
            · have h51i : ¬ (r : Int) ≤ 51 := by omega
              go_wp2_with fail
              go_meet
              case rel => exact ⟨congrArg Value.bool (show false = fb from by rw [HFb.out]; unfold fieldB; simp [h48, h51]), rfl⟩
          · have h48i : ¬ (48 : Int) ≤ (r : Int) := by omega
            go_wp2_with fail
            go_meet
            case rel => exact ⟨congrArg Value.bool (show false = fb from by rw [HFb.out]; unfold fieldB; simp [h48]), rfl⟩
        · have hn1b : ((n : Int) == 1) = false := beq_eq_false_iff_ne.2 (by omega)
          go_wp2_with fail
          go_meet
          case rel => exact ⟨congrArg Value.bool (show false = fb from by rw [HFb.out]; unfold fieldB; simp [hn1]), rfl⟩
      case rest =>
        obtain ⟨rfl, rfl⟩ := hcut
        cases fb with
        | true =>
          obtain ⟨_, hf2, hf3, hf4⟩ := field_yes HFb.out.symm
          have hcv : IntKind.u8.wrap (r : Int) = (r : Int) := IntWalk.u8_in _ (by omega)
          have hbs := byte_one wc r (by omega)
          have HOb := Lib.hid (And.intro (owned_below HO.out.1 (below_one (w := wc) (A := .cells #[.int .u8 (r : Int)] 5))) (low_more HO.out.2 (below_one (w := wc) (A := .cells #[.int .u8 (r : Int)] 5))))
          have HPn := Lib.hid (HP.out.sign (x := (102, byteText [r])) (j := i + 2) (show (102 : Int) ≠ 119 by decide) (by omega) (Head.field HR.out HLt.out (by rw [← HN.out]; exact HFb.out.symm) (show (102 : Int) ≠ 119 by decide)))
          go_wp2_with (at_builtin; refine wpList_append_own _ rfl (.tmp 54) (.tmp 60) 43 rfl w1.heap.size 46 i0 _ 2 24 Tryd.underlying43 HI.out.1 HI.out.2.1 HI.out.2.2.1 HI.out.2.2.2 rfl (by decide) _ ps.length (ptsC ps) rfl (World.ownsRow.alloc HOb.out.1 _) ⟨_, 0, none⟩ 1 1 [.int .i32 102, .string (byteText [r])] rfl rfl (two_at (heap2_1 wc _ _)) (by simp [Value.oneCell']) (by unfold maxLen; omega) (by omega) (by have := HO.out.2.size; simp; omega) ?_; intro v' w8 ho hg _; have HN8 := Lib.hid (OwnPt.more (W := w1) (x := (102, byteText [r])) HOb.out.2.size HOb.out.2 HOb.out.1 ho hg); clear ho hg)
          go_roundg (N - (i + 2))
          case measure => omega
          case rel => exact ⟨i + 2, v', _, by omega, by go_num, rfl, HPn, HN8⟩
        | false =>
          by_cases hn0 : n = 0
          · subst hn0
            go_upto_region 15 with fail
            go_cut [81] from 82 to 95 (fun cv wx => cv = .bool (blankB r) ∧ wx = wc)
            case first =>
              by_cases h32 : r = 32
              · subst h32
                go_wp2_with fail
                go_meet
                case rel => exact ⟨congrArg Value.bool (show true = blankB _ from by decide), rfl⟩
              have b32 : ((r : Int) == 32) = false := beq_eq_false_iff_ne.2 (by omega)
              by_cases h9 : r = 9
              · subst h9
                go_wp2_with fail
                go_meet
                case rel => exact ⟨congrArg Value.bool (show true = blankB _ from by decide), rfl⟩
              have b9 : ((r : Int) == 9) = false := beq_eq_false_iff_ne.2 (by omega)
              by_cases h10 : r = 10
              · subst h10
                go_wp2_with fail
                go_meet
                case rel => exact ⟨congrArg Value.bool (show true = blankB _ from by decide), rfl⟩
              have b10 : ((r : Int) == 10) = false := beq_eq_false_iff_ne.2 (by omega)
              by_cases h13 : r = 13
              · subst h13
                go_wp2_with fail
                go_meet
                case rel => exact ⟨congrArg Value.bool (show true = blankB _ from by decide), rfl⟩
              have b13 : ((r : Int) == 13) = false := beq_eq_false_iff_ne.2 (by omega)
              go_wp2_with fail
              go_meet
              case rel => exact ⟨congrArg Value.bool (show false = blankB r from by unfold blankB; simp [h32, h9, h10, h13]), rfl⟩
            case rest =>
              obtain ⟨rfl, rfl⟩ := hcut
              cases hbl : blankB r with
              | true =>
                have HPn := Lib.hid (HP.out.blank HR.out hbl)
                go_wp2_with fail
                go_roundg gg
                case measure => omega
                case rel => exact ⟨i + 1, _, ps, by omega, by go_num, rfl, HPn, HO⟩
              | false =>
                have HHd := Lib.hid (fun (k : Int) (hk : k ≠ 119) => Head.other HR.out hbl HLt.out hk)
                by_cases h34 : r = 34
                · subst h34
                  go_wp2_with fail
                  go_loopg [8] (N - (i + 1)) (fun g2 s8 wy => ∃ k : Nat, i + 1 ≤ k ∧ k + g2 ≤ N ∧ N ≤ k + g2 ∧ s8 = .int .i64 (k : Int) ∧ wy = wc)
                  case atStart => exact ⟨i + 1, by omega, by omega, by omega, by go_num, rfl⟩
                  case round =>
                    obtain ⟨k, hk1, hk2, hk3, rfl, rfl⟩ := hrel
                    cases gk with
                    | zero =>
                      have hkN : N = k := by omega
                      subst hkN
                      have HPn := Lib.hid (HP.out.stop (x := (120, ByteArray.empty)) (show (120 : Int) ≠ 119 by decide) (HHd.out 120 (by decide)))
                      go_wp2_with (at_builtin; refine wpList_append_own _ rfl (.tmp 120) (.tmp 122) 43 rfl w1.heap.size 46 i0 _ 2 24 Tryd.underlying43 HI.out.1 HI.out.2.1 HI.out.2.2.1 HI.out.2.2.2 rfl (by decide) _ ps.length (ptsC ps) rfl (World.ownsRow.alloc HO.out.1 _) ⟨_, 0, none⟩ 1 1 [.int .i32 120, .string ByteArray.empty] rfl rfl two_pt (by simp [Value.oneCell']) (by unfold maxLen; omega) (by omega) (by have := HO.out.2.size; simp; omega) ?_; intro v' w8 ho hg _; have HN8 := Lib.hid (OwnPt.more (W := w1) (x := (120, ByteArray.empty)) HO.out.2.size HO.out.2 HO.out.1 ho hg); clear ho hg)
                      go_ret
                      exact ⟨_, _, rfl, pt_mono HN8.out.1 HB1.out.size, HPn.out, low_more HB1.out HN8.out.2⟩
                    | succ g2 =>
                      have hltk : k < N := by omega
                      obtain ⟨rk, hrk⟩ : ∃ rk, L[k]? = some rk := ⟨_, List.getElem?_eq_getElem (by rw [← HN.out]; exact hltk)⟩
                      have hck : wr.cell? ⟨g, k, none⟩ = some (.int .i32 (rk : Int)) := by
                        obtain ⟨ad, h1, h2⟩ := (HRd.out.below HO.out.2) k (rk : Int) (by unfold ints; rw [List.getElem?_map, hrk]; rfl)
                        injection h1 with h1
                        subst h1
                        rw [Addr.add_lit, Nat.zero_add] at h2
                        exact h2
                      have hltki : (k : Int) < (N : Int) := by omega
                      clear hrk
                      by_cases hq : rk = 34
                      · subst hq
                        have hkb : ((k : Int) == (N : Int)) = false := beq_eq_false_iff_ne.2 (by omega)
                        obtain ⟨ob, om, od, tx, hsl, hpc⟩ := piece_ref N cap (i + 1) k HN.out.symm hk1 (by omega) hc1 (by omega) (HRd.out.below HO.out.2)
                        rw [show ((i + 1 : Nat) : Int) = (i : Int) + 1 from by omega] at hsl
                        have HPc := Lib.hid hpc
                        have HPn := Lib.hid (HP.out.sign (x := (112, tx)) (j := k + 1) (show (112 : Int) ≠ 119 by decide) (by omega) (HHd.out 112 (by decide)))
                        clear hpc
                        go_wp2_with fail
                        refine (HPc.out wr (Below.refl _ _)).mono ?_
                        rintro e w5 ⟨rfl, hb5⟩
                        have HO5 := Lib.hid (And.intro (owned_below HO.out.1 hb5) (low_more HO.out.2 hb5))
                        clear hb5 hsl
                        go_wp2_with (at_builtin; refine wpList_append_own _ rfl (.tmp 125) (.tmp 133) 43 rfl w1.heap.size 46 i0 _ 2 24 Tryd.underlying43 HI.out.1 HI.out.2.1 HI.out.2.2.1 HI.out.2.2.2 rfl (by decide) _ ps.length (ptsC ps) rfl (World.ownsRow.alloc HO5.out.1 _) ⟨_, 0, none⟩ 1 1 [.int .i32 112, .string tx] rfl rfl two_pt (by simp [Value.oneCell']) (by unfold maxLen; omega) (by omega) (by have := HO5.out.2.size; simp; omega) ?_; intro v' w8 ho hg _; have HN8 := Lib.hid (OwnPt.more (W := w1) (x := (112, tx)) HO5.out.2.size HO5.out.2 HO5.out.1 ho hg); clear ho hg)
                        go_roundg (N - (k + 1))
                        case measure => omega
                        case rel => exact ⟨k + 1, v', _, by omega, by go_num, rfl, HPn, HN8⟩
                      · have hqb : ((rk : Int) != 34) = true := by rw [bne, show ((rk : Int) == 34) = false from beq_eq_false_iff_ne.2 (by omega)]; rfl
                        go_wp2_with fail
                        go_roundg g2
                        case measure => omega
                        case rel => exact ⟨k + 1, by omega, by omega, by omega, by go_num, rfl⟩
                · have h34b : ((r : Int) == 34) = false := beq_eq_false_iff_ne.2 (by omega)
                  go_upto_region 26 with fail
                  go_cut [137] from 138 to 163 (fun cv wx => cv = .bool (signB r) ∧ wx = wc)
                  case first =>
                    by_cases h40 : r = 40
                    · subst h40
                      go_wp2_with fail
                      go_meet
                      case rel => exact ⟨congrArg Value.bool (show true = signB _ from by decide), rfl⟩
                    have b40 : ((r : Int) == 40) = false := beq_eq_false_iff_ne.2 (by omega)
                    by_cases h41 : r = 41
                    · subst h41
                      go_wp2_with fail
                      go_meet
                      case rel => exact ⟨congrArg Value.bool (show true = signB _ from by decide), rfl⟩
                    have b41 : ((r : Int) == 41) = false := beq_eq_false_iff_ne.2 (by omega)
                    by_cases h38 : r = 38
                    · subst h38
                      go_wp2_with fail
                      go_meet
                      case rel => exact ⟨congrArg Value.bool (show true = signB _ from by decide), rfl⟩
                    have b38 : ((r : Int) == 38) = false := beq_eq_false_iff_ne.2 (by omega)
                    by_cases h124 : r = 124
                    · subst h124
                      go_wp2_with fail
                      go_meet
                      case rel => exact ⟨congrArg Value.bool (show true = signB _ from by decide), rfl⟩
                    have b124 : ((r : Int) == 124) = false := beq_eq_false_iff_ne.2 (by omega)
                    by_cases h33 : r = 33
                    · subst h33
                      go_wp2_with fail
                      go_meet
                      case rel => exact ⟨congrArg Value.bool (show true = signB _ from by decide), rfl⟩
                    have b33 : ((r : Int) == 33) = false := beq_eq_false_iff_ne.2 (by omega)
                    by_cases h35 : r = 35
                    · subst h35
                      go_wp2_with fail
                      go_meet
                      case rel => exact ⟨congrArg Value.bool (show true = signB _ from by decide), rfl⟩
                    have b35 : ((r : Int) == 35) = false := beq_eq_false_iff_ne.2 (by omega)
                    by_cases h64 : r = 64
                    · subst h64
                      go_wp2_with fail
                      go_meet
                      case rel => exact ⟨congrArg Value.bool (show true = signB _ from by decide), rfl⟩
                    have b64 : ((r : Int) == 64) = false := beq_eq_false_iff_ne.2 (by omega)
                    go_wp2_with fail
                    go_meet
                    case rel => exact ⟨congrArg Value.bool (show false = signB r from by unfold signB; simp [h40, h41, h38, h124, h33, h35, h64]), rfl⟩
                  case rest =>
                    obtain ⟨rfl, rfl⟩ := hcut
                    cases hsg : signB r with
                    | true =>
                      have hr119 : (r : Int) ≠ 119 := by
                        intro h
                        have : r = 119 := by omega
                        subst this
                        revert hsg
                        decide
                      have HPn := Lib.hid (HP.out.sign (x := ((r : Int), ByteArray.empty)) (j := i + 1) hr119 (by omega) (HHd.out _ hr119))
                      go_wp2_with (at_builtin; refine wpList_append_own _ rfl (.tmp 164) (.tmp 167) 43 rfl w1.heap.size 46 i0 _ 2 24 Tryd.underlying43 HI.out.1 HI.out.2.1 HI.out.2.2.1 HI.out.2.2.2 rfl (by decide) _ ps.length (ptsC ps) rfl (World.ownsRow.alloc HO.out.1 _) ⟨_, 0, none⟩ 1 1 [.int .i32 (r : Int), .string ByteArray.empty] rfl rfl two_pt (by simp [Value.oneCell']) (by unfold maxLen; omega) (by omega) (by have := HO.out.2.size; simp; omega) ?_; intro v' w8 ho hg _; have HN8 := Lib.hid (OwnPt.more (W := w1) (x := ((r : Int), ByteArray.empty)) HO.out.2.size HO.out.2 HO.out.1 ho hg); clear ho hg)
                      go_roundg gg
                      case measure => omega
                      case rel => exact ⟨i + 1, v', _, by omega, by go_num, rfl, HPn, HN8⟩
                    | false =>
                      have HPn := Lib.hid (HP.out.stop (x := (120, ByteArray.empty)) (show (120 : Int) ≠ 119 by decide) (HHd.out 120 (by decide)))
                      go_wp2_with (at_builtin; refine wpList_append_own _ rfl (.tmp 23) (.tmp 25) 43 rfl w1.heap.size 46 i0 _ 2 24 Tryd.underlying43 HI.out.1 HI.out.2.1 HI.out.2.2.1 HI.out.2.2.2 rfl (by decide) _ ps.length (ptsC ps) rfl (World.ownsRow.alloc HO.out.1 _) ⟨_, 0, none⟩ 1 1 [.int .i32 120, .string ByteArray.empty] rfl rfl two_pt (by simp [Value.oneCell']) (by unfold maxLen; omega) (by omega) (by have := HO.out.2.size; simp; omega) ?_; intro v' w8 ho hg _; have HN8 := Lib.hid (OwnPt.more (W := w1) (x := (120, ByteArray.empty)) HO.out.2.size HO.out.2 HO.out.1 ho hg); clear ho hg)
                      go_ret
                      exact ⟨_, _, rfl, pt_mono HN8.out.1 HB1.out.size, HPn.out, low_more HB1.out HN8.out.2⟩
          · have hn1 : 0 < n := by omega
            have hn1i : (0 : Int) < (n : Int) := by omega
            obtain ⟨ob, om, od, tx, hsl, hpc⟩ := piece_ref N cap i (i + n) HN.out.symm (by omega) hnN hc1 (by omega) (HRd.out.below HO.out.2)
            rw [Int.natCast_add] at hsl
            have HPc := Lib.hid hpc
            have HPn := Lib.hid (HP.out.word (t := tx) HLt.out.1 hn1 (Head.word HR.out HLt.out hn1 (by rw [← HN.out]; exact HFb.out.symm)))
            clear hpc
            go_wp2_with fail
            refine (HPc.out wc (Below.refl _ _)).mono ?_
            rintro e w5 ⟨rfl, hb5⟩
            have HO5 := Lib.hid (And.intro (owned_below HO.out.1 hb5) (low_more HO.out.2 hb5))
            clear hb5 hsl
            go_wp2_with (at_builtin; refine wpList_append_own _ rfl (.tmp 67) (.tmp 76) 43 rfl w1.heap.size 46 i0 _ 2 24 Tryd.underlying43 HI.out.1 HI.out.2.1 HI.out.2.2.1 HI.out.2.2.2 rfl (by decide) _ ps.length (ptsC ps) rfl (World.ownsRow.alloc HO5.out.1 _) ⟨_, 0, none⟩ 1 1 [.int .i32 119, .string tx] rfl rfl two_pt (by simp [Value.oneCell']) (by unfold maxLen; omega) (by omega) (by have := HO5.out.2.size; simp; omega) ?_; intro v' w8 ho hg _; have HN8 := Lib.hid (OwnPt.more (W := w1) (x := (119, tx)) HO5.out.2.size HO5.out.2 HO5.out.1 ho hg); clear ho hg)
            go_roundg (N - (i + n))
            case measure => omega
            case rel => exact ⟨i + n, v', _, by omega, by go_num, rfl, HPn, HN8⟩

def wrapS (s : ByteArray) : Nat → ByteArray
  | 0 => s
  | n + 1 => ⟨#[40]⟩ ++ wrapS s n ++ ⟨#[41]⟩
def signS (s : ByteArray) : Nat → ByteArray
  | 0 => s
  | n + 1 => ⟨#[33]⟩ ++ signS s n
set_option maxRecDepth 100000 in
theorem wrapS_size (s : ByteArray) : ∀ n, (wrapS s n).size = s.size + 2 * n
  | 0 => rfl
  | n + 1 => by
    rw [wrapS, ByteArray.size_append, ByteArray.size_append, wrapS_size s n]
    show 1 + (s.size + 2 * n) + 1 = _
    omega
set_option maxRecDepth 100000 in
theorem signS_size (s : ByteArray) : ∀ n, (signS s n).size = s.size + n
  | 0 => rfl
  | n + 1 => by
    rw [signS, ByteArray.size_append, signS_size s n]
    show 1 + (s.size + n) = _
    omega
set_option maxRecDepth 100000 in
theorem wrapS_runes (s : ByteArray) : ∀ n, runesOf (wrapS s n) = List.replicate n 40 ++ runesOf s ++ List.replicate n 41
  | 0 => by simp [wrapS]
  | n + 1 => by
    rw [wrapS, runes_around (a := ⟨#[40]⟩) (b := ⟨#[41]⟩) (by decide) (by decide), wrapS_runes s n, List.replicate_succ, List.replicate_succ' (n := n) (a := 41)]
    simp [bytesL]
set_option maxRecDepth 100000 in
theorem signS_runes (s : ByteArray) : ∀ n, runesOf (signS s n) = List.replicate n 33 ++ runesOf s
  | 0 => by simp [signS]
  | n + 1 => by
    have e : ⟨#[33]⟩ ++ signS s n = ⟨#[33]⟩ ++ signS s n ++ ⟨#[]⟩ := by
      apply ByteArray.ext
      simp
    rw [signS, e, runes_around (a := ⟨#[33]⟩) (b := ⟨#[]⟩) (by decide) (by decide), signS_runes s n, List.replicate_succ]
    simp [bytesL]
set_option maxRecDepth 100000 in
theorem nests_x {s : ByteArray} (hs : s.size ≤ 40) (h : OneWord (runesOf s)) {b n : Nat} (hb : b ≤ 13) (hn : n ≤ 13) :
    (b + n ≤ 8 → ∃ w, parseX (signS (wrapS s b) n) = ((turnedN n (leafNd 0 w), ⟨10, false, 0, false⟩), 0)) ∧ (8 < b + n → (parseX (signS (wrapS s b) n)).2 = 9) := by
  obtain ⟨A, w, B, e, hA, hB, hw, hl⟩ := h
  have hsz : ¬ 256 < (signS (wrapS s b) n).size := by rw [signS_size, wrapS_size]; omega
  refine ⟨fun h8 => ⟨w, ?_⟩, fun h8 => ?_⟩
  · unfold parseX
    rw [if_neg hsz, signS_runes, wrapS_runes, e, nest_ok hA hB hw hl h8]
  · unfold parseX
    rw [if_neg hsz, signS_runes, wrapS_runes, List.append_assoc, nest_deep h8]
set_option maxRecDepth 100000 in
theorem add_wrap (s : ByteArray) (n : Nat) (hs : s.size ≤ 40) (hn : n < 13) :
    (∀ wx, (Op.stringOp .add ⟨#[40]⟩ (wrapS s n)).run Tryd.prog wx = .ok (.string (⟨#[40]⟩ ++ wrapS s n)) wx) ∧ (∀ wx, (Op.stringOp .add (⟨#[40]⟩ ++ wrapS s n) ⟨#[41]⟩).run Tryd.prog wx = .ok (.string (wrapS s (n + 1))) wx) := by
  have h := wrapS_size s n
  have h1 : (⟨#[40]⟩ : ByteArray).size = 1 := rfl
  have h2 : (⟨#[41]⟩ : ByteArray).size = 1 := rfl
  exact ⟨fun wx => run_string_add_sum wx _ _ (by omega), fun wx => run_string_add_sum wx _ _ (by rw [ByteArray.size_append]; omega)⟩
set_option maxRecDepth 100000 in
theorem add_sign (s : ByteArray) (n : Nat) (hs : s.size ≤ 70) (hn : n < 13) (wx : World) :
    (Op.stringOp .add ⟨#[33]⟩ (signS s n)).run Tryd.prog wx = .ok (.string (signS s (n + 1))) wx := by
  have h := signS_size s n
  have h1 : (⟨#[33]⟩ : ByteArray).size = 1 := rfl
  exact run_string_add_sum wx _ _ (by omega)

set_option maxRecDepth 100000 in
/-- What a sign turns. -/
theorem one_kid {w : World} {S : Nat → Prop} {k f : Int} {x : Nd} {r : Rn} (h : RdN w S (.mk k f [] [x]) r) :
    ∃ ta tc g o kc r0, r = (k, f, .slice ta 0 tc, .slice (some ⟨g, o, none⟩) 1 kc) ∧ 1 ≤ kc ∧ RdN w S x r0 ∧ ∀ (i : Nat) (u : Value), (rnC r0)[i]? = some u → w.cell? ⟨g, o + i, none⟩ = some u := by
  cases h with
  | @mk _ _ _ _ ta ka tc kc rs hf0 hf1 ht htl htm htb hk hkl hkm hkb hl hr =>
  obtain ⟨r0, h0⟩ : ∃ r, rs[0]? = some r := ⟨_, List.getElem?_eq_getElem (by rw [hl]; simp)⟩
  obtain ⟨g, o, rfl, hc⟩ := hk 0 r0 h0
  refine ⟨ta, tc, g, o, kc, r0, rfl, by simpa using hkl, hr 0 x r0 rfl h0, fun i u hu => ?_⟩
  have := hc i u hu
  simpa using this
set_option maxRecDepth 100000 in
theorem pt_first {w : World} {base : Nat} {v : Value} {l : List Pt} {y : Pt} (h : OwnPt w base v l) (hy : l[0]? = some y) : ∃ g m c : Nat, v = .slice (some ⟨g, 0, none⟩) (m + 1) c ∧ w.cell? ⟨g, 0, none⟩ = some (.int .i32 y.1) := by
  cases l with
  | nil => cases hy
  | cons z l =>
    injection hy with hy
    subst hy
    rcases h.2 with ⟨_, h0⟩ | ⟨g, cap, cur, rfl, _⟩
    · simp at h0
    · refine ⟨g, l.length, cap, rfl, ?_⟩
      have := World.ownsRow.cells h (g := g) rfl 0 (.int .i32 z.1) rfl
      rw [Addr.add_lit, Nat.zero_add] at this
      exact this
set_option maxRecDepth 100000 in
theorem str_ne17 {x s : ByteArray} (h : ¬ x = s) : (x.toList == s.toList) = false := by
  rw [ByteArray.toList_eq, ByteArray.toList_eq, beq_eq_false_iff_ne]
  intro e
  apply h
  apply ByteArray.ext
  exact Array.ext' e
set_option maxRecDepth 100000 in
set_option maxHeartbeats 4000000 in
theorem nests17 (W : World) (hT : TQ W) (b n : Int) (hb0 : 0 ≤ b) (hb1 : b ≤ 255) (hn0 : 0 ≤ n) (hn1 : n ≤ 255) (s : ByteArray) (hs : (s.size : Int) ≤ 9223372036854775807) :
    Calls Tryd.prog 5 #[.int .u8 b, .int .u8 n, .string s] W fun e w' => e = .returned (.bool true) ∧ Below W.heap.size W w' := by
  have HF := Lib.hid (fun wx (hb : Below W.heap.size W wx) => fixed17 wx (hT.below hb))
  have HP := Lib.hid (fun wx (s : ByteArray) (hb : Below W.heap.size W wx) (hs : s.size ≤ 1000000) => parse_any wx s (hT.below hb).1 (hT.below hb).2 hs)
  clear hT
  by_cases hl : (40 : Int) < (s.size : Int)
  · go_enter Tryd.func5, Tryd.ntmps5
    go_wp2_with fail
    refine (HF.out W (Below.refl _ _)).mono ?_
    rintro e w1 ⟨rfl, hb1⟩
    go_wp2_with fail
    go_ret
    exact ⟨rfl, hb1⟩
  · have HA := Lib.hid (fun w => ref_all w s (by omega))
    have HQ := Lib.hid (fun w => parts_ref w s (by omega))
    obtain ⟨B, hB⟩ : ∃ B : Nat, (B : Int) = b % 14 := ⟨(b % 14).toNat, by omega⟩
    obtain ⟨N, hN⟩ : ∃ N : Nat, (N : Int) = n % 14 := ⟨(n % 14).toNat, by omega⟩
    have HNs := Lib.hid (show s.size ≤ 40 ∧ B ≤ 13 ∧ N ≤ 13 by omega)
    go_enter Tryd.func5, Tryd.ntmps5
    go_upto_region 2 with fail
    rw [← hB, ← hN]
    clear hb0 hb1 hn0 hn1 hB hN
    go_wp2_with fail
    refine (HA.out W).mono ?_
    rintro e w1 ⟨v, rfl, hto, hb1⟩
    obtain ⟨oa, cap, rfl, hcap1, hcap2, hrt⟩ := toks_reads hto
    have HB1 := Lib.hid hb1
    obtain ⟨T, hT⟩ : ∃ T, T = outT (allT s) := ⟨_, rfl⟩
    rw [← hT] at hrt ⊢
    have HT := Lib.hid hT
    clear hto hb1 hT hcap1 hcap2
    obtain ⟨k, hk⟩ : ∃ k, k = T.length := ⟨_, rfl⟩
    rw [← hk]
    by_cases hk1 : k = 1
    · subst hk1
      obtain ⟨x, rfl⟩ := List.length_eq_one_iff.1 hk.symm
      clear hk
      go_wp2_with fail
      refine (HA.out w1).mono ?_
      rintro e w2 ⟨v, rfl, hto2, hb2⟩
      obtain ⟨oa2, cap2, rfl, hcp1, hcp2, hrt2⟩ := toks_reads hto2
      rw [← HT.out] at hrt2 hcp1 ⊢
      have HB2 := Lib.hid (low_more HB1.out hb2)
      obtain ⟨g, o, rfl, ca, cb, cc⟩ := hrt2 0 x rfl
      obtain ⟨tx, htx⟩ : ∃ tx, tx = x.2.1 := ⟨_, rfl⟩
      have cd : w2.cell? ⟨g, o + 1, none⟩ = some (.string tx) := by rw [htx, ← cb]
      simp only [List.length_singleton] at hcp1 ⊢
      clear hto2 hrt2 hrt hb2 ca cb cc htx
      by_cases hx : tx = ⟨#[]⟩
      · subst hx
        go_wp2_with fail
        refine (HF.out w2 HB2.out).mono ?_
        rintro e w3 ⟨rfl, hb3⟩
        go_wp2_with fail
        go_ret
        exact ⟨rfl, low_more HB2.out hb3⟩
      · have hxb := str_ne17 hx
        have hxd : tx.toList.isEmpty = false := by
          rw [show (⟨#[]⟩ : ByteArray).toList = [] by rw [ByteArray.toList_eq]] at hxb
          cases h : tx.toList with
          | nil => rw [h] at hxb; cases hxb
          | cons a l => rfl
        have hxe : (tx.toList == []) = false := by
          cases h : tx.toList with
          | nil => rw [h] at hxd; cases hxd
          | cons a l => rfl
        go_wp2_with fail
        clear hxb hxd hxe
        refine (HQ.out w2).mono ?_
        rintro e w3 ⟨v, ps, rfl, hown, hpk, hb3⟩
        obtain ⟨pa, pc, rfl⟩ := own_slice hown ps.length rfl
        have HB3 := Lib.hid (low_more HB2.out hb3)
        obtain ⟨k, hk⟩ : ∃ k, k = ps.length := ⟨_, rfl⟩
        rw [← hk]
        have HK := Lib.hid (And.intro hpk hk)
        clear hown hpk hb3 hk cd
        by_cases hk1 : k = 1
        · subst hk1
          go_wp2_with fail
          refine (HQ.out w3).mono ?_
          rintro e w4 ⟨v, qs, rfl, hown, hpk, hb4⟩
          have HB4 := Lib.hid (low_more HB3.out hb4)
          obtain ⟨y, hy, hone⟩ := HK.out.1.twice hpk HK.out.2.symm
          have HOne := Lib.hid hone
          obtain ⟨gq, mq, cq, rfl, c0⟩ := pt_first hown hy
          obtain ⟨kz, hkz⟩ : ∃ kz, kz = y.1 := ⟨_, rfl⟩
          rw [← hkz] at c0 HOne
          clear hown hpk hb4 hone hy hkz HK HQ HA HT
          by_cases h119 : kz = 119
          · subst h119
            have hX := nests_x HNs.out.1 (HOne.out rfl) HNs.out.2.1 HNs.out.2.2
            have hZ : (signS (wrapS s B) N).size ≤ 1000000 := by
              have := HNs.out
              rw [signS_size, wrapS_size]
              omega
            have HX := Lib.hid (And.intro hX hZ)
            have hB13 := HNs.out.2.1
            have hN13 := HNs.out.2.2
            clear hX hZ HOne
            go_wp2_with fail
            clear c0
            go_loopw [9, 53] (fun av iv wr => ∃ i : Nat, i ≤ B ∧ iv = .int .i64 i ∧ av = .string (wrapS s i) ∧ wr = w4) (fun _ iv _ => B - (intOf iv).toNat)
            case atStart => exact ⟨0, by omega, rfl, rfl, rfl⟩
            case round =>
              obtain ⟨i, hi, rfl, rfl, hw⟩ := hrel
              have hw' : w4 = wr := hw.symm
              subst hw'
              by_cases hlt : i < B
              · have Hlt := Lib.hid hlt
                obtain ⟨hadd1, hadd2⟩ := add_wrap s i HNs.out.1 (by have := HNs.out.2.1; omega)
                go_wp2_with fail
                go_roundw
                case rel => exact ⟨i + 1, by have := Hlt.out; omega, by go_num, rfl, trivial⟩
                case measure => have := Hlt.out; simp [intOf]; omega
              · obtain rfl : B = i := by omega
                go_wp2_with fail
                go_loopw [9, 60] (fun av iv wr => ∃ i : Nat, i ≤ N ∧ iv = .int .i64 i ∧ av = .string (signS (wrapS s B) i) ∧ wr = w4) (fun _ iv _ => N - (intOf iv).toNat)
                case atStart => exact ⟨0, by omega, rfl, rfl, rfl⟩
                case round =>
                  obtain ⟨i, hi, rfl, rfl, hw⟩ := hrel
                  have hw' : w4 = wr := hw.symm
                  subst hw'
                  by_cases hlt : i < N
                  · have Hlt := Lib.hid hlt
                    have hadd := add_sign (wrapS s B) i (by have := HNs.out; rw [wrapS_size]; omega) (by have := HNs.out.2.2; omega)
                    go_wp2_with fail
                    go_roundw
                    case rel => exact ⟨i + 1, by have := Hlt.out; omega, by go_num, rfl, trivial⟩
                    case measure => have := Hlt.out; simp [intOf]; omega
                  · obtain rfl : N = i := by omega
                    obtain ⟨t, ht⟩ : ∃ t, t = signS (wrapS s B) N := ⟨_, rfl⟩
                    rw [← ht] at HX ⊢
                    clear ht hi hlt
                    go_wp2_with fail
                    refine (HP.out w4 t HB4.out HX.out.2).mono ?_
                    rintro e w5 ⟨v, rfl, ⟨⟨k5, f5, tv5, kv5⟩, rfl, hr⟩, hb5⟩
                    obtain ⟨ta5, tn5, tc5, ka5, kn5, kc5, rfl, rfl⟩ := hr.slices
                    obtain ⟨l5, hl5⟩ : ∃ l5, l5 = (parseX t).1.2.lim := ⟨_, rfl⟩
                    obtain ⟨m5, hm5⟩ : ∃ m5, m5 = (parseX t).1.2.ord := ⟨_, rfl⟩
                    obtain ⟨c5, hc5⟩ : ∃ c5, c5 = (parseX t).2 := ⟨_, rfl⟩
                    rw [← hl5, ← hm5, ← hc5]
                    clear hl5 hm5
                    obtain ⟨X, hXo⟩ : ∃ X : Obj, X = .cells #[.int .i64 k5, .int .u8 f5, .slice ta5 tn5 tc5, .slice ka5 kn5 kc5, .int .i64 l5, .int .i64 m5] 28 := ⟨_, rfl⟩
                    have HB5 := Lib.hid (low_more HB4.out (hb5.alloc hb5.size X))
                    by_cases h8 : B + N ≤ 8
                    · obtain ⟨w, hw⟩ := HX.out.1.1 h8
                      have hc : c5 = 0 := by rw [hc5, hw]
                      rw [hw] at hr
                      subst hc
                      have HR5 := Lib.hid hr
                      have h8i : ¬ (8 : Int) < (B : Int) + (N : Int) := by omega
                      have HQ5 := Lib.hid (heap_alloc_new w5 X)
                      have HW5 := Lib.hid (And.intro (below_one (w := w5) (A := X)) (show W.heap.size ≤ w5.heap.size ∧ (w5.alloc X).heap.size = w5.heap.size + 1 from ⟨Nat.le_trans HB4.out.size hb5.size, by simp⟩))
                      clear hc5 hw hr HX hb5
                      simp only [qryC, rnC, List.cons_append, List.nil_append]
                      go_upto_region 14 with fail
                      rw [← hXo]
                      generalize hq5e : w5.heap.size = q5 at HQ5 ⊢
                      generalize hw6 : w5.alloc X = w6 at HB5 HQ5 HW5 ⊢
                      clear hw6
                      have hq5 := HQ5.out
                      rw [hXo] at hq5
                      have c0 := cell_at hq5 0
                      have c1 := cell_at hq5 1
                      have c2 := cell_at hq5 2
                      have c3 := cell_at hq5 3
                      go_upto_region 18 with fail
                      have HN7 := Lib.hid (heap_alloc_new w6 (.cells #[.int .i64 k5, .int .u8 f5, .slice ta5 tn5 tc5, .slice ka5 kn5 kc5] 26))
                      have HB7 := Lib.hid (low_more HB5.out (below_one (w := w6) (A := .cells #[.int .i64 k5, .int .u8 f5, .slice ta5 tn5 tc5, .slice ka5 kn5 kc5] 26)))
                      have HW7 := Lib.hid (HW5.out.1.alloc (by have := HW5.out.2.2; omega) (.cells #[.int .i64 k5, .int .u8 f5, .slice ta5 tn5 tc5, .slice ka5 kn5 kc5] 26))
                      have HS := Lib.hid (show W.heap.size ≤ w6.heap.size ∧ w5.heap.size ≤ w6.heap.size by have := HW5.out.2; omega)
                      clear hq5 c0 c1 c2 c3 HQ5 HW5 HB5
                      generalize w6.heap.size = q6 at HN7 HS ⊢
                      generalize w6.alloc (.cells #[.int .i64 k5, .int .u8 f5, .slice ta5 tn5 tc5, .slice ka5 kn5 kc5] 26) = w7 at HN7 HB7 HW7 ⊢
                      clear w6
                      go_loopw [82] (fun iv wr => ∃ (i : Nat) (r : Rn), i ≤ N ∧ iv = .int .i64 i ∧ Hid (RdN w5 (fromB w4.heap.size) (turnedN (N - i) (leafNd 0 w)) r) ∧ Hid (Below w5.heap.size w5 wr) ∧ Hid (wr.heap[q6]? = some (.cells (rnC r).toArray 26 (0, 0))) ∧ Hid (Below W.heap.size W wr)) (fun iv _ => N - (intOf iv).toNat)
                      case atStart => exact ⟨0, _, by omega, rfl, HR5, HW7, HN7, HB7⟩
                      case round =>
                        obtain ⟨i, r, hi, rfl, HRi, HWi, HNi, HBi⟩ := hrel
                        clear HR5 HW7 HN7 HB7
                        by_cases hlt : i < N
                        · have Hlt := Lib.hid hlt
                          have hr := HRi.out
                          rw [show N - i = (N - (i + 1)) + 1 by omega, turnedN] at hr
                          obtain ⟨ta, tc, g0, o0, kc, ⟨k0, f0, tv0, kv0⟩, rfl, hkc, hr0, hcs⟩ := one_kid hr
                          obtain ⟨ta0, tn0, tc0, ka0, kn0, kc0, rfl, rfl⟩ := hr0.slices
                          have HR0 := Lib.hid hr0
                          have d0 : wr.cell? ⟨g0, o0, none⟩ = some (.int .i64 k0) := below_cell (hcs 0 _ rfl) HWi.out
                          have d1 : wr.cell? ⟨g0, o0 + 1, none⟩ = some (.int .u8 f0) := below_cell (hcs 1 _ rfl) HWi.out
                          have d2 : wr.cell? ⟨g0, o0 + 2, none⟩ = some (.slice ta0 tn0 tc0) := below_cell (hcs 2 _ rfl) HWi.out
                          have d3 : wr.cell? ⟨g0, o0 + 3, none⟩ = some (.slice ka0 kn0 kc0) := below_cell (hcs 3 _ rfl) HWi.out
                          have hq : wr.heap[q6]? = some (.cells #[.int .i64 4, .int .u8 0, .slice ta 0 tc, .slice (some ⟨g0, o0, none⟩) 1 kc] 26 (0, 0)) := HNi.out
                          have c0 := cell_at hq 0
                          have c1 := cell_at hq 1
                          have c2 := cell_at hq 2
                          have c3 := cell_at hq 3
                          clear hr hr0 hcs
                          have f0q : ∀ j, wr.frozen? ⟨q6, j, none⟩ = false := Lib.frozen_of_heap hq
                          have f0 := f0q 0
                          have f1 := f0q 1
                          have f2 := f0q 2
                          have f3 := f0q 3
                          go_wp2_with fail
                          go_roundw
                          case measure => have := Hlt.out; simp [intOf]; omega
                          case rel =>
                            refine ⟨i + 1, _, by have := Hlt.out; omega, by go_num, HR0, ?_, ?_, ?_⟩
                            · exact Lib.hid ((((HWi.out.setCell (p := ⟨q6, 0, none⟩) HS.out.2 _).setCell (p := ⟨q6, 1, none⟩) HS.out.2 _).setCell (p := ⟨q6, 2, none⟩) HS.out.2 _).setCell (p := ⟨q6, 3, none⟩) HS.out.2 _)
                            · apply Lib.hid
                              simp [World.setCell, Array.getElem?_modify, hq, rnC]
                            · exact Lib.hid ((((HBi.out.setCell (p := ⟨q6, 0, none⟩) HS.out.1 _).setCell (p := ⟨q6, 1, none⟩) HS.out.1 _).setCell (p := ⟨q6, 2, none⟩) HS.out.1 _).setCell (p := ⟨q6, 3, none⟩) HS.out.1 _)
                        · obtain rfl : N = i := by omega
                          have hr := HRi.out
                          rw [Nat.sub_self] at hr
                          obtain ⟨k0, f0, tv0, kv0⟩ := r
                          obtain ⟨ta0, tn0, tc0, ka0, kn0, kc0, rfl, rfl⟩ := hr.slices
                          have hk0 : k0 = 1 := hr.parts.1
                          subst hk0
                          clear hr
                          go_wp2_with fail
                          refine (HF.out wr HBi.out).mono ?_
                          rintro e w8 ⟨rfl, hb8⟩
                          have hq : w8.heap[q6]? = some (.cells #[.int .i64 1, .int .u8 f0, .slice ta0 tn0 tc0, .slice ka0 kn0 kc0] 26 (0, 0)) := blk_low HNi.out hb8
                          have c0 := cell_at hq 0
                          have HB8 := Lib.hid (low_more HBi.out hb8)
                          clear hb8
                          go_wp2_with fail
                          try rw [Exit.noGoto_ret]
                          go_ret
                          exact ⟨rfl, HB8.out⟩
                    · have h9 : (parseX t).2 = 9 := HX.out.1.2 (by omega)
                      have hc : c5 = 9 := by rw [hc5, h9]
                      subst hc
                      have h8i : (8 : Int) < (B : Int) + (N : Int) := by omega
                      clear hc5 h9 hr HX hb5
                      simp only [qryC, rnC, List.cons_append, List.nil_append]
                      go_upto_region 14 with fail
                      rw [← hXo]
                      generalize w5.alloc X = w6 at HB5 ⊢
                      go_wp2_with fail
                      refine (HF.out w6 HB5.out).mono ?_
                      rintro e w7 ⟨rfl, hb7⟩
                      go_wp2_with fail
                      try rw [Exit.noGoto_ret]
                      go_ret
                      exact ⟨rfl, low_more HB5.out hb7⟩
          · have hkb : (kz != 119) = true := by rw [bne, show (kz == 119) = false from beq_eq_false_iff_ne.2 h119]; rfl
            go_wp2_with fail
            refine (HF.out w4 HB4.out).mono ?_
            rintro e w5 ⟨rfl, hb5⟩
            go_wp2_with fail
            go_ret
            exact ⟨rfl, low_more HB4.out hb5⟩
        · have hk1i : ((k : Int) != 1) = true := by rw [bne, show ((k : Int) == 1) = false from beq_eq_false_iff_ne.2 (by omega)]; rfl
          go_wp2_with fail
          refine (HF.out w3 HB3.out).mono ?_
          rintro e w4 ⟨rfl, hb4⟩
          go_wp2_with fail
          go_ret
          exact ⟨rfl, low_more HB3.out hb4⟩
    · have hk1i : ((k : Int) != 1) = true := by rw [bne, show ((k : Int) == 1) = false from beq_eq_false_iff_ne.2 (by omega)]; rfl
      clear hrt hk
      go_wp2_with fail
      refine (HF.out w1 HB1.out).mono ?_
      rintro e w2 ⟨rfl, hb2⟩
      go_wp2_with fail
      go_ret
      exact ⟨rfl, low_more HB1.out hb2⟩
end Go.Proofs.YtaaeooimalglaaaDoor
