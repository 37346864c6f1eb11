/-
  Layer 17 as it landed: a leaf. Over the program's own text.
-/
import Derived.Test.YtaaeooimalglaaaDoorQryTree
import Derived.Test.YtaaeooimalglaaaDoorPart
namespace Go.Proofs.YtaaeooimalglaaaDoor
open Go.RowKit

def leafS (f : Int) (s : ByteArray) : Nd := .mk 1 f (leafW f (wordsT s)) []
set_option maxRecDepth 100000 in
theorem words_text {q : List Nat} (h : ∀ r ∈ q, okR r) : wordsT (textZ (ints q)) = wordsR q := by
  unfold wordsT wordsR allT
  rw [runes_textZ, norm_ints h]
set_option maxRecDepth 100000 in
theorem leafS_text (f : Int) {q : List Nat} (h : ∀ r ∈ q, okR r) : leafS f (textZ (ints q)) = leafNd f q := by
  unfold leafS leafNd
  rw [words_text h]
/-- The first ones turned, the others as they were. -/
def mixT (a b : List Tk) (i : Nat) : List Tk := a.take i ++ b.drop i
set_option maxRecDepth 100000 in
theorem mix_zero (a b : List Tk) : mixT a b 0 = b := by simp [mixT]
set_option maxRecDepth 100000 in
theorem mix_all {a b : List Tk} {n : Nat} (ha : a.length = n) (hb : b.length = n) : mixT a b n = a := by
  unfold mixT
  rw [List.take_of_length_le (by omega), List.drop_eq_nil_of_le (by omega), List.append_nil]
set_option maxRecDepth 100000 in
theorem mix_len {a b : List Tk} {n i : Nat} (ha : a.length = n) (hb : b.length = n) (hi : i ≤ n) : (mixT a b i).length = n := by
  unfold mixT
  rw [List.length_append, List.length_take, List.length_drop]; omega
set_option maxRecDepth 100000 in
theorem mix_get {a b : List Tk} {i : Nat} {x : Tk} (ha : a.length = b.length) (hx : b[i]? = some x) : (mixT a b i)[i]? = some x := by
  have hi := (List.getElem?_eq_some_iff.1 hx).1
  unfold mixT
  rw [List.getElem?_append_right (by rw [List.length_take]; omega), List.length_take, Nat.min_eq_left (by omega), List.getElem?_drop]
  simpa using hx
set_option maxRecDepth 100000 in
theorem mix_step {a b : List Tk} {i : Nat} {x y : Tk} (hx : a[i]? = some x) (hy : b[i]? = some y) (sp : List Value) :
    (toksC (mixT a b i) ++ sp).take (i * 3) ++ tokC x ++ (toksC (mixT a b i) ++ sp).drop (i * 3 + 3) = toksC (mixT a b (i + 1)) ++ sp := by
  have hi := (List.getElem?_eq_some_iff.1 hx).1
  have hi2 := (List.getElem?_eq_some_iff.1 hy).1
  have e1 : a.take (i + 1) = a.take i ++ [x] := by
    rw [List.take_add_one, hx]; rfl
  have e2 : b.drop i = y :: b.drop (i + 1) := by
    obtain ⟨_, rfl⟩ := List.getElem?_eq_some_iff.1 hy
    exact List.drop_eq_getElem_cons hi2
  have hl : (toksC (a.take i)).length = i * 3 := by rw [toksC_length, List.length_take]; congr 1; omega
  have e3 : toksC (mixT a b i) ++ sp = toksC (a.take i) ++ (tokC y ++ (toksC (b.drop (i + 1)) ++ sp)) := by
    unfold mixT
    rw [e2, toksC_append]
    show toksC (a.take i) ++ (tokC y ++ toksC (b.drop (i + 1))) ++ sp = _
    simp
  rw [e3, ← hl, List.take_left, ← List.drop_drop, List.drop_left]
  unfold mixT
  rw [e1, toksC_append, toksC_append]
  show toksC (a.take i) ++ tokC x ++ (tokC y ++ (toksC (b.drop (i + 1)) ++ sp)).drop (tokC y).length = _
  rw [List.drop_left]
  show _ = toksC (a.take i) ++ (tokC x ++ []) ++ toksC (b.drop (i + 1)) ++ sp
  simp
set_option maxRecDepth 100000 in
theorem tok_info (x : Tk) : (Tryd.prog.info? 42).map (·.size) = some (tokC x).toArray.size := by kernel_rfl
set_option maxRecDepth 100000 in
theorem tok_one (x : Tk) : (tokC x).toArray.all (·.oneCell') = true := by simp [tokC, Value.oneCell']
set_option maxRecDepth 100000 in
/-- The n-th struct of a row of such. -/
theorem toks_part {l : List Tk} {sp : List Value} {i : Nat} {x : Tk} (h : l[i]? = some x) : ∀ (j : Nat) (v : Value), (tokC x).toArray.toList[j]? = some v → ((toksC l ++ sp).toArray)[i * 3 + j]? = some v := by
  intro j v hv
  obtain ⟨h1, h2, h3⟩ := toksC_get l i x h
  have hl := (List.getElem?_eq_some_iff.1 h3).1
  have hj : j < 3 := (List.getElem?_eq_some_iff.1 hv).1
  simp only [List.getElem?_toArray]
  rw [List.getElem?_append_left (by omega)]
  rcases j with _ | _ | _ | j
  · rw [Nat.add_zero, h1]; exact hv
  · rw [h2]; exact hv
  · rw [h3]; exact hv
  · omega
set_option maxRecDepth 100000 in
theorem leaf_made {w : World} {S : Nat → Prop} {f : Int} {A : List Tk} {ta : Option Addr} {tc n : Nat} (h0 : 0 ≤ f) (h1 : f ≤ 255) (hn : A.length = n) (hr : ReadT w ta A) (hc : n ≤ tc) (hm : tc ≤ maxLen) (hb : ∀ a, ta = some a → S a.block) : RdN w S (.mk 1 f A []) (1, f, .slice ta n tc, .slice none 0 0) := by
  subst hn
  exact .mk (rs := []) (ka := none) (kc := 0) h0 h1 hr hc hm (fun a ha _ => hb a ha) (fun j r hj => by simp at hj) (Nat.le_refl _) (by decide) (fun a ha _ => by cases ha) rfl (fun j x r hj _ => by simp at hj)
/-- A node is answered. -/
def NodeDone (S : Nat → Prop) (W : World) (x : Nd) (e : Ending) (w' : World) : Prop := ∃ r, e = .returned (rnV r) ∧ RdN w' S x r ∧ Below W.heap.size W w'
set_option maxRecDepth 100000 in
theorem below_row {B : Nat} {a w : World} (h : Below B a w) {g : Nat} (hg : B ≤ g) (cs : Array Value) : Below B a (w.setRow g cs) :=
  ⟨h.os, h.tape, h.output, by simpa [World.setRow] using h.size, fun k hk => (setRow_other _ _ _ _ (by omega)).trans (h.block k hk)⟩
set_option maxRecDepth 100000 in
set_option maxHeartbeats 4000000 in
theorem leafn_any (W : World) (f : Int) (h0 : 0 ≤ f) (h1 : f ≤ 255) (s : ByteArray) (hs : s.size ≤ 1000000) (hT : TabsIn W) :
    Calls Tryd.prog 57 #[.int .u8 f, .string s] W fun e w' => NodeDone (fromB W.heap.size) W (leafS f s) e w' := by
  have HT := Lib.hid hT
  have HF := Lib.hid (And.intro h0 h1)
  have HW := Lib.hid (fun w (hb : Below W.heap.size W w) => lands_words w s (hT.below hb) hs)
  obtain ⟨B, hB⟩ : ∃ B, B = toksP 0 (wordsT s) := ⟨_, rfl⟩
  rw [← hB] at HW
  obtain ⟨A, hA⟩ : ∃ A, A = leafW f (wordsT s) := ⟨_, rfl⟩
  have hAB : ∀ (i : Nat) (y : Tk), B[i]? = some y → y.1 = 0 ∧ 0 ≤ y.2.2 ∧ y.2.2 ≤ 1000001 ∧ A[i]? = some (f, y.2.1, y.2.2 - (firstP (wordsT s) : Int)) := by
    intro i y hy
    have hy' := hy
    rw [hB] at hy
    unfold toksP at hy
    rw [List.getElem?_map] at hy
    cases hx : (wordsT s)[i]? with
    | none => rw [hx] at hy; cases hy
    | some x =>
      rw [hx] at hy
      simp at hy
      subst hy
      have hle := allT_le s
      have hpl : ∀ (l : List (List Nat)) (n : Nat) (x : List Nat × Nat), x ∈ placesF n l → x.2 ≤ n + l.length := by
        intro l
        induction l with
        | nil => intro n x h; simp [placesF] at h
        | cons t l ih =>
          intro n x h
          rw [placesF] at h
          rw [List.length_cons]
          split at h
          · have := ih _ _ h; omega
          · rcases List.mem_cons.1 h with rfl | h
            · simp only; omega
            · have := ih _ _ h; omega
      have := hpl (allT s) 0 x (List.mem_of_getElem? hx)
      refine ⟨rfl, by simp only; omega, by simp only; omega, ?_⟩
      rw [hA]
      unfold leafW
      rw [List.getElem?_map, hx]
      rfl
  have hfst : ∀ y, B[0]? = some y → y.2.2 = (firstP (wordsT s) : Int) := by
    intro y hy
    rw [hB] at hy
    unfold toksP at hy
    rw [List.getElem?_map] at hy
    cases hw : wordsT s with
    | nil => rw [hw] at hy; simp at hy
    | cons x l => rw [hw] at hy; simp at hy; subst hy; rfl
  obtain ⟨n, hn⟩ : ∃ n, n = B.length := ⟨_, rfl⟩
  have hAn : A.length = n := by rw [hA, hn, hB]; unfold leafW toksP; simp
  have hn2 : n ≤ 1000001 := by
    rw [hn, hB, toksP_length]
    have := places_len (allT s) 0
    have := allT_le s
    show (placesF 0 (allT s)).length ≤ _
    omega
  have HL : Hid (leafS f s = .mk 1 f A []) := Lib.hid (by unfold leafS; rw [hA])
  obtain ⟨fp, hfp⟩ : ∃ fp : Int, fp = (firstP (wordsT s) : Int) := ⟨_, rfl⟩
  rw [← hfp] at hAB hfst
  have hfp0 : 0 ≤ fp := by rw [hfp]; omega
  have HAB := Lib.hid hAB
  have HFs := Lib.hid hfst
  have HN := Lib.hid (And.intro hn hAn)
  have HFp := Lib.hid hfp0
  clear hT h0 h1 hs hB hA hAB hfst hn hAn hfp hfp0
  go_enter Tryd.func57, Tryd.ntmps57
  go_wp2_with fail
  refine (HW.out _ below_one).mono ?_
  rintro e w2 ⟨v, rfl, hv, hb⟩
  have HB2 := Lib.hid hb
  have hR := blk_low (heap_alloc_new W (.cells #[.int .i64 0, .int .u8 0, .slice none 0 0, .slice none 0 0] 26)) hb
  have hszW : (W.alloc (.cells #[.int .i64 0, .int .u8 0, .slice none 0 0, .slice none 0 0] 26)).heap.size = W.heap.size + 1 := by simp
  by_cases hn0 : n = 0
  · obtain ⟨oa, cap, rfl, hv1, hv2, hv3⟩ := toks_reads hv
    have hBn : B = [] := List.eq_nil_of_length_eq_zero (by rw [← HN.out.1]; exact hn0)
    have hAn : A = [] := List.eq_nil_of_length_eq_zero (by rw [HN.out.2]; exact hn0)
    have HA := Lib.hid hAn
    rw [show B.length = n from HN.out.1.symm, hn0] at hv1 ⊢
    have HR := Lib.hid hR
    have HC := Lib.hid hv2
    have HHW := Lib.hid hszW
    have hbk : ∀ a, oa = some a → W.heap.size ≤ a.block := fun a ha => by
      subst ha
      rcases hv.2 with ⟨e, _⟩ | ⟨g, cap', cur, e, hb3, _⟩
      · cases e
      · injection e with e1; injection e1 with e1; subst e1; simp only; omega
    have HBk := Lib.hid hbk
    clear hb hv hv1 hv2 hv3 hBn hAn hR hbk hszW
    go_wp2_with fail
    go_loopw [13] (fun iv wr => iv = .int .i64 0 ∧ wr = w2) (fun iv _ => 0)
    case atStart => exact ⟨rfl, rfl⟩
    case round =>
      obtain ⟨rfl, rfl⟩ := hrel
      go_wp2_with (refine wpList_store_row rfl 26 (.tmp 4) (.tmp 36) rfl W.heap.size #[.int .i64 1, .int .u8 f, .slice oa 0 cap, .slice none 0 0] rfl rfl 26 #[.int .i64 0, .int .u8 0, .slice none 0 0, .slice none 0 0] HR.out (node_info (1, f, .slice oa 0 cap, .slice none 0 0)) rfl node_one ?_)
      refine bodyPost_ret (v := rnV (1, f, .slice oa 0 cap, .slice none 0 0)) (results_cell_row rfl _ _ W.heap.size _ _ (0, 0) _ rfl (setRow_heap _ _ _ _ _ _ HR.out) Tryd.underlying26 rfl (node_info _)) rfl ⟨_, rfl, ?_, ?_⟩
      · rw [HL.out, HA.out]
        exact leaf_made HF.out.1 HF.out.2 rfl (fun j x hj => by simp at hj) (Nat.zero_le _) HC.out HBk.out
      · have h := HB2.out
        exact below_row (below_one.trans (h.mono (by rw [HHW.out]; omega))) (Nat.le_refl _) _
  · rcases hv.2 with ⟨rfl, h0⟩ | ⟨g, cap, cur, rfl, hb3, hg, hn3, hm, hs, ht⟩
    · exact absurd (by rw [HN.out.1]; exact h0) hn0
    · obtain ⟨sp, hsp⟩ : ∃ sp, sp = cur.toList.drop (B.length * 3) := ⟨_, rfl⟩
      have hcur : cur = (toksC B ++ sp).toArray := by
        rw [hsp, ← ht, List.take_append_drop]
      rw [hcur, show B = mixT A B 0 from (mix_zero A B).symm] at hg
      rw [show B.length = n from HN.out.1.symm] at hn3 ⊢
      have hgW : W.heap.size + 1 ≤ g := by rw [← hszW]; exact hb3
      have HG := Lib.hid (And.intro hgW (And.intro hn3 hm))
      have HR := Lib.hid hR
      have HHW := Lib.hid hszW
      have HHg := Lib.hid hg
      clear hb hv hR hszW hb3 hn3 hm hs ht hsp hcur hgW hg
      go_wp2_with fail
      go_loopw [6, 13] (fun fv iv wr => ∃ i : Nat, i ≤ n ∧ iv = .int .i64 i ∧ fv = .int .i64 (if i = 0 then 0 else fp) ∧ wr.heap[g]? = some (.cells (toksC (mixT A B i) ++ sp).toArray 42 (0, 0)) ∧ Mod (fun k => k = g) w2 wr) (fun _ iv _ => n - (intOf iv).toNat)
      case atStart => exact ⟨0, by omega, rfl, rfl, HHg.out, Mod.refl _ _⟩
      case round =>
        obtain ⟨i, hi, rfl, rfl, hg, hmd⟩ := hrel
        by_cases hlt : i < n
        · obtain ⟨⟨y0, yt, yp⟩, hy⟩ : ∃ y, B[i]? = some y := ⟨_, List.getElem?_eq_getElem (by rw [← HN.out.1]; exact hlt)⟩
          obtain ⟨b1, b2, b3, b4⟩ := HAB.out i _ hy
          simp only at b1 b2 b3 b4
          subst b1
          have hAl : A.length = B.length := HN.out.2.trans HN.out.1
          have hp := toks_part (sp := sp) (mix_get hAl hy)
          have hst := mix_step b4 hy sp
          have hbig : i * 3 + 3 ≤ (toksC (mixT A B i) ++ sp).length := by
            rw [List.length_append, toksC_length, mix_len HN.out.2 HN.out.1.symm hi]; omega
          obtain ⟨C0, hC0⟩ : ∃ C0, C0 = (toksC (mixT A B i) ++ sp).toArray := ⟨_, rfl⟩
          have hbig2 : i * 3 + 3 ≤ C0.size := by rw [hC0]; simpa using hbig
          have hst2 : C0.toList.take (i * 3) ++ #[Value.int .u8 f, .string yt, .int .i64 (yp - fp)].toList ++ C0.toList.drop (i * 3 + 3) = (toksC (mixT A B (i + 1)) ++ sp).toArray.toList := by rw [hC0]; exact hst
          rw [← hC0] at hg hp
          obtain ⟨C1, hC1⟩ : ∃ C1, C1 = (toksC (mixT A B (i + 1)) ++ sp).toArray := ⟨_, rfl⟩
          rw [← hC1] at hst2
          have HHg := Lib.hid hg
          have HC1 := Lib.hid hC1
          have HPr := Lib.hid hp
          have HSt := Lib.hid (And.intro hst2 hbig2)
          have HMd := Lib.hid hmd
          have HFs0 := Lib.hid (fun (h : i = 0) => (show yp = fp from HFs.out _ (by rw [← h]; exact hy)))
          have hfp := HFp.out
          have hw1 : IntKind.i64.wrap (yp - fp) = yp - fp := IntWalk.i64_in _ (by
            have : fp ≤ 1000001 := by
              obtain ⟨z, hz⟩ : ∃ z, B[0]? = some z := ⟨_, List.getElem?_eq_getElem (by rw [← HN.out.1]; omega)⟩
              have h3 := HFs.out z hz
              have h4 := (HAB.out 0 z hz).2.2.1
              omega
            omega)
          have HB5 := Lib.hid (HG.out.1)
          have hgl := lt_of_heap hg
          clear hg hC0 hC1 hp hst hbig hst2 hbig2 hmd hy b4 hAl
          have HBx := Lib.hid (heap_alloc_new wr (.cells #[.int .u8 0, .string yt, .int .i64 yp] 42))
          have HBz := Lib.hid (fun z => heap_alloc_new wr (.cells z 42))
          have HRow := Lib.hid (fun z => (Below.heap_alloc wr (.cells z 42) g hgl).trans HHg.out)
          have fin_ : ∀ wz, wz = (wr.alloc (.cells #[.int .u8 0, .string yt, .int .i64 yp] 42)).setRow g C1 → wz.heap[g]? = some (.cells (toksC (mixT A B (i + 1)) ++ sp).toArray 42 (0, 0)) ∧ Mod (fun k => k = g) w2 wz := by
            rintro wz rfl
            refine ⟨?_, ?_⟩
            · rw [setRow_heap _ _ _ _ _ _ (HRow.out _), HC1.out]
            · refine ⟨HMd.out.os, HMd.out.tape, HMd.out.output, by have := HMd.out.size; simp [World.setRow]; omega, fun k hk hkg => ?_⟩
              have := HMd.out.size
              rw [setRow_other _ _ _ _ hkg, Below.heap_alloc _ _ _ (by omega)]
              exact HMd.out.block k hk hkg
          have HFin := Lib.hid fin_
          clear fin_
          by_cases hi0 : i = 0
          · have hyf := HFs0.out hi0
            subst hi0
            subst hyf
            rw [Int.sub_self] at HSt
            go_wp2_with (first
              | (refine wpList_load_part rfl 42 (.tmp 16) rfl g 0 rfl 42 C0 #[.int .u8 0, .string yt, .int .i64 yp] (0, 0) _ HHg.out (fun j v hv => by have := HPr.out j v hv; simpa using this) Tryd.underlying42 rfl (tok_info (0, yt, yp)) ?_)
              | (refine wpList_store_row rfl 42 (.tmp 8) (.tmp 17) rfl wr.heap.size #[.int .u8 0, .string yt, .int .i64 yp] rfl rfl 42 #[.int .u8 0, .string ⟨#[]⟩, .int .i64 0] (HBz.out _) (tok_info (0, yt, yp)) rfl (tok_one (0, yt, yp)) ?_; rw [World.setRow_alloc_new])
              | (refine wpList_store_part rfl 42 (.tmp 32) (.tmp 31) rfl g 0 #[.int .u8 f, .string yt, .int .i64 0] rfl rfl 42 C0 C1 (HRow.out _) HSt.out.2 (tok_info (f, yt, 0)) (tok_one (f, yt, 0)) HSt.out.1 ?_)
              | fail)
            obtain ⟨g1, g2⟩ := HFin.out _ rfl
            have G1 := Lib.hid g1
            have G2 := Lib.hid g2
            clear g1 g2
            go_wp2_with fail
            go_roundw
            case rel => exact ⟨1, by omega, by go_num, by go_num, G1.out, G2.out⟩
            case measure => simp [intOf]; omega
          · have hi1 : ¬ (i : Int) = 0 := by omega
            rw [if_neg hi0]
            go_wp2_with (first
              | (refine wpList_load_part rfl 42 (.tmp 16) rfl g (i * 3) rfl 42 C0 #[.int .u8 0, .string yt, .int .i64 yp] (0, 0) _ HHg.out (fun j v hv => HPr.out j v hv) Tryd.underlying42 rfl (tok_info (0, yt, yp)) ?_)
              | (refine wpList_store_row rfl 42 (.tmp 8) (.tmp 17) rfl wr.heap.size #[.int .u8 0, .string yt, .int .i64 yp] rfl rfl 42 #[.int .u8 0, .string ⟨#[]⟩, .int .i64 0] (HBz.out _) (tok_info (0, yt, yp)) rfl (tok_one (0, yt, yp)) ?_; rw [World.setRow_alloc_new])
              | (refine wpList_store_part rfl 42 (.tmp 32) (.tmp 31) rfl g (i * 3) #[.int .u8 f, .string yt, .int .i64 (yp - fp)] rfl rfl 42 C0 C1 (HRow.out _) HSt.out.2 (tok_info (f, yt, yp - fp)) (tok_one (f, yt, yp - fp)) HSt.out.1 ?_)
              | fail)
            obtain ⟨g1, g2⟩ := HFin.out _ rfl
            have G1 := Lib.hid g1
            have G2 := Lib.hid g2
            clear g1 g2
            go_wp2_with fail
            go_roundw
            case rel => exact ⟨i + 1, by omega, by go_num, by rw [if_neg (by omega)], G1.out, G2.out⟩
            case measure => simp [intOf]; omega
        · obtain rfl : i = n := by omega
          rw [mix_all HN.out.2 HN.out.1.symm] at hg
          have hR2 := (hmd.block W.heap.size (lt_of_heap HR.out) (by have := HG.out.1; omega)).trans HR.out
          have HR2 := Lib.hid hR2
          have HHg := Lib.hid hg
          have HMd := Lib.hid hmd
          clear hg hR2 hmd
          go_wp2_with (refine wpList_store_row rfl 26 (.tmp 4) (.tmp 36) rfl W.heap.size #[.int .i64 1, .int .u8 f, .slice (some ⟨g, 0, none⟩) i cap, .slice none 0 0] rfl rfl 26 #[.int .i64 0, .int .u8 0, .slice none 0 0, .slice none 0 0] HR2.out (node_info (1, f, .slice (some ⟨g, 0, none⟩) i cap, .slice none 0 0)) rfl node_one ?_)
          refine bodyPost_ret (v := rnV (1, f, .slice (some ⟨g, 0, none⟩) i cap, .slice none 0 0)) (results_cell_row rfl _ _ W.heap.size _ _ (0, 0) _ rfl (setRow_heap _ _ _ _ _ _ HR2.out) Tryd.underlying26 rfl (node_info _)) rfl ?_
          refine ⟨((1 : Int), f, .slice (some ⟨g, 0, none⟩) i cap, .slice none 0 0), rfl, ?_, ?_⟩
          · rw [HL.out]
            refine leaf_made HF.out.1 HF.out.2 HN.out.2 (fun j x hj => ⟨g, 0, rfl, ?_⟩) HG.out.2.1 HG.out.2.2 (fun a ha => by injection ha with ha; subst ha; have := HG.out.1; unfold fromB; simp only; omega)
            obtain ⟨k1, k2, k3⟩ := toksC_get A j x hj
            have hl := (List.getElem?_eq_some_iff.1 k3).1
            have hgr := (setRow_other wr W.heap.size g #[.int .i64 1, .int .u8 f, .slice (some ⟨g, 0, none⟩) i cap, .slice none 0 0] (by have := HG.out.1; omega)).trans HHg.out
            refine ⟨?_, ?_, ?_⟩
            · rw [Lib.cell_of_heap hgr, Nat.zero_add]; simp only [List.getElem?_toArray]; rw [List.getElem?_append_left (by omega), k1]
            · rw [Lib.cell_of_heap hgr, Nat.zero_add]; simp only [List.getElem?_toArray]; rw [List.getElem?_append_left (by omega), k2]
            · rw [Lib.cell_of_heap hgr, Nat.zero_add]; simp only [List.getElem?_toArray]; rw [List.getElem?_append_left (by omega), k3]
          · refine below_row ?_ (Nat.le_refl _) _
            have h := HB2.out
            have h2 := (below_one (w := W) (A := .cells #[.int .i64 0, .int .u8 0, .slice none 0 0, .slice none 0 0] 26)).trans (h.mono (by rw [HHW.out]; omega))
            have := HG.out.1
            exact h2.trans ⟨HMd.out.os, HMd.out.tape, HMd.out.output, HMd.out.size, fun k hk => HMd.out.block k (by have := h2.size; omega) (by omega)⟩
end Go.Proofs.YtaaeooimalglaaaDoor
