/-
  Layer 17 as it landed: a leaf. Over the program's own text.
-/
import Derived.Test.YthkpaelpnofbgaaGreatDoorQsC10
import Derived.Test.YthkpaelpnofbgaaGreatDoorQsC07
import Derived.Maps.AppendAt
import Derived.Lib.AppendStr
import Derived.Room.AppendFits
namespace Go.Proofs.YthkpaelpnofbgaaGreatDoor
open Go.RowKit

def leafS (f : Int) (s : ByteArray) : Nd := .mk 1 f (leafW f (wordsT s)) []
set_option maxRecDepth 100000 in
theorem words_text {q : List Nat} (h : ∀ r ∈ q, okR r) : wordsT (textZ (ints q)) = wordsR q := by
  unfold wordsT wordsR allT
  rw [runes_textZ, norm_ints h]
set_option maxRecDepth 100000 in
theorem leafS_text (f : Int) {q : List Nat} (h : ∀ r ∈ q, okR r) : leafS f (textZ (ints q)) = leafNd f q := by
  unfold leafS leafNd
  rw [words_text h]
/-- The first ones turned, the others as they were. -/
def mixT (a b : List Tk) (i : Nat) : List Tk := a.take i ++ b.drop i
set_option maxRecDepth 100000 in
theorem mix_zero (a b : List Tk) : mixT a b 0 = b := by simp [mixT]
set_option maxRecDepth 100000 in
theorem mix_all {a b : List Tk} {n : Nat} (ha : a.length = n) (hb : b.length = n) : mixT a b n = a := by
  unfold mixT
  rw [List.take_of_length_le (by omega), List.drop_eq_nil_of_le (by omega), List.append_nil]
set_option maxRecDepth 100000 in
theorem mix_len {a b : List Tk} {n i : Nat} (ha : a.length = n) (hb : b.length = n) (hi : i ≤ n) : (mixT a b i).length = n := by
  unfold mixT
  rw [List.length_append, List.length_take, List.length_drop]; omega
set_option maxRecDepth 100000 in
theorem mix_get {a b : List Tk} {i : Nat} {x : Tk} (ha : a.length = b.length) (hx : b[i]? = some x) : (mixT a b i)[i]? = some x := by
  have hi := (List.getElem?_eq_some_iff.1 hx).1
  unfold mixT
  rw [List.getElem?_append_right (by rw [List.length_take]; omega), List.length_take, Nat.min_eq_left (by omega), List.getElem?_drop]
  simpa using hx
set_option maxRecDepth 100000 in
theorem mix_step {a b : List Tk} {i : Nat} {x y : Tk} (hx : a[i]? = some x) (hy : b[i]? = some y) (sp : List Value) :
    (toksC (mixT a b i) ++ sp).take (i * 3) ++ tokC x ++ (toksC (mixT a b i) ++ sp).drop (i * 3 + 3) = toksC (mixT a b (i + 1)) ++ sp := by
  have hi := (List.getElem?_eq_some_iff.1 hx).1
  have hi2 := (List.getElem?_eq_some_iff.1 hy).1
  have e1 : a.take (i + 1) = a.take i ++ [x] := by
    rw [List.take_add_one, hx]; rfl
  have e2 : b.drop i = y :: b.drop (i + 1) := by
    obtain ⟨_, rfl⟩ := List.getElem?_eq_some_iff.1 hy
    exact List.drop_eq_getElem_cons hi2
  have hl : (toksC (a.take i)).length = i * 3 := by rw [toksC_length, List.length_take]; congr 1; omega
  have e3 : toksC (mixT a b i) ++ sp = toksC (a.take i) ++ (tokC y ++ (toksC (b.drop (i + 1)) ++ sp)) := by
    unfold mixT
    rw [e2, toksC_append]
    show toksC (a.take i) ++ (tokC y ++ toksC (b.drop (i + 1))) ++ sp = _
    simp
  rw [e3, ← hl, List.take_left, ← List.drop_drop, List.drop_left]
  unfold mixT
  rw [e1, toksC_append, toksC_append]
  show toksC (a.take i) ++ tokC x ++ (tokC y ++ (toksC (b.drop (i + 1)) ++ sp)).drop (tokC y).length = _
  rw [List.drop_left]
  show _ = toksC (a.take i) ++ (tokC x ++ []) ++ toksC (b.drop (i + 1)) ++ sp
  simp
set_option maxRecDepth 100000 in
theorem tok_info (x : Tk) : (Tryz.prog.info? 43).map (·.size) = some (tokC x).toArray.size := by kernel_rfl
set_option maxRecDepth 100000 in
theorem tok_one (x : Tk) : (tokC x).toArray.all (·.oneCell') = true := by simp [tokC, Value.oneCell']
set_option maxRecDepth 100000 in
/-- The n-th struct of a row of such. -/
theorem toks_part {l : List Tk} {sp : List Value} {i : Nat} {x : Tk} (h : l[i]? = some x) : ∀ (j : Nat) (v : Value), (tokC x).toArray.toList[j]? = some v → ((toksC l ++ sp).toArray)[i * 3 + j]? = some v := by
  intro j v hv
  obtain ⟨h1, h2, h3⟩ := toksC_get l i x h
  have hl := (List.getElem?_eq_some_iff.1 h3).1
  have hj : j < 3 := (List.getElem?_eq_some_iff.1 hv).1
  simp only [List.getElem?_toArray]
  rw [List.getElem?_append_left (by omega)]
  rcases j with _ | _ | _ | j
  · rw [Nat.add_zero, h1]; exact hv
  · rw [h2]; exact hv
  · rw [h3]; exact hv
  · omega
set_option maxRecDepth 100000 in
theorem leaf_made {w : World} {S : Nat → Prop} {f : Int} {A : List Tk} {ta : Option Addr} {tc n : Nat} (h0 : 0 ≤ f) (h1 : f ≤ 255) (hn : A.length = n) (hr : ReadT w ta A) (hc : n ≤ tc) (hm : tc ≤ maxLen) (hb : ∀ a, ta = some a → S a.block) : RdN w S (.mk 1 f A []) (1, f, .slice ta n tc, .slice none 0 0) := by
  subst hn
  exact .mk (rs := []) (ka := none) (kc := 0) h0 h1 hr hc hm (fun a ha _ => hb a ha) (fun j r hj => by simp at hj) (Nat.le_refl _) (by decide) (fun a ha _ => by cases ha) rfl (fun j x r hj _ => by simp at hj)
/-- A node is answered. -/
def NodeDone (S : Nat → Prop) (W : World) (x : Nd) (e : Ending) (w' : World) : Prop := ∃ r, e = .returned (rnV r) ∧ RdN w' S x r ∧ Below W.heap.size W w'
set_option maxRecDepth 100000 in
theorem below_row {B : Nat} {a w : World} (h : Below B a w) {g : Nat} (hg : B ≤ g) (cs : Array Value) : Below B a (w.setRow g cs) :=
  ⟨h.os, h.tape, h.output, by simpa [World.setRow] using h.size, fun k hk => (setRow_other _ _ _ _ (by omega)).trans (h.block k hk)⟩
set_option maxRecDepth 100000 in
set_option maxHeartbeats 4000000 in
theorem leafn_any (W : World) (f : Int) (h0 : 0 ≤ f) (h1 : f ≤ 255) (s : ByteArray) (hs : s.size ≤ 1000000) (hT : TabsIn W) :
    Calls Tryz.prog 93 #[.int .u8 f, .string s] W fun e w' => NodeDone (fromB W.heap.size) W (leafS f s) e w' := by
  have HT := Lib.hid hT
  have HF := Lib.hid (And.intro h0 h1)
  have HW := Lib.hid (fun w (hb : Below W.heap.size W w) => lands_words w s (hT.below hb) hs)
  obtain ⟨B, hB⟩ : ∃ B, B = toksP 0 (wordsT s) := ⟨_, rfl⟩
  rw [← hB] at HW
  obtain ⟨A, hA⟩ : ∃ A, A = leafW f (wordsT s) := ⟨_, rfl⟩
  have hAB : ∀ (i : Nat) (y : Tk), B[i]? = some y → y.1 = 0 ∧ 0 ≤ y.2.2 ∧ y.2.2 ≤ 1000001 ∧ A[i]? = some (f, y.2.1, y.2.2 - (firstP (wordsT s) : Int)) := by
    intro i y hy
    have hy' := hy
    rw [hB] at hy
    unfold toksP at hy
    rw [List.getElem?_map] at hy
    cases hx : (wordsT s)[i]? with
    | none => rw [hx] at hy; cases hy
    | some x =>
      rw [hx] at hy
      simp at hy
      subst hy
      have hle := allT_le s
      have hpl : ∀ (l : List (List Nat)) (n : Nat) (x : List Nat × Nat), x ∈ placesF n l → x.2 ≤ n + l.length := by
        intro l
        induction l with
        | nil => intro n x h; simp [placesF] at h
        | cons t l ih =>
          intro n x h
          rw [placesF] at h
          rw [List.length_cons]
          split at h
          · have := ih _ _ h; omega
          · rcases List.mem_cons.1 h with rfl | h
            · simp only; omega
            · have := ih _ _ h; omega
      have := hpl (allT s) 0 x (List.mem_of_getElem? hx)
      refine ⟨rfl, by simp only; omega, by simp only; omega, ?_⟩
      rw [hA]
      unfold leafW
      rw [List.getElem?_map, hx]
      rfl
  have hfst : ∀ y, B[0]? = some y → y.2.2 = (firstP (wordsT s) : Int) := by
    intro y hy
    rw [hB] at hy
    unfold toksP at hy
    rw [List.getElem?_map] at hy
    cases hw : wordsT s with
    | nil => rw [hw] at hy; simp at hy
    | cons x l => rw [hw] at hy; simp at hy; subst hy; rfl
  obtain ⟨n, hn⟩ : ∃ n, n = B.length := ⟨_, rfl⟩
  have hAn : A.length = n := by rw [hA, hn, hB]; unfold leafW toksP; simp
  have hn2 : n ≤ 1000001 := by
    rw [hn, hB, toksP_length]
    have := places_len (allT s) 0
    have := allT_le s
    show (placesF 0 (allT s)).length ≤ _
    omega
  have HL : Hid (leafS f s = .mk 1 f A []) := Lib.hid (by unfold leafS; rw [hA])
  obtain ⟨fp, hfp⟩ : ∃ fp : Int, fp = (firstP (wordsT s) : Int) := ⟨_, rfl⟩
  rw [← hfp] at hAB hfst
  have hfp0 : 0 ≤ fp := by rw [hfp]; omega
  have HAB := Lib.hid hAB
  have HFs := Lib.hid hfst
  have HN := Lib.hid (And.intro hn hAn)
  have HFp := Lib.hid hfp0
  clear hT h0 h1 hs hB hA hAB hfst hn hAn hfp hfp0
  go_enter Tryz.func93, Tryz.ntmps93
  go_wp2_with fail
  refine (HW.out _ below_one).mono ?_
  rintro e w2 ⟨v, rfl, hv, hb⟩
  have HB2 := Lib.hid hb
  have hR := blk_low (heap_alloc_new W (.cells #[.int .i64 0, .int .u8 0, .slice none 0 0, .slice none 0 0] 25)) hb
  have hszW : (W.alloc (.cells #[.int .i64 0, .int .u8 0, .slice none 0 0, .slice none 0 0] 25)).heap.size = W.heap.size + 1 := by simp
  by_cases hn0 : n = 0
  · obtain ⟨oa, cap, rfl, hv1, hv2, hv3⟩ := toks_reads hv
    have hBn : B = [] := List.eq_nil_of_length_eq_zero (by rw [← HN.out.1]; exact hn0)
    have hAn : A = [] := List.eq_nil_of_length_eq_zero (by rw [HN.out.2]; exact hn0)
    have HA := Lib.hid hAn
    rw [show B.length = n from HN.out.1.symm, hn0] at hv1 ⊢
    have HR := Lib.hid hR
    have HC := Lib.hid hv2
    have HHW := Lib.hid hszW
    have hbk : ∀ a, oa = some a → W.heap.size ≤ a.block := fun a ha => by
      subst ha
      rcases hv.2 with ⟨e, _⟩ | ⟨g, cap', cur, e, hb3, _⟩
      · cases e
      · injection e with e1; injection e1 with e1; subst e1; simp only; omega
    have HBk := Lib.hid hbk
    clear hb hv hv1 hv2 hv3 hBn hAn hR hbk hszW
    go_wp2_with fail
    go_loopw [13] (fun iv wr => iv = .int .i64 0 ∧ wr = w2) (fun iv _ => 0)
    case atStart => exact ⟨rfl, rfl⟩
    case round =>
      obtain ⟨rfl, rfl⟩ := hrel
      go_wp2_with (refine wpList_store_row rfl 25 (.tmp 4) (.tmp 36) rfl W.heap.size #[.int .i64 1, .int .u8 f, .slice oa 0 cap, .slice none 0 0] rfl rfl 25 #[.int .i64 0, .int .u8 0, .slice none 0 0, .slice none 0 0] HR.out (node_info (1, f, .slice oa 0 cap, .slice none 0 0)) rfl node_one ?_)
      refine bodyPost_ret (v := rnV (1, f, .slice oa 0 cap, .slice none 0 0)) (results_cell_row rfl _ _ W.heap.size _ _ (0, 0) _ rfl (setRow_heap _ _ _ _ _ _ HR.out) Tryz.underlying25 rfl (node_info _)) rfl ⟨_, rfl, ?_, ?_⟩
      · rw [HL.out, HA.out]
        exact leaf_made HF.out.1 HF.out.2 rfl (fun j x hj => by simp at hj) (Nat.zero_le _) HC.out HBk.out
      · have h := HB2.out
        exact below_row (below_one.trans (h.mono (by rw [HHW.out]; omega))) (Nat.le_refl _) _
  · rcases hv.2 with ⟨rfl, h0⟩ | ⟨g, cap, cur, rfl, hb3, hg, hn3, hm, hs, ht⟩
    · exact absurd (by rw [HN.out.1]; exact h0) hn0
    · obtain ⟨sp, hsp⟩ : ∃ sp, sp = cur.toList.drop (B.length * 3) := ⟨_, rfl⟩
      have hcur : cur = (toksC B ++ sp).toArray := by
        rw [hsp, ← ht, List.take_append_drop]
      rw [hcur, show B = mixT A B 0 from (mix_zero A B).symm] at hg
      rw [show B.length = n from HN.out.1.symm] at hn3 ⊢
      have hgW : W.heap.size + 1 ≤ g := by rw [← hszW]; exact hb3
      have HG := Lib.hid (And.intro hgW (And.intro hn3 hm))
      have HR := Lib.hid hR
      have HHW := Lib.hid hszW
      have HHg := Lib.hid hg
      clear hb hv hR hszW hb3 hn3 hm hs ht hsp hcur hgW hg
      go_wp2_with fail
      go_loopw [6, 13] (fun fv iv wr => ∃ i : Nat, i ≤ n ∧ iv = .int .i64 i ∧ fv = .int .i64 (if i = 0 then 0 else fp) ∧ wr.heap[g]? = some (.cells (toksC (mixT A B i) ++ sp).toArray 43 (0, 0)) ∧ Mod (fun k => k = g) w2 wr) (fun _ iv _ => n - (intOf iv).toNat)
      case atStart => exact ⟨0, by omega, rfl, rfl, HHg.out, Mod.refl _ _⟩
      case round =>
        obtain ⟨i, hi, rfl, rfl, hg, hmd⟩ := hrel
        by_cases hlt : i < n
        · obtain ⟨⟨y0, yt, yp⟩, hy⟩ : ∃ y, B[i]? = some y := ⟨_, List.getElem?_eq_getElem (by rw [← HN.out.1]; exact hlt)⟩
          obtain ⟨b1, b2, b3, b4⟩ := HAB.out i _ hy
          simp only at b1 b2 b3 b4
          subst b1
          have hAl : A.length = B.length := HN.out.2.trans HN.out.1
          have hp := toks_part (sp := sp) (mix_get hAl hy)
          have hst := mix_step b4 hy sp
          have hbig : i * 3 + 3 ≤ (toksC (mixT A B i) ++ sp).length := by
            rw [List.length_append, toksC_length, mix_len HN.out.2 HN.out.1.symm hi]; omega
          obtain ⟨C0, hC0⟩ : ∃ C0, C0 = (toksC (mixT A B i) ++ sp).toArray := ⟨_, rfl⟩
          have hbig2 : i * 3 + 3 ≤ C0.size := by rw [hC0]; simpa using hbig
          have hst2 : C0.toList.take (i * 3) ++ #[Value.int .u8 f, .string yt, .int .i64 (yp - fp)].toList ++ C0.toList.drop (i * 3 + 3) = (toksC (mixT A B (i + 1)) ++ sp).toArray.toList := by rw [hC0]; exact hst
          rw [← hC0] at hg hp
          obtain ⟨C1, hC1⟩ : ∃ C1, C1 = (toksC (mixT A B (i + 1)) ++ sp).toArray := ⟨_, rfl⟩
          rw [← hC1] at hst2
          have HHg := Lib.hid hg
          have HC1 := Lib.hid hC1
          have HPr := Lib.hid hp
          have HSt := Lib.hid (And.intro hst2 hbig2)
          have HMd := Lib.hid hmd
          have HFs0 := Lib.hid (fun (h : i = 0) => (show yp = fp from HFs.out _ (by rw [← h]; exact hy)))
          have hfp := HFp.out
          have hw1 : IntKind.i64.wrap (yp - fp) = yp - fp := IntWalk.i64_in _ (by
            have : fp ≤ 1000001 := by
              obtain ⟨z, hz⟩ : ∃ z, B[0]? = some z := ⟨_, List.getElem?_eq_getElem (by rw [← HN.out.1]; omega)⟩
              have h3 := HFs.out z hz
              have h4 := (HAB.out 0 z hz).2.2.1
              omega
            omega)
          have HB5 := Lib.hid (HG.out.1)
          have hgl := lt_of_heap hg
          clear hg hC0 hC1 hp hst hbig hst2 hbig2 hmd hy b4 hAl
          have HBx := Lib.hid (heap_alloc_new wr (.cells #[.int .u8 0, .string yt, .int .i64 yp] 43))
          have HBz := Lib.hid (fun z => heap_alloc_new wr (.cells z 43))
          have HRow := Lib.hid (fun z => (Below.heap_alloc wr (.cells z 43) g hgl).trans HHg.out)
          have fin_ : ∀ wz, wz = (wr.alloc (.cells #[.int .u8 0, .string yt, .int .i64 yp] 43)).setRow g C1 → wz.heap[g]? = some (.cells (toksC (mixT A B (i + 1)) ++ sp).toArray 43 (0, 0)) ∧ Mod (fun k => k = g) w2 wz := by
            rintro wz rfl
            refine ⟨?_, ?_⟩
            · rw [setRow_heap _ _ _ _ _ _ (HRow.out _), HC1.out]
            · refine ⟨HMd.out.os, HMd.out.tape, HMd.out.output, by have := HMd.out.size; simp [World.setRow]; omega, fun k hk hkg => ?_⟩
              have := HMd.out.size
              rw [setRow_other _ _ _ _ hkg, Below.heap_alloc _ _ _ (by omega)]
              exact HMd.out.block k hk hkg
          have HFin := Lib.hid fin_
          clear fin_
          by_cases hi0 : i = 0
          · have hyf := HFs0.out hi0
            subst hi0
            subst hyf
            rw [Int.sub_self] at HSt
            go_wp2_with (first
              | (refine wpList_load_part rfl 43 (.tmp 16) rfl g 0 rfl 43 C0 #[.int .u8 0, .string yt, .int .i64 yp] (0, 0) _ HHg.out (fun j v hv => by have := HPr.out j v hv; simpa using this) Tryz.underlying43 rfl (tok_info (0, yt, yp)) ?_)
              | (refine wpList_store_row rfl 43 (.tmp 8) (.tmp 17) rfl wr.heap.size #[.int .u8 0, .string yt, .int .i64 yp] rfl rfl 43 #[.int .u8 0, .string ⟨#[]⟩, .int .i64 0] (HBz.out _) (tok_info (0, yt, yp)) rfl (tok_one (0, yt, yp)) ?_; rw [World.setRow_alloc_new])
              | (refine wpList_store_part rfl 43 (.tmp 32) (.tmp 31) rfl g 0 #[.int .u8 f, .string yt, .int .i64 0] rfl rfl 43 C0 C1 (HRow.out _) HSt.out.2 (tok_info (f, yt, 0)) (tok_one (f, yt, 0)) HSt.out.1 ?_)
              | fail)
            obtain ⟨g1, g2⟩ := HFin.out _ rfl
            have G1 := Lib.hid g1
            have G2 := Lib.hid g2
            clear g1 g2
            go_wp2_with fail
            go_roundw
            case rel => exact ⟨1, by omega, by go_num, by go_num, G1.out, G2.out⟩
            case measure => simp [intOf]; omega
          · have hi1 : ¬ (i : Int) = 0 := by omega
            rw [if_neg hi0]
            go_wp2_with (first
              | (refine wpList_load_part rfl 43 (.tmp 16) rfl g (i * 3) rfl 43 C0 #[.int .u8 0, .string yt, .int .i64 yp] (0, 0) _ HHg.out (fun j v hv => HPr.out j v hv) Tryz.underlying43 rfl (tok_info (0, yt, yp)) ?_)
              | (refine wpList_store_row rfl 43 (.tmp 8) (.tmp 17) rfl wr.heap.size #[.int .u8 0, .string yt, .int .i64 yp] rfl rfl 43 #[.int .u8 0, .string ⟨#[]⟩, .int .i64 0] (HBz.out _) (tok_info (0, yt, yp)) rfl (tok_one (0, yt, yp)) ?_; rw [World.setRow_alloc_new])
              | (refine wpList_store_part rfl 43 (.tmp 32) (.tmp 31) rfl g (i * 3) #[.int .u8 f, .string yt, .int .i64 (yp - fp)] rfl rfl 43 C0 C1 (HRow.out _) HSt.out.2 (tok_info (f, yt, yp - fp)) (tok_one (f, yt, yp - fp)) HSt.out.1 ?_)
              | fail)
            obtain ⟨g1, g2⟩ := HFin.out _ rfl
            have G1 := Lib.hid g1
            have G2 := Lib.hid g2
            clear g1 g2
            go_wp2_with fail
            go_roundw
            case rel => exact ⟨i + 1, by omega, by go_num, by rw [if_neg (by omega)], G1.out, G2.out⟩
            case measure => simp [intOf]; omega
        · obtain rfl : i = n := by omega
          rw [mix_all HN.out.2 HN.out.1.symm] at hg
          have hR2 := (hmd.block W.heap.size (lt_of_heap HR.out) (by have := HG.out.1; omega)).trans HR.out
          have HR2 := Lib.hid hR2
          have HHg := Lib.hid hg
          have HMd := Lib.hid hmd
          clear hg hR2 hmd
          go_wp2_with (refine wpList_store_row rfl 25 (.tmp 4) (.tmp 36) rfl W.heap.size #[.int .i64 1, .int .u8 f, .slice (some ⟨g, 0, none⟩) i cap, .slice none 0 0] rfl rfl 25 #[.int .i64 0, .int .u8 0, .slice none 0 0, .slice none 0 0] HR2.out (node_info (1, f, .slice (some ⟨g, 0, none⟩) i cap, .slice none 0 0)) rfl node_one ?_)
          refine bodyPost_ret (v := rnV (1, f, .slice (some ⟨g, 0, none⟩) i cap, .slice none 0 0)) (results_cell_row rfl _ _ W.heap.size _ _ (0, 0) _ rfl (setRow_heap _ _ _ _ _ _ HR2.out) Tryz.underlying25 rfl (node_info _)) rfl ?_
          refine ⟨((1 : Int), f, .slice (some ⟨g, 0, none⟩) i cap, .slice none 0 0), rfl, ?_, ?_⟩
          · rw [HL.out]
            refine leaf_made HF.out.1 HF.out.2 HN.out.2 (fun j x hj => ⟨g, 0, rfl, ?_⟩) HG.out.2.1 HG.out.2.2 (fun a ha => by injection ha with ha; subst ha; have := HG.out.1; unfold fromB; simp only; omega)
            obtain ⟨k1, k2, k3⟩ := toksC_get A j x hj
            have hl := (List.getElem?_eq_some_iff.1 k3).1
            have hgr := (setRow_other wr W.heap.size g #[.int .i64 1, .int .u8 f, .slice (some ⟨g, 0, none⟩) i cap, .slice none 0 0] (by have := HG.out.1; omega)).trans HHg.out
            refine ⟨?_, ?_, ?_⟩
            · rw [Lib.cell_of_heap hgr, Nat.zero_add]; simp only [List.getElem?_toArray]; rw [List.getElem?_append_left (by omega), k1]
            · rw [Lib.cell_of_heap hgr, Nat.zero_add]; simp only [List.getElem?_toArray]; rw [List.getElem?_append_left (by omega), k2]
            · rw [Lib.cell_of_heap hgr, Nat.zero_add]; simp only [List.getElem?_toArray]; rw [List.getElem?_append_left (by omega), k3]
          · refine below_row ?_ (Nat.le_refl _) _
            have h := HB2.out
            have h2 := (below_one (w := W) (A := .cells #[.int .i64 0, .int .u8 0, .slice none 0 0, .slice none 0 0] 25)).trans (h.mono (by rw [HHW.out]; omega))
            have := HG.out.1
            exact h2.trans ⟨HMd.out.os, HMd.out.tape, HMd.out.output, HMd.out.size, fun k hk => HMd.out.block k (by have := h2.size; omega) (by omega)⟩
end Go.Proofs.YthkpaelpnofbgaaGreatDoor
/-
  A row of bytes of one's own that grows: what is turned by it, and where the new one lies. Over the program's own text.
-/
namespace Go.Proofs.YthkpaelpnofbgaaGreatDoor
open Go.RowKit

/-- A row v in w has become v' in w': only its own block and new ones have turned. -/
structure GB (w : World) (v : Value) (w' : World) (v' : Value) : Prop where
  g : w.grownBy w' v.ownBlock
  o : ∀ k, v'.ownBlock = some k → v.ownBlock = some k ∨ w.heap.size ≤ k
set_option maxRecDepth 100000 in
theorem GB.refl (w : World) (v : Value) : GB w v w v := ⟨World.grownBy.refl w _, fun _ h => .inl h⟩
set_option maxRecDepth 100000 in
theorem GB.trans {a b c : World} {u v x : Value} (h : GB a u b v) (k : GB b v c x) : GB a u c x := by
  refine ⟨⟨k.g.os.trans h.g.os, k.g.tape.trans h.g.tape, k.g.output.trans h.g.output, Nat.le_trans h.g.size k.g.size, fun j hj hne => ?_⟩, fun j hj => ?_⟩
  · refine (k.g.block j (Nat.lt_of_lt_of_le hj h.g.size) (fun e => ?_)).trans (h.g.block j hj hne)
    rcases h.o j e.symm with e' | e'
    · exact hne e'.symm
    · omega
  · rcases k.o j hj with e | e
    · exact h.o j e
    · exact .inr (Nat.le_trans h.g.size e)
set_option maxRecDepth 100000 in
theorem GB.low {a b c : World} {u v : Value} (h : GB a u b v) (k : Below b.heap.size b c) : GB a u c v :=
  h.trans ⟨⟨k.os, k.tape, k.output, k.size, fun j hj _ => k.block j hj⟩, fun _ h => .inl h⟩
set_option maxRecDepth 100000 in
theorem GB.alloc {a b : World} {u v : Value} (h : GB a u b v) (o : Obj) : GB a u (b.alloc o) v := h.low (below_one (w := b) (A := o))
set_option maxRecDepth 100000 in
theorem GB.drew {a b : World} {u v : Value} (h : GB a u b v) : GB a u b.drew v := h.low ⟨rfl, rfl, rfl, Nat.le_refl _, fun _ _ => rfl⟩
set_option maxRecDepth 100000 in
theorem GB.first {a b c : World} {u v : Value} (k : Below a.heap.size a b) (h : GB b u c v) : GB a u c v :=
  (GB.low (GB.refl a u) k).trans h
set_option maxRecDepth 100000 in
theorem GB.below {a b : World} {u v : Value} {B : Nat} {l : List Nat} (h : GB a u b v) (hB : B ≤ a.heap.size) (hr : BytesIn a B u l) : Below B a b :=
  (Below.refl B a).grown h.g hB (fun k hk => (World.ownsRow.lt hr k hk).1)
set_option maxRecDepth 100000 in
theorem bytes_low {w w' : World} {B : Nat} {v : Value} {l : List Nat} (h : BytesIn w B v l) (k : Below w.heap.size w w') : BytesIn w' B v l := by
  refine ⟨h.1, ?_⟩
  rcases h.2 with hn | ⟨g, cap, cur, rfl, hb, hg, rest⟩
  · exact .inl hn
  · exact .inr ⟨g, cap, cur, rfl, hb, (k.block g (lt_of_heap hg)).trans hg, rest⟩
set_option maxRecDepth 100000 in
theorem bytes_alloc {w : World} {B : Nat} {v : Value} {l : List Nat} (h : BytesIn w B v l) (o : Obj) : BytesIn (w.alloc o) B v l := bytes_low h (below_one (w := w) (A := o))
set_option maxRecDepth 100000 in
theorem str_cells (s : ByteArray) : Lib.strCells s = (bytesL s).map fun (b : Nat) => Value.int .u8 (b : Int) := by
  unfold bytesL Lib.strCells
  rw [List.map_map]
  rfl

set_option maxRecDepth 100000 in
theorem run_app_lit (w : World) (ty : TypeId) (B : Nat) (hB : B ≤ w.heap.size) (v : Value) (l m : List Nat) (hv : BytesIn w B v l) (g n : Nat) (cs : Array Value) (hg : w.heap[g]? = some (.cells cs 5 (0, 0))) (hc : cs.toList = m.map fun (b : Nat) => Value.int .u8 (b : Int)) (hn : n = m.length) (hl : l.length + m.length ≤ 100000000) :
    ∃ v' w', (Builtin.append_ #[45, 45] ty #[v, .slice (some ⟨g, 0, none⟩) n n]).run Tryz.prog w = .ok v' w' ∧ BytesIn w' B v' (l ++ m) ∧ GB w v w' v' := by
  obtain ⟨iB, hi, hz0, hz1, hz2⟩ := info_parts info_u8
  subst hn
  obtain ⟨v', w', h1, h2, h3, h4, h5⟩ := run_append_own_at (P := Tryz.prog) w B 45 ty 5 iB (.int .u8 0) 1 1 Tryz.underlying45 hi hz0 hz1 hz2 rfl (by decide) v l.length _ hv ⟨g, 0, none⟩ m.length m.length (m.map fun (b : Nat) => Value.int .u8 (b : Int)) (by simp) (fun j u hj => by
      rw [Addr.add_lit, Nat.zero_add, cell_at hg j, ← Array.getElem?_toList, hc]
      exact hj) (fun u hu => by
      obtain ⟨b, _, rfl⟩ := List.mem_map.1 hu
      rfl) (by unfold maxLen; omega) (by omega) hB
  refine ⟨v', w', h1, ?_, h3, fun k hk => ?_⟩
  · unfold BytesIn
    rw [List.length_append, List.map_append]
    exact h2
  · rcases h5 with h5 | h5
    · exact .inl (by rw [← h5]; exact hk)
    · rw [h5] at hk
      injection hk with hk
      exact .inr (by omega)
set_option maxRecDepth 100000 in
theorem run_app_str (w : World) (ty : TypeId) (B : Nat) (hB : B ≤ w.heap.size) (v : Value) (l : List Nat) (hv : BytesIn w B v l) (s : ByteArray) (hl : l.length + s.size ≤ 100000000) :
    ∃ v' w', (Builtin.append_ #[45, 9] ty #[v, .string s]).run Tryz.prog w = .ok v' w' ∧ BytesIn w' B v' (l ++ bytesL s) ∧ GB w v w' v' := by
  obtain ⟨iB, hi, hz0, hz1, hz2⟩ := info_parts info_u8
  obtain ⟨v', w', h1, h2, h3, h4⟩ := Lib.run_append_own_string (P := Tryz.prog) w B 45 9 ty 5 iB Tryz.underlying45 Tryz.underlying9 hi hz0 hz1 hz2 v l.length _ hv s (by unfold maxLen; omega) (by omega) hB
  refine ⟨v', w', h1, ?_, h3, fun k hk => ?_⟩
  · unfold BytesIn
    rw [List.length_append, List.map_append, bytesL_length, ← str_cells]
    exact h2
  · rcases hv.2 with ⟨rfl, h0⟩ | ⟨g, cap, cur, rfl, hb, hg, hnc, hcm, hcs, ht⟩
    · by_cases hs : s.size = 0
      · rw [h4.2 ⟨rfl, hs⟩] at hk
        cases hk
      · have h6 := run_append_nil_string (P := Tryz.prog) w 45 9 ty 5 iB _ Tryz.underlying45 Tryz.underlying9 hi hz0 s (by omega) (by omega) (by rw [hz2]; omega)
        rw [h6] at h1
        injection h1 with e1 _
        subst e1
        injection hk with hk
        exact .inr (by rw [← hk]; exact Nat.le_refl _)
    · by_cases hr : l.length + s.size ≤ cap
      · by_cases hc0 : 0 < cap
        · obtain ⟨w2, h6, _⟩ := Lib.run_append_fits_string (P := Tryz.prog) w B 45 9 ty 5 iB Tryz.underlying45 Tryz.underlying9 hi hz1 _ l.length cap _ hv s hc0 hr
          rw [h6] at h1
          injection h1 with e1 _
          subst e1
          exact .inl hk
        · have hs : s.size = 0 := by omega
          have hl0 : l.length = 0 := by omega
          have hcc : cap = 0 := by omega
          subst hcc
          have hcur : cur.size = 0 := by simpa using hcs
          have h6 := Lib.run_append_room_string (P := Tryz.prog) w 45 9 ty 5 iB Tryz.underlying45 Tryz.underlying9 hi hz1 g l.length 0 cur hg s (by omega) (by omega)
          rw [h6] at h1
          injection h1 with e1 _
          subst e1
          exact .inl hk
      · have holds := World.ownsRow.cells hv (g := g) rfl
        have h6 := Lib.run_append_grow_string (P := Tryz.prog) w 45 9 ty 5 iB _ Tryz.underlying45 Tryz.underlying9 hi hz0 ⟨g, 0, none⟩ l.length cap _ (by rw [hz1]; simp) holds s (by omega) (by omega) (by rw [hz2]; exact growslice_fits (by omega) (by omega))
        rw [h6] at h1
        injection h1 with e1 _
        subst e1
        injection hk with hk
        exact .inr (by rw [← hk]; exact Nat.le_refl _)
section
variable {ops : Array Oper} {rest : List Oper} {o : Oper} {a : Act} {Q : Exit → Act → World → Prop}
set_option maxRecDepth 100000 in
theorem wp_app_lit {K : Act → World → Prop} (w : World) (s x : Operand) (ho : o.op = .call { callee := .builtin .append, args := #[s, x], argTypes := #[45, 45] })
    (B : Nat) (hB : B ≤ w.heap.size) (v : Value) (l m : List Nat) (hs : a.eval s = v) (hv : BytesIn w B v l) (g n : Nat) (cs : Array Value) (hx : a.eval x = .slice (some ⟨g, 0, none⟩) n n) (hg : w.heap[g]? = some (.cells cs 5 (0, 0))) (hc : cs.toList = m.map fun (b : Nat) => Value.int .u8 (b : Int)) (hn : n = m.length) (hl : l.length + m.length ≤ 100000000)
    (h : ∀ v' w', BytesIn w' B v' (l ++ m) → GB w v w' v' → K (a.put o.dst v') w') : o.wp Tryz.prog a w K Q := by
  obtain ⟨v', w', hr, h2, h3⟩ := run_app_lit w o.type B hB v l m hv g n cs hg hc hn hl
  unfold Oper.wp execOp
  simp only [ho, resolve, invoke, builtin, Sem.run_bind, Sem.run_pure, Result.andThen_ok, List.map_toArray, List.map_cons, List.map_nil, hs, hx, hr]
  exact h v' w' h2 h3
set_option maxRecDepth 100000 in
theorem app_lit (w : World) (hgd : o.guard = none) (s x : Operand) (ho : o.op = .call { callee := .builtin .append, args := #[s, x], argTypes := #[45, 45] })
    (B : Nat) (hB : B ≤ w.heap.size) (v : Value) (l m : List Nat) (hs : a.eval s = v) (hv : BytesIn w B v l) (g n : Nat) (cs : Array Value) (hx : a.eval x = .slice (some ⟨g, 0, none⟩) n n) (hg : w.heap[g]? = some (.cells cs 5 (0, 0))) (hc : cs.toList = m.map fun (b : Nat) => Value.int .u8 (b : Int)) (hn : n = m.length) (hl : l.length + m.length ≤ 100000000)
    (h : ∀ v' w', BytesIn w' B v' (l ++ m) → GB w v w' v' → wpList Tryz.prog ops Q rest (a.put o.dst v') w') : wpList Tryz.prog ops Q (o :: rest) a w :=
  wpList_plain hgd fun _ hK => wp_app_lit w s x ho B hB v l m hs hv g n cs hx hg hc hn hl fun v' w' h2 h3 => hK _ _ (h v' w' h2 h3)
set_option maxRecDepth 100000 in
theorem app_str (w : World) (hgd : o.guard = none) (s x : Operand) (ho : o.op = .call { callee := .builtin .append, args := #[s, x], argTypes := #[45, 9] })
    (B : Nat) (hB : B ≤ w.heap.size) (v : Value) (l : List Nat) (hs : a.eval s = v) (hv : BytesIn w B v l) (t : ByteArray) (hx : a.eval x = .string t) (hl : l.length + t.size ≤ 100000000)
    (h : ∀ v' w', BytesIn w' B v' (l ++ bytesL t) → GB w v w' v' → wpList Tryz.prog ops Q rest (a.put o.dst v') w') : wpList Tryz.prog ops Q (o :: rest) a w := by
  refine wpList_plain hgd fun K hK => ?_
  obtain ⟨v', w', hr, h2, h3⟩ := run_app_str w o.type B hB v l hv t hl
  unfold Oper.wp execOp
  simp only [ho, resolve, invoke, builtin, Sem.run_bind, Sem.run_pure, Result.andThen_ok, List.map_toArray, List.map_cons, List.map_nil, hs, hx, hr]
  exact hK _ _ (h v' w' h2 h3)
end
end Go.Proofs.YthkpaelpnofbgaaGreatDoor
/-
  Layer 17 as it landed: which leaves may be. Over the program's own text.
-/
namespace Go.Proofs.YthkpaelpnofbgaaGreatDoor
open Go.RowKit

set_option maxRecDepth 100000 in
theorem below_oneM {w : World} {A : Obj} : Below w.heap.size w (w.alloc A) := (Below.refl _ w).alloc (Nat.le_refl _) _
set_option maxRecDepth 100000 in
set_option maxHeartbeats 2000000 in
/-- A word that is its only word is itself: the program's words. -/
theorem term_any (w : World) (s : ByteArray) (hs : s.size ≤ 1000000) (hT : TabsIn w) :
    Calls Tryz.prog 37 #[.string s] w fun e w' => e = .returned (.bool (termOk s)) ∧ Below w.heap.size w w' := by
  have HW := Lib.hid (lands_words w s hT hs)
  have HL := Lib.hid (show (wordsT s).length ≤ 1000001 from by
    have := places_len (allT s) 0
    have := allT_le s
    show (placesF 0 (allT s)).length ≤ _
    omega)
  have hb : ∀ x ∈ wordsT s, byteText x.1 = s ↔ x.1 = bytesL s := fun x hx => by
    have ht := (places_term _ _ _ (show x ∈ placesF 0 (allT s) from hx)).1
    have hl := term_lt (allT_term s _ ht)
    exact ⟨fun h => by rw [← h, bytesL_byteText _ hl], fun h => by rw [h, byteText_bytesL]⟩
  have HBt := Lib.hid hb
  clear hb hT hs
  obtain ⟨b, hbb⟩ : ∃ b, b = termOk s := ⟨_, rfl⟩
  rw [← hbb]
  unfold termOk at hbb
  generalize wordsT s = L at *
  rcases L with _ | ⟨x, _ | ⟨y, l⟩⟩
  · simp only at hbb
    subst hbb
    clear HBt HL
    go_enter Tryz.func37, Tryz.ntmps37
    go_wp2_with fail
    refine HW.out.mono ?_
    rintro e w1 ⟨v, rfl, hv, hlow⟩
    obtain ⟨oa, c, rfl, _, _, hr⟩ := toks_reads hv
    have HB := Lib.hid hlow
    clear hv hr hlow
    rw [show ((toksP 0 []).length) = 0 from rfl]
    go_wp2_with fail
    go_ret
    exact ⟨rfl, HB.out⟩
  · simp only at hbb
    have hx := HBt.out x (by simp)
    have hb2 : ((byteText x.1).toList == s.toList) = b := by
      rw [hbb, Bool.eq_iff_iff, beq_iff_eq, beq_iff_eq, ← hx]
      constructor
      · intro e
        rw [ByteArray.toList_eq, ByteArray.toList_eq] at e
        exact ByteArray.ext (Array.toList_inj.1 e)
      · intro e; rw [e]
    obtain ⟨y, hy⟩ : ∃ y, y = byteText x.1 := ⟨_, rfl⟩
    rw [← hy] at hb2
    have HY := Lib.hid (show toksP 0 [x] = [(0, y, (x.2 : Int))] by rw [hy]; rfl)
    clear HBt HL hbb hx hy
    go_enter Tryz.func37, Tryz.ntmps37
    go_wp2_with fail
    refine HW.out.mono ?_
    rintro e w1 ⟨v, rfl, hv, hlow⟩
    rw [HY.out] at hv
    obtain ⟨oa, c, rfl, _, _, hr⟩ := toks_reads hv
    obtain ⟨g, o, rfl, _, c1, _⟩ := hr 0 _ rfl
    simp only at c1
    have HB := Lib.hid hlow
    clear hv hr hlow
    rw [show ([(0, y, (x.2 : Int))] : List Tk).length = 1 from rfl]
    rw [show o + 0 * 3 + 1 = o + 1 by omega] at c1
    go_wp2_with fail
    go_ret
    exact ⟨rfl, HB.out⟩
  · simp only at hbb
    subst hbb
    obtain ⟨n, hn⟩ : ∃ n, n = (toksP 0 (x :: y :: l)).length := ⟨_, rfl⟩
    have hn2 : 2 ≤ n ∧ n ≤ 1000001 := by
      rw [hn, toksP_length]
      exact ⟨by simp, HL.out⟩
    have HN := Lib.hid hn
    have h2 := hn2.1
    have h3 := hn2.2
    have h4 : ¬ n = 1 := by omega
    clear HBt HL hn hn2
    go_enter Tryz.func37, Tryz.ntmps37
    go_wp2_with fail
    refine HW.out.mono ?_
    rintro e w1 ⟨v, rfl, hv, hlow⟩
    obtain ⟨oa, c, rfl, _, _, hr⟩ := toks_reads hv
    have HB := Lib.hid hlow
    clear hv hr hlow
    rw [← HN.out]
    clear HN
    have h5 : ((n : Int) == 1) = false := beq_eq_false_iff_ne.2 (by omega)
    go_wp2_with fail
    go_ret
    exact ⟨rfl, HB.out⟩
set_option maxRecDepth 100000 in
theorem bracketed_any (w : World) (p k : Int) : Calls Tryz.prog 24 #[.int .i64 p, .int .i64 k] w fun e w' => e = .returned (.bool (brk p k)) ∧ w' = w := by
  unfold brk
  by_cases h3 : k = 3
  · subst h3
    go_enter Tryz.func24, Tryz.ntmps24
    go_wp2_with fail
    go_ret
    exact ⟨rfl, rfl⟩
  · have e3 : (k == 3) = false := beq_eq_false_iff_ne.2 h3
    by_cases h2 : k = 2
    · subst h2
      by_cases hp : p = 3
      · subst hp
        go_enter Tryz.func24, Tryz.ntmps24
        go_wp2_with fail
        go_ret
        exact ⟨rfl, rfl⟩
      · have ep : (p == 3) = false := beq_eq_false_iff_ne.2 hp
        have ep2 : (p != 3) = true := by rw [bne, ep]; rfl
        rw [ep2]
        go_enter Tryz.func24, Tryz.ntmps24
        go_wp2_with fail
        go_ret
        exact ⟨rfl, rfl⟩
    · have e2 : (k == 2) = false := beq_eq_false_iff_ne.2 h2
      rw [e3, e2]
      go_enter Tryz.func24, Tryz.ntmps24
      go_wp2_with fail
      go_ret
      exact ⟨rfl, rfl⟩

/-- What is left of a leaf's terms. -/
def restB (f : Int) (i : Nat) (last : Int) (l : List Tk) : Bool := if i = 0 then mayLeafB f l else mayTs f last l
set_option maxRecDepth 100000 in
theorem restB_nil (f : Int) (i : Nat) (last : Int) : restB f i last [] = true := by
  unfold restB mayLeafB
  split <;> simp [mayTs]
set_option maxRecDepth 100000 in
theorem restB_cons (f : Int) (i : Nat) (last : Int) (t : Tk) (l : List Tk) (h : i = 0 → last = -1) :
    restB f i last (t :: l) = (!(decide (i = 0) && t.2.2 != 0) && !decide (t.2.2 ≤ last) && !decide (256 < t.2.2) && !(t.1 != f) && termOk t.2.1 && restB f (i + 1) t.2.2 l) := by
  unfold restB
  rw [if_neg (by omega : ¬ i + 1 = 0)]
  by_cases hi : i = 0
  · rw [if_pos hi]
    unfold mayLeafB
    rw [mayTs, h hi, Bool.eq_iff_iff]
    simp [hi, bne]
    constructor
    · rintro ⟨a, ⟨⟨⟨⟨b, c⟩, d⟩, e⟩, g⟩⟩; exact ⟨⟨⟨⟨⟨a, b⟩, c⟩, d⟩, e⟩, g⟩
    · rintro ⟨⟨⟨⟨⟨a, b⟩, c⟩, d⟩, e⟩, g⟩; exact ⟨a, ⟨⟨⟨⟨b, c⟩, d⟩, e⟩, g⟩⟩
  · rw [if_neg hi, mayTs, Bool.eq_iff_iff]
    simp [hi, bne]

set_option maxRecDepth 100000 in
set_option maxHeartbeats 4000000 in
theorem mayLeaf_any (w : World) (S : Nat → Prop) (k f : Int) (ts : List Tk) (ks : List Nd) (r : Rn) (h : RdN w S (.mk k f ts ks) r) (hT : TabsIn w) (hn3 : ts.length ≤ 1000000) (hsz : ∀ t ∈ ts, t.2.1.size ≤ 1000000) (hkn : ks.length ≤ 1000000) :
    Calls Tryz.prog 23 #[rnV r] w fun e w' => e = .returned (.bool (okL f ts ks)) ∧ Below w.heap.size w w' := by
  cases h with
  | @mk _ _ _ _ ta ka tc kc rs hf0 hf1 ht htl htm htb hk hkl hkm hkb hl hr =>
  obtain ⟨m, hm⟩ : ∃ m, m = ks.length := ⟨_, rfl⟩
  obtain ⟨n, hn⟩ : ∃ n, n = ts.length := ⟨_, rfl⟩
  have HN := Lib.hid hn
  have HTm := Lib.hid (fun (s : ByteArray) (hs : s.size ≤ 1000000) (b : Bool) (hb : termOk s = b) wx (hb2 : Below w.heap.size w wx) => (show Calls Tryz.prog 37 #[.string s] wx fun e w' => e = .returned (.bool b) ∧ Below wx.heap.size wx w' from hb ▸ term_any wx s hs (hT.below hb2)))
  have HK := Lib.hid (And.intro ht hsz)
  obtain ⟨res, hres⟩ : ∃ b, b = okL f ts ks := ⟨_, rfl⟩
  rw [← hres]
  have hres2 : res = (decide (m = 0) && decide (f < 4) && restB f 0 (-1) ts) := by
    rw [hres]
    unfold okL restB
    rw [if_pos rfl, hm, show ks.isEmpty = decide (ks.length = 0) by cases ks <;> simp]
    simp [hf0]
  rw [← hm] at hkn
  rw [← hn] at hn3
  rw [← hm, ← hn, show rnV (k, f, .slice ta n tc, .slice ka m kc) = .agg #[.int .i64 k, .int .u8 f, .slice ta n tc, .slice ka m kc] from rfl]
  obtain ⟨X, hX⟩ : ∃ X : Obj, X = .cells #[.int .i64 k, .int .u8 f, .slice ta n tc, .slice ka m kc] 25 := ⟨_, rfl⟩
  have hx1 : (w.alloc X).heap[w.heap.size]? = some (.cells #[.int .i64 k, .int .u8 f, .slice ta n tc, .slice ka m kc] 25 (0, 0)) := by rw [heap_alloc_new w X, hX]
  have HB1 := Lib.hid (And.intro (below_one (w := w) (A := X)) hx1)
  have c1 := cell_at hx1 1
  have c2 := cell_at hx1 2
  have c3 := cell_at hx1 3
  simp only [List.getElem?_toArray, List.getElem?_cons_zero, List.getElem?_cons_succ] at c1 c2 c3
  clear hm hn ht htl htm htb hk hkl hkm hkb hl hr hsz hT hx1 hres
  go_enter Tryz.func23, Tryz.ntmps23
  go_upto_region 1 with fail
  rw [← hX]
  clear hX
  generalize w.alloc X = w1 at HB1 c1 c2 c3 ⊢
  by_cases hm0 : 0 < m
  · have hm1 : (0 : Int) < (m : Int) := by omega
    have hr2 : res = false := by rw [hres2, decide_eq_false (by omega)]; rfl
    subst hr2
    clear hres2
    go_wp2_with fail
    go_ret
    exact ⟨rfl, HB1.out.1⟩
  have hm2 : m = 0 := by omega
  subst hm2
  by_cases hf4 : 4 ≤ f
  · have hr2 : res = false := by rw [hres2, decide_eq_false (by omega : ¬ f < 4)]; simp
    subst hr2
    clear hres2
    go_wp2_with fail
    go_ret
    exact ⟨rfl, HB1.out.1⟩
  have hres3 : res = restB f 0 (-1) ts := by rw [hres2, decide_eq_true (by omega : f < 4)]; simp
  have HRes := Lib.hid hres3
  clear hres2 hres3
  have hf5 : f < 4 := by omega
  go_wp2_with fail
  clear c1 c2 c3
  go_loopg [3, 18] n (fun g s3 s18 wr => ∃ (i : Nat) (last : Int), i + g = n ∧ s18 = .int .i64 (i : Int) ∧ s3 = .int .i64 last ∧ Hid (res = restB f i last (ts.drop i) ∧ (i = 0 → last = -1)) ∧ Hid (Below w1.heap.size w1 wr))
  case atStart => exact ⟨0, -1, by omega, rfl, rfl, Lib.hid ⟨HRes.out, fun _ => rfl⟩, Lib.hid (Below.refl _ _)⟩
  case round =>
    obtain ⟨i, last, hig, rfl, rfl, HI, HB⟩ := hrel
    cases gk with
    | zero =>
      have hi : n = i := by omega
      have hr2 : res = true := by
        rw [HI.out.1, List.drop_eq_nil_of_le (by have := HN.out; omega), restB_nil]
      subst hr2
      subst hi
      go_wp2_with fail
      go_ret
      exact ⟨rfl, low_more HB1.out.1 HB.out⟩
    | succ g =>
      have hlt : i < n := by omega
      obtain ⟨⟨tf, tt, tp⟩, htt⟩ : ∃ t, ts[i]? = some t := ⟨_, List.getElem?_eq_getElem (by rw [← HN.out]; exact hlt)⟩
      obtain ⟨gt, ot, rfl, k0, k1, k2⟩ := HK.out.1 i _ htt
      simp only at k0 k1 k2
      have hsz := HK.out.2 _ (List.mem_of_getElem? htt)
      simp only at hsz
      have hbw := low_more HB1.out.1 HB.out
      have d0 := hb_cell hbw k0
      have d1 := hb_cell hbw k1
      have d2 := hb_cell hbw k2
      have hcons : ts.drop i = (tf, tt, tp) :: ts.drop (i + 1) := by
        obtain ⟨_, he⟩ := List.getElem?_eq_some_iff.1 htt
        rw [← he]
        exact List.drop_eq_getElem_cons (by rw [← HN.out]; exact hlt)
      have hr2 : res = (!(decide (i = 0) && tp != 0) && !decide (tp ≤ last) && !decide (256 < tp) && !(tf != f) && termOk tt && restB f (i + 1) tp (ts.drop (i + 1))) := by
        rw [HI.out.1, hcons, restB_cons f i last _ _ HI.out.2]
      have HR2 := Lib.hid hr2
      have q1 := cell_at (blkT HB1.out.2 HB.out) 1
      simp only [List.getElem?_toArray, List.getElem?_cons_zero, List.getElem?_cons_succ] at q1
      have hsw : w.heap.size < wr.heap.size := lt_of_heap (blkT HB1.out.2 HB.out)
      have hlti : (i : Int) < (n : Int) := by omega
      have hi1 : IntKind.i64.wrap ((i : Int) + 1) = (i : Int) + 1 := IntWalk.i64_in _ (by omega)
      have HT2 := Lib.hid (fun (b : Bool) (hb : termOk tt = b) wx (hb2 : Below wr.heap.size wr wx) => HTm.out tt hsz b hb wx (low_more hbw hb2))
      have HBw := Lib.hid hbw
      clear k0 k1 k2 htt hsz hbw hcons hr2
      by_cases hi0 : i = 0
      · skip
        subst hi0
        rw [Nat.zero_mul, Nat.add_zero] at d0 d1 d2
        obtain rfl : last = -1 := HI.out.2 rfl
        by_cases hp : tp = 0
        case neg =>
          have e1 : (tp != 0) = true := bne_iff_ne.2 hp
          have hz : res = false := by rw [HR2.out, e1]; rfl
          subst hz
          go_wp2_with fail
          go_ret
          exact ⟨rfl, low_more HBw.out below_oneM⟩
        subst hp
        have HR3 := Lib.hid (show res = (!(tf != f) && termOk tt && restB f 1 0 (ts.drop 1)) from by rw [HR2.out]; rfl)
        clear HR2
        by_cases hp3 : tf = f
        case neg =>
          have e3 : (tf != f) = true := bne_iff_ne.2 hp3
          have hz : res = false := by rw [HR3.out, e3]; rfl
          subst hz
          go_wp2_with fail
          go_ret
          exact ⟨rfl, low_more HBw.out below_oneM⟩
        have e3 : (tf != f) = false := by simp [hp3]
        have hq : res = (termOk tt && restB f 1 0 (ts.drop 1)) := by rw [HR3.out, e3]; rfl
        obtain ⟨b, hb⟩ : ∃ b, termOk tt = b := ⟨_, rfl⟩
        rw [hb] at hq
        have HQ := Lib.hid hq
        have HT3 := Lib.hid (HT2.out b hb)
        clear hq hb HR3
        cases b
        · have hz : res = false := by rw [HQ.out]; rfl
          subst hz
          go_wp2_with fail
          refine (HT3.out _ below_oneM).mono ?_
          rintro e wz ⟨rfl, hbz⟩
          have HZ := Lib.hid (low_more below_oneM hbz)
          clear hbz
          go_wp2_with fail
          go_ret
          exact ⟨rfl, low_more HBw.out HZ.out⟩
        · have HQ2 := Lib.hid (show res = restB f 1 0 (ts.drop 1) from by rw [HQ.out]; rfl)
          go_wp2_with fail
          refine (HT3.out _ below_oneM).mono ?_
          rintro e wz ⟨rfl, hbz⟩
          have HZ := Lib.hid (low_more below_oneM hbz)
          have u2 := cell_at (blk_low (heap_alloc_new wr (.cells #[.int .u8 f, .string tt, .int .i64 0] 43)) hbz) 2
          simp only [List.getElem?_toArray, List.getElem?_cons_zero, List.getElem?_cons_succ] at u2
          clear hbz d0 d1 d2 q1
          go_wp2_with fail
          go_roundg g
          case measure => omega
          case rel => exact ⟨1, 0, by omega, by go_num, rfl, Lib.hid ⟨HQ2.out, fun h => by omega⟩, Lib.hid (low_more HB.out HZ.out)⟩
      · skip
        have ei : ((i : Int) == 0) = false := beq_eq_false_iff_ne.2 (by omega)
        have HR3 := Lib.hid (show res = (!decide (tp ≤ last) && !decide (256 < tp) && !(tf != f) && termOk tt && restB f (i + 1) tp (ts.drop (i + 1))) from by rw [HR2.out, decide_eq_false hi0]; rfl)
        clear HR2
        by_cases hp1 : tp ≤ last
        · have hz : res = false := by rw [HR3.out, decide_eq_true hp1]; rfl
          subst hz
          go_wp2_with fail
          go_ret
          exact ⟨rfl, low_more HBw.out below_oneM⟩
        by_cases hp2 : 256 < tp
        · have hz : res = false := by rw [HR3.out, decide_eq_false hp1, decide_eq_true hp2]; rfl
          subst hz
          go_wp2_with fail
          go_ret
          exact ⟨rfl, low_more HBw.out below_oneM⟩
        by_cases hp3 : tf = f
        case neg =>
          have e3 : (tf != f) = true := bne_iff_ne.2 hp3
          have hz : res = false := by rw [HR3.out, decide_eq_false hp1, decide_eq_false hp2, e3]; rfl
          subst hz
          go_wp2_with fail
          go_ret
          exact ⟨rfl, low_more HBw.out below_oneM⟩
        have e3 : (tf != f) = false := by simp [hp3]
        have hq : res = (termOk tt && restB f (i + 1) tp (ts.drop (i + 1))) := by rw [HR3.out, decide_eq_false hp1, decide_eq_false hp2, e3]; rfl
        obtain ⟨b, hb⟩ : ∃ b, termOk tt = b := ⟨_, rfl⟩
        rw [hb] at hq
        have HQ := Lib.hid hq
        have HT3 := Lib.hid (HT2.out b hb)
        clear hq hb HR3
        cases b
        · have hz : res = false := by rw [HQ.out]; rfl
          subst hz
          go_wp2_with fail
          refine (HT3.out _ below_oneM).mono ?_
          rintro e wz ⟨rfl, hbz⟩
          have HZ := Lib.hid (low_more below_oneM hbz)
          clear hbz
          go_wp2_with fail
          go_ret
          exact ⟨rfl, low_more HBw.out HZ.out⟩
        · have HQ2 := Lib.hid (show res = restB f (i + 1) tp (ts.drop (i + 1)) from by rw [HQ.out]; rfl)
          go_wp2_with fail
          refine (HT3.out _ below_oneM).mono ?_
          rintro e wz ⟨rfl, hbz⟩
          have HZ := Lib.hid (low_more below_oneM hbz)
          have u2 := cell_at (blk_low (heap_alloc_new wr (.cells #[.int .u8 f, .string tt, .int .i64 tp] 43)) hbz) 2
          simp only [List.getElem?_toArray, List.getElem?_cons_zero, List.getElem?_cons_succ] at u2
          clear hbz d0 d1 d2 q1
          go_wp2_with fail
          go_roundg g
          case measure => omega
          case rel => exact ⟨i + 1, tp, by omega, by go_num, rfl, Lib.hid ⟨HQ2.out, fun h => by omega⟩, Lib.hid (low_more HB.out HZ.out)⟩
end Go.Proofs.YthkpaelpnofbgaaGreatDoor
