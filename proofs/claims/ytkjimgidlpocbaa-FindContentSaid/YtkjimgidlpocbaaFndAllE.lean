/-
  A program that nobody disturbs, Step by Step: what holds between its Steps, and behind the last one. Over the program's own text.
  A Step that ends a program: the run is over. Over any program's text.
  Layer 15's laws: a program run whole; the laws' closures. Over the program's own text.
  Layer 15's laws: the chapter's example. Over the program's own text.
  Layer 15's laws: each list below any document is read as it is. Over the program's own text.
  A program that loads alone and ends along every way, on any memory, Step by Step. Over the program's own text.
  Layer 15's laws: on any memory each of them ends, and nothing is stored. Over the program's own text.
  Layer 15's laws: whoever reads all lists has the content. Over the program's own text.
  Layer 15's laws: whoever reads all lists, key by key, has the content. Over the program's own text.
-/
import Derived.Test.YtkjimgidlpocbaaAccStep
import Derived.Test.YtkjimgidlpocbaaFndAllD
import Derived.Test.YtkjimgidlpocbaaFndAllB
import Derived.Test.YtkjimgidlpocbaaFndAllA
import Derived.Test.YtkjimgidlpocbaaFindPure
import Derived.Laws.Slices
namespace Go.Proofs.Ytkjimgidlpocbaa
open Go.RowKit
variable {α : Type}

/-- The blocks that a program run by itself turns. -/
def Own (S : Nat → Prop) (mb cb : Nat) (k : Nat) : Prop := S k ∨ k = mb ∨ k = cb
/-- It is over. -/
structure Final (W : World) (mb cb : Nat) (S : Nat → Prop) (I : World → Prop) (Post : α → World → Prop) (x : α) (cs' : List Int) (t : Int) (wx : World) : Prop where
  mem : ∃ l s, MemAt wx mb cb cs' l s ∧ 0 ≤ l ∧ 0 ≤ s ∧ l + s ≤ t
  cells : ∀ y ∈ cs', U y
  inv : I wx
  post : Post x wx
  mod : Mod (Own S mb cb) W wx
/-- It is on its way, behind i Steps. -/
structure Going (W : World) (rb mb cb : Nat) (S : Nat → Prop) (I : World → Prop) (p : Pr α) (x : α) (cs' : List Int) (t : Int) (n i : Nat) (wx : World) : Prop where
  at_ : ∃ q st go m, RM wx rb mb cb go false st ∧ At p q st ∧ Does q st.cs m x cs' ∧ m + i = n ∧ st.log.length ≤ i ∧ 0 ≤ st.l ∧ 0 ≤ st.s ∧ st.l + st.s + m ≤ t ∧ (∀ y ∈ st.log, U y) ∧ (∀ y ∈ st.cs, U y) ∧ (∀ g, go = some g → W.heap.size ≤ g)
  inv : I wx
  mod : Mod (Own S mb cb) W wx

theorem stepA_u {p : Pr α} {st : St} {B : Nat} (h : ({ st with at_ := 0, made := false } : St).Fine B) (ho : st.over = false) : (∀ y ∈ (st.stepA p).log, U y) ∧ ∀ y ∈ (st.stepA p).cs, U y := by
  have := on_fine p _ h
  unfold St.stepA
  rw [if_neg (by simp [ho])]
  exact ⟨this.ok.log_u, this.ok.cs_u⟩

theorem Going.new {W w0 w1 : World} {rb mb cb : Nat} {S : Nat → Prop} {I : World → Prop} {p : Pr α} {x : α} {cs cs' : List Int} {l s : Int} {n : Nat} (hm : MemAt W mb cb cs l s) (h0 : 0 ≤ l) (h1 : 0 ≤ s) (hcu : ∀ y ∈ cs, U y) (hd : Does p cs n x cs') (hb : Below W.heap.size W w1) (hr : RunAt w1 rb mb none 0 [] 0 false false false false 0) (hI : I w1) (hw : w0 = W) :
    Going W rb mb cb S I p x cs' (l + s + n) n 0 w1 := by
  subst hw
  exact ⟨⟨p, ⟨[], 0, false, false, false, 0, cs, l, s⟩, none, n, ⟨⟨0, hr⟩, hm.below hb, by simp⟩, At.new p cs l s, hd, by omega, by simp, h0, h1, by show l + s + (n : Int) ≤ l + s + (n : Int); omega, by simp, hcu, by simp⟩, hI, Below.mod hb _ fun k hk hk' => by omega⟩

theorem Going.stepE {W w : World} {rb mb cb : Nat} {F : FuncId} {caps : Array Value} {S : Nat → Prop} {I : World → Prop} {p : Pr α} {Post : α → World → Prop} {x : α} {cs' : List Int} {t : Int} {n i B : Nat} (h : Going W rb mb cb S I p x cs' t n i w) (hrb : W.heap.size ≤ rb)
    (hC : Clo F caps rb mb cb S I p Post B) (hS : ∀ k, S k → k < W.heap.size ∧ k ≠ mb ∧ k ≠ cb) (hn : n + 1 ≤ B) (ht : t + 1 ≤ B) :
    Calls Try.prog 19 #[.pointer (some ⟨rb, 0, none⟩), .func (.func F) #[] caps] w fun e w' => (e = .returned (.bool true) ∧ Final W mb cb S I Post x cs' t w' ∧ ∃ cap go' log at_ ma off ov, RunAt w' rb mb go' cap log at_ false ma off ov 0) ∨ (e = .returned (.bool false) ∧ Going W rb mb cb S I p x cs' t n (i + 1) w' ∧ i < n) := by
  obtain ⟨⟨q, st, go, m, hrm, hat, hd, hmi, hlog, h0, h1, hsum, hlu, hcu, hgo⟩, hI, hmod⟩ := h
  have hfine := hat.fine (B := B) (by omega) h0 h1 (by omega) hlu hcu
  have hfar : ∀ k, S k → ¬ Feet rb mb cb go k := by
    intro k hk
    obtain ⟨a1, a2, a3⟩ := hS k hk
    rintro (e | e | e | e)
    · omega
    · have := hgo k e; omega
    · exact a2 e
    · exact a3 e
  obtain ⟨hin, hd', hnx⟩ := hd.step
  have hst := step_next hat hin
  refine (step_goA hrm hat.over hat.off hfine hC hI hfar).mono ?_
  rintro e w' ⟨rfl, go', hrm', hadv, hI', hP'⟩
  have hu := stepA_u (p := p) hfine hat.over
  generalize hst1 : st.stepA p = st' at *
  rw [hst.over]
  have hgo' : ∀ g, go' = some g → W.heap.size ≤ g := by
    intro g hg
    rcases hadv.grows with e | ⟨g', e, hg'⟩
    · exact hgo g (by rw [← e]; exact hg)
    · rw [e] at hg; cases hg
      exact Nat.le_trans hmod.size hg'
  have hmod' : Mod (Own S mb cb) W w' := hmod.then hadv.mod (by
    rintro k hk (e | e | e | e | e)
    · exact .inl e
    · omega
    · have := hgo k e; omega
    · exact .inr (.inl e)
    · exact .inr (.inr e))
  have hs := hst.sum
  have hl0 := hst.l0
  have hs0 := hst.s0
  have hcount := hst.count
  cases hr : (q.next st.cs).1.isRet with
  | true =>
    left
    have hn1 : ∃ y, (q.next st.cs).1 = .ret y := by
      generalize (q.next st.cs).1 = r at hr
      cases r with
      | ret y => exact ⟨y, rfl⟩
      | load a k => cases hr
      | store a v k => cases hr
    obtain ⟨y, hy⟩ := hn1
    rw [hy] at hd'
    obtain ⟨rfl, hcs, hz⟩ := hd'.end_
    refine ⟨rfl, ⟨⟨st'.l, st'.s, ?_, by omega, by omega, ?_⟩, ?_, hI', hP' y ?_, hmod'⟩, ?_⟩
    · rw [hcs, ← hst.cells]; exact hrm'.mem
    · rcases q with _ | _ | _
      · have e : st' = st.stepA p := hst1.symm
        have ho := on_ahead hat
        have : st'.l = st.l ∧ st'.s = st.s := by
          rw [e]
          unfold St.stepA St.shut
          rw [if_neg (by simp [hat.over]), ho]
          exact ⟨rfl, rfl⟩
        omega
      · cases hd with
        | load _ _ hd3 => omega
      · cases hd with
        | store _ _ hd3 => omega
    · rw [hcs, ← hst.cells]; exact hu.2
    · rw [hst.ans, hy]; rfl
    · obtain ⟨cap, hr2⟩ := hrm'.run
      rw [hst.err] at hr2
      exact ⟨cap, go', _, _, _, _, _, hr2⟩
  | false =>
    right
    have hm0 : 0 < m := by
      rcases hnx with h | h
      · exact h
      · rw [h] at hr; cases hr
    refine ⟨rfl, ⟨⟨(q.next st.cs).1, st', go', m - 1, hrm', hst.at_ hr, ?_, by omega, by omega, by omega, by omega, by omega, hu.1, hu.2, hgo'⟩, hI', hmod'⟩, by omega⟩
    rw [hst.cells]
    exact hd'
theorem Going.step {W w : World} {rb mb cb : Nat} {F : FuncId} {caps : Array Value} {S : Nat → Prop} {I : World → Prop} {p : Pr α} {Post : α → World → Prop} {x : α} {cs' : List Int} {t : Int} {n i B : Nat} (h : Going W rb mb cb S I p x cs' t n i w) (hrb : W.heap.size ≤ rb)
    (hC : Clo F caps rb mb cb S I p Post B) (hS : ∀ k, S k → k < W.heap.size ∧ k ≠ mb ∧ k ≠ cb) (hn : n + 1 ≤ B) (ht : t + 1 ≤ B) :
    Calls Try.prog 19 #[.pointer (some ⟨rb, 0, none⟩), .func (.func F) #[] caps] w fun e w' => (e = .returned (.bool true) ∧ Final W mb cb S I Post x cs' t w') ∨ (e = .returned (.bool false) ∧ Going W rb mb cb S I p x cs' t n (i + 1) w' ∧ i < n) :=
  (h.stepE hrb hC hS hn ht).mono fun _ _ h => h.imp (fun h => ⟨h.1, h.2.1⟩) id
end Go.Proofs.Ytkjimgidlpocbaa

namespace Go.Proofs.Ytkjimgidlpocbaa
open Go.RowKit
variable {α : Type}
theorem Going.stepO {W w : World} {rb mb cb : Nat} {F : FuncId} {caps : Array Value} {S : Nat → Prop} {I : World → Prop} {p : Pr α} {Post : α → World → Prop} {x : α} {cs' : List Int} {t : Int} {n i B : Nat} (h : Going W rb mb cb S I p x cs' t n i w) (hrb : W.heap.size ≤ rb)
    (hC : Clo F caps rb mb cb S I p Post B) (hS : ∀ k, S k → k < W.heap.size ∧ k ≠ mb ∧ k ≠ cb) (hn : n + 1 ≤ B) (ht : t + 1 ≤ B) :
    Calls Try.prog 19 #[.pointer (some ⟨rb, 0, none⟩), .func (.func F) #[] caps] w fun e w' => (e = .returned (.bool true) ∧ Final W mb cb S I Post x cs' t w' ∧ ∃ cap go' log at_ ma off, RunAt w' rb mb go' cap log at_ false ma off true 0) ∨ (e = .returned (.bool false) ∧ Going W rb mb cb S I p x cs' t n (i + 1) w' ∧ i < n) := by
  obtain ⟨⟨q, st, go, m, hrm, hat, hd, hmi, hlog, h0, h1, hsum, hlu, hcu, hgo⟩, hI, hmod⟩ := h
  have hfine := hat.fine (B := B) (by omega) h0 h1 (by omega) hlu hcu
  have hfar : ∀ k, S k → ¬ Feet rb mb cb go k := by
    intro k hk
    obtain ⟨a1, a2, a3⟩ := hS k hk
    rintro (e | e | e | e)
    · omega
    · have := hgo k e; omega
    · exact a2 e
    · exact a3 e
  obtain ⟨hin, hd', hnx⟩ := hd.step
  have hst := step_next hat hin
  refine (step_goA hrm hat.over hat.off hfine hC hI hfar).mono ?_
  rintro e w' ⟨rfl, go', hrm', hadv, hI', hP'⟩
  have hu := stepA_u (p := p) hfine hat.over
  generalize hst1 : st.stepA p = st' at *
  rw [hst.over]
  have hgo' : ∀ g, go' = some g → W.heap.size ≤ g := by
    intro g hg
    rcases hadv.grows with e | ⟨g', e, hg'⟩
    · exact hgo g (by rw [← e]; exact hg)
    · rw [e] at hg; cases hg
      exact Nat.le_trans hmod.size hg'
  have hmod' : Mod (Own S mb cb) W w' := hmod.then hadv.mod (by
    rintro k hk (e | e | e | e | e)
    · exact .inl e
    · omega
    · have := hgo k e; omega
    · exact .inr (.inl e)
    · exact .inr (.inr e))
  have hs := hst.sum
  have hl0 := hst.l0
  have hs0 := hst.s0
  have hcount := hst.count
  cases hr : (q.next st.cs).1.isRet with
  | true =>
    left
    have hn1 : ∃ y, (q.next st.cs).1 = .ret y := by
      generalize (q.next st.cs).1 = r at hr
      cases r with
      | ret y => exact ⟨y, rfl⟩
      | load a k => cases hr
      | store a v k => cases hr
    obtain ⟨y, hy⟩ := hn1
    rw [hy] at hd'
    obtain ⟨rfl, hcs, hz⟩ := hd'.end_
    refine ⟨rfl, ⟨⟨st'.l, st'.s, ?_, by omega, by omega, ?_⟩, ?_, hI', hP' y ?_, hmod'⟩, ?_⟩
    · rw [hcs, ← hst.cells]; exact hrm'.mem
    · rcases q with _ | _ | _
      · have e : st' = st.stepA p := hst1.symm
        have ho := on_ahead hat
        have : st'.l = st.l ∧ st'.s = st.s := by
          rw [e]
          unfold St.stepA St.shut
          rw [if_neg (by simp [hat.over]), ho]
          exact ⟨rfl, rfl⟩
        omega
      · cases hd with
        | load _ _ hd3 => omega
      · cases hd with
        | store _ _ hd3 => omega
    · rw [hcs, ← hst.cells]; exact hu.2
    · rw [hst.ans, hy]; rfl
    · obtain ⟨cap, hr2⟩ := hrm'.run
      rw [hst.err, hst.over, hr] at hr2
      exact ⟨cap, go', _, _, _, _, hr2⟩
  | false =>
    right
    have hm0 : 0 < m := by
      rcases hnx with h | h
      · exact h
      · rw [h] at hr; cases hr
    refine ⟨rfl, ⟨⟨(q.next st.cs).1, st', go', m - 1, hrm', hst.at_ hr, ?_, by omega, by omega, by omega, by omega, by omega, hu.1, hu.2, hgo'⟩, hI', hmod'⟩, by omega⟩
    rw [hst.cells]
    exact hd'
end Go.Proofs.Ytkjimgidlpocbaa

namespace Go.Proofs.Ytkjimgidlpocbaa
open Go.RowKit
section
variable {α : Type}
set_option maxHeartbeats 1000000 in
theorem whole15 {W : World} {mb cb : Nat} {cs cs' : List Int} {l s : Int} {F : FuncId} {caps : Array Value} {S : Nat → Prop} {I : World → Prop} {p : Pr α} {Post : α → World → Prop} {x : α} {n B : Nat} (most : Nat) (hm : MemAt W mb cb cs l s) (h0 : 0 ≤ l) (h1 : 0 ≤ s) (hcu : ∀ y ∈ cs, U y) (hd : Does p cs n x cs')
    (hC : ∀ rb, W.heap.size ≤ rb → Clo F caps rb mb cb S I p Post B) (hI : I W) (hS : ∀ k, S k → k < W.heap.size ∧ k ≠ mb ∧ k ≠ cb) (hn : n < most) (hmost : most ≤ 1000000) (hn2 : n + 1 ≤ B) (ht : l + s + n + 1 ≤ B) :
    Calls Try.prog 11 #[.pointer (some ⟨mb, 0, none⟩), .int .i64 (most : Int), .func (.func F) #[] caps] W fun e w' => e = .returned (.bool true) ∧ Final W mb cb S I Post x cs' (l + s + n) w' := by
  have HG := Lib.hid (fun (w1 : World) (hb : Below W.heap.size W w1) (hr : RunAt w1 W.heap.size mb none 0 [] 0 false false false false 0) => Going.new (rb := W.heap.size) (S := S) (I := I) (w0 := W) hm h0 h1 hcu hd hb hr ((hC _ (Nat.le_refl _)).keepI W w1 hI hb.size fun k hk hl => hb.block k hl) rfl)
  have HC := Lib.hid (hC W.heap.size (Nat.le_refl _))
  have HS := Lib.hid hS
  have HT := Lib.hid ht
  clear hm hcu hd hC hI hS ht h0 h1
  go_enter Try.func11, Try.ntmps11
  go_wp2_with fail
  refine (new_run _ mb).mono ?_; rintro e w1 ⟨rfl, hr, hb⟩
  have HG := Lib.hid (HG.out w1 hb hr)
  clear hr hb
  go_wp2_with fail
  go_loopw [11] (fun iv wr => ∃ i : Nat, i ≤ n ∧ iv = .int .i64 i ∧ Going W W.heap.size mb cb S I p x cs' (l + s + n) n i wr) (fun iv _ => most - (intOf iv).toNat)
  case atStart => exact ⟨0, by omega, rfl, HG.out⟩
  case round =>
    clear HG
    obtain ⟨i, hi, rfl, hg⟩ := hrel
    have hlt : (i : Int) < (most : Int) := by omega
    have HK := Lib.hid (hg.stepO (Nat.le_refl _) HC.out HS.out hn2 HT.out)
    clear hg
    go_wp2_with fail
    refine HK.out.mono ?_
    clear HK
    rintro e w2 (⟨rfl, hf, cap, go', log, at_, ma, off, hr⟩ | ⟨rfl, hg, hin⟩)
    · have HF := Lib.hid hf
      have HR := Lib.hid hr
      clear hf hr
      go_wp2_with (first
        | (go_at_call 23; refine (over_at HR.out).mono ?_; rintro e w3 ⟨rfl, rfl⟩)
        | (go_at_call 33; refine (err_at HR.out).mono ?_; rintro e w3 ⟨rfl, rfl⟩)
        | fail)
      go_ret
      exact ⟨rfl, HF.out⟩
    · have HG := Lib.hid hg
      clear hg
      go_wp2_with fail
      go_roundw
      case rel => exact ⟨i + 1, by omega, by go_num, HG.out⟩
      case measure => simp [intOf]; omega
end
/-- An answer goes into a box. -/
theorem clo_store {S : Nat → Prop} {w w1 : World} {rb mb cb bg : Nat} {go go' : Option Nat} {st' : St} (hbg : S bg) (hb : bg < w.heap.size) (hfar : ∀ k, S k → ¬ Feet rb mb cb go k) (hrm1 : RM w1 rb mb cb go' true st') (hadv : Adv rb mb cb w go w1 go') (v : Value) :
    RM (w1.setCell ⟨bg, 0, none⟩ v) rb mb cb go' true st' ∧ AdvS S rb mb cb w go (w1.setCell ⟨bg, 0, none⟩ v) go' := by
  have hm : Mod (fun k => k = bg) w1 (w1.setCell ⟨bg, 0, none⟩ v) := Mod.setCell (S := fun k => k = bg) (p := ⟨bg, 0, none⟩) (Mod.refl _ _) (.inr rfl) _
  have hf := (hadv.advS (fun _ => False)).apart hb (hfar bg hbg)
  exact ⟨hrm1.mod hm fun k hk e => by subst e; exact hf hk, (hadv.advS S).trans (AdvS.of_mod hm fun k hk => .inl (by subst hk; exact hbg))⟩
theorem OwnE.run {w w' : World} {rb mb cb : Nat} {go : Option Nat} {st : St} {base : Nat} {v : Value} {l : List En} (h : OwnE w base v l) (hrm : RM w rb mb cb go true st) (hm : Mod (fun k => k = rb) w w') : OwnE w' base v l := by
  obtain ⟨cap, hr⟩ := hrm.run
  have hq := hr.rec_
  obtain ⟨ps, h1, h2, h3⟩ := h
  refine ⟨ps, h1, row_mod h2 (fun k hk hkq => hm.block k hk hkq) hq (by decide), fun j e hj => ?_⟩
  obtain ⟨u, h4, h5⟩ := h3 j e hj
  exact ⟨u, h4, row_mod h5 (fun k hk hkq => hm.block k hk hkq) hq (by decide)⟩
theorem OwnE.set {w : World} {b : Nat} {c : Array Value} {base : Nat} {v x : Value} {l : List En} (h : OwnE w base v l) (hb : w.heap[b]? = some (.cells c 32 (0, 0))) : OwnE (w.setCell ⟨b, 0, none⟩ x) base v l := by
  obtain ⟨ps, h1, h2, h3⟩ := h
  refine ⟨ps, h1, row_mod h2 (q := b) (fun k _ hk => Below.heap_setCell _ _ _ _ hk) hb (by decide), fun j e hj => ?_⟩
  obtain ⟨u, h4, h5⟩ := h3 j e hj
  exact ⟨u, h4, row_mod h5 (q := b) (fun k _ hk => Below.heap_setCell _ _ _ _ hk) hb (by decide)⟩

/-! ### A List, its answer into a box -/
structure LiI (ba bk bg : Nat) (a k : Int) (w : World) : Prop where
  a : w.heap[ba]? = some (.cells #[.int .i64 a] 3 (0, 0))
  k : w.heap[bk]? = some (.cells #[.int .i64 k] 3 (0, 0))
  g : ∃ v : Value, w.heap[bg]? = some (.cells #[v] 32 (0, 0))
def LiS (ba bk bg : Nat) (k : Nat) : Prop := k = ba ∨ k = bk ∨ k = bg
theorem LiI.of_blocks {ba bk bg : Nat} {a k : Int} {w w' : World} (h : LiI ba bk bg a k w) (hb : ∀ j, LiS ba bk bg j → j < w.heap.size → w'.heap[j]? = w.heap[j]?) : LiI ba bk bg a k w' :=
  ⟨(hb _ (.inl rfl) (lt_of_heap h.a)).trans h.a, (hb _ (.inr (.inl rfl)) (lt_of_heap h.k)).trans h.k, (by obtain ⟨v, hv⟩ := h.g; exact ⟨v, (hb _ (.inr (.inr rfl)) (lt_of_heap hv)).trans hv⟩)⟩
def LiQ (bg : Nat) (l : List En) (w : World) : Prop := ∃ v, w.heap[bg]? = some (.cells #[v] 32 (0, 0)) ∧ OwnE w 0 v l
set_option maxRecDepth 100000 in
set_option maxHeartbeats 2000000 in
theorem Li_clo {a k : Int} (a0 : -100000000000 ≤ a) (a1 : a ≤ 100000000000) (ba bk bg rb mb cb Bd : Nat) (hB : Bd < 1000000000) (n1 : bg ≠ ba) (n2 : bg ≠ bk) (l1 : bg < rb) :
    Clo 12 #[.pointer (some ⟨ba, 0, none⟩), .pointer (some ⟨bk, 0, none⟩), .pointer (some ⟨bg, 0, none⟩)] rb mb cb (LiS ba bk bg) (LiI ba bk bg a k) (listT a k) (LiQ bg) Bd where
  enter := fun args w => rfl
  keepI := fun w w' h _ hb => h.of_blocks hb
  keepP := fun x w w' go st h hr hm => by
    obtain ⟨v, h1, h2⟩ := h
    exact ⟨v, (hm.block _ (lt_of_heap h1) (by omega)).trans h1, h2.run hr hm⟩
  old := fun w h k hk => by
    rcases hk with rfl | rfl | rfl
    · exact lt_of_heap h.a
    · exact lt_of_heap h.k
    · obtain ⟨v, hv⟩ := h.g; exact lt_of_heap hv
  call := fun w go st hrm hfine hoff hI hS => by
    have HI := Lib.hid hI
    have HK := Lib.hid (list_any a k hrm hfine hB a0 a1)
    have HS := Lib.hid hS
    have c_a : w.cell? ⟨ba, 0, none⟩ = some (.int .i64 a) := cell_at hI.a 0
    have c_k : w.cell? ⟨bk, 0, none⟩ = some (.int .i64 k) := cell_at hI.k 0
    clear hI hrm hfine hoff hS
    show Calls Try.prog 12 #[.pointer (some ⟨rb, 0, none⟩), .pointer (some ⟨ba, 0, none⟩), .pointer (some ⟨bk, 0, none⟩), .pointer (some ⟨bg, 0, none⟩)] w _
    go_enter Try.func12, Try.ntmps12
    go_wp2_with fail
    refine HK.out.mono ?_
    clear HK
    rintro e w1 ⟨x, v, go', rfl, hown, hrm1, hadv, hans⟩
    obtain ⟨ov, cv, hv, _⟩ := hown.reads
    obtain ⟨xl, hxl⟩ : ∃ xl, x.length = xl := ⟨_, rfl⟩
    rw [hxl] at hv
    subst hv
    clear hxl
    have hb : ∀ j, LiS ba bk bg j → j < w.heap.size → w1.heap[j]? = w.heap[j]? := fun j hj hlt => hadv.mod.block j hlt fun e => HS.out j hj e
    have hI1 := HI.out.of_blocks hb
    obtain ⟨v0, hg⟩ := hI1.g
    have f_g := free_at hg 0
    have k_g := cell_at hg 0
    have HG := Lib.hid hg
    have HI1 := Lib.hid hI1
    have HA := Lib.hid (And.intro hrm1 (And.intro hadv (And.intro hans hown)))
    clear hb hI1 hrm1 hadv hans c_a c_k hg hown
    go_wp2_with fail
    go_end0
    obtain ⟨hrm1, hadv, hans, hown⟩ := HA.out
    have hg := HG.out
    obtain ⟨vb, hvb⟩ := HI.out.g
    have hst := clo_store (S := LiS ba bk bg) (.inr (.inr rfl)) (lt_of_heap hvb) HS.out hrm1 hadv (.slice ov xl cv)
    have hz : (w1.setCell ⟨bg, 0, none⟩ (.slice ov xl cv)).heap[bg]? = some (.cells #[.slice ov xl cv] 32 (0, 0)) := heap_setCell_same _ bg 0 _ _ _ hg
    refine ⟨rfl, go', hst.1, hst.2, ⟨(Below.heap_setCell _ _ _ _ (Ne.symm n1)).trans HI1.out.a, (Below.heap_setCell _ _ _ _ (Ne.symm n2)).trans HI1.out.k, ⟨_, hz⟩⟩, ?_⟩
    intro y hy
    have hy2 := hans y hy
    subst hy2
    exact ⟨_, hz, (hown.base (Nat.zero_le _)).set hg⟩
/-! ### The example's List -/
structure L3I (ba bg : Nat) (a : Int) (w : World) : Prop where
  a : w.heap[ba]? = some (.cells #[.int .i64 a] 3 (0, 0))
  g : ∃ v : Value, w.heap[bg]? = some (.cells #[v] 32 (0, 0))
def L3S (ba bg : Nat) (k : Nat) : Prop := k = ba ∨ k = bg
theorem L3I.of_blocks {ba bg : Nat} {a : Int} {w w' : World} (h : L3I ba bg a w) (hb : ∀ j, L3S ba bg j → j < w.heap.size → w'.heap[j]? = w.heap[j]?) : L3I ba bg a w' :=
  ⟨(hb _ (.inl rfl) (lt_of_heap h.a)).trans h.a, (by obtain ⟨v, hv⟩ := h.g; exact ⟨v, (hb _ (.inr rfl) (lt_of_heap hv)).trans hv⟩)⟩
set_option maxRecDepth 100000 in
set_option maxHeartbeats 2000000 in
theorem L3_clo {a : Int} (a0 : -100000000000 ≤ a) (a1 : a ≤ 100000000000) (ba bg rb mb cb Bd : Nat) (hB : Bd < 1000000000) (n1 : bg ≠ ba) (l1 : bg < rb) :
    Clo 28 #[.pointer (some ⟨ba, 0, none⟩), .pointer (some ⟨bg, 0, none⟩)] rb mb cb (L3S ba bg) (L3I ba bg a) (listT a 1) (LiQ bg) Bd where
  enter := fun args w => rfl
  keepI := fun w w' h _ hb => h.of_blocks hb
  keepP := fun x w w' go st h hr hm => by
    obtain ⟨v, h1, h2⟩ := h
    exact ⟨v, (hm.block _ (lt_of_heap h1) (by omega)).trans h1, h2.run hr hm⟩
  old := fun w h k hk => by
    rcases hk with rfl | rfl
    · exact lt_of_heap h.a
    · obtain ⟨v, hv⟩ := h.g; exact lt_of_heap hv
  call := fun w go st hrm hfine hoff hI hS => by
    have HI := Lib.hid hI
    have HK := Lib.hid (list_any a 1 hrm hfine hB a0 a1)
    have HS := Lib.hid hS
    have c_a : w.cell? ⟨ba, 0, none⟩ = some (.int .i64 a) := cell_at hI.a 0
    clear hI hrm hfine hoff hS
    show Calls Try.prog 28 #[.pointer (some ⟨rb, 0, none⟩), .pointer (some ⟨ba, 0, none⟩), .pointer (some ⟨bg, 0, none⟩)] w _
    go_enter Try.func28, Try.ntmps28
    go_wp2_with fail
    refine HK.out.mono ?_
    clear HK
    rintro e w1 ⟨x, v, go', rfl, hown, hrm1, hadv, hans⟩
    obtain ⟨ov, cv, hv, _⟩ := hown.reads
    obtain ⟨xl, hxl⟩ : ∃ xl, x.length = xl := ⟨_, rfl⟩
    rw [hxl] at hv
    subst hv
    clear hxl
    have hb : ∀ j, L3S ba bg j → j < w.heap.size → w1.heap[j]? = w.heap[j]? := fun j hj hlt => hadv.mod.block j hlt fun e => HS.out j hj e
    have hI1 := HI.out.of_blocks hb
    obtain ⟨v0, hg⟩ := hI1.g
    have f_g := free_at hg 0
    have k_g := cell_at hg 0
    have HG := Lib.hid hg
    have HI1 := Lib.hid hI1
    have HA := Lib.hid (And.intro hrm1 (And.intro hadv (And.intro hans hown)))
    clear hb hI1 hrm1 hadv hans c_a hg hown
    go_wp2_with fail
    go_end0
    obtain ⟨hrm1, hadv, hans, hown⟩ := HA.out
    have hg := HG.out
    obtain ⟨vb, hvb⟩ := HI.out.g
    have hst := clo_store (S := L3S ba bg) (.inr rfl) (lt_of_heap hvb) HS.out hrm1 hadv (.slice ov xl cv)
    have hz : (w1.setCell ⟨bg, 0, none⟩ (.slice ov xl cv)).heap[bg]? = some (.cells #[.slice ov xl cv] 32 (0, 0)) := heap_setCell_same _ bg 0 _ _ _ hg
    refine ⟨rfl, go', hst.1, hst.2, ⟨(Below.heap_setCell _ _ _ _ (Ne.symm n1)).trans HI1.out.a, ⟨_, hz⟩⟩, ?_⟩
    intro y hy
    have hy2 := hans y hy
    subst hy2
    exact ⟨_, hz, (hown.base (Nat.zero_le _)).set hg⟩
/-! ### The example's Terms -/
def foxK : ByteArray := ⟨#[0, 102, 111, 120]⟩
def dogK : ByteArray := ⟨#[0, 100, 111, 103]⟩
def T1Q (bg : Nat) (x : Int) (w : World) : Prop := w.heap[bg]? = some (.cells #[.int .i64 x] 3 (0, 0))
structure T1I (ba bg : Nat) (a : Int) (w : World) : Prop where
  a : w.heap[ba]? = some (.cells #[.int .i64 a] 3 (0, 0))
  g : ∃ v : Int, w.heap[bg]? = some (.cells #[.int .i64 v] 3 (0, 0))
def T1S (ba bg : Nat) (k : Nat) : Prop := k = ba ∨ k = bg
theorem T1I.of_blocks {ba bg : Nat} {a : Int} {w w' : World} (h : T1I ba bg a w) (hb : ∀ j, T1S ba bg j → j < w.heap.size → w'.heap[j]? = w.heap[j]?) : T1I ba bg a w' :=
  ⟨(hb _ (.inl rfl) (lt_of_heap h.a)).trans h.a, (by obtain ⟨v, hv⟩ := h.g; exact ⟨v, (hb _ (.inr rfl) (lt_of_heap hv)).trans hv⟩)⟩
set_option maxRecDepth 100000 in
set_option maxHeartbeats 2000000 in
theorem T1_clo {a : Int} (a0 : -100000000000 ≤ a) (a1 : a ≤ 10000000000) (ba bg rb mb cb Bd : Nat) (hB : Bd < 1000000000) (n1 : bg ≠ ba) (l1 : bg < rb) :
    Clo 26 #[.pointer (some ⟨ba, 0, none⟩), .pointer (some ⟨bg, 0, none⟩)] rb mb cb (T1S ba bg) (T1I ba bg a) (termT a (keyN foxK)) (T1Q bg) Bd where
  enter := fun args w => rfl
  keepI := fun w w' h _ hb => h.of_blocks hb
  keepP := fun x w w' go st h hr hm => by
    exact (hm.block _ (lt_of_heap h) (by omega)).trans h
  old := fun w h k hk => by
    rcases hk with rfl | rfl
    · exact lt_of_heap h.a
    · obtain ⟨v, hv⟩ := h.g; exact lt_of_heap hv
  call := fun w go st hrm hfine hoff hI hS => by
    have HI := Lib.hid hI
    have HK := Lib.hid (term_any foxK a hrm hfine hB (by unfold reachBytes; decide) a0 a1)
    have HS := Lib.hid hS
    have c_a : w.cell? ⟨ba, 0, none⟩ = some (.int .i64 a) := cell_at hI.a 0
    clear hI hrm hfine hoff hS
    show Calls Try.prog 26 #[.pointer (some ⟨rb, 0, none⟩), .pointer (some ⟨ba, 0, none⟩), .pointer (some ⟨bg, 0, none⟩)] w _
    go_enter Try.func26, Try.ntmps26
    go_wp2_with fail
    refine HK.out.mono ?_
    clear HK
    rintro e w1 ⟨x, _, go', rfl, ⟨rfl, _, _⟩, hrm1, hadv, hans⟩
    have hb : ∀ j, T1S ba bg j → j < w.heap.size → w1.heap[j]? = w.heap[j]? := fun j hj hlt => hadv.mod.block j hlt fun e => HS.out j hj e
    have hI1 := HI.out.of_blocks hb
    obtain ⟨v0, hg⟩ := hI1.g
    have f_g := free_at hg 0
    have k_g := cell_at hg 0
    have HG := Lib.hid hg
    have HI1 := Lib.hid hI1
    have HA := Lib.hid (And.intro hrm1 (And.intro hadv hans))
    clear hb hI1 hrm1 hadv hans c_a hg
    go_wp2_with fail
    go_end0
    obtain ⟨hrm1, hadv, hans⟩ := HA.out
    have hg := HG.out
    obtain ⟨vb, hvb⟩ := HI.out.g
    have hst := clo_store (S := T1S ba bg) (.inr rfl) (lt_of_heap hvb) HS.out hrm1 hadv (.int .i64 x)
    have hz : (w1.setCell ⟨bg, 0, none⟩ (.int .i64 x)).heap[bg]? = some (.cells #[.int .i64 x] 3 (0, 0)) := heap_setCell_same _ bg 0 _ _ (.int .i64 x) hg
    refine ⟨rfl, go', hst.1, hst.2, ⟨(Below.heap_setCell _ _ _ _ (Ne.symm n1)).trans HI1.out.a, ⟨x, hz⟩⟩, ?_⟩
    intro y hy
    have hy2 := hans y hy
    subst hy2
    exact hz
set_option maxRecDepth 100000 in
set_option maxHeartbeats 2000000 in
theorem T2_clo {a : Int} (a0 : -100000000000 ≤ a) (a1 : a ≤ 10000000000) (ba bg rb mb cb Bd : Nat) (hB : Bd < 1000000000) (n1 : bg ≠ ba) (l1 : bg < rb) :
    Clo 27 #[.pointer (some ⟨ba, 0, none⟩), .pointer (some ⟨bg, 0, none⟩)] rb mb cb (T1S ba bg) (T1I ba bg a) (termT a (keyN dogK)) (T1Q bg) Bd where
  enter := fun args w => rfl
  keepI := fun w w' h _ hb => h.of_blocks hb
  keepP := fun x w w' go st h hr hm => by
    exact (hm.block _ (lt_of_heap h) (by omega)).trans h
  old := fun w h k hk => by
    rcases hk with rfl | rfl
    · exact lt_of_heap h.a
    · obtain ⟨v, hv⟩ := h.g; exact lt_of_heap hv
  call := fun w go st hrm hfine hoff hI hS => by
    have HI := Lib.hid hI
    have HK := Lib.hid (term_any dogK a hrm hfine hB (by unfold reachBytes; decide) a0 a1)
    have HS := Lib.hid hS
    have c_a : w.cell? ⟨ba, 0, none⟩ = some (.int .i64 a) := cell_at hI.a 0
    clear hI hrm hfine hoff hS
    show Calls Try.prog 27 #[.pointer (some ⟨rb, 0, none⟩), .pointer (some ⟨ba, 0, none⟩), .pointer (some ⟨bg, 0, none⟩)] w _
    go_enter Try.func27, Try.ntmps27
    go_wp2_with fail
    refine HK.out.mono ?_
    clear HK
    rintro e w1 ⟨x, _, go', rfl, ⟨rfl, _, _⟩, hrm1, hadv, hans⟩
    have hb : ∀ j, T1S ba bg j → j < w.heap.size → w1.heap[j]? = w.heap[j]? := fun j hj hlt => hadv.mod.block j hlt fun e => HS.out j hj e
    have hI1 := HI.out.of_blocks hb
    obtain ⟨v0, hg⟩ := hI1.g
    have f_g := free_at hg 0
    have k_g := cell_at hg 0
    have HG := Lib.hid hg
    have HI1 := Lib.hid hI1
    have HA := Lib.hid (And.intro hrm1 (And.intro hadv hans))
    clear hb hI1 hrm1 hadv hans c_a hg
    go_wp2_with fail
    go_end0
    obtain ⟨hrm1, hadv, hans⟩ := HA.out
    have hg := HG.out
    obtain ⟨vb, hvb⟩ := HI.out.g
    have hst := clo_store (S := T1S ba bg) (.inr rfl) (lt_of_heap hvb) HS.out hrm1 hadv (.int .i64 x)
    have hz : (w1.setCell ⟨bg, 0, none⟩ (.int .i64 x)).heap[bg]? = some (.cells #[.int .i64 x] 3 (0, 0)) := heap_setCell_same _ bg 0 _ _ (.int .i64 x) hg
    refine ⟨rfl, go', hst.1, hst.2, ⟨(Below.heap_setCell _ _ _ _ (Ne.symm n1)).trans HI1.out.a, ⟨x, hz⟩⟩, ?_⟩
    intro y hy
    have hy2 := hans y hy
    subst hy2
    exact hz
end Go.Proofs.Ytkjimgidlpocbaa

namespace Go.Proofs.Ytkjimgidlpocbaa
open Go.RowKit

/-- What a program that loads alone comes to, and how many accesses it makes. -/
def evalP {α : Type} : Nat → Pr α → List Int → Option (α × Nat)
  | _, .ret x, _ => some (x, 0)
  | 0, _, _ => none
  | f + 1, .load a k, cs => if 0 ≤ a ∧ a < cs.length then (evalP f (k (cs.getD a.toNat 0)) cs).map fun r => (r.1, r.2 + 1) else none
  | _ + 1, .store _ _ _, _ => none
theorem eval_does {α : Type} : ∀ (f : Nat) (p : Pr α) (cs : List Int) (x : α) (n : Nat), evalP f p cs = some (x, n) → Does p cs n x cs
  | 0, .ret y, cs, x, n, h => by
    simp only [evalP, Option.some.injEq, Prod.mk.injEq] at h
    obtain ⟨rfl, rfl⟩ := h
    exact .ret _ _
  | f + 1, .ret y, cs, x, n, h => by
    simp only [evalP, Option.some.injEq, Prod.mk.injEq] at h
    obtain ⟨rfl, rfl⟩ := h
    exact .ret _ _
  | 0, .load a k, cs, x, n, h => by simp [evalP] at h
  | 0, .store a v k, cs, x, n, h => by simp [evalP] at h
  | f + 1, .load a k, cs, x, n, h => by
    rw [evalP] at h
    split at h
    · rename_i hc
      obtain ⟨⟨y, m⟩, hy, he⟩ := Option.map_eq_some_iff.1 h
      simp only [Prod.mk.injEq] at he
      obtain ⟨rfl, rfl⟩ := he
      exact .load hc.1 hc.2 (eval_does f _ cs _ _ hy)
    · cases h
  | f + 1, .store a v k, cs, x, n, h => by simp [evalP] at h
def exL15 : List Li := [⟨foxK, 0, [(0, [1])]⟩]
def exC15 : List Nat := holdX 1 [1, 7, 2, 0] exL15
theorem ex_ok : okMk (holdA exL15 : Int) 1 (heldL 1 exL15) ∧ holdA exL15 = 4 ∧ exC15.length = 15 ∧ (∀ x ∈ exC15, x < 4294967296) := by decide +kernel
theorem ex_term : ∃ n, n < 100 ∧ Does (termT 4 (keyN foxK)) (ints exC15) n 12 (ints exC15) := by
  have h : (evalP 60 (termT 4 (keyN foxK)) (ints exC15)).map (fun r => (r.1, decide (r.2 < 100))) = some (12, true) := by decide +kernel
  obtain ⟨⟨x, n⟩, h1, h2⟩ := Option.map_eq_some_iff.1 h
  simp only [Prod.mk.injEq, decide_eq_true_eq] at h2
  obtain ⟨rfl, h3⟩ := h2
  exact ⟨n, h3, eval_does _ _ _ _ _ h1⟩
theorem ex_dog : ∃ n, n < 100 ∧ Does (termT 4 (keyN dogK)) (ints exC15) n 0 (ints exC15) := by
  have h : (evalP 60 (termT 4 (keyN dogK)) (ints exC15)).map (fun r => (r.1, decide (r.2 < 100))) = some (0, true) := by decide +kernel
  obtain ⟨⟨x, n⟩, h1, h2⟩ := Option.map_eq_some_iff.1 h
  simp only [Prod.mk.injEq, decide_eq_true_eq] at h2
  obtain ⟨rfl, h3⟩ := h2
  exact ⟨n, h3, eval_does _ _ _ _ _ h1⟩
theorem ex_list : ∃ n, n < 100 ∧ Does (listT 12 1) (ints exC15) n [(0, [1])] (ints exC15) := by
  have h : (evalP 60 (listT 12 1) (ints exC15)).map (fun r => (r.1, decide (r.2 < 100))) = some ([(0, [1])], true) := by decide +kernel
  obtain ⟨⟨x, n⟩, h1, h2⟩ := Option.map_eq_some_iff.1 h
  simp only [Prod.mk.injEq, decide_eq_true_eq] at h2
  obtain ⟨rfl, h3⟩ := h2
  exact ⟨n, h3, eval_does _ _ _ _ _ h1⟩
theorem ints_u {C : List Nat} (h : ∀ x ∈ C, x < 4294967296) : ∀ y ∈ ints C, U y := by
  intro y hy
  obtain ⟨x, hx, rfl⟩ := List.mem_map.1 hy
  have := h x hx
  exact ⟨by omega, by omega⟩
/-- The example's world. -/
structure FW (W w : World) (mb cb ba bx by_ : Nat) (x y : Int) (t : Int) : Prop where
  mem : ∃ l s, MemAt w mb cb (ints exC15) l s ∧ 0 ≤ l ∧ 0 ≤ s ∧ l + s ≤ t
  a : w.heap[ba]? = some (.cells #[.int .i64 4] 3 (0, 0))
  x : w.heap[bx]? = some (.cells #[.int .i64 x] 3 (0, 0))
  y : w.heap[by_]? = some (.cells #[.int .i64 y] 3 (0, 0))
  low : Below W.heap.size W w
  old : W.heap.size ≤ mb ∧ W.heap.size ≤ cb ∧ W.heap.size ≤ ba ∧ W.heap.size ≤ bx ∧ W.heap.size ≤ by_
  ne : ba ≠ bx ∧ ba ≠ by_ ∧ bx ≠ by_
theorem FW.far {W w : World} {mb cb ba bx by_ : Nat} {x y : Int} {t : Int} (h : FW W w mb cb ba bx by_ x y t) {k : Nat} {c : Array Value} {tt : TypeId} (hk : w.heap[k]? = some (.cells c tt (0, 0))) (h1 : tt ≠ 69) (h2 : tt ≠ 52) : k < w.heap.size ∧ k ≠ mb ∧ k ≠ cb := by
  obtain ⟨l, s, hm, _⟩ := h.mem
  refine ⟨lt_of_heap hk, ?_, ?_⟩
  · rintro rfl
    have h9 := hk.symm.trans hm.rec_
    injection h9 with h9
    injection h9 with _ h9 _
    exact h1 h9
  · rintro rfl
    have h9 := hk.symm.trans hm.row
    injection h9 with h9
    injection h9 with _ h9 _
    exact h2 h9
theorem low_of_mod {S : Nat → Prop} {W w w' : World} (h : Below W.heap.size W w) (hm : Mod S w w') (hS : ∀ k, S k → W.heap.size ≤ k) : Below W.heap.size W w' :=
  ⟨hm.os.trans h.os, hm.tape.trans h.tape, hm.output.trans h.output, Nat.le_trans h.size hm.size, fun k hk => (hm.block k (Nat.lt_of_lt_of_le hk h.size) (fun e => by have := hS k e; omega)).trans (h.block k hk)⟩
set_option maxRecDepth 100000 in
set_option maxHeartbeats 4000000 in
theorem fixed15 (w : World) : Calls Try.prog 7 #[] w fun e w' => e = .returned (.bool true) ∧ Below w.heap.size w w' := by
  obtain ⟨k1, k2, k3, k4⟩ := ex_ok
  have HOk := Lib.hid (And.intro k1 k2)
  have HLn := Lib.hid k3
  have HU := Lib.hid (ints_u k4)
  clear k1 k2 k3 k4
  go_enter Try.func7, Try.ntmps7
  have HR := Lib.hid (readN_new .u32 w [1, 7, 2, 0] 54)
  have HB0 := Lib.hid (below_one (w := w) (A := .cells #[.int .u32 1, .int .u32 7, .int .u32 2, .int .u32 0] 54))
  go_wp2_with fail
  have hz : (w.alloc (.cells #[.int .u32 1, .int .u32 7, .int .u32 2, .int .u32 0] 54)).heap.size = w.heap.size + 1 := by simp
  obtain ⟨wa, hwa⟩ : ∃ wa, wa = w.alloc (.cells #[.int .u32 1, .int .u32 7, .int .u32 2, .int .u32 0] 54) := ⟨_, rfl⟩
  rw [show w.alloc (.cells (numC .u32 [1, 7, 2, 0]).toArray 54) = wa from hwa.symm] at HR
  rw [← hwa] at HB0 hz ⊢
  have HC := Lib.hid (show ReadLi (((wa.alloc (.cells #[.int .i64 1] 3)).alloc (.cells #[.int .i64 0, .slice (some ⟨w.heap.size + 1, 0, none⟩) 1 1] 51)).alloc (.cells #[.string foxK, .int .i64 0, .slice (some ⟨w.heap.size + 1 + 1, 0, none⟩) 1 1] 34)) (some ⟨w.heap.size + 1 + 1 + 1, 0, none⟩) exL15 from by
    have k1 := heap3_0 wa (.cells #[.int .i64 1] 3) (.cells #[.int .i64 0, .slice (some ⟨w.heap.size + 1, 0, none⟩) 1 1] 51) (.cells #[.string foxK, .int .i64 0, .slice (some ⟨w.heap.size + 1 + 1, 0, none⟩) 1 1] 34)
    have k2 := heap3_1 wa (.cells #[.int .i64 1] 3) (.cells #[.int .i64 0, .slice (some ⟨w.heap.size + 1, 0, none⟩) 1 1] 51) (.cells #[.string foxK, .int .i64 0, .slice (some ⟨w.heap.size + 1 + 1, 0, none⟩) 1 1] 34)
    have k3 := heap3_2 wa (.cells #[.int .i64 1] 3) (.cells #[.int .i64 0, .slice (some ⟨w.heap.size + 1, 0, none⟩) 1 1] 51) (.cells #[.string foxK, .int .i64 0, .slice (some ⟨w.heap.size + 1 + 1, 0, none⟩) 1 1] 34)
    rw [hz] at k1 k2 k3
    intro j l hj
    match j, hj with
    | 0, hj =>
      cases hj
      refine ⟨_, 0, rfl, cell_at k3 0, cell_at k3 1, _, cell_at k3 2, _, 1, rfl, by simp, by simp [maxLen], (by intro e; cases e), ?_⟩
      intro j e hj
      match j, hj with
      | 0, hj =>
        cases hj
        refine ⟨_, 0, rfl, cell_at k2 0, _, cell_at k2 1, _, 1, rfl, by simp, by simp [maxLen], (by intro e; cases e), ?_⟩
        intro j x hj
        match j, hj with
        | 0, hj => cases hj; exact ⟨_, 0, rfl, cell_at k1 0⟩
        | j + 1, hj => simp at hj
      | j + 1, hj => simp at hj
    | j + 1, hj => simp [exL15] at hj)
  have HBa := Lib.hid (low_more HB0.out (below_al3 (w := wa) (A := .cells #[.int .i64 1] 3) (B := .cells #[.int .i64 0, .slice (some ⟨w.heap.size + 1, 0, none⟩) 1 1] 51) (C := .cells #[.string foxK, .int .i64 0, .slice (some ⟨w.heap.size + 1 + 1, 0, none⟩) 1 1] 34)))
  have HRa := Lib.hid (HR.out.below (below_al3 (w := wa) (A := .cells #[.int .i64 1] 3) (B := .cells #[.int .i64 0, .slice (some ⟨w.heap.size + 1, 0, none⟩) 1 1] 51) (C := .cells #[.string foxK, .int .i64 0, .slice (some ⟨w.heap.size + 1 + 1, 0, none⟩) 1 1] 34)))
  obtain ⟨w1, hw1⟩ : ∃ w1, w1 = ((wa.alloc (.cells #[.int .i64 1] 3)).alloc (.cells #[.int .i64 0, .slice (some ⟨w.heap.size + 1, 0, none⟩) 1 1] 51)).alloc (.cells #[.string foxK, .int .i64 0, .slice (some ⟨w.heap.size + 1 + 1, 0, none⟩) 1 1] 34) := ⟨_, rfl⟩
  rw [← hw1] at HC HBa HRa
  rw [show ((wa.alloc (.cells #[.int .i64 1] 3)).alloc (.cells #[.int .i64 0, .slice (some ⟨w.heap.size + 1, 0, none⟩) 1 1] 51)).alloc (.cells #[.string ⟨#[0, 102, 111, 120]⟩, .int .i64 0, .slice (some ⟨w.heap.size + 1 + 1, 0, none⟩) 1 1] 34) = w1 from hw1.symm]
  clear hw1 hwa hz HB0 HR
  refine (ref_hold15 w1 _ 1 1 [1, 7, 2, 0] _ 1 1 exL15 rfl HRa.out rfl HC.out ⟨by decide, by decide, by decide +kernel, by decide +kernel⟩).mono ?_
  rintro e w2 (⟨_, vc, vl, rfl, hc, hl, hb⟩ | ⟨hn, _⟩)
  case inr => exact absurd HOk.out.1 hn
  rw [HOk.out.2]
  obtain ⟨oc, cc, rfl, _, _, _, hrc⟩ := hc.reads_of 15 HLn.out
  have HRc := Lib.hid hrc
  have HB2 := Lib.hid (low_more HBa.out hb)
  obtain ⟨ol, tl, cl, hvl⟩ : ∃ ol tl cl, vl = Value.slice ol tl cl := by
    obtain ⟨ol, cl, h, _⟩ := hl.reads hb
    exact ⟨ol, _, cl, h⟩
  subst hvl
  clear hl hc hb hrc HBa HRa HC
  go_upto_region 2 with fail
  have HA3 := Lib.hid (heap_alloc_new w2 (.cells #[.int .i64 4] 3))
  have HB3 := Lib.hid (low_new (o := .cells #[.int .i64 4] 3) HB2.out)
  have HR3 := Lib.hid (HRc.out.below (below_one (w := w2) (A := .cells #[.int .i64 4] 3)))
  have hs2 := HB2.out.size
  obtain ⟨ba, hba⟩ : ∃ ba, w2.heap.size = ba := ⟨_, rfl⟩
  generalize w2.alloc (.cells #[.int .i64 4] 3) = w3 at HA3 HB3 HR3 ⊢
  rw [hba] at HA3 hs2 ⊢
  have HS2 := Lib.hid hs2
  clear hba HRc HB2 hs2
  go_wp2_with fail
  refine (of_any w3 oc 15 cc exC15 HLn.out HR3.out (by decide) (by decide)).mono ?_; rintro e w4 ⟨mb, cb, rfl, hm4, hb4, hm1, hm2⟩
  have HM4 := Lib.hid hm4
  have HA4 := Lib.hid ((hb4.block _ (lt_of_heap HA3.out)).trans HA3.out)
  have HB4 := Lib.hid (low_more HB3.out hb4)
  have HO4 := Lib.hid (show w.heap.size ≤ mb ∧ w.heap.size ≤ cb by have := HB3.out.size; omega)
  clear hm4 hb4 hm1 hm2 HA3 HB3 HR3
  go_upto_region 6 with fail
  have HF5 := Lib.hid (show FW w ((w4.alloc (.cells #[.int .i64 0] 3)).alloc (.cells #[.int .i64 9] 3)) mb cb ba w4.heap.size (w4.heap.size + 1) 0 9 15 from
    ⟨⟨0, 15, HM4.out.below (below_al2 (w := w4)), by omega, by omega, by omega⟩, (below_al2 (w := w4)).block ba (lt_of_heap HA4.out) |>.trans HA4.out, heap2_0 w4 _ _, heap2_1 w4 _ _, low_more HB4.out below_al2, ⟨HO4.out.1, HO4.out.2, HS2.out, HB4.out.size, Nat.le_succ_of_le HB4.out.size⟩, ⟨by have := lt_of_heap HA4.out; omega, by have := lt_of_heap HA4.out; omega, by omega⟩⟩)
  generalize (w4.alloc (.cells #[.int .i64 0] 3)).alloc (.cells #[.int .i64 9] 3) = w5 at HF5 ⊢
  obtain ⟨bx, hbx⟩ : ∃ bx, w4.heap.size = bx := ⟨_, rfl⟩
  obtain ⟨by_, hby⟩ : ∃ by_, w4.heap.size + 1 = by_ := ⟨_, rfl⟩
  rw [hby] at HF5 ⊢
  rw [hbx] at HF5 ⊢
  clear hbx hby HM4 HA4 HB4 HO4 HS2
  obtain ⟨n1, hn1, hd1⟩ := ex_term
  obtain ⟨n2, hn2, hd2⟩ := ex_dog
  obtain ⟨n3, hn3, hd3⟩ := ex_list
  have HD1 := Lib.hid hd1
  have HD2 := Lib.hid hd2
  have HD3 := Lib.hid hd3
  clear hd1 hd2 hd3
  obtain ⟨l5, s5, hm5, h50, h51, h52⟩ := HF5.out.mem
  have W1 := whole15 (B := 100000) (S := T1S ba bx) (I := T1I ba bx 4) (Post := T1Q bx) 200 hm5 h50 h51 HU.out HD1.out (fun rb hrb => T1_clo (a := 4) (by omega) (by omega) ba bx rb mb cb 100000 (by omega) (Ne.symm HF5.out.ne.1) (Nat.lt_of_lt_of_le (lt_of_heap HF5.out.x) hrb)) ⟨HF5.out.a, ⟨0, HF5.out.x⟩⟩ (fun k hk => by
    rcases hk with rfl | rfl
    · exact HF5.out.far HF5.out.a (by decide) (by decide)
    · exact HF5.out.far HF5.out.x (by decide) (by decide)) (by omega) (by omega) (by omega) (by omega)
  have HW1 := Lib.hid W1
  have HN5 := Lib.hid (And.intro h50 (And.intro h51 h52))
  clear W1 hm5 h50 h51 h52
  go_wp2_with fail
  refine HW1.out.mono ?_; rintro e w6 ⟨rfl, hf⟩
  have HF6 := Lib.hid (show FW w w6 mb cb ba bx by_ 12 9 200 from
    ⟨by (obtain ⟨l', s', q1, q2, q3, q4⟩ := hf.mem; exact ⟨l', s', q1, q2, q3, by have := HN5.out; omega⟩), hf.inv.a, hf.post, (hf.mod.block by_ (lt_of_heap HF5.out.y) (by
      have hff := HF5.out.far HF5.out.y (by decide) (by decide)
      have := HF5.out.ne
      rintro ((e | e) | e | e)
      · omega
      · omega
      · omega
      · omega)).trans HF5.out.y, low_of_mod HF5.out.low hf.mod (fun k hk => by
        have := HF5.out.old
        rcases hk with (e | e) | e | e <;> omega), HF5.out.old, HF5.out.ne⟩)
  clear HW1 HN5 hf HF5
  obtain ⟨l5, s5, hm5, h50, h51, h52⟩ := HF6.out.mem
  have W1 := whole15 (B := 100000) (S := T1S ba by_) (I := T1I ba by_ 4) (Post := T1Q by_) 200 hm5 h50 h51 HU.out HD2.out (fun rb hrb => T2_clo (a := 4) (by omega) (by omega) ba by_ rb mb cb 100000 (by omega) (Ne.symm HF6.out.ne.2.1) (Nat.lt_of_lt_of_le (lt_of_heap HF6.out.y) hrb)) ⟨HF6.out.a, ⟨9, HF6.out.y⟩⟩ (fun k hk => by
    rcases hk with rfl | rfl
    · exact HF6.out.far HF6.out.a (by decide) (by decide)
    · exact HF6.out.far HF6.out.y (by decide) (by decide)) (by omega) (by omega) (by omega) (by omega)
  have HW1 := Lib.hid W1
  have HN5 := Lib.hid (And.intro h50 (And.intro h51 h52))
  clear W1 hm5 h50 h51 h52
  go_wp2_with fail
  refine HW1.out.mono ?_; rintro e w7 ⟨rfl, hf⟩
  have HF7 := Lib.hid (show FW w w7 mb cb ba bx by_ 12 0 400 from
    ⟨by (obtain ⟨l', s', q1, q2, q3, q4⟩ := hf.mem; exact ⟨l', s', q1, q2, q3, by have := HN5.out; omega⟩), hf.inv.a, (hf.mod.block bx (lt_of_heap HF6.out.x) (by
      have hff := HF6.out.far HF6.out.x (by decide) (by decide)
      have := HF6.out.ne
      rintro ((e | e) | e | e)
      · omega
      · omega
      · omega
      · omega)).trans HF6.out.x, hf.post, low_of_mod HF6.out.low hf.mod (fun k hk => by
        have := HF6.out.old
        rcases hk with (e | e) | e | e <;> omega), HF6.out.old, HF6.out.ne⟩)
  clear HW1 HN5 hf HF6
  go_upto_region 9 with fail
  have HF8 := Lib.hid (show FW w (w7.alloc (.cells #[.slice none 0 0] 32)) mb cb ba bx by_ 12 0 400 from
    ⟨by (obtain ⟨l', s', q1, q2, q3, q4⟩ := HF7.out.mem; exact ⟨l', s', q1.below (below_one (w := w7)), q2, q3, q4⟩), (below_one (w := w7)).block ba (lt_of_heap HF7.out.a) |>.trans HF7.out.a, (below_one (w := w7)).block bx (lt_of_heap HF7.out.x) |>.trans HF7.out.x, (below_one (w := w7)).block by_ (lt_of_heap HF7.out.y) |>.trans HF7.out.y, low_new HF7.out.low, HF7.out.old, HF7.out.ne⟩)
  have HG8 := Lib.hid (heap_alloc_new w7 (.cells #[.slice none 0 0] 32))
  have hne8 : w7.heap.size ≠ bx ∧ w7.heap.size ≠ by_ ∧ w7.heap.size ≠ ba := by
    have q1 := lt_of_heap HF7.out.x
    have q2 := lt_of_heap HF7.out.y
    have q3 := lt_of_heap HF7.out.a
    omega
  have hlo := HF7.out.low.size
  generalize w7.alloc (.cells #[.slice none 0 0] 32) = w8 at HF8 HG8 ⊢
  obtain ⟨bg, hbg⟩ : ∃ bg, w7.heap.size = bg := ⟨_, rfl⟩
  rw [hbg] at HG8 hne8 hlo ⊢
  clear hbg HF7
  obtain ⟨l5, s5, hm5, h50, h51, h52⟩ := HF8.out.mem
  have W1 := whole15 (B := 100000) (S := L3S bx bg) (I := L3I bx bg 12) (Post := LiQ bg) 200 hm5 h50 h51 HU.out HD3.out (fun rb hrb => L3_clo (a := 12) (by omega) (by omega) bx bg rb mb cb 100000 (by omega) hne8.1 (Nat.lt_of_lt_of_le (lt_of_heap HG8.out) hrb)) ⟨HF8.out.x, ⟨_, HG8.out⟩⟩ (fun k hk => by
    rcases hk with rfl | rfl
    · exact HF8.out.far HF8.out.x (by decide) (by decide)
    · exact HF8.out.far HG8.out (by decide) (by decide)) (by omega) (by omega) (by omega) (by omega)
  have HW1 := Lib.hid W1
  have HX := Lib.hid (And.intro hne8 hlo)
  clear W1 hm5 h50 h51 h52 hne8 hlo
  go_wp2_with fail
  refine HW1.out.mono ?_; rintro e w9 ⟨rfl, hf⟩
  have hkeep : ∀ (k : Nat) (c : Array Value), w8.heap[k]? = some (.cells c 3 (0, 0)) → k ≠ bx → k ≠ bg → w9.heap[k]? = some (.cells c 3 (0, 0)) := fun k c hk h1 h2 => (hf.mod.block k (lt_of_heap hk) (by
    have hff := HF8.out.far hk (by decide) (by decide)
    rintro ((e | e) | e | e)
    · exact h1 e
    · exact h2 e
    · exact hff.2.1 e
    · exact hff.2.2 e)).trans hk
  have q3 : w9.cell? ⟨ba, 0, none⟩ = some (.int .i64 4) := cell_at (hkeep ba _ HF8.out.a HF8.out.ne.1 (Ne.symm HX.out.1.2.2)) 0
  have q6 : w9.cell? ⟨bx, 0, none⟩ = some (.int .i64 12) := cell_at hf.inv.a 0
  have q7 : w9.cell? ⟨by_, 0, none⟩ = some (.int .i64 0) := cell_at (hkeep by_ _ HF8.out.y (Ne.symm HF8.out.ne.2.2) (Ne.symm HX.out.1.2.1)) 0
  obtain ⟨v, hv, hown⟩ := hf.post
  obtain ⟨ov, cv, hvs, _, _, _, hre⟩ := hown.reads
  have hvs2 : v = .slice ov 1 cv := hvs
  subst hvs2
  have q8 : w9.cell? ⟨bg, 0, none⟩ = some (.slice ov 1 cv) := cell_at hv 0
  have HB9 := Lib.hid (low_of_mod HF8.out.low hf.mod (fun k hk => by
    have := HF8.out.old
    have := HX.out.2
    rcases hk with (e | e) | e | e <;> omega))
  have HRe := Lib.hid hre
  clear hv hown hre hvs hf hkeep HW1 HF8 HG8 HX
  go_wp2_with fail
  have k1 := heap2_0 w9 (.cells #[.int .i64 1] 3) (.cells #[.int .i64 0, .slice (some ⟨w9.heap.size, 0, none⟩) 1 1] 51)
  have k2 := heap2_1 w9 (.cells #[.int .i64 1] 3) (.cells #[.int .i64 0, .slice (some ⟨w9.heap.size, 0, none⟩) 1 1] 51)
  have hb2 : Below w9.heap.size w9 ((w9.alloc (.cells #[.int .i64 1] 3)).alloc (.cells #[.int .i64 0, .slice (some ⟨w9.heap.size, 0, none⟩) 1 1] 51)) := below_al2
  have HQ2 := Lib.hid (show ReadE ((w9.alloc (.cells #[.int .i64 1] 3)).alloc (.cells #[.int .i64 0, .slice (some ⟨w9.heap.size, 0, none⟩) 1 1] 51)) (some ⟨w9.heap.size + 1, 0, none⟩) [(0, [1])] from by
    intro j e hj
    match j, hj with
    | 0, hj =>
      cases hj
      refine ⟨_, 0, rfl, cell_at k2 0, _, cell_at k2 1, _, 1, rfl, by simp, by simp [maxLen], (by intro e; cases e), ?_⟩
      intro j x hj
      match j, hj with
      | 0, hj => cases hj; exact ⟨_, 0, rfl, cell_at k1 0⟩
      | j + 1, hj => simp at hj
    | j + 1, hj => simp at hj)
  have HQ1 := Lib.hid (HRe.out.below hb2)
  have HB10 := Lib.hid (low_more HB9.out hb2)
  clear k1 k2 hb2
  refine (ref_same13 _ ov (some ⟨w9.heap.size + 1, 0, none⟩) cv 1 1 1 [(0, [1])] [(0, [1])] rfl rfl HQ1.out HQ2.out (by omega) (by intro e he; simp at he; subst he; simp)).mono ?_; rintro e w10 ⟨rfl, hb⟩
  have HB11 := Lib.hid (low_more HB10.out hb)
  clear hb
  go_wp2_with fail
  go_ret
  exact ⟨by simp, HB11.out⟩
end Go.Proofs.Ytkjimgidlpocbaa

namespace Go.Proofs.Ytkjimgidlpocbaa
open Go.RowKit Go.ChangeShapes Go.WideShapes Go.ChangeAt Go.Deep

theorem okAll_mem {n : Nat} {L : List Li} (h : okAll n L) : ∀ l ∈ L, okLi n l := fun l hl => by
  obtain ⟨i, hi⟩ := List.getElem?_of_mem hl
  exact okAll_at h hi
theorem headsI_lt : ∀ (L : List Li) (b : Nat), (∀ l ∈ L, l.record ≤ 65535) → b + (bodyI L).length < 4294967296 → ∀ x ∈ headsI b L, x < 4294967296
  | [], _, _, _, x, hx => by simp [headsI] at hx
  | l :: r, b, h, hb, x, hx => by
    have h1 := h l (by simp)
    rw [bodyI, List.length_append] at hb
    rw [headsI] at hx
    rcases List.mem_cons.1 hx with rfl | hx
    · omega
    rcases List.mem_cons.1 hx with rfl | hx
    · omega
    · exact headsI_lt r _ (fun l hl => h l (List.mem_cons_of_mem _ hl)) (by omega) x hx
theorem bodyI_lt : ∀ {L : List Li}, (∀ l ∈ L, MayE l.ents) → ∀ x ∈ bodyI L, x < 4294967296
  | [], _, x, hx => by simp [bodyI] at hx
  | l :: r, h, x, hx => by
    rw [bodyI, List.mem_append] at hx
    rcases hx with hx | hx
    · exact encN_ltI (h l (by simp)) x hx
    · exact bodyI_lt (fun l hl => h l (List.mem_cons_of_mem _ hl)) x hx
theorem mkX_lt {at_ : Int} {n : Nat} {F : List Nat} {L : List Li} (hx : ∀ x ∈ F, x < 4294967296) : ∀ x ∈ mkX at_ n F L, x < 4294967296 := by
  intro x h
  unfold mkX at h
  split at h
  · rename_i hk
    have hb := bodyI_len hk.1.2.2.2
    have h1 := hk.1.1
    have h2 := hk.1.2.1
    have h3 := hk.2
    unfold imgN at h
    rcases List.mem_cons.1 h with rfl | h
    · omega
    rcases List.mem_cons.1 h with rfl | h
    · omega
    rcases List.mem_append.1 h with h | h
    · exact hx x h
    rcases List.mem_append.1 h with h | h
    · exact headsI_lt L _ (fun l hl => (okAll_mem hk.1.2.2.2 l hl).2.1) (by unfold baseI; omega) x h
    · exact bodyI_lt (fun l hl => (okAll_mem hk.1.2.2.2 l hl).2.2.2.1) x h
  · simp at h
theorem read_cells {w : World} {g : Nat} {C : List Nat} (h : w.heap[g]? = some (.cells ((ints C).map (Value.int .u32)).toArray 52 (0, 0))) : ReadN .u32 w (some ⟨g, 0, none⟩) C := by
  intro j x hj
  refine ⟨g, 0, rfl, ?_⟩
  rw [Lib.cell_of_heap h]
  unfold ints
  simp [hj]
theorem hold_lt {n : Nat} {F : List Nat} {L : List Li} (hok : okMk (holdA L : Int) n (heldL 1 L)) (hk : ∀ l ∈ L, l.key.size ≤ 17) (hx : ∀ x ∈ F, x < 4294967296) : ∀ x ∈ holdX n F L, x < 4294967296 := by
  intro x h
  unfold holdX at h
  rcases List.mem_append.1 h with h | h
  · rcases List.mem_cons.1 h with rfl | h
    · omega
    · exact heldC_lt hk x h
  · have := mkX_lt (at_ := (holdA L : Int)) (L := heldL 1 L) (n := n) hx x
    unfold mkX at this
    rw [if_pos hok] at this
    exact this h
theorem hold_size {n : Nat} {F : List Nat} {L : List Li} (hF : F.length = 4 * n) (hok : okMk (holdA L : Int) n (heldL 1 L)) (hS : Small15 n L) : 15 ≤ (holdX n F L).length + 15 ∧ 1 ≤ (holdX n F L).length ∧ (holdX n F L).length ≤ 30000 ∧ holdA L ≤ 3000 := by
  have h1 := hold_len (L := L) hF
  have h2 := bodyI_sum hok.1.2.2.2
  rw [heldL_sum] at h2
  have h3 := heldC_small fun l hl => (hS.2.2.2 l hl).2
  have h4 := hS.1
  have h5 := hS.2.1
  have h6 := hS.2.2.1
  unfold holdA at *
  omega
theorem hold_ad {n : Nat} {F : List Nat} {L : List Li} (hF : F.length = 4 * n) {i : Nat} (hi : i < L.length) : ∃ v : Nat, holdAd n L i = (v : Int) ∧ (holdX n F L)[holdA L + 2 + 4 * n + 2 * i + 1]? = some v := by
  have h := (headsI_at (heldL 1 L) (baseI (holdA L) n L.length) i (by rw [heldL_length]; exact hi)).2
  rw [← hold_head hF (by omega)] at h
  exact ⟨_, rfl, h⟩
/-- A law's world: its memory as it was. -/
structure LW (w0 wr : World) (mb cb : Nat) (C : List Nat) (t : Int) : Prop where
  mem : ∃ l s, MemAt wr mb cb (ints C) l s ∧ 0 ≤ l ∧ 0 ≤ s ∧ l + s ≤ t
  low : Below w0.heap.size w0 wr
  old : w0.heap.size ≤ mb ∧ w0.heap.size ≤ cb
theorem LW.below {w0 w w' : World} {mb cb : Nat} {C : List Nat} {t : Int} (h : LW w0 w mb cb C t) (hb : Below w.heap.size w w') : LW w0 w' mb cb C t :=
  ⟨by obtain ⟨l, s, hm, h1, h2, h3⟩ := h.mem; exact ⟨l, s, hm.below hb, h1, h2, h3⟩, low_more h.low hb, h.old⟩
theorem LW.more {w0 w : World} {mb cb : Nat} {C : List Nat} {t t' : Int} (h : LW w0 w mb cb C t) (ht : t ≤ t') : LW w0 w mb cb C t' :=
  ⟨by obtain ⟨l, s, hm, h1, h2, h3⟩ := h.mem; exact ⟨l, s, hm, h1, h2, by omega⟩, h.low, h.old⟩
theorem LW.far {w0 w : World} {mb cb : Nat} {C : List Nat} {t : Int} (h : LW w0 w mb cb C t) {k : Nat} {c : Array Value} {tt : TypeId} (hk : w.heap[k]? = some (.cells c tt (0, 0))) (h1 : tt ≠ 69) (h2 : tt ≠ 52) : k < w.heap.size ∧ k ≠ mb ∧ k ≠ cb := by
  obtain ⟨l, s, hm, _⟩ := h.mem
  refine ⟨lt_of_heap hk, ?_, ?_⟩
  · rintro rfl
    have h9 := hk.symm.trans hm.rec_
    injection h9 with h9
    injection h9 with _ h9 _
    exact h1 h9
  · rintro rfl
    have h9 := hk.symm.trans hm.row
    injection h9 with h9
    injection h9 with _ h9 _
    exact h2 h9
/-- A List, run whole. -/
structure LDone (w0 wx : World) (mb cb : Nat) (C : List Nat) (t : Int) (ba bk bg : Nat) (a k : Int) (l : List En) : Prop where
  lw : LW w0 wx mb cb C t
  k : wx.heap[bk]? = some (.cells #[.int .i64 k] 3 (0, 0))
  a : wx.heap[ba]? = some (.cells #[.int .i64 a] 3 (0, 0))
  g : ∃ ov cv, wx.heap[bg]? = some (.cells #[.slice ov l.length cv] 32 (0, 0)) ∧ ReadE wx ov l
theorem run_list {w0 w : World} {mb cb : Nat} {C : List Nat} {t : Int} {ba bk bg : Nat} {a k : Int} {l : List En} {v : Value} (h : LW w0 w mb cb C t) (ht : t ≤ 900000000) (hcu : ∀ y ∈ ints C, U y) (ha : w.heap[ba]? = some (.cells #[.int .i64 a] 3 (0, 0))) (hk : w.heap[bk]? = some (.cells #[.int .i64 k] 3 (0, 0))) (hg : w.heap[bg]? = some (.cells #[v] 32 (0, 0))) (ho : w0.heap.size ≤ ba ∧ w0.heap.size ≤ bk ∧ w0.heap.size ≤ bg) (a0 : 0 ≤ a) (a1 : a ≤ 100000000000) (hd : ∃ n, Does (listT a k) (ints C) n l (ints C)) :
    Calls Try.prog 11 #[.pointer (some ⟨mb, 0, none⟩), .int .i64 70000, .func (.func 12) #[] #[.pointer (some ⟨ba, 0, none⟩), .pointer (some ⟨bk, 0, none⟩), .pointer (some ⟨bg, 0, none⟩)]] w fun e w' => e = .returned (.bool true) ∧ LDone w0 w' mb cb C (t + 20658) ba bk bg a k l ∧ ∀ j, j < w.heap.size → j ≠ bg → j ≠ mb → j ≠ cb → w'.heap[j]? = w.heap[j]? := by
  obtain ⟨n, hd⟩ := hd
  have hn := ((ends_list a k 0).does hd hcu).1
  rw [Nat.zero_add, Nat.zero_add] at hn
  obtain ⟨l0, s0, hm, h1, h2, h3⟩ := h.mem
  have n1 : bg ≠ ba := by
    rintro rfl
    have h9 := ha.symm.trans hg
    injection h9 with h9
    injection h9 with _ h9 _
    exact absurd h9 (by decide)
  have n2 : bg ≠ bk := by
    rintro rfl
    have h9 := hk.symm.trans hg
    injection h9 with h9
    injection h9 with _ h9 _
    exact absurd h9 (by decide)
  refine (whole15 (B := 999999998) (S := LiS ba bk bg) (I := LiI ba bk bg a k) (Post := LiQ bg) 70000 hm h1 h2 hcu hd (fun rb hrb => Li_clo (a := a) (k := k) (by omega) a1 ba bk bg rb mb cb 999999998 (by omega) n1 n2 (Nat.lt_of_lt_of_le (lt_of_heap hg) hrb)) ⟨ha, hk, ⟨_, hg⟩⟩ (fun j hj => by
    rcases hj with rfl | rfl | rfl
    · exact h.far ha (by decide) (by decide)
    · exact h.far hk (by decide) (by decide)
    · exact h.far hg (by decide) (by decide)) (by omega) (by omega) (by omega) (by omega)).mono ?_
  rintro e w' ⟨rfl, hf⟩
  obtain ⟨q, hq, hown⟩ := hf.post
  obtain ⟨ov, cv, hqs, _, _, _, hre⟩ := hown.reads
  subst hqs
  have hold := h.old
  refine ⟨rfl, ⟨⟨by obtain ⟨l', s', q1, q2, q3, q4⟩ := hf.mem; exact ⟨l', s', q1, q2, q3, by omega⟩, low_of_mod h.low hf.mod (fun j hj => by rcases hj with (e | e | e) | e | e <;> omega), h.old⟩, hf.inv.k, hf.inv.a, ⟨ov, cv, hq, hre⟩⟩, fun j hj j1 j2 j3 => ?_⟩
  by_cases hja : j = ba
  · subst hja; exact hf.inv.a.trans ha.symm
  · by_cases hjk : j = bk
    · subst hjk; exact hf.inv.k.trans hk.symm
    · exact hf.mod.block j hj (by
        rintro ((e | e | e) | e | e)
        · exact hja e
        · exact hjk e
        · exact j1 e
        · exact j2 e
        · exact j3 e)
theorem may_all {l : List En} (h : MayE l) : l.length ≤ 64 ∧ ∀ e ∈ l, e.2.length ≤ 256 := by
  refine ⟨h.1, fun e he => ?_⟩
  obtain ⟨i, hi, rfl⟩ := List.mem_iff_getElem.1 he
  have := (h.2 i hi).2.2.1
  rw [enAt_some (List.getElem?_eq_getElem hi)] at this
  exact this
theorem below_mem {l : List En} {most : Int} {e : En} (h : e ∈ below l most) : e ∈ l := (List.mem_filter.1 h).1
theorem below_len (l : List En) (most : Int) : (below l most).length ≤ l.length := List.length_filter_le _ _
set_option maxRecDepth 100000 in
set_option maxHeartbeats 8000000 in
theorem lists15 (W : World) (oF : Option Addr) (cF n : Nat) (F : List Nat) (oL : Option Addr) (cL tt : Nat) (L : List Li) (most : Int) (hF : F.length = 4 * n) (hr : ReadN .u32 W oF F) (en : L.length = tt) (hL : ReadLi W oL L) (hI : ∀ l ∈ L, LiIn l) (hx : ∀ x ∈ F, x < 4294967296) :
    Calls Try.prog 3 #[.slice oF n cF, .slice oL tt cL, .int .i64 most] W fun e w' => e = .returned (.bool true) ∧ Below W.heap.size W w' := by
  have HGr := Lib.hid (great15 W oF cF n oL cL tt L en hL hI)
  have HF := Lib.hid hF
  have HR := Lib.hid hr
  have HL := Lib.hid hL
  have HX := Lib.hid hx
  have HN := Lib.hid en
  clear hr hL hI hx en hF
  go_enter Try.func3, Try.ntmps3
  go_wp2_with fail
  refine HGr.out.mono ?_; rintro e w1 ⟨b, rfl, hS, hb⟩
  have HB1 := Lib.hid hb
  cases b with
  | true =>
    clear hS hb HGr
    go_wp2_with fail
    refine (fixed15 w1).mono ?_; rintro e w2 ⟨rfl, hb⟩
    have HB2 := Lib.hid (low_more HB1.out hb)
    clear hb
    go_wp2_with fail
    go_ret
    exact ⟨rfl, HB2.out⟩
  | false =>
  have HS := Lib.hid (hS rfl)
  have HHo := Lib.hid (ref_hold15 w1 oF cF n F oL cL tt L HF.out (HR.out.below hb) HN.out (HL.out.below hb) (hS rfl))
  clear hS hb HGr HR HL
  go_wp2_with fail
  refine HHo.out.mono ?_
  rintro e w2 (⟨hok, vc, vl, rfl, hc, hl, hb⟩ | ⟨hn, rfl, hb⟩)
  case inr =>
    have HB2 := Lib.hid (low_more HB1.out hb)
    clear hb hn HHo
    go_wp2_with fail
    refine (fixed15 w2).mono ?_; rintro e w3 ⟨rfl, hb⟩
    have HB3 := Lib.hid (low_more HB2.out hb)
    clear hb
    go_wp2_with fail
    go_ret
    exact ⟨rfl, HB3.out⟩
  obtain ⟨N, hNN⟩ : ∃ N, (holdX n F L).length = N := ⟨_, rfl⟩
  obtain ⟨_, hN1, hN2, hN3⟩ := hold_size HF.out hok HS.out
  rw [hNN] at hN1 hN2
  obtain ⟨oc, cc, rfl, _, _, _, hrc⟩ := hc.reads_of N hNN
  obtain ⟨ol, cl, hvl, _, _, _, hrl⟩ := hl.reads hb
  rw [heldL_length, HN.out] at hvl
  subst hvl
  obtain ⟨at_, hat⟩ : ∃ at_, holdA L = at_ := ⟨_, rfl⟩
  rw [hat] at hN3 ⊢
  have HAt := Lib.hid hat
  have HOk := Lib.hid hok
  have HRc := Lib.hid hrc
  have HRl := Lib.hid hrl
  have HNN := Lib.hid hNN
  have HB2 := Lib.hid (low_more HB1.out hb)
  have HCU := Lib.hid (ints_u (hold_lt hok (fun l hl => (HS.out.2.2.2 l hl).2) HX.out))
  have htt : tt ≤ 300 := by rw [← HN.out]; exact HS.out.2.1
  have hn100 : n ≤ 100 := HS.out.1
  clear hc hl hb hrc hrl hok hNN hat HHo HB1 HX
  go_wp2_with fail
  refine (of_any w2 oc N cc (holdX n F L) HNN.out HRc.out hN1 (by omega)).mono ?_; rintro e w3 ⟨mb, cb, rfl, hm, hb, ho1, ho2⟩
  have HW0 := Lib.hid (show LW w2 w3 mb cb (holdX n F L) 100000 from ⟨⟨0, (N : Int), hm, by omega, by omega, by omega⟩, low_more (Below.refl _ _) hb, ⟨ho1, ho2⟩⟩)
  clear hm hb ho1 ho2
  go_wp2_with fail
  go_loopw [38, 12, 13, 15, 16] (fun iv _ _ _ _ wr => ∃ i : Nat, i ≤ tt ∧ iv = .int .i64 (i : Int) ∧ Hid (LW w2 wr mb cb (holdX n F L) (100000 + 62000 * (i : Int)))) (fun iv _ _ _ _ _ => tt - (intOf iv).toNat)
  case atStart => exact ⟨0, by omega, rfl, Lib.hid (HW0.out.more (by omega))⟩
  case round =>
    clear HW0
    obtain ⟨i, hi, rfl, HWi⟩ := hrel
    by_cases hlt : i < tt
    · have hlt1 : (i : Int) < (tt : Int) := by omega
      have hiL : i < L.length := by rw [HN.out]; exact hlt
      have hiH : i < (heldL 1 L).length := by rw [heldL_length]; exact hiL
      obtain ⟨g, oo, hol, c0, c1, p, c2, hp⟩ := HRl.out i _ (liAt_lt hiH)
      subst hol
      obtain ⟨pa, pc, hpe, _, _, _, hpr⟩ := hp
      subst hpe
      obtain ⟨v, hv1, hv2⟩ := hold_ad (F := F) HF.out hiL
      have hla : (liAt (heldL 1 L) i).ents = (liAt L i).ents := by rw [heldL_at hiL]
      obtain ⟨es, hes⟩ : ∃ es, (liAt L i).ents = es := ⟨_, rfl⟩
      rw [hla, hes] at c2 hpr
      obtain ⟨m, hm⟩ : ∃ m, es.length = m := ⟨_, rfl⟩
      rw [hm] at c2
      have hmay : MayE es := by
        have := (HOk.out.1.2.2.2 i hiH).2.2.2.1
        rw [hla, hes] at this
        exact this
      have hvb : (v : Int) < 4294967296 := by
        have := HCU.out (v : Int) (List.mem_map.2 ⟨v, List.mem_of_getElem? hv2, rfl⟩)
        have := this.2
        omega
      have HWh := Lib.hid (ref_where15 w2 oc N cc (holdX n F L) at_ n oF cF (some ⟨g, oo, none⟩) cl tt (heldL 1 L) (by rw [heldL_length]; exact HN.out) HRl.out HRc.out HNN.out (by omega) (by omega) (by omega) i hlt (fun j hj e => by
        have := rise_ne HOk.out.1.2.2.1 (show j < (heldL 1 L).length by rw [heldL_length, HN.out]; omega) hiH (by rw [e])
        omega) v (by rw [← HAt.out]; exact hv2) (by omega))
      have HWh2 := Lib.hid (fun (wr : World) (h : Below w2.heap.size w2 wr) => ref_where15 wr oc N cc (holdX n F L) at_ n oF cF (some ⟨g, oo, none⟩) cl tt (heldL 1 L) (by rw [heldL_length]; exact HN.out) (HRl.out.below h) (HRc.out.below h) HNN.out (by omega) (by omega) (by omega) i hlt (fun j hj e => by
        have := rise_ne HOk.out.1.2.2.1 (show j < (heldL 1 L).length by rw [heldL_length, HN.out]; omega) hiH (by rw [e])
        omega) v (by rw [← HAt.out]; exact hv2) (by omega))
      obtain ⟨kk, hkk⟩ : ∃ kk, (liAt (heldL 1 L) i).key = kk := ⟨_, rfl⟩
      rw [hkk] at c0 HWh2
      have HDo := Lib.hid (fun k : Int => does_list hmay (holdAd n L i) k (by have := hold_list HF.out HOk.out.1 hiL; rw [hes] at this; exact this))
      rw [hv1] at HDo
      have HM := Lib.hid (And.intro hm (may_all hmay))
      have HPr := Lib.hid hpr
      have d0 := below_cell c0 HWi.out.low
      have HC2 := Lib.hid c2
      have HWr := Lib.hid (HWh2.out wr HWi.out.low)
      clear hv1 hv2 hla hes hm hmay hkk hpr HWh HWh2 c0 c1 c2
      go_wp2_with fail
      refine HWr.out.mono ?_; rintro e w4 ⟨rfl, hw4⟩
      rw [hw4]
      clear hw4
      go_upto_region 13 with fail
      have HA5 := Lib.hid (heap_alloc_new wr (.cells #[.int .i64 (v : Int)] 3))
      have HW5 := Lib.hid (HWi.out.below (below_one (w := wr) (A := .cells #[.int .i64 (v : Int)] 3)))
      have hba2 : w2.heap.size ≤ wr.heap.size := HWi.out.low.size
      obtain ⟨ba, hba⟩ : ∃ ba, wr.heap.size = ba := ⟨_, rfl⟩
      generalize wr.alloc (.cells #[.int .i64 (v : Int)] 3) = w5 at HA5 HW5 ⊢
      rw [hba] at HA5 hba2 ⊢
      have HBA := Lib.hid hba2
      clear hba hba2 HWi HWr d0
      go_wp2_with fail
      have HT6 := Lib.hid (heap_alloc_new w5 (.cells #[.int .i64 most, .int .i64 (n : Int), .int .i64 (i : Int)] 3))
      have HA6 := Lib.hid ((below_one (w := w5) (A := .cells #[.int .i64 most, .int .i64 (n : Int), .int .i64 (i : Int)] 3)).block ba (lt_of_heap HA5.out) |>.trans HA5.out)
      have HW6 := Lib.hid (HW5.out.below (below_one (w := w5) (A := .cells #[.int .i64 most, .int .i64 (n : Int), .int .i64 (i : Int)] 3)))
      have hts2 : w2.heap.size ≤ w5.heap.size := HW5.out.low.size
      obtain ⟨ts, hts⟩ : ∃ ts, w5.heap.size = ts := ⟨_, rfl⟩
      generalize w5.alloc (.cells #[.int .i64 most, .int .i64 (n : Int), .int .i64 (i : Int)] 3) = w6 at HT6 HA6 HW6 ⊢
      rw [hts] at HT6 hts2 ⊢
      have HTS := Lib.hid hts2
      clear hts hts2 HA5 HW5
      go_loopw [57, 15, 16] (fun jv _ _ wr => ∃ j : Nat, j ≤ 3 ∧ jv = .int .i64 (j : Int) ∧ Hid (LW w2 wr mb cb (holdX n F L) (100000 + 62000 * (i : Int) + 20660 * (j : Int))) ∧ Hid (wr.heap[ba]? = some (.cells #[.int .i64 (v : Int)] 3 (0, 0))) ∧ Hid (wr.heap[ts]? = some (.cells #[.int .i64 most, .int .i64 (n : Int), .int .i64 (i : Int)] 3 (0, 0)))) (fun jv _ _ _ => 3 - (intOf jv).toNat)
      case atStart => exact ⟨0, by omega, rfl, Lib.hid (HW6.out.more (by omega)), HA6, HT6⟩
      case round =>
        clear HW6 HA6 HT6
        obtain ⟨j, hj, rfl, HWj, HA, HT⟩ := hrel
        by_cases hjl : j < 3
        · have hjl1 : (j : Int) < 3 := by omega
          obtain ⟨k, hk⟩ : ∃ k : Int, (#[Value.int .i64 most, .int .i64 (n : Int), .int .i64 (i : Int)] : Array Value)[j]? = some (.int .i64 k) := by
            rcases j with _ | _ | _ | j
            · exact ⟨_, rfl⟩
            · exact ⟨_, rfl⟩
            · exact ⟨_, rfl⟩
            · omega
          have qk : wr.cell? ⟨ts, j, none⟩ = some (.int .i64 k) := (cell_at HT.out j).trans hk
          clear hk
          go_upto_region 17 with fail
          have HK7 := Lib.hid (heap2_0 wr (.cells #[.int .i64 k] 3) (.cells #[.slice none 0 0] 32))
          have HG7 := Lib.hid (heap2_1 wr (.cells #[.int .i64 k] 3) (.cells #[.slice none 0 0] 32))
          have hb7 : Below wr.heap.size wr ((wr.alloc (.cells #[.int .i64 k] 3)).alloc (.cells #[.slice none 0 0] 32)) := below_al2
          have HW7 := Lib.hid (HWj.out.below hb7)
          have HA7 := Lib.hid ((hb7.block ba (lt_of_heap HA.out)).trans HA.out)
          have HT7 := Lib.hid ((hb7.block ts (lt_of_heap HT.out)).trans HT.out)
          have hz7 : w2.heap.size ≤ wr.heap.size := HWj.out.low.size
          have htsl := lt_of_heap HT.out
          generalize (wr.alloc (.cells #[.int .i64 k] 3)).alloc (.cells #[.slice none 0 0] 32) = w7 at HK7 HG7 HW7 HA7 HT7 ⊢
          obtain ⟨bg, hbg⟩ : ∃ bg, wr.heap.size + 1 = bg := ⟨_, rfl⟩
          obtain ⟨bk, hbk⟩ : ∃ bk, wr.heap.size = bk := ⟨_, rfl⟩
          rw [hbg] at HG7 ⊢
          rw [hbk] at HK7 hz7 htsl ⊢
          have HZ := Lib.hid (show w2.heap.size ≤ bk ∧ w2.heap.size ≤ bg ∧ ts ≠ bg ∧ ts < bk by omega)
          have HRun := Lib.hid (fun (wx : World) (hw : Below w7.heap.size w7 wx) => run_list (HW7.out.below hw) (by omega) HCU.out ((hw.block ba (lt_of_heap HA7.out)).trans HA7.out) ((hw.block bk (lt_of_heap HK7.out)).trans HK7.out) ((hw.block bg (lt_of_heap HG7.out)).trans HG7.out) ⟨HBA.out, HZ.out.1, HZ.out.2.1⟩ (by omega) (by omega) (HDo.out k))
          obtain ⟨lb, hlb⟩ : ∃ lb, (below es k).length = lb := ⟨_, rfl⟩
          have HLb := Lib.hid hlb
          clear hb7 hz7 hbg hbk hlb htsl HWj HA HT qk
          refine wp_region_cl (fun (p : (Option Addr × Nat) × (Option Addr × Nat)) jz => [.pointer (some ⟨mb, 0, none⟩), .func (.func 12) #[] #[.pointer (some ⟨ba, 0, none⟩), .pointer (some ⟨bk, 0, none⟩), .pointer (some ⟨bg, 0, none⟩)], .bool true, .bool false, .bool false, .slice p.1.1 lb p.1.2, .slice (some ⟨g, oo, none⟩) tt cl, .int .i64 (i : Int), .pointer (some ⟨g, oo + i * 3, none⟩), .pointer (some ⟨g, oo + i * 3 + 2, none⟩), .slice pa m pc, .int .i64 k, .slice p.2.1 lb p.2.2, .bool true, .bool false, .bool false].getD jz undef)
            (fun p l wx => (l 2 = false → Below w7.heap.size w7 wx) ∧ (l 2 = true → LDone w2 wx mb cb (holdX n F L) (100000 + 62000 * (i : Int) + 20660 * ((j + 1 : Nat) : Int)) ba bk bg (v : Int) k (below es k) ∧ wx.heap[bg]? = some (.cells #[.slice p.1.1 lb p.1.2] 32 (0, 0)) ∧ ReadE wx p.1.1 (below es k) ∧ wx.heap[ts]? = some (.cells #[.int .i64 most, .int .i64 (n : Int), .int .i64 (i : Int)] 3 (0, 0))) ∧ (l 12 = true → ReadE wx p.2.1 (below es k)))
            (by kernel_rfl) (by kernel_rfl) (fun q => by simp only [putTo, dstOf, Act.put, List.size_toArray, List.length_cons, List.length_nil, List.getElem?_toArray, Nat.reduceAdd, Option.bind_some, List.getElem?_cons_zero, List.getElem?_cons_succ, List.setIfInBounds_toArray, List.set_cons_zero, List.set_cons_succ, List.getD_cons_zero, List.getD_cons_succ]; exact rfl) ((none, 0), (none, 0)) ?_ ?_ ?_
          · exact ⟨fun _ => (Below.refl _ _).drew, fun h => (by cases h), fun h => (by cases h)⟩
          · intro i o ho p l wx hR hl he hcl K hK
            rcases i with _ | _ | _ | _ | _ | _ | _ | _ | _ | _ | _ | _ | _ | _ | _ | _ | i
            · obtain rfl : _ = o := Option.some.inj ho
              have HRr := Lib.hid hR
              clear hR
              go_simp
              exact hK p wx (fun _ _ => rfl) HRr.out
            · obtain rfl : _ = o := Option.some.inj ho
              have HRr := Lib.hid hR
              clear hR
              go_simp
              exact hK p wx (fun _ _ => rfl) HRr.out
            · obtain rfl : _ = o := Option.some.inj ho
              have hb := hR.1 hl
              have HK := HRun.out wx hb
              have HTx := (hb.block ts (lt_of_heap HT7.out)).trans HT7.out
              have HQ := Lib.hid HK
              have HTT := Lib.hid HTx
              have HRr := Lib.hid hR
              clear hR hb HK HTx
              go_simp
              refine HQ.out.mono ?_; rintro e w8 ⟨rfl, hd, hkeep⟩
              obtain ⟨ov, cv, hg, hre⟩ := hd.g
              rw [HLb.out] at hg
              refine hK ((ov, cv), p.2) w8 (fun jj hj => ?_) ⟨fun h => (by cases h), fun _ => ⟨⟨hd.lw.more (by omega), hd.k, hd.a, hd.g⟩, hg, hre, ?_⟩, fun h => ?_⟩
              · rcases jj with _ | _ | _ | _ | _ | _ | _ | _ | _ | _ | _ | _ | _ | _ | _ | _ | jj
                all_goals first | rfl | (rw [hl] at hj; cases hj) | (exact absurd (hcl 3 _ rfl (hcl 4 _ rfl (hcl 5 _ rfl hj ⟨4, .guard⟩ (by simp) rfl) ⟨3, .data⟩ (by simp) rfl) ⟨2, .data⟩ (by simp) rfl) (by rw [hl]; decide))
              · have hf := LW.far (HW7.out.below (HRr.out.1 hl)) HTT.out (by decide) (by decide)
                exact (hkeep ts hf.1 HZ.out.2.2.1 hf.2.1 hf.2.2).trans HTT.out
              · exact absurd (hcl 3 _ rfl (hcl 4 _ rfl (hcl 12 _ rfl h ⟨4, .guard⟩ (by simp) rfl) ⟨3, .data⟩ (by simp) rfl) ⟨2, .data⟩ (by simp) rfl) (by rw [hl]; decide)
            · obtain rfl : _ = o := Option.some.inj ho
              have HRr := Lib.hid hR
              clear hR
              go_simp
              exact hK p wx (fun _ _ => rfl) HRr.out
            · obtain rfl : _ = o := Option.some.inj ho
              have HRr := Lib.hid hR
              clear hR
              go_simp
              exact hK p wx (fun _ _ => rfl) HRr.out
            · obtain rfl : _ = o := Option.some.inj ho
              have h2 : l 2 = true := hcl 3 _ rfl (hcl 4 _ rfl (he ⟨4, .guard⟩ (by simp) rfl) ⟨3, .data⟩ (by simp) rfl) ⟨2, .data⟩ (by simp) rfl
              have hd := hR.2.1 h2
              have q := (show wx.cell? ⟨bg, 0, none⟩ = some (.slice p.1.1 lb p.1.2) from cell_at hd.2.1 0)
              clear hd
              have HRr := Lib.hid hR
              clear hR h2
              go_simp
              exact hK p wx (fun _ _ => rfl) HRr.out
            · obtain rfl : _ = o := Option.some.inj ho
              have HRr := Lib.hid hR
              clear hR
              go_simp
              exact hK p wx (fun _ _ => rfl) HRr.out
            · obtain rfl : _ = o := Option.some.inj ho
              have HRr := Lib.hid hR
              clear hR
              go_simp
              exact hK p wx (fun _ _ => rfl) HRr.out
            · obtain rfl : _ = o := Option.some.inj ho
              have HRr := Lib.hid hR
              clear hR
              go_simp
              exact hK p wx (fun _ _ => rfl) HRr.out
            · obtain rfl : _ = o := Option.some.inj ho
              have HRr := Lib.hid hR
              clear hR
              go_simp
              exact hK p wx (fun _ _ => rfl) HRr.out
            · obtain rfl : _ = o := Option.some.inj ho
              have h2 : l 2 = true := hcl 3 _ rfl (hcl 4 _ rfl (he ⟨4, .guard⟩ (by simp) rfl) ⟨3, .data⟩ (by simp) rfl) ⟨2, .data⟩ (by simp) rfl
              have hd := hR.2.1 h2
              have q := below_cell HC2.out hd.1.lw.low
              clear hd
              have HRr := Lib.hid hR
              clear hR h2
              go_simp
              exact hK p wx (fun _ _ => rfl) HRr.out
            · obtain rfl : _ = o := Option.some.inj ho
              have h2 : l 2 = true := hcl 3 _ rfl (hcl 4 _ rfl (he ⟨4, .guard⟩ (by simp) rfl) ⟨3, .data⟩ (by simp) rfl) ⟨2, .data⟩ (by simp) rfl
              have hd := hR.2.1 h2
              have q := (show wx.cell? ⟨bk, 0, none⟩ = some (.int .i64 k) from cell_at hd.1.k 0)
              clear hd
              have HRr := Lib.hid hR
              clear hR h2
              go_simp
              exact hK p wx (fun _ _ => rfl) HRr.out
            · obtain rfl : _ = o := Option.some.inj ho
              have h2 : l 2 = true := hcl 3 _ rfl (hcl 4 _ rfl (he ⟨4, .guard⟩ (by simp) rfl) ⟨3, .data⟩ (by simp) rfl) ⟨2, .data⟩ (by simp) rfl
              have HRr := Lib.hid hR
              have HQ := Lib.hid (ref_below15 wx pa m pc es k HM.out.1 (HPr.out.below (HRr.out.2.1 h2).1.lw.low) (by have := HM.out.2.1; have := HM.out.1; omega))
              clear hR
              go_simp
              refine HQ.out.mono ?_; rintro e w8 ⟨v8, rfl, ho8, hb8⟩
              obtain ⟨ob, cb8, hv8, _, _, _, hr8⟩ := ho8.reads hb8
              rw [HLb.out] at hv8
              subst hv8
              have hd := HRr.out.2.1 h2
              refine hK (p.1, (ob, cb8)) w8 (fun jj hj => ?_) ⟨fun h => absurd h (by show ¬ (l 2 = false); rw [h2]; decide), fun _ => ⟨⟨hd.1.lw.below hb8, (hb8.block _ (lt_of_heap hd.1.k)).trans hd.1.k, (hb8.block _ (lt_of_heap hd.1.a)).trans hd.1.a, (by obtain ⟨ov, cv, h1, h3⟩ := hd.1.g; exact ⟨ov, cv, (hb8.block _ (lt_of_heap h1)).trans h1, h3.below hb8⟩)⟩, (hb8.block _ (lt_of_heap hd.2.1)).trans hd.2.1, hd.2.2.1.below hb8, (hb8.block _ (lt_of_heap hd.2.2.2)).trans hd.2.2.2⟩, fun _ => hr8⟩
              rcases jj with _ | _ | _ | _ | _ | _ | _ | _ | _ | _ | _ | _ | _ | _ | _ | _ | j
              all_goals first | rfl | (rw [hl] at hj; cases hj)
            · obtain rfl : _ = o := Option.some.inj ho
              have h2 : l 2 = true := hcl 3 _ rfl (hcl 4 _ rfl (he ⟨4, .guard⟩ (by simp) rfl) ⟨3, .data⟩ (by simp) rfl) ⟨2, .data⟩ (by simp) rfl
              have h12 : l 12 = true := he ⟨12, .data⟩ (by simp) rfl
              have HRr := Lib.hid hR
              have hd0 := HRr.out.2.1 h2
              have HQ := Lib.hid (ref_same13 wx p.1.1 p.2.1 p.1.2 p.2.2 lb lb (below es k) (below es k) HLb.out HLb.out hd0.2.2.1 (HRr.out.2.2 h12) (by have := HM.out.2.1; have := below_len es k; have := HLb.out; omega) (fun e he => by have := HM.out.2.2 e (below_mem he); omega))
              clear hR hd0
              go_simp
              refine HQ.out.mono ?_; rintro e w8 ⟨rfl, hb8⟩
              rw [show decide (below es k = below es k) = true from decide_eq_true rfl]
              have hd := HRr.out.2.1 h2
              exact hK p w8 (fun _ _ => rfl) ⟨fun h => absurd h (by show ¬ (l 2 = false); rw [h2]; decide), fun _ => ⟨⟨hd.1.lw.below hb8, (hb8.block _ (lt_of_heap hd.1.k)).trans hd.1.k, (hb8.block _ (lt_of_heap hd.1.a)).trans hd.1.a, (by obtain ⟨ov, cv, h1, h3⟩ := hd.1.g; exact ⟨ov, cv, (hb8.block _ (lt_of_heap h1)).trans h1, h3.below hb8⟩)⟩, (hb8.block _ (lt_of_heap hd.2.1)).trans hd.2.1, hd.2.2.1.below hb8, (hb8.block _ (lt_of_heap hd.2.2.2)).trans hd.2.2.2⟩, fun _ => (HRr.out.2.2 h12).below hb8⟩
            · obtain rfl : _ = o := Option.some.inj ho
              have HRr := Lib.hid hR
              clear hR
              go_simp
              exact hK p wx (fun _ _ => rfl) HRr.out
            · obtain rfl : _ = o := Option.some.inj ho
              have HRr := Lib.hid hR
              clear hR
              go_simp
              exact hK p wx (fun _ _ => rfl) HRr.out
            · simp at ho
          · intro p l wx hl hR
            have hd := hR.2.1 (hl 2 (by decide))
            have HL2 := Lib.hid hd.1.lw
            have HA2 := Lib.hid hd.1.a
            have HT2 := Lib.hid hd.2.2.2
            clear hd hR hl
            go_wp2_with fail
            go_roundw
            case rel => exact ⟨j + 1, by omega, by go_num, HL2, HA2, HT2⟩
            case measure => simp [intOf]; omega
        · obtain rfl : j = 3 := by omega
          go_wp2_with fail
          go_roundw
          case rel => exact ⟨i + 1, by omega, by go_num, Lib.hid (HWj.out.more (by omega))⟩
          case measure => simp [intOf]; omega
    · obtain rfl : i = tt := by omega
      go_wp2_with fail
      refine (fixed15 wr).mono ?_; rintro e w4 ⟨rfl, hb⟩
      have HW4 := Lib.hid (HWi.out.below hb)
      obtain ⟨l0, s0, hm, _⟩ := HW4.out.mem
      have HM := Lib.hid hm
      have HCe := Lib.hid (cells_at hm (by rw [ints_length, HNN.out]; omega))
      clear hb HWi hm
      go_wp2_with fail
      refine HCe.out.mono ?_; rintro e w5 ⟨rfl, hr5, hb⟩
      have HR5 := Lib.hid (read_cells hr5)
      have HW5 := Lib.hid (HW4.out.below hb)
      rw [ints_length, HNN.out]
      have HSm := Lib.hid (same32_at w5 (some ⟨w4.heap.size, 0, none⟩) oc N cc N N (holdX n F L) (holdX n F L) HNN.out HNN.out HR5.out (HRc.out.below HW5.out.low) (by omega))
      clear hr5 hb HCe HW4
      go_wp2_with fail
      refine HSm.out.mono ?_; rintro e w6 ⟨rfl, hb⟩
      have HW6 := Lib.hid (HW5.out.below hb)
      clear hb HSm
      go_wp2_with fail
      go_ret
      exact ⟨by simp, ⟨HW6.out.low.os.trans HB2.out.os, HW6.out.low.tape.trans HB2.out.tape, HW6.out.low.output.trans HB2.out.output, Nat.le_trans HB2.out.size HW6.out.low.size, fun k hk => (HW6.out.low.block k (Nat.lt_of_lt_of_le hk HB2.out.size)).trans (HB2.out.block k hk)⟩⟩
end Go.Proofs.Ytkjimgidlpocbaa

namespace Go.Proofs.Ytkjimgidlpocbaa
open Go.RowKit
variable {α : Type}
theorem Ends.reach {P : Nat → α → Prop} {n : Nat} {p : Pr α} (h : Ends P n p) : ∃ m x, n ≤ m ∧ P m x := by
  induction h with
  | ret hp => exact ⟨_, _, Nat.le_refl _, hp⟩
  | load _ ih =>
    obtain ⟨m, x, h1, h2⟩ := ih 0 u_zero
    exact ⟨m, x, by omega, h2⟩
/-- It is on its way, behind i Steps. -/
structure Endg (W : World) (rb mb cb : Nat) (S : Nat → Prop) (I : World → Prop) (p : Pr α) (P : Nat → α → Prop) (cs : List Int) (t : Int) (i : Nat) (wx : World) : Prop where
  st : ∃ st go q, RM wx rb mb cb go false st ∧ At p q st ∧ Ends P i q ∧ st.cs = cs ∧ st.log.length ≤ i ∧ 0 ≤ st.l ∧ 0 ≤ st.s ∧ st.l + st.s ≤ t + i ∧ (∀ y ∈ st.log, U y) ∧ (∀ y ∈ st.cs, U y) ∧ (∀ g, go = some g → W.heap.size ≤ g)
  inv : I wx
  mod : Mod (fun k => S k ∨ k = rb ∨ k = mb ∨ k = cb) W wx
/-- It is over. -/
structure Endo (W : World) (rb mb cb : Nat) (S : Nat → Prop) (I : World → Prop) (cs : List Int) (t : Int) (wx : World) : Prop where
  run : ∃ cap go log at_ ma off er, RunAt wx rb mb go cap log at_ false ma off true er ∧ ∀ g, go = some g → W.heap.size ≤ g
  mem : ∃ l s, MemAt wx mb cb cs l s ∧ 0 ≤ l ∧ 0 ≤ s ∧ l + s ≤ t
  inv : I wx
  mod : Mod (fun k => S k ∨ k = rb ∨ k = mb ∨ k = cb) W wx
theorem Endg.new {W : World} {rb mb cb : Nat} {S : Nat → Prop} {I : World → Prop} {p : Pr α} {P : Nat → α → Prop} {cs : List Int} {l s : Int} (hm : MemAt W mb cb cs l s) (h0 : 0 ≤ l) (h1 : 0 ≤ s) (hcu : ∀ y ∈ cs, U y) (hp : Ends P 0 p) (hr : RunAt W rb mb none 0 [] 0 false false false false 0) (hI : I W) :
    Endg W rb mb cb S I p P cs (l + s) 0 W :=
  ⟨⟨⟨[], 0, false, false, false, 0, cs, l, s⟩, none, p, ⟨⟨0, hr⟩, hm, by simp⟩, At.new p cs l s, hp, rfl, by simp, h0, h1, by show l + s ≤ l + s + ((0 : Nat) : Int); omega, by simp, hcu, by simp⟩, hI, Mod.refl _ _⟩
theorem Endg.more {W w : World} {rb mb cb : Nat} {S : Nat → Prop} {I : World → Prop} {p : Pr α} {N : Nat} {cs : List Int} {t : Int} {i : Nat} (h : Endg W rb mb cb S I p (fun n _ => n ≤ N) cs t i w) : i ≤ N := by
  obtain ⟨st, go, q, _, _, hq, _⟩ := h.st
  obtain ⟨m, x, h1, h2⟩ := hq.reach
  omega
theorem Endg.step {W w : World} {rb mb cb : Nat} {F : FuncId} {caps : Array Value} {S : Nat → Prop} {I : World → Prop} {p : Pr α} {Post : α → World → Prop} {P : Nat → α → Prop} {cs : List Int} {t : Int} {i B : Nat} (h : Endg W rb mb cb S I p P cs t i w)
    (hC : Clo F caps rb mb cb S I p Post B) (hS : ∀ k, S k → k < W.heap.size ∧ k ≠ mb ∧ k ≠ cb ∧ k ≠ rb) (hn : i + 1 ≤ B) (ht : t + i + 1 ≤ B) :
    Calls Try.prog 19 #[.pointer (some ⟨rb, 0, none⟩), .func (.func F) #[] caps] w fun e w' => (e = .returned (.bool true) ∧ Endo W rb mb cb S I cs (t + i + 1) w') ∨ (e = .returned (.bool false) ∧ Endg W rb mb cb S I p P cs t (i + 1) w') := by
  obtain ⟨⟨st, go, q, hrm, hat, hq, hcs, hlog, h0, h1, hsum, hlu, hcu, hgo⟩, hI, hmod⟩ := h
  have hfine := hat.fine (B := B) (by omega) h0 h1 (by omega) hlu hcu
  have hfar : ∀ k, S k → ¬ Feet rb mb cb go k := by
    intro k hk
    obtain ⟨a1, a2, a3, a4⟩ := hS k hk
    rintro (e | e | e | e)
    · exact a4 e
    · have := hgo k e; omega
    · exact a2 e
    · exact a3 e
  refine (step_goA hrm hat.over hat.off hfine hC hI hfar).mono ?_
  rintro e w' ⟨rfl, go', hrm', hadv, hI', hP'⟩
  have hu := stepA_u (p := p) hfine hat.over
  have hgo' : ∀ g, go' = some g → W.heap.size ≤ g := by
    intro g hg
    rcases hadv.grows with e | ⟨g', e, hg'⟩
    · exact hgo g (by rw [← e]; exact hg)
    · rw [e] at hg; cases hg
      exact Nat.le_trans hmod.size hg'
  have hmod' : Mod (fun k => S k ∨ k = rb ∨ k = mb ∨ k = cb) W w' := hmod.then hadv.mod (by
    rintro k hk (e | e | e | e | e)
    · exact .inl e
    · exact .inr (.inl e)
    · have := hgo k e; omega
    · exact .inr (.inr (.inl e))
    · exact .inr (.inr (.inr e)))
  have key : ((st.stepA p).over = true ∧ (st.stepA p).cs = cs ∧ (st.stepA p).l + (st.stepA p).s ≤ st.l + st.s + 1 ∧ 0 ≤ (st.stepA p).l ∧ 0 ≤ (st.stepA p).s) ∨ ((st.stepA p).over = false ∧ ∃ q', At p q' (st.stepA p) ∧ Ends P (i + 1) q' ∧ (st.stepA p).cs = cs ∧ (st.stepA p).log.length ≤ i + 1 ∧ (st.stepA p).l + (st.stepA p).s ≤ st.l + st.s + 1 ∧ 0 ≤ (st.stepA p).l ∧ 0 ≤ (st.stepA p).s) := by
    cases q with
    | ret x =>
      have hst := step_next hat (show (Pr.ret x).In st.cs.length from trivial)
      left
      refine ⟨hst.over, by rw [hst.cells]; exact hcs, hst.sum, ?_, ?_⟩
      · have := hst.l0; omega
      · have := hst.s0; omega
    | store a v k => cases hq
    | load a k =>
      by_cases hin : 0 ≤ a ∧ a < st.cs.length
      · have hst := step_next hat (show (Pr.load a k).In st.cs.length from hin)
        cases hq with
        | load hk =>
          have hv : U (st.cs.getD a.toNat 0) := u_getD hcu _
          have hk2 := hk _ hv
          cases hr : (k (st.cs.getD a.toNat 0)).isRet with
          | true =>
            left
            refine ⟨hst.over.trans hr, by rw [hst.cells]; exact hcs, hst.sum, ?_, ?_⟩
            · have := hst.l0; omega
            · have := hst.s0; omega
          | false =>
            right
            refine ⟨hst.over.trans hr, _, hst.at_ hr, hk2, by rw [hst.cells]; exact hcs, by have := hst.count; omega, hst.sum, ?_, ?_⟩
            · have := hst.l0; omega
            · have := hst.s0; omega
      · left
        have ho := on_ahead hat
        have hk : okAt st.cs.length a = false := okAt_no (by omega)
        have e : ({ st with at_ := st.log.length, made := false } : St).load a = (0, { st with at_ := st.log.length, made := true, off := true, over := true, err := 2 }) := by
          simp [St.load, hk]
        have e1 : st.stepA p = ({ st with at_ := st.log.length, made := true, off := true, over := true, err := 2 } : St).shut := by
          unfold St.stepA
          rw [if_neg (by simp [hat.over]), ho, on_load', e]
          rfl
        rw [e1]
        exact ⟨rfl, hcs, by show st.l + st.s ≤ _; omega, h0, h1⟩
  rcases key with ⟨k1, k2, k3, k4, k5⟩ | ⟨k1, q', k2, k3, k4, k5, k6, k7, k8⟩
  · left
    rw [k1]
    obtain ⟨cap, hr2⟩ := hrm'.run
    rw [k1] at hr2
    refine ⟨rfl, ⟨⟨cap, go', _, _, _, _, _, hr2, hgo'⟩, ⟨_, _, by rw [← k2]; exact hrm'.mem, k4, k5, by omega⟩, hI', hmod'⟩⟩
  · right
    rw [k1]
    exact ⟨rfl, ⟨⟨_, go', q', hrm', k2, k3, k4, k5, k7, k8, by omega, hu.1, hu.2, hgo'⟩, hI', hmod'⟩⟩
end Go.Proofs.Ytkjimgidlpocbaa

namespace Go.Proofs.Ytkjimgidlpocbaa
open Go.RowKit

/-! ### The closures -/
structure E1I (ba bq : Nat) (a : Int) (key : ByteArray) (w : World) : Prop where
  a : w.heap[ba]? = some (.cells #[.int .i64 a] 3 (0, 0))
  q : w.heap[bq]? = some (.cells #[.string key] 9 (0, 0))
def E1S (ba bq : Nat) (k : Nat) : Prop := k = ba ∨ k = bq
theorem E1I.of_blocks {ba bq : Nat} {a : Int} {key : ByteArray} {w w' : World} (h : E1I ba bq a key w) (hb : ∀ j, E1S ba bq j → j < w.heap.size → w'.heap[j]? = w.heap[j]?) : E1I ba bq a key w' :=
  ⟨(hb _ (.inl rfl) (lt_of_heap h.a)).trans h.a, (hb _ (.inr rfl) (lt_of_heap h.q)).trans h.q⟩
set_option maxRecDepth 100000 in
set_option maxHeartbeats 2000000 in
theorem E1_clo {a : Int} {key : ByteArray} (hk : key.size ≤ reachBytes) (a0 : -100000000000 ≤ a) (a1 : a ≤ 10000000000) (ba bq rb mb cb Bd : Nat) (hB : Bd < 1000000000) :
    Clo 20 #[.pointer (some ⟨ba, 0, none⟩), .pointer (some ⟨bq, 0, none⟩)] rb mb cb (E1S ba bq) (E1I ba bq a key) (termT a (keyN key)) (fun _ _ => True) Bd where
  enter := fun args w => rfl
  keepI := fun w w' h _ hb => h.of_blocks hb
  keepP := fun x w w' go st h hr hm => trivial
  old := fun w h k hk => by
    rcases hk with rfl | rfl
    · exact lt_of_heap h.a
    · exact lt_of_heap h.q
  call := fun w go st hrm hfine hoff hI hS => by
    have HI := Lib.hid hI
    have HK := Lib.hid (term_any key a hrm hfine hB hk a0 a1)
    have HS := Lib.hid hS
    have c_a : w.cell? ⟨ba, 0, none⟩ = some (.int .i64 a) := cell_at hI.a 0
    have c_q : w.cell? ⟨bq, 0, none⟩ = some (.string key) := cell_at hI.q 0
    clear hI hrm hfine hoff hS
    show Calls Try.prog 20 #[.pointer (some ⟨rb, 0, none⟩), .pointer (some ⟨ba, 0, none⟩), .pointer (some ⟨bq, 0, none⟩)] w _
    go_enter Try.func20, Try.ntmps20
    go_wp2_with fail
    refine HK.out.mono ?_
    clear HK
    rintro e w1 ⟨x, v, go', rfl, ⟨rfl, _, _⟩, hrm1, hadv, hans⟩
    have hb : ∀ j, E1S ba bq j → j < w.heap.size → w1.heap[j]? = w.heap[j]? := fun j hj hlt => hadv.mod.block j hlt fun e => HS.out j hj e
    have HA := Lib.hid (And.intro hrm1 (And.intro hadv (HI.out.of_blocks hb)))
    clear hb hrm1 hadv hans c_a c_q
    go_wp2_with fail
    go_end0
    exact ⟨rfl, go', HA.out.1, HA.out.2.1.advS _, HA.out.2.2, fun _ _ => trivial⟩
structure E2I (ba bk : Nat) (a k : Int) (w : World) : Prop where
  a : w.heap[ba]? = some (.cells #[.int .i64 a] 3 (0, 0))
  k : w.heap[bk]? = some (.cells #[.int .i64 k] 3 (0, 0))
theorem E2I.of_blocks {ba bq : Nat} {a k : Int} {w w' : World} (h : E2I ba bq a k w) (hb : ∀ j, E1S ba bq j → j < w.heap.size → w'.heap[j]? = w.heap[j]?) : E2I ba bq a k w' :=
  ⟨(hb _ (.inl rfl) (lt_of_heap h.a)).trans h.a, (hb _ (.inr rfl) (lt_of_heap h.k)).trans h.k⟩
set_option maxRecDepth 100000 in
set_option maxHeartbeats 2000000 in
theorem E2_clo {a k : Int} (a0 : -100000000000 ≤ a) (a1 : a ≤ 100000000000) (ba bk rb mb cb Bd : Nat) (hB : Bd < 1000000000) :
    Clo 22 #[.pointer (some ⟨ba, 0, none⟩), .pointer (some ⟨bk, 0, none⟩)] rb mb cb (E1S ba bk) (E2I ba bk a k) (listT a k) (fun _ _ => True) Bd where
  enter := fun args w => rfl
  keepI := fun w w' h _ hb => h.of_blocks hb
  keepP := fun x w w' go st h hr hm => trivial
  old := fun w h k hk => by
    rcases hk with rfl | rfl
    · exact lt_of_heap h.a
    · exact lt_of_heap h.k
  call := fun w go st hrm hfine hoff hI hS => by
    have HI := Lib.hid hI
    have HK := Lib.hid (list_any a k hrm hfine hB a0 a1)
    have HS := Lib.hid hS
    have c_a : w.cell? ⟨ba, 0, none⟩ = some (.int .i64 a) := cell_at hI.a 0
    have c_k : w.cell? ⟨bk, 0, none⟩ = some (.int .i64 k) := cell_at hI.k 0
    clear hI hrm hfine hoff hS
    show Calls Try.prog 22 #[.pointer (some ⟨rb, 0, none⟩), .pointer (some ⟨ba, 0, none⟩), .pointer (some ⟨bk, 0, none⟩)] w _
    go_enter Try.func22, Try.ntmps22
    go_wp2_with fail
    refine HK.out.mono ?_
    clear HK
    rintro e w1 ⟨x, v, go', rfl, _, hrm1, hadv, hans⟩
    have hb : ∀ j, E1S ba bk j → j < w.heap.size → w1.heap[j]? = w.heap[j]? := fun j hj hlt => hadv.mod.block j hlt fun e => HS.out j hj e
    have HA := Lib.hid (And.intro hrm1 (And.intro hadv (HI.out.of_blocks hb)))
    clear hb hrm1 hadv hans c_a c_k
    go_wp2_with fail
    go_end0
    exact ⟨rfl, go', HA.out.1, HA.out.2.1.advS _, HA.out.2.2, fun _ _ => trivial⟩
theorem mem_far {w : World} {mb cb : Nat} {cs : List Int} {l s : Int} (hm : MemAt w mb cb cs l s) {k : Nat} {c : Array Value} {tt : TypeId} (hk : w.heap[k]? = some (.cells c tt (0, 0))) (h1 : tt ≠ 69) (h2 : tt ≠ 52) : k < w.heap.size ∧ k ≠ mb ∧ k ≠ cb := by
  refine ⟨lt_of_heap hk, ?_, ?_⟩
  · rintro rfl
    have h9 := hk.symm.trans hm.rec_
    injection h9 with h9
    injection h9 with _ h9 _
    exact h1 h9
  · rintro rfl
    have h9 := hk.symm.trans hm.row
    injection h9 with h9
    injection h9 with _ h9 _
    exact h2 h9
theorem RunAt.keep {w w' : World} {rb mb : Nat} {go : Option Nat} {cap : Nat} {log : List Int} {at_ : Nat} {wi ma off ov : Bool} {er : Int} (h : RunAt w rb mb go cap log at_ wi ma off ov er) (hb : ∀ k, k = rb ∨ go = some k → w'.heap[k]? = w.heap[k]?) : RunAt w' rb mb go cap log at_ wi ma off ov er :=
  ⟨(hb rb (.inl rfl)).trans h.rec_, h.row.of_block fun g hg => hb g (.inr hg)⟩
set_option maxRecDepth 100000 in
set_option maxHeartbeats 8000000 in
theorem ends15 (W : World) (oC : Option Addr) (cC N : Nat) (C : List Nat) (a : Int) (key : ByteArray) (most : Int) (eC : C.length = N) (hC : ReadN .u32 W oC C) (hcu : ∀ x ∈ C, x < 4294967296) (hk : key.size ≤ reachBytes) (ha0 : -9223372036854775808 ≤ a) (ha1 : a ≤ 9223372036854775807) :
    Calls Try.prog 4 #[.slice oC N cC, .int .i64 a, .string key, .int .i64 most] W fun e w' => e = .returned (.bool true) ∧ Below W.heap.size W w' := by
  have HC := Lib.hid hC
  have HN := Lib.hid eC
  have HU := Lib.hid (ints_u hcu)
  clear hC eC hcu
  have kz : (key.size : Int) ≤ 281474976710656 := by unfold reachBytes at hk; omega
  have kz2 : goInt key.size = .int .i64 (key.size : Int) := rfl
  go_enter Try.func4, Try.ntmps4
  go_upto_region 1 with fail
  have HA0 := Lib.hid (heap3_0 W (.cells #[.int .i64 a] 3) (.cells #[.string key] 9) (.cells #[.int .i64 most] 3))
  have HQ0 := Lib.hid (heap3_1 W (.cells #[.int .i64 a] 3) (.cells #[.string key] 9) (.cells #[.int .i64 most] 3))
  have HK0 := Lib.hid (heap3_2 W (.cells #[.int .i64 a] 3) (.cells #[.string key] 9) (.cells #[.int .i64 most] 3))
  have HB0 := Lib.hid (below_al3 (w := W) (A := .cells #[.int .i64 a] 3) (B := .cells #[.string key] 9) (C := .cells #[.int .i64 most] 3))
  generalize ((W.alloc (.cells #[.int .i64 a] 3)).alloc (.cells #[.string key] 9)).alloc (.cells #[.int .i64 most] 3) = w0 at HA0 HQ0 HK0 HB0 ⊢
  obtain ⟨bk, hbk⟩ : ∃ bk, W.heap.size + 1 + 1 = bk := ⟨_, rfl⟩
  obtain ⟨bq, hbq⟩ : ∃ bq, W.heap.size + 1 = bq := ⟨_, rfl⟩
  obtain ⟨ba, hba⟩ : ∃ ba, W.heap.size = ba := ⟨_, rfl⟩
  rw [hbk] at HK0 ⊢
  rw [hbq] at HQ0 ⊢
  rw [hba] at HA0 ⊢
  have HBx := Lib.hid (show W.heap.size ≤ ba ∧ W.heap.size ≤ bq ∧ W.heap.size ≤ bk ∧ ba ≠ bq ∧ ba ≠ bk ∧ bq ≠ bk by omega)
  have qa : w0.cell? ⟨ba, 0, none⟩ = some (.int .i64 a) := cell_at HA0.out 0
  have qq : w0.cell? ⟨bq, 0, none⟩ = some (.string key) := cell_at HQ0.out 0
  clear hbk hbq hba
  by_cases hbig : N < 1 ∨ 400 < N ∨ a < -1000 ∨ 1000 < a ∨ 100 < key.size
  · have HFx := Lib.hid (fixed15 w0)
    have Hfin : ∀ w', Below w0.heap.size w0 w' → Below W.heap.size W w' := fun w' h => low_more HB0.out h
    have HFin := Lib.hid Hfin
    clear Hfin
    by_cases g1 : N < 1
    · have z1 : decide ((N : Int) < 1) = true := decide_eq_true (by omega)
      have z1b : (N : Int) < 1 := by omega
      have z1n : decide (N < 1) = true := decide_eq_true g1
      clear hbig
      go_wp2_with fail
      refine HFx.out.mono ?_; rintro e w1 ⟨rfl, hb⟩
      have HB1 := Lib.hid (HFin.out _ hb)
      clear hb
      go_wp2_with fail
      go_ret
      exact ⟨rfl, HB1.out⟩
    have z1 : decide ((N : Int) < 1) = false := decide_eq_false (by omega)
    have z1b : ¬ (N : Int) < 1 := by omega
    have z1n : decide (N < 1) = false := decide_eq_false g1
    by_cases g2 : 400 < N
    · have z2 : decide ((400 : Int) < (N : Int)) = true := decide_eq_true (by omega)
      have z2n : decide (400 < N) = true := decide_eq_true g2
      clear hbig
      go_wp2_with fail
      refine HFx.out.mono ?_; rintro e w1 ⟨rfl, hb⟩
      have HB1 := Lib.hid (HFin.out _ hb)
      clear hb
      go_wp2_with fail
      go_ret
      exact ⟨rfl, HB1.out⟩
    have z2 : decide ((400 : Int) < (N : Int)) = false := decide_eq_false (by omega)
    have z2n : decide (400 < N) = false := decide_eq_false g2
    by_cases g3 : a < -1000
    · have z3 : decide (a < -1000) = true := decide_eq_true g3
      clear hbig
      go_wp2_with fail
      refine HFx.out.mono ?_; rintro e w1 ⟨rfl, hb⟩
      have HB1 := Lib.hid (HFin.out _ hb)
      clear hb
      go_wp2_with fail
      go_ret
      exact ⟨rfl, HB1.out⟩
    have z3 : decide (a < -1000) = false := decide_eq_false g3
    by_cases g4 : 1000 < a
    · have z4 : decide (1000 < a) = true := decide_eq_true g4
      clear hbig
      go_wp2_with fail
      refine HFx.out.mono ?_; rintro e w1 ⟨rfl, hb⟩
      have HB1 := Lib.hid (HFin.out _ hb)
      clear hb
      go_wp2_with fail
      go_ret
      exact ⟨rfl, HB1.out⟩
    have z4 : decide (1000 < a) = false := decide_eq_false g4
    have g5 : 100 < key.size := by omega
    have z5 : decide ((100 : Int) < (key.size : Int)) = true := decide_eq_true (by omega)
    have z5n : decide (100 < key.size) = true := decide_eq_true g5
    clear hbig
    go_wp2_with fail
    refine HFx.out.mono ?_; rintro e w1 ⟨rfl, hb⟩
    have HB1 := Lib.hid (HFin.out _ hb)
    clear hb
    go_wp2_with fail
    go_ret
    exact ⟨rfl, HB1.out⟩
  · have b1 : 1 ≤ N ∧ N ≤ 400 := by omega
    have b2 : -1000 ≤ a ∧ a ≤ 1000 := by omega
    have b3 : key.size ≤ 100 := by omega
    have z1 : decide ((N : Int) < 1) = false := decide_eq_false (by omega)
    have z1n : decide (N < 1) = false := decide_eq_false (by omega)
    have z1b : ¬ (N : Int) < 1 := by omega
    have z2 : decide ((400 : Int) < (N : Int)) = false := decide_eq_false (by omega)
    have z2n : decide (400 < N) = false := decide_eq_false (by omega)
    have z3 : decide (a < -1000) = false := decide_eq_false (by omega)
    have z4 : decide (1000 < a) = false := decide_eq_false (by omega)
    have z5 : decide ((100 : Int) < (key.size : Int)) = false := decide_eq_false (by omega)
    have z5n : decide (100 < key.size) = false := decide_eq_false (by omega)
    clear hbig
    go_wp2_with fail
    refine (of_any w0 oC N cC C HN.out (HC.out.below HB0.out) b1.1 (by omega)).mono ?_; rintro e w1 ⟨mb, cb, rfl, hm, hb, ho1, ho2⟩
    have HM1 := Lib.hid hm
    have HB1 := Lib.hid (low_more HB0.out hb)
    have HA1 := Lib.hid ((hb.block _ (lt_of_heap HA0.out)).trans HA0.out)
    have HQ1 := Lib.hid ((hb.block _ (lt_of_heap HQ0.out)).trans HQ0.out)
    have HK1 := Lib.hid ((hb.block _ (lt_of_heap HK0.out)).trans HK0.out)
    have HO := Lib.hid (show W.heap.size ≤ mb ∧ W.heap.size ≤ cb by have := HB0.out.size; omega)
    clear hm hb ho1 ho2 qa qq HA0 HQ0 HK0 z1 z1n z1b z2 z2n z3 z4 z5 z5n
    go_wp2_with fail
    refine (new_run w1 mb).mono ?_; rintro e w2 ⟨rfl, hr1, hb⟩
    obtain ⟨r1, hr1e⟩ : ∃ r1, w1.heap.size = r1 := ⟨_, rfl⟩
    have hb' : Below w1.heap.size w1 w2 := hb
    have hr1' : RunAt w2 r1 mb none 0 [] 0 false false false false 0 := by rw [← hr1e]; exact hr1
    have HR1 := Lib.hid hr1'
    have HM2 := Lib.hid (HM1.out.below hb')
    have HB2 := Lib.hid (low_more HB1.out hb')
    have HA2 := Lib.hid ((hb'.block _ (lt_of_heap HA1.out)).trans HA1.out)
    have HQ2 := Lib.hid ((hb'.block _ (lt_of_heap HQ1.out)).trans HQ1.out)
    have HK2 := Lib.hid ((hb'.block _ (lt_of_heap HK1.out)).trans HK1.out)
    have HNr1 := Lib.hid (show W.heap.size ≤ r1 ∧ ba ≠ r1 ∧ bq ≠ r1 ∧ bk ≠ r1 by
      have e1 := lt_of_heap HA1.out
      have e2 := lt_of_heap HQ1.out
      have e3 := lt_of_heap HK1.out
      have e4 := HB1.out.size
      omega)
    rw [hr1e]
    clear hb hb' hr1 hr1' hr1e HM1 HB1 HA1 HQ1 HK1
    go_wp2_with fail
    refine (new_run w2 mb).mono ?_; rintro e w3 ⟨rfl, hr2, hb⟩
    obtain ⟨r2, hr2e⟩ : ∃ r2, w2.heap.size = r2 := ⟨_, rfl⟩
    have hb' : Below w2.heap.size w2 w3 := hb
    have hr2' : RunAt w3 r2 mb none 0 [] 0 false false false false 0 := by rw [← hr2e]; exact hr2
    have HR2 := Lib.hid hr2'
    have HR13 := Lib.hid (HR1.out.below hb')
    have HM3 := Lib.hid (HM2.out.below hb')
    have HB3 := Lib.hid (low_more HB2.out hb')
    have HA3 := Lib.hid ((hb'.block _ (lt_of_heap HA2.out)).trans HA2.out)
    have HQ3 := Lib.hid ((hb'.block _ (lt_of_heap HQ2.out)).trans HQ2.out)
    have HK3 := Lib.hid ((hb'.block _ (lt_of_heap HK2.out)).trans HK2.out)
    have HNr2 := Lib.hid (show W.heap.size ≤ r2 ∧ ba ≠ r2 ∧ bq ≠ r2 ∧ bk ≠ r2 ∧ r1 ≠ r2 by
      have e1 := lt_of_heap HA2.out
      have e2 := lt_of_heap HQ2.out
      have e3 := lt_of_heap HK2.out
      have e5 := lt_of_heap HR1.out.rec_
      have e4 := HB2.out.size
      omega)
    rw [hr2e]
    clear hb hb' hr2 hr2' hr2e HM2 HB2 HA2 HQ2 HK2 HR1
    obtain ⟨cB, hcB⟩ : ∃ cB : Int, cB = 7201 := ⟨_, rfl⟩
    have HG0 := Lib.hid (Endg.new (S := E1S ba bq) (I := E1I ba bq a key) (p := termT a (keyN key)) (P := fun n _ => n ≤ 7200) HM3.out (by omega) (by omega) HU.out ((ends_term a (keyN key) (by rw [key_len15]; exact b3) 0).mono fun _ _ h => by omega) HR13.out ⟨HA3.out, HQ3.out⟩)
    have HC1 := Lib.hid (E1_clo (a := a) (key := key) hk (by omega) (by omega) ba bq r1 mb cb 999999998 (by omega))
    have HS1 := Lib.hid (show ∀ k, E1S ba bq k → k < w3.heap.size ∧ k ≠ mb ∧ k ≠ cb ∧ k ≠ r1 from fun k hkk => by
      rcases hkk with rfl | rfl
      · have := mem_far HM3.out HA3.out (by decide) (by decide); exact ⟨this.1, this.2.1, this.2.2, HNr1.out.2.1⟩
      · have := mem_far HM3.out HQ3.out (by decide) (by decide); exact ⟨this.1, this.2.1, this.2.2, HNr1.out.2.2.1⟩)
    have HFs := Lib.hid (show (r2 < w3.heap.size ∧ r2 ≠ mb ∧ r2 ≠ cb) ∧ (bk < w3.heap.size ∧ bk ≠ mb ∧ bk ≠ cb) ∧ (r1 < w3.heap.size ∧ r1 ≠ mb ∧ r1 ≠ cb) ∧ (ba < w3.heap.size ∧ ba ≠ mb ∧ ba ≠ cb) ∧ mb < w3.heap.size ∧ cb < w3.heap.size from ⟨mem_far HM3.out HR2.out.rec_ (by decide) (by decide), mem_far HM3.out HK3.out (by decide) (by decide), mem_far HM3.out HR13.out.rec_ (by decide) (by decide), mem_far HM3.out HA3.out (by decide) (by decide), lt_of_heap HM3.out.rec_, lt_of_heap HM3.out.row⟩)
    clear hcB
    go_wp2_with fail
    go_loopw [42] (fun iv wr => ∃ i : Nat, iv = .int .i64 (i : Int) ∧ Endg w3 r1 mb cb (E1S ba bq) (E1I ba bq a key) (termT a (keyN key)) (fun n _ => n ≤ 7200) (ints C) (0 + (N : Int)) i wr) (fun iv _ => 70000 - (intOf iv).toNat)
    case atStart => exact ⟨0, rfl, HG0.out⟩
    case round =>
      clear HG0
      obtain ⟨i, rfl, hg⟩ := hrel
      have hi := hg.more
      have hlt : (i : Int) < 70000 := by omega
      have HSt := Lib.hid (hg.step HC1.out HS1.out (by omega) (by omega))
      clear hg
      go_wp2_with fail
      refine HSt.out.mono ?_
      clear HSt
      rintro e w5 (⟨rfl, ho⟩ | ⟨rfl, hg⟩)
      rotate_left
      · have HG := Lib.hid hg
        clear hg
        go_wp2_with fail
        go_roundw
        case rel => exact ⟨i + 1, by go_num, HG.out⟩
        case measure => simp [intOf]; omega
      · have HO1 := Lib.hid ho
        obtain ⟨l5, s5, hm5, h50, h51, h52⟩ := ho.mem
        have hr25 : RunAt w5 r2 mb none 0 [] 0 false false false false 0 := HR2.out.keep fun k hkk => by
          rcases hkk with rfl | hkk
          · exact ho.mod.block k HFs.out.1.1 (by
              have := HNr2.out
              have h3 := HFs.out.1
              rintro ((e | e) | e | e | e)
              · exact this.2.1 e.symm
              · exact this.2.2.1 e.symm
              · exact this.2.2.2.2 e.symm
              · exact h3.2.1 e
              · exact h3.2.2 e)
          · cases hkk
        have hk5 : w5.heap[bk]? = some (.cells #[.int .i64 most] 3 (0, 0)) := (ho.mod.block bk HFs.out.2.1.1 (by
          have h1 := HBx.out
          have h2 := HNr1.out
          have h3 := HFs.out.2.1
          rintro ((e | e) | e | e | e)
          · exact h1.2.2.2.2.1 e.symm
          · exact h1.2.2.2.2.2 e.symm
          · exact h2.2.2.2 e
          · exact h3.2.1 e
          · exact h3.2.2 e)).trans HK3.out
        have HG0 := Lib.hid (Endg.new (S := E1S ba bk) (I := E2I ba bk a most) (p := listT a most) (P := fun n _ => n ≤ 20658) hm5 h50 h51 HU.out ((ends_list a most 0).mono fun _ _ h => by omega) hr25 ⟨ho.inv.a, hk5⟩)
        have HC2 := Lib.hid (E2_clo (a := a) (k := most) (by omega) (by omega) ba bk r2 mb cb 999999998 (by omega))
        have hz5 := ho.mod.size
        have HS2 := Lib.hid (show ∀ k, E1S ba bk k → k < w5.heap.size ∧ k ≠ mb ∧ k ≠ cb ∧ k ≠ r2 from fun k hkk => by
          have h1 := HFs.out
          have h2 := HNr2.out
          rcases hkk with rfl | rfl
          · exact ⟨Nat.lt_of_lt_of_le h1.2.2.2.1.1 hz5, h1.2.2.2.1.2.1, h1.2.2.2.1.2.2, h2.2.1⟩
          · exact ⟨Nat.lt_of_lt_of_le h1.2.1.1 hz5, h1.2.1.2.1, h1.2.1.2.2, h2.2.2.2.1⟩)
        have hsum : l5 + s5 ≤ 9000 := by omega
        have HSum := Lib.hid hsum
        clear ho hm5 h50 h51 h52 hr25 hk5 hz5 hsum HC1 HS1
        go_wp2_with fail
        go_loopw [48] (fun iv wr => ∃ i : Nat, iv = .int .i64 (i : Int) ∧ Endg w5 r2 mb cb (E1S ba bk) (E2I ba bk a most) (listT a most) (fun n _ => n ≤ 20658) (ints C) (l5 + s5) i wr) (fun iv _ => 70000 - (intOf iv).toNat)
        case atStart => exact ⟨0, rfl, HG0.out⟩
        case round =>
          clear HG0
          obtain ⟨i2, rfl, hg⟩ := hrel
          have hi2 := hg.more
          have hlt2 : (i2 : Int) < 70000 := by omega
          have HSt := Lib.hid (hg.step HC2.out HS2.out (by omega) (by have := HSum.out; omega))
          clear hg
          go_wp2_with fail
          refine HSt.out.mono ?_
          clear HSt
          rintro e w7 (⟨rfl, ho⟩ | ⟨rfl, hg⟩)
          rotate_left
          · have HG := Lib.hid hg
            clear hg
            go_wp2_with fail
            go_roundw
            case rel => exact ⟨i2 + 1, by go_num, HG.out⟩
            case measure => simp [intOf]; omega
          · have HO2 := Lib.hid ho
            obtain ⟨cap1, g1, log1, at1, ma1, off1, er1, hru1, hgo1⟩ := HO1.out.run
            obtain ⟨cap2, g2, log2, at2, ma2, off2, er2, hru2, hgo2⟩ := ho.run
            have hz5 := HO1.out.mod.size
            have hru17 := hru1.keep (w' := w7) fun k hkk => by
              have h1 := HFs.out
              have h2 := HNr1.out
              have h3 := HNr2.out
              have hz3 := hz5
              rcases hkk with rfl | hkk
              · exact ho.mod.block k (Nat.lt_of_lt_of_le h1.2.2.1.1 hz3) (by
                  rintro ((e | e) | e | e | e)
                  · exact h2.2.1 e.symm
                  · exact h2.2.2.2 e.symm
                  · exact h3.2.2.2.2 e
                  · exact h1.2.2.1.2.1 e
                  · exact h1.2.2.1.2.2 e)
              · have hk3 := hgo1 k hkk
                refine ho.mod.block k ?_ (by
                  have e1 := h1.2.2.2.1.1
                  have e2 := h1.2.1.1
                  have e3 := h1.1.1
                  have e4 := h1.2.2.2.2
                  rintro ((e | e) | e | e | e) <;> omega)
                have hrow := hru1.row
                rw [hkk] at hrow
                exact hrow.lt
            obtain ⟨l7, s7, hm7, h70, h71, _⟩ := ho.mem
            have HM7 := Lib.hid hm7
            have HX1 := Lib.hid hru17
            have HX2 := Lib.hid hru2
            have hlow7 : Below W.heap.size W w7 := by
              have a1 := low_of_mod HB3.out HO1.out.mod (fun k hkk => by
                have h1 := HBx.out
                have h2 := HNr1.out
                have h3 := HO.out
                rcases hkk with (e | e) | e | e | e <;> omega)
              exact low_of_mod a1 ho.mod (fun k hkk => by
                have h1 := HBx.out
                have h2 := HNr2.out
                have h3 := HO.out
                rcases hkk with (e | e) | e | e | e <;> omega)
            have HB7 := Lib.hid hlow7
            clear ho hru1 hru2 hru17 hm7 hlow7 hz5 hgo1 hgo2 HO1 HO2
            go_wp2_with fail
            refine (fixed15 w7).mono ?_; rintro e w8 ⟨rfl, hb⟩
            have HX18 := Lib.hid (HX1.out.below hb)
            have HX28 := Lib.hid (HX2.out.below hb)
            have HM8 := Lib.hid (HM7.out.below hb)
            have HB8 := Lib.hid (low_more HB7.out hb)
            clear hb HX1 HX2 HM7 HB7
            go_wp2_with fail
            refine (over_at HX18.out).mono ?_; rintro e9 w9 ⟨rfl, hw9⟩
            rw [← hw9]
            clear hw9
            go_wp2_with fail
            refine (over_at HX28.out).mono ?_; rintro e9 w9 ⟨rfl, hw9⟩
            rw [← hw9]
            clear hw9
            go_wp2_with fail
            refine (cells_at HM8.out (by rw [ints_length, HN.out]; omega)).mono ?_; rintro e w9 ⟨rfl, hr9, hb⟩
            have HR9 := Lib.hid (read_cells hr9)
            have HB9 := Lib.hid (low_more HB8.out hb)
            rw [ints_length, HN.out]
            have HSm := Lib.hid (same32_at w9 (some ⟨w8.heap.size, 0, none⟩) oC N cC N N C C HN.out HN.out HR9.out (HC.out.below HB9.out) (by omega))
            clear hr9 hb
            go_wp2_with fail
            refine HSm.out.mono ?_; rintro e w10 ⟨rfl, hb⟩
            have HB10 := Lib.hid (low_more HB9.out hb)
            clear hb HSm
            go_wp2_with fail
            go_ret
            exact ⟨by simp, HB10.out⟩
end Go.Proofs.Ytkjimgidlpocbaa

namespace Go.Proofs.Ytkjimgidlpocbaa
open Go.RowKit Go.ChangeShapes Go.WideShapes Go.ChangeAt Go.Deep

def coT (at_ : Int) (key : List Nat) : Pr (List En × List En) := (docsT at_).bind fun n => (termT at_ key).bind fun a => (listT a n).bind fun l => (listT a (n.tdiv 2)).bind fun m => .ret (l, m)
theorem RM.far {w : World} {rb mb cb : Nat} {go : Option Nat} {st : St} (h : RM w rb mb cb go true st) {k : Nat} {c : Array Value} {tt : TypeId} (hk : w.heap[k]? = some (.cells c tt (0, 0))) (h1 : tt ≠ 69) (h2 : tt ≠ 52) (h3 : tt ≠ 71) : ¬ Feet rb mb cb go k := by
  obtain ⟨cap, hr⟩ := h.run
  have hm := mem_far h.mem hk h1 h2
  rintro (e | e | e | e)
  · subst e
    have h9 := hk.symm.trans hr.rec_
    injection h9 with h9
    injection h9 with _ h9 _
    exact h3 h9
  · have hl := hr.row
    rw [e] at hl
    obtain ⟨cur, h4, _⟩ := hl
    rw [h4] at hk
    injection hk with hk
    injection hk with _ h5
    exact h2 h5.symm
  · exact hm.2.1 e
  · exact hm.2.2 e
theorem row_adv {w w' : World} {rb mb cb : Nat} {go go' : Option Nat} {st : St} (h : RM w rb mb cb go true st) (ha : Adv rb mb cb w go w' go') {base sz n : Nat} {t : TypeId} {v : Value} {xs : List Value} (ho : w.ownsRow base t sz v n xs) (h1 : t ≠ 69) (h2 : t ≠ 52) (h3 : t ≠ 71) : w'.ownsRow base t sz v n xs := by
  obtain ⟨h0, e | ⟨g, cap, cur, e1, e2, e3, e4⟩⟩ := ho
  · exact ⟨h0, .inl e⟩
  · exact ⟨h0, .inr ⟨g, cap, cur, e1, e2, (ha.mod.block g (lt_of_heap e3) (h.far e3 h1 h2 h3)).trans e3, e4⟩⟩
theorem OwnE.adv {w w' : World} {rb mb cb : Nat} {go go' : Option Nat} {st : St} {base : Nat} {v : Value} {l : List En} (ho : OwnE w base v l) (h : RM w rb mb cb go true st) (ha : Adv rb mb cb w go w' go') : OwnE w' base v l := by
  obtain ⟨ps, h1, h2, h3⟩ := ho
  refine ⟨ps, h1, row_adv h ha h2 (by decide) (by decide) (by decide), fun j e hj => ?_⟩
  obtain ⟨u, h4, h5⟩ := h3 j e hj
  exact ⟨u, h4, row_adv h ha h5 (by decide) (by decide) (by decide)⟩
structure CoI (bt bl bi b1 b2 gl : Nat) (at_ : Int) (tt cl : Nat) (i : Nat) (cur : Array Value) (w : World) : Prop where
  t : w.heap[bt]? = some (.cells #[.int .i64 at_] 3 (0, 0))
  l : w.heap[bl]? = some (.cells #[.slice (some ⟨gl, 0, none⟩) tt cl] 23 (0, 0))
  i : w.heap[bi]? = some (.cells #[.int .i64 (i : Int)] 3 (0, 0))
  x : ∃ v : Value, w.heap[b1]? = some (.cells #[v] 32 (0, 0))
  y : ∃ v : Value, w.heap[b2]? = some (.cells #[v] 32 (0, 0))
  g : w.heap[gl]? = some (.cells cur 34 (0, 0))
def CoS (bt bl bi b1 b2 gl : Nat) (k : Nat) : Prop := k = bt ∨ k = bl ∨ k = bi ∨ k = b1 ∨ k = b2 ∨ k = gl
theorem CoI.of_blocks {bt bl bi b1 b2 gl : Nat} {at_ : Int} {tt cl i : Nat} {cur : Array Value} {w w' : World} (h : CoI bt bl bi b1 b2 gl at_ tt cl i cur w) (hb : ∀ j, CoS bt bl bi b1 b2 gl j → j < w.heap.size → w'.heap[j]? = w.heap[j]?) : CoI bt bl bi b1 b2 gl at_ tt cl i cur w' :=
  ⟨(hb _ (.inl rfl) (lt_of_heap h.t)).trans h.t, (hb _ (.inr (.inl rfl)) (lt_of_heap h.l)).trans h.l, (hb _ (.inr (.inr (.inl rfl))) (lt_of_heap h.i)).trans h.i, (by obtain ⟨v, hv⟩ := h.x; exact ⟨v, (hb _ (.inr (.inr (.inr (.inl rfl)))) (lt_of_heap hv)).trans hv⟩), (by obtain ⟨v, hv⟩ := h.y; exact ⟨v, (hb _ (.inr (.inr (.inr (.inr (.inl rfl))))) (lt_of_heap hv)).trans hv⟩), (hb _ (.inr (.inr (.inr (.inr (.inr rfl))))) (lt_of_heap h.g)).trans h.g⟩
theorem CoI.set {bt bl bi b1 b2 gl : Nat} {at_ : Int} {tt cl i : Nat} {cur : Array Value} {w : World} (h : CoI bt bl bi b1 b2 gl at_ tt cl i cur w) {b : Nat} (hb : b = b1 ∨ b = b2) (v : Value) (n : (b1 ≠ b2 ∧ b1 ≠ bt ∧ b1 ≠ bl ∧ b1 ≠ bi ∧ b1 ≠ gl) ∧ b2 ≠ bt ∧ b2 ≠ bl ∧ b2 ≠ bi ∧ b2 ≠ gl) : CoI bt bl bi b1 b2 gl at_ tt cl i cur (w.setCell ⟨b, 0, none⟩ v) := by
  have ne : ∀ k, k ≠ b → (w.setCell ⟨b, 0, none⟩ v).heap[k]? = w.heap[k]? := fun k hk => Below.heap_setCell _ _ _ _ hk
  obtain ⟨⟨n0, n1, n2, n3, n4⟩, n5, n6, n7, n8⟩ := n
  obtain ⟨v1, hv1⟩ := h.x
  obtain ⟨v2, hv2⟩ := h.y
  rcases hb with rfl | rfl
  · exact ⟨(ne _ (Ne.symm n1)).trans h.t, (ne _ (Ne.symm n2)).trans h.l, (ne _ (Ne.symm n3)).trans h.i, ⟨v, heap_setCell_same _ _ 0 _ _ v hv1⟩, ⟨v2, (ne _ (Ne.symm n0)).trans hv2⟩, (ne _ (Ne.symm n4)).trans h.g⟩
  · exact ⟨(ne _ (Ne.symm n5)).trans h.t, (ne _ (Ne.symm n6)).trans h.l, (ne _ (Ne.symm n7)).trans h.i, ⟨v1, (ne _ n0).trans hv1⟩, ⟨v, heap_setCell_same _ _ 0 _ _ v hv2⟩, (ne _ (Ne.symm n8)).trans h.g⟩
theorem CoI.old {bt bl bi b1 b2 gl : Nat} {at_ : Int} {tt cl i : Nat} {cur : Array Value} {w : World} (h : CoI bt bl bi b1 b2 gl at_ tt cl i cur w) {k : Nat} (hk : CoS bt bl bi b1 b2 gl k) : k < w.heap.size := by
  rcases hk with rfl | rfl | rfl | rfl | rfl | rfl
  · exact lt_of_heap h.t
  · exact lt_of_heap h.l
  · exact lt_of_heap h.i
  · obtain ⟨v, hv⟩ := h.x; exact lt_of_heap hv
  · obtain ⟨v, hv⟩ := h.y; exact lt_of_heap hv
  · exact lt_of_heap h.g
def CoQ (b1 b2 : Nat) (x : List En × List En) (w : World) : Prop := ∃ v1 v2, w.heap[b1]? = some (.cells #[v1] 32 (0, 0)) ∧ OwnE w 0 v1 x.1 ∧ w.heap[b2]? = some (.cells #[v2] 32 (0, 0)) ∧ OwnE w 0 v2 x.2
theorem tdiv_half {n : Int} (h0 : -1 ≤ n) (h1 : n ≤ 4294967295) : -1 ≤ n.tdiv 2 ∧ n.tdiv 2 ≤ 4294967295 := by
  by_cases h : 0 ≤ n
  · rw [Int.tdiv_eq_ediv_of_nonneg h]; omega
  · obtain rfl : n = -1 := by omega
    decide
set_option maxRecDepth 100000 in
set_option maxHeartbeats 4000000 in
theorem Co_clo {at_ : Int} {tt cl i : Nat} {cur : Array Value} {key : ByteArray} (hkey : cur[i * 3]? = some (.string key)) (hi : i < tt) (hk : key.size ≤ reachBytes) (a0 : 0 ≤ at_) (a1 : at_ ≤ 1000000) (bt bl bi b1 b2 gl rb mb cb Bd : Nat) (hB : Bd < 1000000000) (n : (b1 ≠ b2 ∧ b1 ≠ bt ∧ b1 ≠ bl ∧ b1 ≠ bi ∧ b1 ≠ gl) ∧ b2 ≠ bt ∧ b2 ≠ bl ∧ b2 ≠ bi ∧ b2 ≠ gl) (l1 : b1 < rb) (l2 : b2 < rb) :
    Clo 24 #[.pointer (some ⟨bt, 0, none⟩), .pointer (some ⟨bl, 0, none⟩), .pointer (some ⟨bi, 0, none⟩), .pointer (some ⟨b1, 0, none⟩), .pointer (some ⟨b2, 0, none⟩)] rb mb cb (CoS bt bl bi b1 b2 gl) (CoI bt bl bi b1 b2 gl at_ tt cl i cur) (coT at_ (keyN key)) (CoQ b1 b2) Bd where
  enter := fun args w => rfl
  keepI := fun w w' h _ hb => h.of_blocks hb
  keepP := fun x w w' go st h hr hm => by
    obtain ⟨v1, v2, h1, h2, h3, h4⟩ := h
    exact ⟨v1, v2, (hm.block _ (lt_of_heap h1) (by omega)).trans h1, h2.run hr hm, (hm.block _ (lt_of_heap h3) (by omega)).trans h3, h4.run hr hm⟩
  old := fun w h k hk => by
    rcases hk with rfl | rfl | rfl | rfl | rfl | rfl
    · exact lt_of_heap h.t
    · exact lt_of_heap h.l
    · exact lt_of_heap h.i
    · obtain ⟨v, hv⟩ := h.x; exact lt_of_heap hv
    · obtain ⟨v, hv⟩ := h.y; exact lt_of_heap hv
    · exact lt_of_heap h.g
  call := fun w go st hrm hfine hoff hI hS => by
    have HI := Lib.hid hI
    have HK := Lib.hid (docs_any at_ hrm hfine hB)
    have HS := Lib.hid hS
    have HF := Lib.hid hfine
    obtain ⟨p0, hp0⟩ : ∃ p, p = coT at_ (keyN key) := ⟨_, rfl⟩
    rw [← hp0]
    have HQ := Lib.hid (show Rest p0 ((docsT at_).bind fun n => (termT at_ (keyN key)).bind fun a => (listT a n).bind fun l => (listT a (n.tdiv 2)).bind fun m => .ret (l, m)) st st by rw [hp0]; exact Rest.start _ st)
    have HNE := Lib.hid n
    have HKy := Lib.hid (And.intro hkey hk)
    have c_t : w.cell? ⟨bt, 0, none⟩ = some (.int .i64 at_) := cell_at hI.t 0
    have hii : (i : Int) < (tt : Int) := by omega
    clear hI hrm hfine hoff hS hp0 n hkey hk
    show Calls Try.prog 24 #[.pointer (some ⟨rb, 0, none⟩), .pointer (some ⟨bt, 0, none⟩), .pointer (some ⟨bl, 0, none⟩), .pointer (some ⟨bi, 0, none⟩), .pointer (some ⟨b1, 0, none⟩), .pointer (some ⟨b2, 0, none⟩)] w _
    go_enter Try.func24, Try.ntmps24
    go_wp2_with fail
    refine HK.out.mono ?_
    clear HK
    rintro e w1 ⟨n, v, go1, rfl, ⟨rfl, hn0, hn1⟩, hrm1, hadv, hans⟩
    have hb : ∀ j, CoS bt bl bi b1 b2 gl j → j < w.heap.size → w1.heap[j]? = w.heap[j]? := fun j hj hlt => hadv.mod.block j hlt fun e => HS.out j hj e
    have HI1 := Lib.hid (HI.out.of_blocks hb)
    have HQ1 := Lib.hid (HQ.out.bind HF.out hans)
    have HF1 := Lib.hid (on_fine (docsT at_) st HF.out)
    have HS1 := Lib.hid (show ∀ k, CoS bt bl bi b1 b2 gl k → ¬ Feet rb mb cb go1 k from fun k hk => (hadv.advS (fun _ => False)).apart (by
      have h := HI.out
      rcases hk with rfl | rfl | rfl | rfl | rfl | rfl
      · exact lt_of_heap h.t
      · exact lt_of_heap h.l
      · exact lt_of_heap h.i
      · obtain ⟨v, hv⟩ := h.x; exact lt_of_heap hv
      · obtain ⟨v, hv⟩ := h.y; exact lt_of_heap hv
      · exact lt_of_heap h.g) (HS.out k hk))
    have HR1 := Lib.hid hrm1
    have HA1 := Lib.hid (hadv.advS (CoS bt bl bi b1 b2 gl))
    generalize ((docsT at_).on st).2 = st1 at HR1 HF1 HQ1
    clear hrm1 hadv hans hb c_t HQ HF
    go_upto_region 1 with fail
    refine wp_region_cl (fun (p : Int × Option Nat) jz => [.pointer (some ⟨rb, 0, none⟩), .int .i64 at_, .slice (some ⟨gl, 0, none⟩) tt cl, .int .i64 (i : Int), .pointer (some ⟨gl, i * 3, none⟩), .pointer (some ⟨gl, i * 3, none⟩), .string key, .int .i64 p.1, .int .i64 p.1].getD jz undef)
      (fun p l wx => (l 7 = false → Below w1.heap.size w1 wx) ∧ (l 7 = true → RM wx rb mb cb p.2 true ((termT at_ (keyN key)).on st1).2 ∧ Adv rb mb cb w1 go1 wx p.2 ∧ (∀ y, ((termT at_ (keyN key)).on st1).1 = some y → y = p.1) ∧ 0 ≤ p.1 ∧ p.1 ≤ 4294967295))
      (by kernel_rfl) (by kernel_rfl) (fun q => by simp only [putTo, dstOf, Act.put, List.size_toArray, List.length_cons, List.length_nil, List.getElem?_toArray, Nat.reduceAdd, Option.bind_some, List.getElem?_cons_zero, List.getElem?_cons_succ, List.setIfInBounds_toArray, List.set_cons_zero, List.set_cons_succ, List.getD_cons_zero, List.getD_cons_succ]; exact rfl) (0, go1) ?_ ?_ ?_
    · exact ⟨fun _ => (Below.refl _ _).drew, fun h => (by cases h)⟩
    · intro i o ho p l wx hR hl he hcl K hK
      rcases i with _ | _ | _ | _ | _ | _ | _ | _ | _ | i
      · obtain rfl : _ = o := Option.some.inj ho
        have HRr := Lib.hid hR
        clear hR
        go_simp
        exact hK p wx (fun _ _ => rfl) HRr.out
      · obtain rfl : _ = o := Option.some.inj ho
        have h7 : l 7 = false := by
          cases h7 : l 7 with
          | false => rfl
          | true => exact absurd (hcl 7 _ rfl h7 ⟨1, .data⟩ (by simp) rfl) (by rw [hl]; decide)
        have hb := hR.1 h7
        have hI2 := HI1.out.of_blocks fun j _ hlt => hb.block j hlt
        have q := (show wx.cell? ⟨bt, 0, none⟩ = some (.int .i64 at_) from cell_at hI2.t 0)
        have HRr := Lib.hid hR
        clear hR hb hI2 h7
        go_simp
        exact hK p wx (fun _ _ => rfl) HRr.out
      · obtain rfl : _ = o := Option.some.inj ho
        have h7 : l 7 = false := by
          cases h7 : l 7 with
          | false => rfl
          | true => exact absurd (hcl 4 _ rfl (hcl 5 _ rfl (hcl 6 _ rfl (hcl 7 _ rfl h7 ⟨6, .data⟩ (by simp) rfl) ⟨5, .data⟩ (by simp) rfl) ⟨4, .data⟩ (by simp) rfl) ⟨2, .data⟩ (by simp) rfl) (by rw [hl]; decide)
        have hb := hR.1 h7
        have hI2 := HI1.out.of_blocks fun j _ hlt => hb.block j hlt
        have q := (show wx.cell? ⟨bl, 0, none⟩ = some (.slice (some ⟨gl, 0, none⟩) tt cl) from cell_at hI2.l 0)
        have HRr := Lib.hid hR
        clear hR hb hI2 h7
        go_simp
        exact hK p wx (fun _ _ => rfl) HRr.out
      · obtain rfl : _ = o := Option.some.inj ho
        have h7 : l 7 = false := by
          cases h7 : l 7 with
          | false => rfl
          | true => exact absurd (hcl 4 _ rfl (hcl 5 _ rfl (hcl 6 _ rfl (hcl 7 _ rfl h7 ⟨6, .data⟩ (by simp) rfl) ⟨5, .data⟩ (by simp) rfl) ⟨4, .data⟩ (by simp) rfl) ⟨3, .data⟩ (by simp) rfl) (by rw [hl]; decide)
        have hb := hR.1 h7
        have hI2 := HI1.out.of_blocks fun j _ hlt => hb.block j hlt
        have q := (show wx.cell? ⟨bi, 0, none⟩ = some (.int .i64 (i : Int)) from cell_at hI2.i 0)
        have HRr := Lib.hid hR
        clear hR hb hI2 h7
        go_simp
        exact hK p wx (fun _ _ => rfl) HRr.out
      · obtain rfl : _ = o := Option.some.inj ho
        have HRr := Lib.hid hR
        clear hR
        go_simp
        exact hK p wx (fun _ _ => rfl) HRr.out
      · obtain rfl : _ = o := Option.some.inj ho
        have HRr := Lib.hid hR
        clear hR
        go_simp
        exact hK p wx (fun _ _ => rfl) HRr.out
      · obtain rfl : _ = o := Option.some.inj ho
        have h7 : l 7 = false := by
          cases h7 : l 7 with
          | false => rfl
          | true => exact absurd (hcl 7 _ rfl h7 ⟨6, .data⟩ (by simp) rfl) (by rw [hl]; decide)
        have hb := hR.1 h7
        have hI2 := HI1.out.of_blocks fun j _ hlt => hb.block j hlt
        have q := (show wx.cell? ⟨gl, i * 3, none⟩ = some (.string key) from (cell_at hI2.g (i * 3)).trans HKy.out.1)
        have HRr := Lib.hid hR
        clear hR hb hI2 h7
        go_simp
        exact hK p wx (fun _ _ => rfl) HRr.out
      · obtain rfl : _ = o := Option.some.inj ho
        have hb := hR.1 hl
        have hrx := HR1.out.below hb
        have HQt := Lib.hid (term_any key at_ hrx HF1.out hB HKy.out.2 (by omega) (by omega))
        have HBx := Lib.hid hb
        clear hR hb hrx
        go_simp
        refine HQt.out.mono ?_; rintro e w8 ⟨x, v8, go8, rfl, ⟨rfl, hx0, hx1⟩, hr8, ha8, hans8⟩
        refine hK (x, go8) w8 (fun jj hj => ?_) ⟨fun h => (by cases h), fun _ => ⟨hr8, (Adv.of_below HBx.out).trans ha8, hans8, hx0, hx1⟩⟩
        rcases jj with _ | _ | _ | _ | _ | _ | _ | _ | _ | jj
        all_goals first | rfl | (rw [hl] at hj; cases hj) | (exact absurd (hcl 8 _ rfl hj ⟨7, .data⟩ (by simp) rfl) (by rw [hl]; decide))
      · obtain rfl : _ = o := Option.some.inj ho
        have HRr := Lib.hid hR
        clear hR
        go_simp
        exact hK p wx (fun _ _ => rfl) HRr.out
      · simp at ho
    · intro p l wx hl hR
      obtain ⟨a, go2⟩ := p
      obtain ⟨hr2, ha2, hans2, ha0, ha1⟩ := hR.2 (hl 7 (by decide))
      simp only at hr2 ha2 hans2 ha0 ha1
      clear hR hl
      have HQ2 := Lib.hid (HQ1.out.bind HF1.out hans2)
      have HF2 := Lib.hid (on_fine (termT at_ (keyN key)) st1 HF1.out)
      have HI2 := Lib.hid (HI1.out.of_blocks fun j hj hlt => ha2.mod.block j hlt (HS1.out j hj))
      have HS2 := Lib.hid (show ∀ k, CoS bt bl bi b1 b2 gl k → ¬ Feet rb mb cb go2 k from fun k hk => (ha2.advS (fun _ => False)).apart (CoI.old HI1.out hk) (HS1.out k hk))
      have HA2 := Lib.hid (HA1.out.trans (ha2.advS (CoS bt bl bi b1 b2 gl)))
      have HR2 := Lib.hid hr2
      generalize ((termT at_ (keyN key)).on st1).2 = st2 at HR2 HF2 HQ2
      have HK2 := Lib.hid (list_any a n HR2.out HF2.out hB (by omega) (by omega))
      clear hr2 ha2 hans2 HQ1 HF1 HS1 HA1 HR1
      go_wp2_with fail
      refine HK2.out.mono ?_
      clear HK2
      rintro e w3 ⟨x, v, go3, rfl, hown, hrm3, hadv, hans⟩
      obtain ⟨ov, cv, hv, _⟩ := hown.reads
      obtain ⟨xl, hxl⟩ : ∃ xl, x.length = xl := ⟨_, rfl⟩
      rw [hxl] at hv
      subst hv
      have HXl := Lib.hid hxl
      have hI3 := HI2.out.of_blocks fun j hj hlt => hadv.mod.block j hlt (HS2.out j hj)
      obtain ⟨v0, hg⟩ := hI3.x
      have f_g := free_at hg 0
      have k_g := cell_at hg 0
      have hst := clo_store (S := CoS bt bl bi b1 b2 gl) (bg := b1) (.inr (.inr (.inr (.inl rfl)))) (CoI.old HI2.out (.inr (.inr (.inr (.inl rfl))))) HS2.out hrm3 hadv (.slice ov xl cv)
      have hz : (w3.setCell ⟨b1, 0, none⟩ (.slice ov xl cv)).heap[b1]? = some (.cells #[.slice ov xl cv] 32 (0, 0)) := heap_setCell_same _ b1 0 _ _ _ hg
      have HQ3 := Lib.hid (HQ2.out.bind HF2.out hans)
      have HF3 := Lib.hid (on_fine (listT a n) st2 HF2.out)
      have HI3 := Lib.hid (hI3.set (b := b1) (.inl rfl) (.slice ov xl cv) HNE.out)
      have HS3 := Lib.hid (show ∀ k, CoS bt bl bi b1 b2 gl k → ¬ Feet rb mb cb go3 k from fun k hk => (hadv.advS (fun _ => False)).apart (CoI.old HI2.out hk) (HS2.out k hk))
      have HA3 := Lib.hid (HA2.out.trans hst.2)
      have HR3 := Lib.hid hst.1
      have HO3 := Lib.hid ((hown.base (Nat.zero_le _)).set (x := .slice ov xl cv) hg)
      have HZ3 := Lib.hid hz
      generalize ((listT a n).on st2).2 = st3 at HR3 HF3 HQ3
      have hth := tdiv_half hn0 hn1
      obtain ⟨q, hq⟩ : ∃ q, n.tdiv 2 = q := ⟨_, rfl⟩
      rw [hq] at hth
      have HQ3b := HQ3.out
      rw [hq] at HQ3b
      have HQ4 := Lib.hid HQ3b
      have t1 : IntKind.i64.wrap q = q := IntWalk.i64_in _ (by omega)
      have HK4 := Lib.hid (list_any a q HR3.out HF3.out hB (by omega) (by omega))
      clear hown hrm3 hadv hans hxl hI3 hg hst hz HQ3b HQ3 HQ2 HF2 HS2 HA2 HR2 HI2
      go_wp2_with fail
      refine HK4.out.mono ?_
      clear HK4
      rintro e w5 ⟨y, v2, go5, rfl, hown, hrm5, hadv, hans⟩
      obtain ⟨ou, cu, hv, _⟩ := hown.reads
      obtain ⟨yl, hyl⟩ : ∃ yl, y.length = yl := ⟨_, rfl⟩
      rw [hyl] at hv
      subst hv
      have hI5 := HI3.out.of_blocks fun j hj hlt => hadv.mod.block j hlt (HS3.out j hj)
      obtain ⟨v0, hg⟩ := hI5.y
      have f_g := free_at hg 0
      have k_g := cell_at hg 0
      have hst := clo_store (S := CoS bt bl bi b1 b2 gl) (bg := b2) (.inr (.inr (.inr (.inr (.inl rfl))))) (CoI.old HI3.out (.inr (.inr (.inr (.inr (.inl rfl)))))) HS3.out hrm5 hadv (.slice ou yl cu)
      have hz : (w5.setCell ⟨b2, 0, none⟩ (.slice ou yl cu)).heap[b2]? = some (.cells #[.slice ou yl cu] 32 (0, 0)) := heap_setCell_same _ b2 0 _ _ _ hg
      have HE5 := Lib.hid (HQ4.out.bind HF3.out hans).ret
      have HI5 := Lib.hid (hI5.set (b := b2) (.inr rfl) (.slice ou yl cu) HNE.out)
      have HA5 := Lib.hid (HA3.out.trans hst.2)
      have HR5 := Lib.hid hst.1
      have HO5 := Lib.hid ((hown.base (Nat.zero_le _)).set (x := .slice ou yl cu) hg)
      have hx5 := HO3.out.adv HR3.out hadv
      have HX5 := Lib.hid (hx5.set (x := .slice ou yl cu) hg)
      have hz1 : w5.heap[b1]? = some (.cells #[.slice ov xl cv] 32 (0, 0)) := (hadv.mod.block b1 (lt_of_heap HZ3.out) (HS3.out b1 (.inr (.inr (.inr (.inl rfl)))))).trans HZ3.out
      have HZ1 := Lib.hid ((Below.heap_setCell w5 ⟨b2, 0, none⟩ (.slice ou yl cu) b1 HNE.out.1.1).trans hz1)
      have HZ2 := Lib.hid hz
      clear hown hrm5 hadv hans hyl hI5 hg hst hz hx5 hz1 HQ4 HS3 HA3 HR3 HI3 HO3 HZ3
      go_wp2_with fail
      go_end0
      have he := HE5.out
      unfold Ended at he
      refine ⟨rfl, go5, ?_, HA5.out, HI5.out, fun z hzz => ?_⟩
      · rw [he.1]; exact HR5.out
      · have := he.2 z hzz
        subst this
        exact ⟨_, _, HZ1.out, HX5.out, HZ2.out, HO5.out⟩

end Go.Proofs.Ytkjimgidlpocbaa

namespace Go.Proofs.Ytkjimgidlpocbaa
open Go.RowKit Go.ChangeShapes Go.WideShapes Go.ChangeAt Go.Deep

theorem size_entry (w : World) : (Go.sizeOf 51).run Try.prog w = .ok 2 w := by kernel_rfl
theorem elem_entries : Try.prog.elem 32 = 51 := by kernel_rfl
theorem under_entries : Try.prog.underlying 32 = some (.slice (Try.prog.elem 32)) := by rw [elem_entries]; exact Try.underlying32
/-- The first so many. -/
theorem slice_toE (oa : Option Addr) (n c i : Nat) (hi : i ≤ c) (w : World) :
    (Instr.slice 32 (.slice oa n c) none (some (.int .i64 (i : Int))) none).run Try.prog w = .ok (.slice oa i c) w := by
  rw [run_slice_h w 32 oa n c under_entries .i64 (i : Int) (by omega) (by omega), elem_entries, size_entry]
  have e : (oa.map fun x => x.add 0) = oa := by cases oa <;> simp [Addr.add]
  simp [Result.andThen, sliced, e]
theorem below_prefix {l : List En} (h : MayE l) (most : Int) : below l most = l.take (below l most).length := by
  have hx : ∀ m, m ≤ l.length → (∀ i, i < m → (enAt l i).1 < most) ∨ ∃ n, n < m ∧ (∀ i, i < n → (enAt l i).1 < most) ∧ most ≤ (enAt l n).1 := by
    intro m
    induction m with
    | zero => intro _; exact .inl fun i hi => by omega
    | succ m ih =>
      intro hm
      rcases ih (by omega) with h1 | ⟨n, h1, h2, h3⟩
      · by_cases hd : (enAt l m).1 < most
        · exact .inl fun i hi => by
            by_cases e : i = m
            · subst e; exact hd
            · exact h1 i (by omega)
        · exact .inr ⟨m, by omega, h1, by omega⟩
      · exact .inr ⟨n, by omega, h2, h3⟩
  rcases hx l.length (Nat.le_refl _) with h1 | ⟨n, h1, h2, h3⟩
  · rw [below_all h1, List.take_length]
  · have e := below_take h (n := n) (by omega) h2 (fun _ => h3)
    rw [e, List.length_take, Nat.min_eq_left (by omega)]
theorem ends_co (at_ : Int) (key : List Nat) (hk : key.length ≤ 100) : Ends (fun n _ => n ≤ 48520) 0 (coT at_ key) := by
  unfold coT docsT
  refine .load fun v _ => ?_
  refine (ends_term at_ key hk 1).bind fun m1 a h1 => ?_
  refine (ends_list a _ m1).bind fun m2 l h2 => ?_
  refine (ends_list a _ m2).bind fun m3 l2 h3 => ?_
  exact .ret (by omega)
theorem does_co {n : Nat} {F : List Nat} {L : List Li} (hF : F.length = 4 * n) (hok : okMk (holdA L : Int) n (heldL 1 L)) (hS : Small15 n L) {i : Nat} (hi : i < L.length) :
    ∃ m, Does (coT (holdA L : Int) (keyN (liAt L i).key)) (ints (holdX n F L)) m ((liAt L i).ents, below (liAt L i).ents ((n / 2 : Nat) : Int)) (ints (holdX n F L)) := by
  have hk := fun l (hl : l ∈ L) => (hS.2.2.2 l hl).2
  have hlen := hold_len (L := L) hF
  have hT := hold_told hF hok.1 hk
  have h17 := hk _ (liAt_mem hi)
  have hH : i < (heldL 1 L).length := by rw [heldL_length]; exact hi
  have hke : (liAt (heldL 1 L) i).key = (liAt L i).key := by rw [heldL_at hi]
  have hen : (liAt (heldL 1 L) i).ents = (liAt L i).ents := by rw [heldL_at hi]
  have hmay := (hok.1.2.2.2 i hH).2.2.2.1
  have hlast := (hok.1.2.2.2 i hH).2.2.2.2
  have hpos := (hok.1.2.2.2 i hH).2.2.1
  rw [hen] at hmay hlast hpos
  have h1 := does_docs (cs := ints (holdX n F L)) (a := (holdA L : Int)) (n := n) (by omega) (by rw [ints_length, hlen]; omega) hold_docs
  obtain ⟨k, r, h2, hf⟩ := does_term (cs := ints (holdX n F L)) (a := (holdA L : Int)) (n := n) (L := heldL 1 L) (ad := holdAd n L) (by omega) (by rw [ints_length, hlen]; omega) hold_docs (by rw [heldL_length]; exact hold_lists) (by have := hok.1.2.1; exact this) hT (keyN (liAt L i).key) (by rw [key_len15]; omega)
  rw [← hke] at hf
  have hr := hf.at_ hok.1.2.2.1 hH
  subst hr
  have hl := hold_list hF hok.1 hi
  obtain ⟨k3, h3⟩ := does_list hmay (holdAd n L i) (n : Int) hl
  obtain ⟨k4, h4⟩ := does_list hmay (holdAd n L i) ((n : Int).tdiv 2) hl
  have e1 : below (liAt L i).ents (n : Int) = (liAt L i).ents := below_all fun j hj => (docs_last hmay (n : Int) hpos).2 hlast j hj
  have e2 : (n : Int).tdiv 2 = ((n / 2 : Nat) : Int) := by rw [Int.tdiv_eq_ediv_of_nonneg (by omega)]; omega
  rw [e1] at h3
  rw [e2] at h4
  refine ⟨1 + (k + (k3 + (k4 + 0))), h1.bind (h2.bind (h3.bind (Does.bind ?_ (.ret _ _))))⟩
  rw [e2]
  exact h4
/-- Behind a round. -/
structure CDone (w0 wx : World) (mb cb : Nat) (C : List Nat) (t : Int) (bt bl bi b1 b2 gl : Nat) (at_ : Int) (tt cl i : Nat) (es : List En) (k : Nat) (o1 : Option Addr) (c1 : Nat) (o2 : Option Addr) (c2 m : Nat) : Prop where
  lw : LW w0 wx mb cb C t
  t : wx.heap[bt]? = some (.cells #[.int .i64 at_] 3 (0, 0))
  l : wx.heap[bl]? = some (.cells #[.slice (some ⟨gl, 0, none⟩) tt cl] 23 (0, 0))
  i : wx.heap[bi]? = some (.cells #[.int .i64 (i : Int)] 3 (0, 0))
  x : wx.heap[b1]? = some (.cells #[.slice o1 m c1] 32 (0, 0))
  y : wx.heap[b2]? = some (.cells #[.slice o2 k c2] 32 (0, 0))
  rx : ReadE wx o1 es
  ry : ReadE wx o2 (es.take k)
  hc : m ≤ c1
theorem CDone.below {w0 w w' : World} {mb cb : Nat} {C : List Nat} {t : Int} {bt bl bi b1 b2 gl : Nat} {at_ : Int} {tt cl i : Nat} {es : List En} {k : Nat} {o1 : Option Addr} {c1 : Nat} {o2 : Option Addr} {c2 m : Nat} (h : CDone w0 w mb cb C t bt bl bi b1 b2 gl at_ tt cl i es k o1 c1 o2 c2 m) (hb : Below w.heap.size w w') : CDone w0 w' mb cb C t bt bl bi b1 b2 gl at_ tt cl i es k o1 c1 o2 c2 m :=
  ⟨h.lw.below hb, (hb.block _ (lt_of_heap h.t)).trans h.t, (hb.block _ (lt_of_heap h.l)).trans h.l, (hb.block _ (lt_of_heap h.i)).trans h.i, (hb.block _ (lt_of_heap h.x)).trans h.x, (hb.block _ (lt_of_heap h.y)).trans h.y, h.rx.below hb, h.ry.below hb, h.hc⟩
theorem run_co {w0 w : World} {mb cb : Nat} {C : List Nat} {t : Int} {bt bl bi b1 b2 gl : Nat} {at_ : Int} {tt cl i : Nat} {cur : Array Value} {key : ByteArray} {es : List En} {m k t2 : Nat} {v1 v2 : Value} (h : LW w0 w mb cb C t) (ht : t ≤ 900000000) (hcu : ∀ y ∈ ints C, U y) (hkey : cur[i * 3]? = some (.string key)) (hi : i < tt) (hk : key.size ≤ 100) (a0 : 0 ≤ at_) (a1 : at_ ≤ 1000000)
    (q1 : w.heap[bt]? = some (.cells #[.int .i64 at_] 3 (0, 0))) (q2 : w.heap[bl]? = some (.cells #[.slice (some ⟨gl, 0, none⟩) tt cl] 23 (0, 0))) (q3 : w.heap[bi]? = some (.cells #[.int .i64 (i : Int)] 3 (0, 0))) (q4 : w.heap[b1]? = some (.cells #[v1] 32 (0, 0))) (q5 : w.heap[b2]? = some (.cells #[v2] 32 (0, 0))) (q6 : w.heap[gl]? = some (.cells cur 34 (0, 0))) (n12 : b1 ≠ b2)
    (ho : w0.heap.size ≤ bt ∧ w0.heap.size ≤ bl ∧ w0.heap.size ≤ bi ∧ w0.heap.size ≤ b1 ∧ w0.heap.size ≤ b2) (hm : es.length = m) (hkk : (below es ((t2 : Nat) : Int)).length = k) (hmay : MayE es) (hd : ∃ n, Does (coT at_ (keyN key)) (ints C) n (es, below es ((t2 : Nat) : Int)) (ints C)) :
    Calls Try.prog 11 #[.pointer (some ⟨mb, 0, none⟩), .int .i64 70000, .func (.func 24) #[] #[.pointer (some ⟨bt, 0, none⟩), .pointer (some ⟨bl, 0, none⟩), .pointer (some ⟨bi, 0, none⟩), .pointer (some ⟨b1, 0, none⟩), .pointer (some ⟨b2, 0, none⟩)]] w fun e w' => e = .returned (.bool true) ∧ ∃ o1 c1 o2 c2, CDone w0 w' mb cb C (t + 48520) bt bl bi b1 b2 gl at_ tt cl i es k o1 c1 o2 c2 m := by
  obtain ⟨n, hd⟩ := hd
  have hn := ((ends_co at_ (keyN key) (by rw [key_len15]; exact hk)).does hd hcu).1
  rw [Nat.zero_add] at hn
  obtain ⟨l0, s0, hmm, h1, h2, h3⟩ := h.mem
  have nt : ∀ {a b : Nat} {c d : Array Value} {x y : TypeId}, w.heap[a]? = some (.cells c x (0, 0)) → w.heap[b]? = some (.cells d y (0, 0)) → x ≠ y → a ≠ b := by
    rintro a b c d x y ha hb hxy rfl
    have h9 := ha.symm.trans hb
    injection h9 with h9
    injection h9 with _ h9 _
    exact hxy h9
  refine (whole15 (B := 999999998) (S := CoS bt bl bi b1 b2 gl) (I := CoI bt bl bi b1 b2 gl at_ tt cl i cur) (Post := CoQ b1 b2) 70000 hmm h1 h2 hcu hd (fun rb hrb => Co_clo hkey hi (by unfold reachBytes; omega) a0 a1 bt bl bi b1 b2 gl rb mb cb 999999998 (by omega) ⟨⟨n12, nt q4 q1 (by decide), nt q4 q2 (by decide), nt q4 q3 (by decide), nt q4 q6 (by decide)⟩, nt q5 q1 (by decide), nt q5 q2 (by decide), nt q5 q3 (by decide), nt q5 q6 (by decide)⟩ (Nat.lt_of_lt_of_le (lt_of_heap q4) hrb) (Nat.lt_of_lt_of_le (lt_of_heap q5) hrb)) ⟨q1, q2, q3, ⟨_, q4⟩, ⟨_, q5⟩, q6⟩ (fun j hj => by
    rcases hj with rfl | rfl | rfl | rfl | rfl | rfl
    · exact h.far q1 (by decide) (by decide)
    · exact h.far q2 (by decide) (by decide)
    · exact h.far q3 (by decide) (by decide)
    · exact h.far q4 (by decide) (by decide)
    · exact h.far q5 (by decide) (by decide)
    · exact h.far q6 (by decide) (by decide)) (by omega) (by omega) (by omega) (by omega)).mono ?_
  rintro e w' ⟨rfl, hf⟩
  obtain ⟨u1, u2, p1, hown1, p2, hown2⟩ := hf.post
  obtain ⟨o1, c1, hu1, hc1, _, _, hr1⟩ := hown1.reads
  obtain ⟨o2, c2, hu2, _, _, _, hr2⟩ := hown2.reads
  dsimp only at hu1 hu2 hr1 hr2 hc1
  rw [hm] at hu1 hc1
  rw [hkk] at hu2
  subst hu1 hu2
  have hold := h.old
  rw [below_prefix hmay, hkk] at hr2
  have hlow : Below w0.heap.size w0 w' := by
    have e1 := hf.mod
    refine ⟨e1.os.trans h.low.os, e1.tape.trans h.low.tape, e1.output.trans h.low.output, Nat.le_trans h.low.size e1.size, fun j hj => ?_⟩
    by_cases hg : j = gl
    · subst hg
      exact (hf.inv.g.trans q6.symm).trans (h.low.block j hj)
    · exact (e1.block j (Nat.lt_of_lt_of_le hj h.low.size) (by
        rintro ((e | e | e | e | e | e) | e | e) <;> omega)).trans (h.low.block j hj)
  exact ⟨rfl, o1, c1, o2, c2, ⟨⟨by obtain ⟨l', s', r1, r2, r3, r4⟩ := hf.mem; exact ⟨l', s', r1, r2, r3, by omega⟩, hlow, h.old⟩, hf.inv.t, hf.inv.l, hf.inv.i, p1, p2, hr1, hr2, hc1⟩⟩
set_option maxRecDepth 100000 in
set_option maxHeartbeats 8000000 in
theorem content15 (W : World) (oF : Option Addr) (cF n : Nat) (F : List Nat) (oL : Option Addr) (cL tt : Nat) (L : List Li) (hF : F.length = 4 * n) (hr : ReadN .u32 W oF F) (en : L.length = tt) (hL : ReadLi W oL L) (hI : ∀ l ∈ L, LiIn l) (hx : ∀ x ∈ F, x < 4294967296) :
    Calls Try.prog 5 #[.slice oF n cF, .slice oL tt cL] W fun e w' => e = .returned (.bool true) ∧ Below W.heap.size W w' := by
  have HGr := Lib.hid (great15 W oF cF n oL cL tt L en hL hI)
  have HF := Lib.hid hF
  have HR := Lib.hid hr
  have HL := Lib.hid hL
  have HX := Lib.hid hx
  have HN := Lib.hid en
  clear hr hL hI hx en hF
  go_enter Try.func5, Try.ntmps5
  go_wp2_with fail
  refine HGr.out.mono ?_; rintro e w1 ⟨b, rfl, hS, hb⟩
  have HB1 := Lib.hid hb
  cases b with
  | true =>
    clear hS hb HGr
    go_wp2_with fail
    refine (fixed15 w1).mono ?_; rintro e w2 ⟨rfl, hb⟩
    have HB2 := Lib.hid (low_more HB1.out hb)
    clear hb
    go_wp2_with fail
    go_ret
    exact ⟨rfl, HB2.out⟩
  | false =>
  have HS := Lib.hid (hS rfl)
  have HHo := Lib.hid (ref_hold15 w1 oF cF n F oL cL tt L HF.out (HR.out.below hb) HN.out (HL.out.below hb) (hS rfl))
  clear hS hb HGr HR HL
  go_wp2_with fail
  refine HHo.out.mono ?_
  rintro e w2 (⟨hok, vc, vl, rfl, hc, hl, hb⟩ | ⟨hn, rfl, hb⟩)
  case inr =>
    have HB2 := Lib.hid (low_more (low_more HB1.out hb) (below_al2 (w := w2) (A := .cells #[.slice none 0 0] 23) (B := .cells #[.int .i64 0] 3)))
    clear hb hn HHo
    go_wp2_with fail
    refine (fixed15 _).mono ?_; rintro e w3 ⟨rfl, hb⟩
    have HB3 := Lib.hid (low_more HB2.out hb)
    clear hb
    go_wp2_with fail
    go_ret
    exact ⟨rfl, HB3.out⟩
  obtain ⟨N, hNN⟩ : ∃ N, (holdX n F L).length = N := ⟨_, rfl⟩
  obtain ⟨_, hN1, hN2, hN3⟩ := hold_size HF.out hok HS.out
  rw [hNN] at hN1 hN2
  obtain ⟨oc, cc, rfl, _, _, _, hrc⟩ := hc.reads_of N hNN
  obtain ⟨ol, cl, hvl, _, _, _, hrl⟩ := hl.reads hb
  rw [heldL_length, HN.out] at hvl
  subst hvl
  obtain ⟨at_, hat⟩ : ∃ at_, holdA L = at_ := ⟨_, rfl⟩
  rw [hat] at hN3 ⊢
  have HAt := Lib.hid hat
  have HOk := Lib.hid hok
  have HRc := Lib.hid hrc
  have HRl := Lib.hid hrl
  have HOl := Lib.hid hl
  have HNN := Lib.hid hNN
  have HB2 := Lib.hid (low_more HB1.out hb)
  have HCU := Lib.hid (ints_u (hold_lt hok (fun l hl => (HS.out.2.2.2 l hl).2) HX.out))
  have htt : tt ≤ 300 := by rw [← HN.out]; exact HS.out.2.1
  have hn100 : n ≤ 100 := HS.out.1
  clear hc hl hb hrc hrl hok hNN hat HHo HB1 HX
  go_upto_region 6 with fail
  have HL5 := Lib.hid (heap2_0 w2 (.cells #[.slice ol tt cl] 23) (.cells #[.int .i64 (at_ : Int)] 3))
  have HT5 := Lib.hid (heap2_1 w2 (.cells #[.slice ol tt cl] 23) (.cells #[.int .i64 (at_ : Int)] 3))
  have HB5 := Lib.hid (below_al2 (w := w2) (A := .cells #[.slice ol tt cl] 23) (B := .cells #[.int .i64 (at_ : Int)] 3))
  generalize (w2.alloc (.cells #[.slice ol tt cl] 23)).alloc (.cells #[.int .i64 (at_ : Int)] 3) = w5 at HL5 HT5 HB5 ⊢
  obtain ⟨bt, hbt⟩ : ∃ bt, w2.heap.size + 1 = bt := ⟨_, rfl⟩
  obtain ⟨bl, hbl⟩ : ∃ bl, w2.heap.size = bl := ⟨_, rfl⟩
  rw [hbt] at HT5 ⊢
  rw [hbl] at HL5 ⊢
  have HBt := Lib.hid (show w2.heap.size ≤ bt ∧ w2.heap.size ≤ bl by omega)
  clear hbt hbl
  go_wp2_with fail
  refine (of_any w5 oc N cc (holdX n F L) HNN.out (HRc.out.below HB5.out) hN1 (by omega)).mono ?_; rintro e w3 ⟨mb, cb, rfl, hm, hb, ho1, ho2⟩
  have HW0 := Lib.hid (show LW w2 w3 mb cb (holdX n F L) 100000 from ⟨⟨0, (N : Int), hm, by omega, by omega, by omega⟩, low_more HB5.out hb, ⟨by have := HB5.out.size; omega, by have := HB5.out.size; omega⟩⟩)
  have HL6 := Lib.hid ((hb.block bl (lt_of_heap HL5.out)).trans HL5.out)
  have HT6 := Lib.hid ((hb.block bt (lt_of_heap HT5.out)).trans HT5.out)
  have ql : w3.cell? ⟨bl, 0, none⟩ = some (.slice ol tt cl) := cell_at HL6.out 0
  clear hm hb ho1 ho2 HL5 HT5 HB5
  go_wp2_with fail
  go_loopw [35, 10, 11, 12, 13] (fun iv _ _ _ _ wr => ∃ i : Nat, i ≤ tt ∧ iv = .int .i64 (i : Int) ∧ Hid (LW w2 wr mb cb (holdX n F L) (100000 + 50000 * (i : Int))) ∧ Hid (wr.heap[bl]? = some (.cells #[.slice ol tt cl] 23 (0, 0))) ∧ Hid (wr.heap[bt]? = some (.cells #[.int .i64 (at_ : Int)] 3 (0, 0)))) (fun iv _ _ _ _ _ => tt - (intOf iv).toNat)
  case atStart => exact ⟨0, by omega, rfl, Lib.hid (HW0.out.more (by omega)), HL6, HT6⟩
  case round =>
    clear HW0 HL6 HT6 ql
    obtain ⟨i, hi, rfl, HWi, HLi, HTi⟩ := hrel
    by_cases hlt : i < tt
    · have hlt1 : (i : Int) < (tt : Int) := by omega
      have hiL : i < L.length := by rw [HN.out]; exact hlt
      have hiH : i < (heldL 1 L).length := by rw [heldL_length]; exact hiL
      obtain ⟨g, oo, hol, c0, c1, p, c2, hp⟩ := HRl.out i _ (liAt_lt hiH)
      subst hol
      obtain ⟨pa, pc, hpe, _, _, _, hpr⟩ := hp
      subst hpe
      obtain ⟨ps, hp1, hp2, hp3⟩ := HOl.out
      obtain ⟨cur, hoo, hgl⟩ : ∃ cur, oo = 0 ∧ w2.heap[g]? = some (.cells cur 34 (0, 0)) := by
        rcases hp2.2 with ⟨h1, _⟩ | ⟨g', cap, cur, h1, _, h3, _⟩
        · cases h1
        · injection h1 with h1
          injection h1 with h1
          injection h1 with h1 h2
          subst h1 h2
          exact ⟨cur, rfl, h3⟩
      subst hoo
      have hla : (liAt (heldL 1 L) i).ents = (liAt L i).ents := by rw [heldL_at hiL]
      have hka : (liAt (heldL 1 L) i).key = (liAt L i).key := by rw [heldL_at hiL]
      have hdo := does_co (F := F) HF.out HOk.out HS.out hiL
      obtain ⟨es, hes⟩ : ∃ es, (liAt L i).ents = es := ⟨_, rfl⟩
      obtain ⟨kk, hkk⟩ : ∃ kk, (liAt L i).key = kk := ⟨_, rfl⟩
      rw [hla, hes] at c2 hpr
      rw [hka, hkk] at c0
      rw [hes, hkk, HAt.out] at hdo
      have hk17 : kk.size ≤ 17 := by rw [← hkk]; exact (HS.out.2.2.2 _ (liAt_mem hiL)).2
      have hcur : cur[i * 3]? = some (.string kk) := by
        have := c0
        rw [Lib.cell_of_heap hgl, Nat.zero_add] at this
        exact this
      obtain ⟨m, hm⟩ : ∃ m, es.length = m := ⟨_, rfl⟩
      rw [hm] at c2
      have hmay : MayE es := by
        have := (HOk.out.1.2.2.2 i hiH).2.2.2.1
        rw [hla, hes] at this
        exact this
      have HDo := Lib.hid hdo
      have HM := Lib.hid (And.intro hm (And.intro hmay (may_all hmay)))
      have HPr := Lib.hid hpr
      have HC2 := Lib.hid c2
      have HCu := Lib.hid (And.intro hcur hgl)
      obtain ⟨k, hk⟩ : ∃ k, (below es ((n / 2 : Nat) : Int)).length = k := ⟨_, rfl⟩
      have hkm : k ≤ m := by rw [← hk, ← hm]; exact below_len es _
      have HKk := Lib.hid hk
      clear hla hka hes hkk hm hmay hpr c0 c1 c2 hp1 hp2 hp3 hcur hgl hdo hk
      go_upto_region 14 with fail
      have HI7 := Lib.hid (heap3_0 wr (.cells #[.int .i64 (i : Int)] 3) (.cells #[.slice none 0 0] 32) (.cells #[.slice none 0 0] 32))
      have HX7 := Lib.hid (heap3_1 wr (.cells #[.int .i64 (i : Int)] 3) (.cells #[.slice none 0 0] 32) (.cells #[.slice none 0 0] 32))
      have HY7 := Lib.hid (heap3_2 wr (.cells #[.int .i64 (i : Int)] 3) (.cells #[.slice none 0 0] 32) (.cells #[.slice none 0 0] 32))
      have hb7 : Below wr.heap.size wr (((wr.alloc (.cells #[.int .i64 (i : Int)] 3)).alloc (.cells #[.slice none 0 0] 32)).alloc (.cells #[.slice none 0 0] 32)) := below_al3
      have HW7 := Lib.hid (HWi.out.below hb7)
      have HL7 := Lib.hid ((hb7.block bl (lt_of_heap HLi.out)).trans HLi.out)
      have HT7 := Lib.hid ((hb7.block bt (lt_of_heap HTi.out)).trans HTi.out)
      have hz7 : w2.heap.size ≤ wr.heap.size := HWi.out.low.size
      generalize ((wr.alloc (.cells #[.int .i64 (i : Int)] 3)).alloc (.cells #[.slice none 0 0] 32)).alloc (.cells #[.slice none 0 0] 32) = w7 at HI7 HX7 HY7 HW7 HL7 HT7 ⊢
      obtain ⟨b2, hb2⟩ : ∃ b2, wr.heap.size + 1 + 1 = b2 := ⟨_, rfl⟩
      obtain ⟨b1, hb1⟩ : ∃ b1, wr.heap.size + 1 = b1 := ⟨_, rfl⟩
      obtain ⟨bi, hbi⟩ : ∃ bi, wr.heap.size = bi := ⟨_, rfl⟩
      rw [hb2] at HY7 ⊢
      rw [hb1] at HX7 ⊢
      rw [hbi] at HI7 ⊢
      have HZ := Lib.hid (show (w2.heap.size ≤ bt ∧ w2.heap.size ≤ bl ∧ w2.heap.size ≤ bi ∧ w2.heap.size ≤ b1 ∧ w2.heap.size ≤ b2) ∧ b1 ≠ b2 by have := HBt.out; omega)
      have HRun := Lib.hid (fun (wx : World) (hw : Below w7.heap.size w7 wx) => run_co (HW7.out.below hw) (by omega) HCU.out HCu.out.1 hlt (by omega) (by omega) (by omega) ((hw.block bt (lt_of_heap HT7.out)).trans HT7.out) ((hw.block bl (lt_of_heap HL7.out)).trans HL7.out) ((hw.block bi (lt_of_heap HI7.out)).trans HI7.out) ((hw.block b1 (lt_of_heap HX7.out)).trans HX7.out) ((hw.block b2 (lt_of_heap HY7.out)).trans HY7.out) ((low_more HW7.out.low hw).block g (lt_of_heap HCu.out.2) |>.trans HCu.out.2) HZ.out.2 HZ.out.1 HM.out.1 HKk.out HM.out.2.1 HDo.out)
      clear hb7 hz7 hb2 hb1 hbi HWi HLi HTi
      refine wp_region_cl (fun (p : (Option Addr × Nat) × (Option Addr × Nat)) jz => [.pointer (some ⟨mb, 0, none⟩), .func (.func 24) #[] #[.pointer (some ⟨bt, 0, none⟩), .pointer (some ⟨bl, 0, none⟩), .pointer (some ⟨bi, 0, none⟩), .pointer (some ⟨b1, 0, none⟩), .pointer (some ⟨b2, 0, none⟩)], .bool true, .bool false, .bool false, .slice p.1.1 m p.1.2, .slice (some ⟨g, 0, none⟩) tt cl, .int .i64 (i : Int), .pointer (some ⟨g, i * 3, none⟩), .pointer (some ⟨g, i * 3 + 2, none⟩), .slice pa m pc, .bool true, .bool false, .bool false, .bool false, .slice p.2.1 k p.2.2, .int .i64 (k : Int), .slice p.1.1 m p.1.2, .int .i64 (m : Int), .bool false, .bool false, .bool false, .slice p.2.1 k p.2.2, .slice p.1.1 m p.1.2, .slice p.2.1 k p.2.2, .int .i64 (k : Int), .slice p.1.1 k p.1.2, .bool true, .bool false, .bool false].getD jz undef)
        (fun p l wx => (l 2 = false → Below w7.heap.size w7 wx) ∧ (l 2 = true → CDone w2 wx mb cb (holdX n F L) (100000 + 50000 * ((i + 1 : Nat) : Int)) bt bl bi b1 b2 g (at_ : Int) tt cl i es k p.1.1 p.1.2 p.2.1 p.2.2 m))
        (by kernel_rfl) (by kernel_rfl) (fun q => by simp only [putTo, dstOf, Act.put, List.size_toArray, List.length_cons, List.length_nil, List.getElem?_toArray, Nat.reduceAdd, Option.bind_some, List.getElem?_cons_zero, List.getElem?_cons_succ, List.setIfInBounds_toArray, List.set_cons_zero, List.set_cons_succ, List.getD_cons_zero, List.getD_cons_succ]; exact rfl) ((none, 0), (none, 0)) ?_ ?_ ?_
      · exact ⟨fun _ => (Below.refl _ _).drew, fun h => (by cases h)⟩
      · intro i o ho p l wx hR hl he hcl K hK
        rcases i with _ | _ | _ | _ | _ | _ | _ | _ | _ | _ | _ | _ | _ | _ | _ | _ | _ | _ | _ | _ | _ | _ | _ | _ | _ | _ | _ | _ | _ | _ | i
        · obtain rfl : _ = o := Option.some.inj ho
          have HRr := Lib.hid hR
          clear hR
          go_simp
          exact hK p wx (fun _ _ => rfl) HRr.out
        · obtain rfl : _ = o := Option.some.inj ho
          have HRr := Lib.hid hR
          clear hR
          go_simp
          exact hK p wx (fun _ _ => rfl) HRr.out
        · obtain rfl : _ = o := Option.some.inj ho
          have hb := hR.1 hl
          have HQ := Lib.hid (HRun.out wx hb)
          clear hR hb
          go_simp
          refine HQ.out.mono ?_; rintro e w8 ⟨rfl, o1, c1, o2, c2, hd⟩
          refine hK ((o1, c1), (o2, c2)) w8 (fun jj hj => ?_) ⟨fun h => (by cases h), fun _ => ⟨hd.lw.more (by omega), hd.t, hd.l, hd.i, hd.x, hd.y, hd.rx, hd.ry, hd.hc⟩⟩
          rcases jj with _ | _ | _ | _ | _ | _ | _ | _ | _ | _ | _ | _ | _ | _ | _ | _ | _ | _ | _ | _ | _ | _ | _ | _ | _ | _ | _ | _ | _ | _ | jj
          all_goals first | rfl | (rw [hl] at hj; cases hj) | (exact absurd (hcl 3 _ rfl (hcl 4 _ rfl (hcl 5 _ rfl hj ⟨4, .guard⟩ (by simp) rfl) ⟨3, .data⟩ (by simp) rfl) ⟨2, .data⟩ (by simp) rfl) (by rw [hl]; decide)) | (exact absurd (hcl 3 _ rfl (hcl 4 _ rfl (hcl 13 _ rfl (hcl 14 _ rfl (hcl 15 _ rfl hj ⟨14, .guard⟩ (by simp) rfl) ⟨13, .data⟩ (by simp) rfl) ⟨4, .data⟩ (by simp) rfl) ⟨3, .data⟩ (by simp) rfl) ⟨2, .data⟩ (by simp) rfl) (by rw [hl]; decide)) | (exact absurd (hcl 3 _ rfl (hcl 4 _ rfl (hcl 13 _ rfl (hcl 14 _ rfl (hcl 17 _ rfl hj ⟨14, .guard⟩ (by simp) rfl) ⟨13, .data⟩ (by simp) rfl) ⟨4, .data⟩ (by simp) rfl) ⟨3, .data⟩ (by simp) rfl) ⟨2, .data⟩ (by simp) rfl) (by rw [hl]; decide)) | (exact absurd (hcl 3 _ rfl (hcl 4 _ rfl (hcl 13 _ rfl (hcl 14 _ rfl (hcl 20 _ rfl (hcl 21 _ rfl (hcl 22 _ rfl hj ⟨21, .guard⟩ (by simp) rfl) ⟨20, .data⟩ (by simp) rfl) ⟨14, .data⟩ (by simp) rfl) ⟨13, .data⟩ (by simp) rfl) ⟨4, .data⟩ (by simp) rfl) ⟨3, .data⟩ (by simp) rfl) ⟨2, .data⟩ (by simp) rfl) (by rw [hl]; decide)) | (exact absurd (hcl 3 _ rfl (hcl 4 _ rfl (hcl 13 _ rfl (hcl 14 _ rfl (hcl 20 _ rfl (hcl 21 _ rfl (hcl 23 _ rfl hj ⟨21, .guard⟩ (by simp) rfl) ⟨20, .data⟩ (by simp) rfl) ⟨14, .data⟩ (by simp) rfl) ⟨13, .data⟩ (by simp) rfl) ⟨4, .data⟩ (by simp) rfl) ⟨3, .data⟩ (by simp) rfl) ⟨2, .data⟩ (by simp) rfl) (by rw [hl]; decide)) | (exact absurd (hcl 3 _ rfl (hcl 4 _ rfl (hcl 13 _ rfl (hcl 14 _ rfl (hcl 20 _ rfl (hcl 21 _ rfl (hcl 24 _ rfl hj ⟨21, .guard⟩ (by simp) rfl) ⟨20, .data⟩ (by simp) rfl) ⟨14, .data⟩ (by simp) rfl) ⟨13, .data⟩ (by simp) rfl) ⟨4, .data⟩ (by simp) rfl) ⟨3, .data⟩ (by simp) rfl) ⟨2, .data⟩ (by simp) rfl) (by rw [hl]; decide)) | (exact absurd (hcl 3 _ rfl (hcl 4 _ rfl (hcl 13 _ rfl (hcl 14 _ rfl (hcl 20 _ rfl (hcl 21 _ rfl (hcl 26 _ rfl hj ⟨21, .guard⟩ (by simp) rfl) ⟨20, .data⟩ (by simp) rfl) ⟨14, .data⟩ (by simp) rfl) ⟨13, .data⟩ (by simp) rfl) ⟨4, .data⟩ (by simp) rfl) ⟨3, .data⟩ (by simp) rfl) ⟨2, .data⟩ (by simp) rfl) (by rw [hl]; decide))
        · obtain rfl : _ = o := Option.some.inj ho
          have HRr := Lib.hid hR
          clear hR
          go_simp
          exact hK p wx (fun _ _ => rfl) HRr.out
        · obtain rfl : _ = o := Option.some.inj ho
          have HRr := Lib.hid hR
          clear hR
          go_simp
          exact hK p wx (fun _ _ => rfl) HRr.out
        · obtain rfl : _ = o := Option.some.inj ho
          have h2 : l 2 = true := (hcl 3 _ rfl (hcl 4 _ rfl (he ⟨4, .guard⟩ (by simp) rfl) ⟨3, .data⟩ (by simp) rfl) ⟨2, .data⟩ (by simp) rfl)
          have hd := hR.2 h2
          have q := (show wx.cell? ⟨b1, 0, none⟩ = some (.slice p.1.1 m p.1.2) from cell_at hd.x 0)
          clear hd
          have HRr := Lib.hid hR
          clear hR h2
          go_simp
          exact hK p wx (fun _ _ => rfl) HRr.out
        · obtain rfl : _ = o := Option.some.inj ho
          have h2 : l 2 = true := (hcl 3 _ rfl (hcl 4 _ rfl (he ⟨4, .guard⟩ (by simp) rfl) ⟨3, .data⟩ (by simp) rfl) ⟨2, .data⟩ (by simp) rfl)
          have hd := hR.2 h2
          have q := (show wx.cell? ⟨bl, 0, none⟩ = some (.slice (some ⟨g, 0, none⟩) tt cl) from cell_at hd.l 0)
          clear hd
          have HRr := Lib.hid hR
          clear hR h2
          go_simp
          exact hK p wx (fun _ _ => rfl) HRr.out
        · obtain rfl : _ = o := Option.some.inj ho
          have h2 : l 2 = true := (hcl 3 _ rfl (hcl 4 _ rfl (he ⟨4, .guard⟩ (by simp) rfl) ⟨3, .data⟩ (by simp) rfl) ⟨2, .data⟩ (by simp) rfl)
          have hd := hR.2 h2
          have q := (show wx.cell? ⟨bi, 0, none⟩ = some (.int .i64 (i : Int)) from cell_at hd.i 0)
          clear hd
          have HRr := Lib.hid hR
          clear hR h2
          go_simp
          exact hK p wx (fun _ _ => rfl) HRr.out
        · obtain rfl : _ = o := Option.some.inj ho
          have HRr := Lib.hid hR
          clear hR
          go_simp
          exact hK p wx (fun _ _ => rfl) HRr.out
        · obtain rfl : _ = o := Option.some.inj ho
          have HRr := Lib.hid hR
          clear hR
          go_simp
          exact hK p wx (fun _ _ => rfl) HRr.out
        · obtain rfl : _ = o := Option.some.inj ho
          have h2 : l 2 = true := (hcl 3 _ rfl (hcl 4 _ rfl (he ⟨4, .guard⟩ (by simp) rfl) ⟨3, .data⟩ (by simp) rfl) ⟨2, .data⟩ (by simp) rfl)
          have hd := hR.2 h2
          have q := (show wx.cell? ⟨g, i * 3 + 2, none⟩ = some (.slice pa m pc) from by have := below_cell HC2.out hd.lw.low; rwa [Nat.zero_add] at this)
          clear hd
          have HRr := Lib.hid hR
          clear hR h2
          go_simp
          exact hK p wx (fun _ _ => rfl) HRr.out
        · obtain rfl : _ = o := Option.some.inj ho
          have h2 : l 2 = true := (hcl 3 _ rfl (hcl 4 _ rfl (he ⟨4, .guard⟩ (by simp) rfl) ⟨3, .data⟩ (by simp) rfl) ⟨2, .data⟩ (by simp) rfl)
          have hd := hR.2 h2
          have HQ := Lib.hid (ref_same13 wx p.1.1 pa p.1.2 pc m m es es HM.out.1 HM.out.1 hd.rx (HPr.out.below hd.lw.low) (by have := HM.out.2.2.1; have := HM.out.1; omega) (fun e he => by have := HM.out.2.2.2 e he; omega))
          have HD := Lib.hid hd
          have H2 := Lib.hid h2
          clear hR hd h2
          go_simp
          refine HQ.out.mono ?_; rintro e w8 ⟨rfl, hb8⟩
          rw [show decide (es = es) = true from decide_eq_true rfl]
          exact hK p w8 (fun _ _ => rfl) ⟨fun h => absurd h (by show ¬ (l 2 = false); rw [H2.out]; decide), fun _ => HD.out.below hb8⟩
        · obtain rfl : _ = o := Option.some.inj ho
          have HRr := Lib.hid hR
          clear hR
          go_simp
          exact hK p wx (fun _ _ => rfl) HRr.out
        · obtain rfl : _ = o := Option.some.inj ho
          have HRr := Lib.hid hR
          clear hR
          go_simp
          exact hK p wx (fun _ _ => rfl) HRr.out
        · obtain rfl : _ = o := Option.some.inj ho
          have HRr := Lib.hid hR
          clear hR
          go_simp
          exact hK p wx (fun _ _ => rfl) HRr.out
        · obtain rfl : _ = o := Option.some.inj ho
          have h2 : l 2 = true := (hcl 3 _ rfl (hcl 4 _ rfl (hcl 13 _ rfl (hcl 14 _ rfl (he ⟨14, .guard⟩ (by simp) rfl) ⟨13, .data⟩ (by simp) rfl) ⟨4, .data⟩ (by simp) rfl) ⟨3, .data⟩ (by simp) rfl) ⟨2, .data⟩ (by simp) rfl)
          have hd := hR.2 h2
          have q := (show wx.cell? ⟨b2, 0, none⟩ = some (.slice p.2.1 k p.2.2) from cell_at hd.y 0)
          clear hd
          have HRr := Lib.hid hR
          clear hR h2
          go_simp
          exact hK p wx (fun _ _ => rfl) HRr.out
        · obtain rfl : _ = o := Option.some.inj ho
          have HRr := Lib.hid hR
          clear hR
          go_simp
          exact hK p wx (fun _ _ => rfl) HRr.out
        · obtain rfl : _ = o := Option.some.inj ho
          have h2 : l 2 = true := (hcl 3 _ rfl (hcl 4 _ rfl (hcl 13 _ rfl (hcl 14 _ rfl (he ⟨14, .guard⟩ (by simp) rfl) ⟨13, .data⟩ (by simp) rfl) ⟨4, .data⟩ (by simp) rfl) ⟨3, .data⟩ (by simp) rfl) ⟨2, .data⟩ (by simp) rfl)
          have hd := hR.2 h2
          have q := (show wx.cell? ⟨b1, 0, none⟩ = some (.slice p.1.1 m p.1.2) from cell_at hd.x 0)
          clear hd
          have HRr := Lib.hid hR
          clear hR h2
          go_simp
          exact hK p wx (fun _ _ => rfl) HRr.out
        · obtain rfl : _ = o := Option.some.inj ho
          have HRr := Lib.hid hR
          clear hR
          go_simp
          exact hK p wx (fun _ _ => rfl) HRr.out
        · obtain rfl : _ = o := Option.some.inj ho
          have q1 : decide ((m : Int) < (k : Int)) = false := decide_eq_false (by omega)
          have q2 : decide ((k : Int) > (m : Int)) = false := decide_eq_false (by omega)
          have q3 : decide (m < k) = false := decide_eq_false (by omega)
          have q4 : decide (k > m) = false := decide_eq_false (by omega)
          have HRr := Lib.hid hR
          clear hR
          go_simp
          exact hK p wx (fun _ _ => rfl) HRr.out
        · obtain rfl : _ = o := Option.some.inj ho
          have HRr := Lib.hid hR
          clear hR
          go_simp
          exact hK p wx (fun _ _ => rfl) HRr.out
        · obtain rfl : _ = o := Option.some.inj ho
          have HRr := Lib.hid hR
          clear hR
          go_simp
          exact hK p wx (fun _ _ => rfl) HRr.out
        · obtain rfl : _ = o := Option.some.inj ho
          have h2 : l 2 = true := (hcl 3 _ rfl (hcl 4 _ rfl (hcl 13 _ rfl (hcl 14 _ rfl (hcl 20 _ rfl (hcl 21 _ rfl (he ⟨21, .guard⟩ (by simp) rfl) ⟨20, .data⟩ (by simp) rfl) ⟨14, .data⟩ (by simp) rfl) ⟨13, .data⟩ (by simp) rfl) ⟨4, .data⟩ (by simp) rfl) ⟨3, .data⟩ (by simp) rfl) ⟨2, .data⟩ (by simp) rfl)
          have hd := hR.2 h2
          have q := (show wx.cell? ⟨b2, 0, none⟩ = some (.slice p.2.1 k p.2.2) from cell_at hd.y 0)
          clear hd
          have HRr := Lib.hid hR
          clear hR h2
          go_simp
          exact hK p wx (fun _ _ => rfl) HRr.out
        · obtain rfl : _ = o := Option.some.inj ho
          have h2 : l 2 = true := (hcl 3 _ rfl (hcl 4 _ rfl (hcl 13 _ rfl (hcl 14 _ rfl (hcl 20 _ rfl (hcl 21 _ rfl (he ⟨21, .guard⟩ (by simp) rfl) ⟨20, .data⟩ (by simp) rfl) ⟨14, .data⟩ (by simp) rfl) ⟨13, .data⟩ (by simp) rfl) ⟨4, .data⟩ (by simp) rfl) ⟨3, .data⟩ (by simp) rfl) ⟨2, .data⟩ (by simp) rfl)
          have hd := hR.2 h2
          have q := (show wx.cell? ⟨b1, 0, none⟩ = some (.slice p.1.1 m p.1.2) from cell_at hd.x 0)
          clear hd
          have HRr := Lib.hid hR
          clear hR h2
          go_simp
          exact hK p wx (fun _ _ => rfl) HRr.out
        · obtain rfl : _ = o := Option.some.inj ho
          have h2 : l 2 = true := (hcl 3 _ rfl (hcl 4 _ rfl (hcl 13 _ rfl (hcl 14 _ rfl (hcl 20 _ rfl (hcl 21 _ rfl (he ⟨21, .guard⟩ (by simp) rfl) ⟨20, .data⟩ (by simp) rfl) ⟨14, .data⟩ (by simp) rfl) ⟨13, .data⟩ (by simp) rfl) ⟨4, .data⟩ (by simp) rfl) ⟨3, .data⟩ (by simp) rfl) ⟨2, .data⟩ (by simp) rfl)
          have hd := hR.2 h2
          have q := (show wx.cell? ⟨b2, 0, none⟩ = some (.slice p.2.1 k p.2.2) from cell_at hd.y 0)
          clear hd
          have HRr := Lib.hid hR
          clear hR h2
          go_simp
          exact hK p wx (fun _ _ => rfl) HRr.out
        · obtain rfl : _ = o := Option.some.inj ho
          have HRr := Lib.hid hR
          clear hR
          go_simp
          exact hK p wx (fun _ _ => rfl) HRr.out
        · obtain rfl : _ = o := Option.some.inj ho
          have h2 : l 2 = true := (hcl 3 _ rfl (hcl 4 _ rfl (hcl 13 _ rfl (hcl 14 _ rfl (hcl 20 _ rfl (hcl 21 _ rfl (he ⟨21, .guard⟩ (by simp) rfl) ⟨20, .data⟩ (by simp) rfl) ⟨14, .data⟩ (by simp) rfl) ⟨13, .data⟩ (by simp) rfl) ⟨4, .data⟩ (by simp) rfl) ⟨3, .data⟩ (by simp) rfl) ⟨2, .data⟩ (by simp) rfl)
          have hd := hR.2 h2
          have q := slice_toE p.1.1 m p.1.2 k (by have := hd.hc; omega) wx
          clear hd
          have HRr := Lib.hid hR
          clear hR h2
          go_simp
          exact hK p wx (fun _ _ => rfl) HRr.out
        · obtain rfl : _ = o := Option.some.inj ho
          have h2 : l 2 = true := (hcl 3 _ rfl (hcl 4 _ rfl (hcl 13 _ rfl (hcl 14 _ rfl (hcl 20 _ rfl (hcl 21 _ rfl (he ⟨21, .guard⟩ (by simp) rfl) ⟨20, .data⟩ (by simp) rfl) ⟨14, .data⟩ (by simp) rfl) ⟨13, .data⟩ (by simp) rfl) ⟨4, .data⟩ (by simp) rfl) ⟨3, .data⟩ (by simp) rfl) ⟨2, .data⟩ (by simp) rfl)
          have hd := hR.2 h2
          have hkl : (es.take k).length = k := by rw [List.length_take, HM.out.1]; omega
          have HQ := Lib.hid (ref_same13 wx p.2.1 p.1.1 p.2.2 p.1.2 k k (es.take k) (es.take k) hkl hkl hd.ry (hd.rx.cut k) (by have := HM.out.2.2.1; have := HM.out.1; omega) (fun e he => by have := HM.out.2.2.2 e (List.mem_of_mem_take he); omega))
          have HD := Lib.hid hd
          have H2 := Lib.hid h2
          clear hR hd h2 hkl
          go_simp
          refine HQ.out.mono ?_; rintro e w8 ⟨rfl, hb8⟩
          rw [show decide (es.take k = es.take k) = true from decide_eq_true rfl]
          exact hK p w8 (fun _ _ => rfl) ⟨fun h => absurd h (by show ¬ (l 2 = false); rw [H2.out]; decide), fun _ => HD.out.below hb8⟩
        · obtain rfl : _ = o := Option.some.inj ho
          have HRr := Lib.hid hR
          clear hR
          go_simp
          exact hK p wx (fun _ _ => rfl) HRr.out
        · obtain rfl : _ = o := Option.some.inj ho
          have HRr := Lib.hid hR
          clear hR
          go_simp
          exact hK p wx (fun _ _ => rfl) HRr.out
        · simp at ho
      · intro p l wx hl hR
        have hd := hR.2 (hl 2 (by decide))
        have HD := Lib.hid hd
        clear hd hR hl
        go_wp2_with fail
        go_roundw
        case rel => exact ⟨i + 1, by omega, by go_num, Lib.hid HD.out.lw, Lib.hid HD.out.l, Lib.hid HD.out.t⟩
        case measure => simp [intOf]; omega
    · obtain rfl : i = tt := by omega
      go_wp2_with fail
      refine (fixed15 wr).mono ?_; rintro e w4 ⟨rfl, hb⟩
      have HW4 := Lib.hid (HWi.out.below hb)
      clear hb HWi
      go_wp2_with fail
      go_ret
      exact ⟨rfl, ⟨HW4.out.low.os.trans HB2.out.os, HW4.out.low.tape.trans HB2.out.tape, HW4.out.low.output.trans HB2.out.output, Nat.le_trans HB2.out.size HW4.out.low.size, fun k hk => (HW4.out.low.block k (Nat.lt_of_lt_of_le hk HB2.out.size)).trans (HB2.out.block k hk)⟩⟩
end Go.Proofs.Ytkjimgidlpocbaa
