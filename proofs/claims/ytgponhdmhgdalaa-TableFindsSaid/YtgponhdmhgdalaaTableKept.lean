/-
  What the program's functions of layer 11 keep, as the laws' walks take it; the laws' closures keep to their programs, given that. Over the program's own text.
-/
import Derived.Test.YtgponhdmhgdalaaTableWhole
import Derived.Test.YtgponhdmhgdalaaTablePure
import Derived.Test.YtgponhdmhgdalaaAccRest
import Derived.Test.YtgponhdmhgdalaaNums
import Derived.Test.YtgponhdmhgdalaaRets
namespace Go.Proofs.Ytgponhdmhgdalaa
open Go.RowKit

structure R4 where
  b : Int
  i : Int
  l : Int
  t : Int
def rowC (x : R4) : Array Value := #[.int .u32 x.b, .int .u32 x.i, .int .u32 x.l, .int .u32 x.t]
theorem rowC_info (x : R4) : (Try.prog.info? 52).map (·.size) = some (rowC x).size := by kernel_rfl
theorem rowC_one (x : R4) : (rowC x).all (·.oneCell') = true := by simp [rowC, Value.oneCell']
/-- Each of the answers as the chapter says: taken as given here, proved of the landed code elsewhere. -/
structure KeptTable (rowP : Int → Int → Pr R4) (seenP : Int → Int → Int → Pr (List Sn)) (findP : Int → Int → Int → Pr Int) : Prop where
  lay : ∀ {w : World} {rb mb cb : Nat} {go : Option Nat} {st : St} {Bd : Nat} (b d id l v : Int), RM w rb mb cb go true st → st.Fine Bd → Bd < 1000000000 → 0 ≤ b → b ≤ 60000 → 0 ≤ d → d ≤ 60000 → U id → U l → U v →
    Calls Try.prog 12 #[.pointer (some ⟨rb, 0, none⟩), .int .i64 b, .int .i64 d, .int .u32 id, .int .u32 l, .int .u32 v] w fun e w' => ∃ go', e = .returned (.tuple #[]) ∧ RM w' rb mb cb go' true ((layR b d id l v).on st).2 ∧ Adv rb mb cb w go w' go'
  kill : ∀ {w : World} {rb mb cb : Nat} {go : Option Nat} {st : St} {Bd : Nat} (b d v : Int), RM w rb mb cb go true st → st.Fine Bd → Bd < 1000000000 → 0 ≤ b → b ≤ 60000 → 0 ≤ d → d ≤ 60000 → U v →
    Calls Try.prog 17 #[.pointer (some ⟨rb, 0, none⟩), .int .i64 b, .int .i64 d, .int .u32 v] w fun e w' => ∃ go', e = .returned (.tuple #[]) ∧ RM w' rb mb cb go' true ((killR b d v).on st).2 ∧ Adv rb mb cb w go w' go'
  row : ∀ {w : World} {rb mb cb : Nat} {go : Option Nat} {st : St} {Bd : Nat} (b d : Int), RM w rb mb cb go true st → st.Fine Bd → Bd < 1000000000 → 0 ≤ b → b ≤ 60000 → 0 ≤ d → d ≤ 60000 →
    Calls Try.prog 20 #[.pointer (some ⟨rb, 0, none⟩), .int .i64 b, .int .i64 d] w fun e w' => ∃ x go', e = .returned (.agg (rowC x)) ∧ RM w' rb mb cb go' true ((rowP b d).on st).2 ∧ Adv rb mb cb w go w' go' ∧ ∀ y, ((rowP b d).on st).1 = some y → y = x
  seen : ∀ {w : World} {rb mb cb : Nat} {go : Option Nat} {st : St} {Bd : Nat} (b n v : Int), RM w rb mb cb go true st → st.Fine Bd → Bd < 1000000000 → 0 ≤ b → b ≤ 60000 → 0 ≤ n → n ≤ 60000 → U v →
    Calls Try.prog 24 #[.pointer (some ⟨rb, 0, none⟩), .int .i64 b, .int .i64 n, .int .u32 v] w fun e w' => ∃ vv l go', e = .returned vv ∧ OwnS w' w.heap.size vv l ∧ RM w' rb mb cb go' true ((seenP b n v).on st).2 ∧ Adv rb mb cb w go w' go' ∧ ∀ y, ((seenP b n v).on st).1 = some y → l = y
  find : ∀ {w : World} {rb mb cb : Nat} {go : Option Nat} {st : St} {Bd : Nat} (b n x : Int), RM w rb mb cb go true st → st.Fine Bd → Bd < 1000000000 → 0 ≤ b → b ≤ 60000 → 0 ≤ n → n ≤ 60000 → U x →
    Calls Try.prog 15 #[.pointer (some ⟨rb, 0, none⟩), .int .i64 b, .int .i64 n, .int .u32 x] w fun e w' => ∃ k go', e = .returned (.int .i64 k) ∧ RM w' rb mb cb go' true ((findP b n x).on st).2 ∧ Adv rb mb cb w go w' go' ∧ ∀ y, ((findP b n x).on st).1 = some y → y = k
  rowD : ∀ (cs : List Int) (b : Int) (d : Nat), 0 ≤ b → b + 4 * (d : Int) + 3 < cs.length → ∃ m, m ≤ 8 ∧ Does (rowP b (d : Int)) cs m ⟨cellZ cs (b + 4 * (d : Int)), cellZ cs (b + 4 * (d : Int) + 1), cellZ cs (b + 4 * (d : Int) + 2), cellZ cs (b + 4 * (d : Int) + 3)⟩ cs
  seenD : ∀ (cs : List Int) (b : Int) (n : Nat) (v : Int), 0 ≤ b → b + 4 * (n : Int) ≤ cs.length → ∃ m, m ≤ 8 * n + 8 ∧ Does (seenP b (n : Int) v) cs m (seenZ cs b n v) cs
  findD : ∀ (cs : List Int) (b : Int) (n : Nat) (x : Int), 0 ≤ b → b + 4 * (n : Int) ≤ cs.length → ∃ m, m ≤ 8 * n + 8 ∧ Does (findP b (n : Int) x) cs m (findZ cs b n x) cs

structure LaI (bd bx : Nat) (d x : Int) (w : World) : Prop where
  d : w.heap[bd]? = some (.cells #[.int .i64 d] 3 (0, 0))
  x : w.heap[bx]? = some (.cells #[.int .u32 x] 28 (0, 0))
def LaS (bd bx : Nat) (k : Nat) : Prop := k = bd ∨ k = bx
theorem LaI.of_blocks {bd bx : Nat} {d x : Int} {w w' : World} (h : LaI bd bx d x w) (hb : ∀ k, LaS bd bx k → k < w.heap.size → w'.heap[k]? = w.heap[k]?) : LaI bd bx d x w' :=
  ⟨(hb _ (.inl rfl) (lt_of_heap h.d)).trans h.d, (hb _ (.inr (rfl)) (lt_of_heap h.x)).trans h.x⟩
set_option maxRecDepth 100000 in
set_option maxHeartbeats 2000000 in
theorem La_clo {rowP : Int → Int → Pr R4} {seenP : Int → Int → Int → Pr (List Sn)} {findP : Int → Int → Int → Pr Int} (K : KeptTable rowP seenP findP) {d x : Int} (d0 : 0 ≤ d) (d1 : d ≤ 1000) (hx : U x) (bd bx rb mb cb Bd : Nat) (hB : Bd < 1000000000)   :
    Clo 11 #[.pointer (some ⟨bd, 0, none⟩), .pointer (some ⟨bx, 0, none⟩)] rb mb cb (LaS bd bx) (LaI bd bx d x) (layR 3 d x 1 (1 + d)) (fun _ _ => True) Bd where
  enter := fun args w => rfl
  keepI := fun w w' h _ hb => h.of_blocks hb
  keepP := fun x w w' go st h _ hm => trivial
  old := fun w h k hk => by
    rcases hk with rfl | rfl
    · exact lt_of_heap h.d
    · exact lt_of_heap h.x
  call := fun w go st hrm hfine hoff hI hS => by
    have HI := Lib.hid hI
    have HK := Lib.hid (K.lay 3 d x 1 (1 + d) hrm hfine hB (by omega) (by omega) d0 (by omega) hx ⟨by omega, by omega⟩ ⟨by omega, by omega⟩)
    have HS := Lib.hid hS
    have c_d := cell_at hI.d 0
    have c_x := cell_at hI.x 0
    clear hI hrm hfine hoff hS hx
    show Calls Try.prog 11 #[.pointer (some ⟨rb, 0, none⟩), .pointer (some ⟨bd, 0, none⟩), .pointer (some ⟨bx, 0, none⟩)] w _
    have s1 : IntKind.i64.wrap (1 + d) = 1 + d := IntWalk.i64_in _ (by omega)
    have s2 : IntKind.u32.wrap (1 + d) = 1 + d := IntWalk.u32_in _ (by omega)
    go_enter Try.func11, Try.ntmps11
    go_wp2_with fail
    refine HK.out.mono ?_
    clear HK
    rintro e w1 ⟨go', rfl, hrm1, hadv⟩
    have hb : ∀ k, LaS bd bx k → k < w.heap.size → w1.heap[k]? = w.heap[k]? := fun k hk hlt => hadv.mod.block k hlt fun e => HS.out k hk e
    have hI1 := HI.out.of_blocks hb
    have HI1 := Lib.hid hI1
    have HA := Lib.hid (And.intro hrm1 hadv)
    clear hb hI1 hrm1 hadv c_d c_x  
    go_wp2_with fail
    go_end0
    obtain ⟨hrm1, hadv⟩ := HA.out
    have hm : Mod (LaS bd bx) w1 w1 := Mod.refl _ _
    have hfar : ∀ k, Feet rb mb cb go' k → ¬ LaS bd bx k := fun k hk hs => (hadv.advS (fun _ => False)).apart (show k < w.heap.size by
      have h := HI.out
      rcases hs with rfl | rfl
      · exact lt_of_heap h.d
      · exact lt_of_heap h.x) (HS.out k hs) hk
    refine ⟨rfl, go', hrm1.mod hm hfar, (hadv.advS _).trans (AdvS.of_mod hm fun k hk => .inl hk), ⟨HI1.out.d, HI1.out.x⟩, ?_⟩
    intro x hx
    trivial
structure LbI (bs bx : Nat) (oi : Option Addr) (ni ci : Nat) (x : Int) (w : World) : Prop where
  s : w.heap[bs]? = some (.cells #[.slice oi ni ci] 39 (0, 0))
  x : w.heap[bx]? = some (.cells #[.int .u32 x] 28 (0, 0))
def LbS (bs bx : Nat) (k : Nat) : Prop := k = bs ∨ k = bx
theorem LbI.of_blocks {bs bx : Nat} {oi : Option Addr} {ni ci : Nat} {x : Int} {w w' : World} (h : LbI bs bx oi ni ci x w) (hb : ∀ k, LbS bs bx k → k < w.heap.size → w'.heap[k]? = w.heap[k]?) : LbI bs bx oi ni ci x w' :=
  ⟨(hb _ (.inl rfl) (lt_of_heap h.s)).trans h.s, (hb _ (.inr (rfl)) (lt_of_heap h.x)).trans h.x⟩
set_option maxRecDepth 100000 in
set_option maxHeartbeats 2000000 in
theorem Lb_clo {rowP : Int → Int → Pr R4} {seenP : Int → Int → Int → Pr (List Sn)} {findP : Int → Int → Int → Pr Int} (K : KeptTable rowP seenP findP) {oi : Option Addr} {ni ci : Nat} {x : Int} (d1 : ni ≤ 1000) (hx : U x) (bs bx rb mb cb Bd : Nat) (hB : Bd < 1000000000)   :
    Clo 13 #[.pointer (some ⟨bs, 0, none⟩), .pointer (some ⟨bx, 0, none⟩)] rb mb cb (LbS bs bx) (LbI bs bx oi ni ci x) (layR 3 (ni : Int) x 1 99) (fun _ _ => True) Bd where
  enter := fun args w => rfl
  keepI := fun w w' h _ hb => h.of_blocks hb
  keepP := fun x w w' go st h _ hm => trivial
  old := fun w h k hk => by
    rcases hk with rfl | rfl
    · exact lt_of_heap h.s
    · exact lt_of_heap h.x
  call := fun w go st hrm hfine hoff hI hS => by
    have HI := Lib.hid hI
    have HK := Lib.hid (K.lay 3 (ni : Int) x 1 99 hrm hfine hB (by omega) (by omega) (by omega) (by omega) hx ⟨by omega, by omega⟩ ⟨by omega, by omega⟩)
    have HS := Lib.hid hS
    have c_s := cell_at hI.s 0
    have c_x := cell_at hI.x 0
    clear hI hrm hfine hoff hS hx
    show Calls Try.prog 13 #[.pointer (some ⟨rb, 0, none⟩), .pointer (some ⟨bs, 0, none⟩), .pointer (some ⟨bx, 0, none⟩)] w _
    go_enter Try.func13, Try.ntmps13
    go_wp2_with fail
    refine HK.out.mono ?_
    clear HK
    rintro e w1 ⟨go', rfl, hrm1, hadv⟩
    have hb : ∀ k, LbS bs bx k → k < w.heap.size → w1.heap[k]? = w.heap[k]? := fun k hk hlt => hadv.mod.block k hlt fun e => HS.out k hk e
    have hI1 := HI.out.of_blocks hb
    have HI1 := Lib.hid hI1
    have HA := Lib.hid (And.intro hrm1 hadv)
    clear hb hI1 hrm1 hadv c_s c_x  
    go_wp2_with fail
    go_end0
    obtain ⟨hrm1, hadv⟩ := HA.out
    have hm : Mod (LbS bs bx) w1 w1 := Mod.refl _ _
    have hfar : ∀ k, Feet rb mb cb go' k → ¬ LbS bs bx k := fun k hk hs => (hadv.advS (fun _ => False)).apart (show k < w.heap.size by
      have h := HI.out
      rcases hs with rfl | rfl
      · exact lt_of_heap h.s
      · exact lt_of_heap h.x) (HS.out k hs) hk
    refine ⟨rfl, go', hrm1.mod hm hfar, (hadv.advS _).trans (AdvS.of_mod hm fun k hk => .inl hk), ⟨HI1.out.s, HI1.out.x⟩, ?_⟩
    intro x hx
    trivial
structure LcI (bs bx bg : Nat) (oi : Option Addr) (ni ci : Nat) (x : Int) (w : World) : Prop where
  s : w.heap[bs]? = some (.cells #[.slice oi ni ci] 39 (0, 0))
  x : w.heap[bx]? = some (.cells #[.int .u32 x] 28 (0, 0))
  g : ∃ i : Int, w.heap[bg]? = some (.cells #[.int .i64 i] 3 (0, 0))
def LcS (bs bx bg : Nat) (k : Nat) : Prop := k = bs ∨ k = bx ∨ k = bg
theorem LcI.of_blocks {bs bx bg : Nat} {oi : Option Addr} {ni ci : Nat} {x : Int} {w w' : World} (h : LcI bs bx bg oi ni ci x w) (hb : ∀ k, LcS bs bx bg k → k < w.heap.size → w'.heap[k]? = w.heap[k]?) : LcI bs bx bg oi ni ci x w' :=
  ⟨(hb _ (.inl rfl) (lt_of_heap h.s)).trans h.s, (hb _ (.inr (.inl rfl)) (lt_of_heap h.x)).trans h.x, (by obtain ⟨i, hi⟩ := h.g; exact ⟨i, (hb _ (.inr (.inr (rfl))) (lt_of_heap hi)).trans hi⟩)⟩
structure LcQ (bg : Nat) (x : Int) (w : World) : Prop where
  g : w.heap[bg]? = some (.cells #[.int .i64 x] 3 (0, 0))
set_option maxRecDepth 100000 in
set_option maxHeartbeats 2000000 in
theorem Lc_clo {rowP : Int → Int → Pr R4} {seenP : Int → Int → Int → Pr (List Sn)} {findP : Int → Int → Int → Pr Int} (K : KeptTable rowP seenP findP) {oi : Option Addr} {ni ci : Nat} {x : Int} (d1 : ni ≤ 1000) (hx : U x) (bs bx bg rb mb cb Bd : Nat) (hB : Bd < 1000000000) (ng_s : bg ≠ bs) (ng_x : bg ≠ bx) (l_g : bg < rb) :
    Clo 14 #[.pointer (some ⟨bs, 0, none⟩), .pointer (some ⟨bx, 0, none⟩), .pointer (some ⟨bg, 0, none⟩)] rb mb cb (LcS bs bx bg) (LcI bs bx bg oi ni ci x) (findP 3 (ni : Int) x) (LcQ bg) Bd where
  enter := fun args w => rfl
  keepI := fun w w' h _ hb => h.of_blocks hb
  keepP := fun x w w' go st h _ hm => ⟨(hm.block _ (lt_of_heap h.g) (by omega)).trans h.g⟩
  old := fun w h k hk => by
    rcases hk with rfl | rfl | rfl
    · exact lt_of_heap h.s
    · exact lt_of_heap h.x
    · obtain ⟨i, hi⟩ := h.g; exact lt_of_heap hi
  call := fun w go st hrm hfine hoff hI hS => by
    have HI := Lib.hid hI
    have HK := Lib.hid (K.find 3 (ni : Int) x hrm hfine hB (by omega) (by omega) (by omega) (by omega) hx)
    have HS := Lib.hid hS
    have c_s := cell_at hI.s 0
    have c_x := cell_at hI.x 0
    clear hI hrm hfine hoff hS hx
    have HNE := Lib.hid (And.intro ng_s (ng_x))
    show Calls Try.prog 14 #[.pointer (some ⟨rb, 0, none⟩), .pointer (some ⟨bs, 0, none⟩), .pointer (some ⟨bx, 0, none⟩), .pointer (some ⟨bg, 0, none⟩)] w _
    go_enter Try.func14, Try.ntmps14
    go_wp2_with fail
    refine HK.out.mono ?_
    clear HK
    rintro e w1 ⟨k, go', rfl, hrm1, hadv, hans⟩
    have hb : ∀ k, LcS bs bx bg k → k < w.heap.size → w1.heap[k]? = w.heap[k]? := fun k hk hlt => hadv.mod.block k hlt fun e => HS.out k hk e
    have hI1 := HI.out.of_blocks hb
    obtain ⟨i_g, r_g⟩ := hI1.g
    have q_g : (w1).heap[bg]? = some (.cells #[.int .i64 i_g] 3 (0, 0)) := r_g
    have f_g := free_at q_g 0
    have k_g := cell_at q_g 0
    have Q_g := Lib.hid q_g
    have HI1 := Lib.hid hI1
    have HA := Lib.hid (And.intro hrm1 (And.intro hadv hans))
    clear hb hI1 hrm1 hadv hans c_s c_x r_g q_g
    go_wp2_with fail
    go_end0
    obtain ⟨hrm1, hadv, hans⟩ := HA.out
    obtain ⟨ng_s, ng_x⟩ := HNE.out
    have hm : Mod (LcS bs bx bg) w1 (World.setCell w1 ⟨bg, 0, none⟩ (.int .i64 k)) := Mod.setCell (S := LcS bs bx bg) (Mod.refl _ _) (.inr (.inr (.inr (rfl)))) _
    have hfar : ∀ k, Feet rb mb cb go' k → ¬ LcS bs bx bg k := fun k hk hs => (hadv.advS (fun _ => False)).apart (show k < w.heap.size by
      have h := HI.out
      rcases hs with rfl | rfl | rfl
      · exact lt_of_heap h.s
      · exact lt_of_heap h.x
      · obtain ⟨i, hi⟩ := h.g; exact lt_of_heap hi) (HS.out k hs) hk
    have z_g : ((World.setCell w1 ⟨bg, 0, none⟩ (.int .i64 k))).heap[bg]? = some (.cells #[.int .i64 k] 3 (0, 0)) := by
      rw [heap_setCell_same _ _ _ _ _ _ Q_g.out]; rfl
    refine ⟨rfl, go', hrm1.mod hm hfar, (hadv.advS _).trans (AdvS.of_mod hm fun k hk => .inl hk), ⟨(Below.heap_setCell _ _ _ _ (Ne.symm ng_s)).trans HI1.out.s, (Below.heap_setCell _ _ _ _ (Ne.symm ng_x)).trans HI1.out.x, ⟨_, z_g⟩⟩, ?_⟩
    intro x hx
    have hx2 := hans x hx
    have e1 := hx2
    exact ⟨by rw [e1]; exact z_g⟩
structure FbI (bg : Nat)  (w : World) : Prop where
  g : ∃ i : Int, w.heap[bg]? = some (.cells #[.int .i64 i] 3 (0, 0))
def FbS (bg : Nat) (k : Nat) : Prop := k = bg
theorem FbI.of_blocks {bg : Nat}  {w w' : World} (h : FbI bg w) (hb : ∀ k, FbS bg k → k < w.heap.size → w'.heap[k]? = w.heap[k]?) : FbI bg w' :=
  ⟨(by obtain ⟨i, hi⟩ := h.g; exact ⟨i, (hb _ (rfl) (lt_of_heap hi)).trans hi⟩)⟩
structure FbQ (bg : Nat) (x : Int) (w : World) : Prop where
  g : w.heap[bg]? = some (.cells #[.int .i64 x] 3 (0, 0))
set_option maxRecDepth 100000 in
set_option maxHeartbeats 2000000 in
theorem Fb_clo {rowP : Int → Int → Pr R4} {seenP : Int → Int → Int → Pr (List Sn)} {findP : Int → Int → Int → Pr Int} (K : KeptTable rowP seenP findP) (bg rb mb cb Bd : Nat) (hB : Bd < 1000000000)  (l_g : bg < rb) :
    Clo 18 #[.pointer (some ⟨bg, 0, none⟩)] rb mb cb (FbS bg) (FbI bg) (findP 2 2 8) (FbQ bg) Bd where
  enter := fun args w => rfl
  keepI := fun w w' h _ hb => h.of_blocks hb
  keepP := fun x w w' go st h _ hm => ⟨(hm.block _ (lt_of_heap h.g) (by omega)).trans h.g⟩
  old := fun w h k hk => by
    rcases hk with rfl
    · obtain ⟨i, hi⟩ := h.g; exact lt_of_heap hi
  call := fun w go st hrm hfine hoff hI hS => by
    have HI := Lib.hid hI
    have HK := Lib.hid (K.find 2 2 8 hrm hfine hB (by omega) (by omega) (by omega) (by omega) ⟨by omega, by omega⟩)
    have HS := Lib.hid hS
    clear hI hrm hfine hoff hS 
    show Calls Try.prog 18 #[.pointer (some ⟨rb, 0, none⟩), .pointer (some ⟨bg, 0, none⟩)] w _
    go_enter Try.func18, Try.ntmps18
    go_wp2_with fail
    refine HK.out.mono ?_
    clear HK
    rintro e w1 ⟨k, go', rfl, hrm1, hadv, hans⟩
    have hb : ∀ k, FbS bg k → k < w.heap.size → w1.heap[k]? = w.heap[k]? := fun k hk hlt => hadv.mod.block k hlt fun e => HS.out k hk e
    have hI1 := HI.out.of_blocks hb
    obtain ⟨i_g, r_g⟩ := hI1.g
    have q_g : (w1).heap[bg]? = some (.cells #[.int .i64 i_g] 3 (0, 0)) := r_g
    have f_g := free_at q_g 0
    have k_g := cell_at q_g 0
    have Q_g := Lib.hid q_g
    have HI1 := Lib.hid hI1
    have HA := Lib.hid (And.intro hrm1 (And.intro hadv hans))
    clear hb hI1 hrm1 hadv hans  r_g q_g
    go_wp2_with fail
    go_end0
    obtain ⟨hrm1, hadv, hans⟩ := HA.out
    have hm : Mod (FbS bg) w1 (World.setCell w1 ⟨bg, 0, none⟩ (.int .i64 k)) := Mod.setCell (S := FbS bg) (p := ⟨bg, 0, none⟩) (Mod.refl _ _) (.inr (show FbS bg _ from rfl)) _
    have hfar : ∀ k, Feet rb mb cb go' k → ¬ FbS bg k := fun k hk hs => (hadv.advS (fun _ => False)).apart (show k < w.heap.size by
      have h := HI.out
      rcases hs with rfl
      · obtain ⟨i, hi⟩ := h.g; exact lt_of_heap hi) (HS.out k hs) hk
    have z_g : ((World.setCell w1 ⟨bg, 0, none⟩ (.int .i64 k))).heap[bg]? = some (.cells #[.int .i64 k] 3 (0, 0)) := by
      rw [heap_setCell_same _ _ _ _ _ _ Q_g.out]; rfl
    refine ⟨rfl, go', hrm1.mod hm hfar, (hadv.advS _).trans (AdvS.of_mod hm fun k hk => .inl hk), ⟨⟨_, z_g⟩⟩, ?_⟩
    intro x hx
    have hx2 := hans x hx
    have e1 := hx2
    exact ⟨by rw [e1]; exact z_g⟩
structure CaI (bd bx : Nat) (d : Int) (w : World) : Prop where
  d : w.heap[bd]? = some (.cells #[.int .i64 d] 3 (0, 0))
  x : ∃ i : R4, w.heap[bx]? = some (.cells (rowC i) 52 (0, 0))
def CaS (bd bx : Nat) (k : Nat) : Prop := k = bd ∨ k = bx
theorem CaI.of_blocks {bd bx : Nat} {d : Int} {w w' : World} (h : CaI bd bx d w) (hb : ∀ k, CaS bd bx k → k < w.heap.size → w'.heap[k]? = w.heap[k]?) : CaI bd bx d w' :=
  ⟨(hb _ (.inl rfl) (lt_of_heap h.d)).trans h.d, (by obtain ⟨i, hi⟩ := h.x; exact ⟨i, (hb _ (.inr (rfl)) (lt_of_heap hi)).trans hi⟩)⟩
structure CaQ (bx : Nat) (x : R4) (w : World) : Prop where
  x : w.heap[bx]? = some (.cells (rowC x) 52 (0, 0))
set_option maxRecDepth 100000 in
set_option maxHeartbeats 2000000 in
theorem Ca_clo {rowP : Int → Int → Pr R4} {seenP : Int → Int → Int → Pr (List Sn)} {findP : Int → Int → Int → Pr Int} (K : KeptTable rowP seenP findP) {d : Int} (d0 : 0 ≤ d) (d1 : d ≤ 1000) (bd bx rb mb cb Bd : Nat) (hB : Bd < 1000000000) (nx_d : bx ≠ bd) (l_x : bx < rb) :
    Clo 19 #[.pointer (some ⟨bd, 0, none⟩), .pointer (some ⟨bx, 0, none⟩)] rb mb cb (CaS bd bx) (CaI bd bx d) (rowP 0 d) (CaQ bx) Bd where
  enter := fun args w => rfl
  keepI := fun w w' h _ hb => h.of_blocks hb
  keepP := fun x w w' go st h _ hm => ⟨(hm.block _ (lt_of_heap h.x) (by omega)).trans h.x⟩
  old := fun w h k hk => by
    rcases hk with rfl | rfl
    · exact lt_of_heap h.d
    · obtain ⟨i, hi⟩ := h.x; exact lt_of_heap hi
  call := fun w go st hrm hfine hoff hI hS => by
    have HI := Lib.hid hI
    have HK := Lib.hid (K.row 0 d hrm hfine hB (by omega) (by omega) d0 (by omega))
    have HS := Lib.hid hS
    have c_d := cell_at hI.d 0
    clear hI hrm hfine hoff hS d0 d1
    have HNE := Lib.hid (nx_d)
    show Calls Try.prog 19 #[.pointer (some ⟨rb, 0, none⟩), .pointer (some ⟨bd, 0, none⟩), .pointer (some ⟨bx, 0, none⟩)] w _
    go_enter Try.func19, Try.ntmps19
    go_wp2_with fail
    refine HK.out.mono ?_
    clear HK
    rintro e w1 ⟨x, go', rfl, hrm1, hadv, hans⟩
    have hb : ∀ k, CaS bd bx k → k < w.heap.size → w1.heap[k]? = w.heap[k]? := fun k hk hlt => hadv.mod.block k hlt fun e => HS.out k hk e
    have hI1 := HI.out.of_blocks hb
    obtain ⟨i_x, r_x⟩ := hI1.x
    have R_x : Hid ((w1).heap[bx]? = some (.cells (rowC i_x) 52 (0, 0))) := Lib.hid (r_x)
    have HI1 := Lib.hid hI1
    have HA := Lib.hid (And.intro hrm1 (And.intro hadv hans))
    clear hb hI1 hrm1 hadv hans c_d r_x 
    go_wp2_with (first | (refine wpList_store_row rfl 52 (.tmp 2) (.tmp 6) rfl bx (rowC x) rfl rfl 52 (rowC i_x) R_x.out (rowC_info _) rfl (rowC_one _) ?_) | fail)
    go_end0
    obtain ⟨hrm1, hadv, hans⟩ := HA.out
    have nx_d := HNE.out
    have hm : Mod (CaS bd bx) w1 (World.setRow w1 bx (rowC x)) := Mod.setRow (S := CaS bd bx) (Mod.refl _ _) (.inr (.inr (rfl))) _
    have hfar : ∀ k, Feet rb mb cb go' k → ¬ CaS bd bx k := fun k hk hs => (hadv.advS (fun _ => False)).apart (show k < w.heap.size by
      have h := HI.out
      rcases hs with rfl | rfl
      · exact lt_of_heap h.d
      · obtain ⟨i, hi⟩ := h.x; exact lt_of_heap hi) (HS.out k hs) hk
    have z_x : ((World.setRow w1 bx (rowC x))).heap[bx]? = some (.cells (rowC x) 52 (0, 0)) := by
      exact setRow_heap _ _ _ _ _ _ R_x.out
    refine ⟨rfl, go', hrm1.mod hm hfar, (hadv.advS _).trans (AdvS.of_mod hm fun k hk => .inl hk), ⟨(setRow_other _ _ _ _ (Ne.symm nx_d)).trans HI1.out.d, ⟨_, z_x⟩⟩, ?_⟩
    intro y hx
    have hx2 := hans y hx
    have e1 := hx2
    exact ⟨by rw [e1]; exact z_x⟩
structure CbI (bd bv : Nat) (d v : Int) (w : World) : Prop where
  d : w.heap[bd]? = some (.cells #[.int .i64 d] 3 (0, 0))
  v : w.heap[bv]? = some (.cells #[.int .u32 v] 28 (0, 0))
def CbS (bd bv : Nat) (k : Nat) : Prop := k = bd ∨ k = bv
theorem CbI.of_blocks {bd bv : Nat} {d v : Int} {w w' : World} (h : CbI bd bv d v w) (hb : ∀ k, CbS bd bv k → k < w.heap.size → w'.heap[k]? = w.heap[k]?) : CbI bd bv d v w' :=
  ⟨(hb _ (.inl rfl) (lt_of_heap h.d)).trans h.d, (hb _ (.inr (rfl)) (lt_of_heap h.v)).trans h.v⟩
set_option maxRecDepth 100000 in
set_option maxHeartbeats 2000000 in
theorem Cb_clo {rowP : Int → Int → Pr R4} {seenP : Int → Int → Int → Pr (List Sn)} {findP : Int → Int → Int → Pr Int} (K : KeptTable rowP seenP findP) {d v : Int} (d0 : 0 ≤ d) (d1 : d ≤ 1000) (v0 : 0 ≤ v) (v1 : v ≤ 1000) (bd bv rb mb cb Bd : Nat) (hB : Bd < 1000000000)   :
    Clo 21 #[.pointer (some ⟨bd, 0, none⟩), .pointer (some ⟨bv, 0, none⟩)] rb mb cb (CbS bd bv) (CbI bd bv d v) (killR 0 d (v + 1)) (fun _ _ => True) Bd where
  enter := fun args w => rfl
  keepI := fun w w' h _ hb => h.of_blocks hb
  keepP := fun x w w' go st h _ hm => trivial
  old := fun w h k hk => by
    rcases hk with rfl | rfl
    · exact lt_of_heap h.d
    · exact lt_of_heap h.v
  call := fun w go st hrm hfine hoff hI hS => by
    have HI := Lib.hid hI
    have HK := Lib.hid (K.kill 0 d (v + 1) hrm hfine hB (by omega) (by omega) d0 (by omega) ⟨by omega, by omega⟩)
    have HS := Lib.hid hS
    have c_d := cell_at hI.d 0
    have c_v := cell_at hI.v 0
    clear hI hrm hfine hoff hS d0 d1
    show Calls Try.prog 21 #[.pointer (some ⟨rb, 0, none⟩), .pointer (some ⟨bd, 0, none⟩), .pointer (some ⟨bv, 0, none⟩)] w _
    have s2 : IntKind.u32.wrap (v + 1) = v + 1 := IntWalk.u32_in _ (by omega)
    go_enter Try.func21, Try.ntmps21
    go_wp2_with fail
    refine HK.out.mono ?_
    clear HK
    rintro e w1 ⟨go', rfl, hrm1, hadv⟩
    have hb : ∀ k, CbS bd bv k → k < w.heap.size → w1.heap[k]? = w.heap[k]? := fun k hk hlt => hadv.mod.block k hlt fun e => HS.out k hk e
    have hI1 := HI.out.of_blocks hb
    have HI1 := Lib.hid hI1
    have HA := Lib.hid (And.intro hrm1 hadv)
    clear hb hI1 hrm1 hadv c_d c_v  
    go_wp2_with fail
    go_end0
    obtain ⟨hrm1, hadv⟩ := HA.out
    have hm : Mod (CbS bd bv) w1 w1 := Mod.refl _ _
    have hfar : ∀ k, Feet rb mb cb go' k → ¬ CbS bd bv k := fun k hk hs => (hadv.advS (fun _ => False)).apart (show k < w.heap.size by
      have h := HI.out
      rcases hs with rfl | rfl
      · exact lt_of_heap h.d
      · exact lt_of_heap h.v) (HS.out k hs) hk
    refine ⟨rfl, go', hrm1.mod hm hfar, (hadv.advS _).trans (AdvS.of_mod hm fun k hk => .inl hk), ⟨HI1.out.d, HI1.out.v⟩, ?_⟩
    intro x hx
    trivial
structure CcI (bn ba bv : Nat) (n : Int) (kl : Bool) (ai id ln v : Int) (w : World) : Prop where
  n : w.heap[bn]? = some (.cells #[.int .i64 n] 3 (0, 0))
  a : w.heap[ba]? = some (.cells #[.bool kl, .int .u8 ai, .int .u32 id, .int .u32 ln] 31 (0, 0))
  v : w.heap[bv]? = some (.cells #[.int .u32 v] 28 (0, 0))
def CcS (bn ba bv : Nat) (k : Nat) : Prop := k = bn ∨ k = ba ∨ k = bv
theorem CcI.of_blocks {bn ba bv : Nat} {n : Int} {kl : Bool} {ai id ln v : Int} {w w' : World} (h : CcI bn ba bv n kl ai id ln v w) (hb : ∀ k, CcS bn ba bv k → k < w.heap.size → w'.heap[k]? = w.heap[k]?) : CcI bn ba bv n kl ai id ln v w' :=
  ⟨(hb _ (.inl rfl) (lt_of_heap h.n)).trans h.n, (hb _ (.inr (.inl rfl)) (lt_of_heap h.a)).trans h.a, (hb _ (.inr (.inr (rfl))) (lt_of_heap h.v)).trans h.v⟩
set_option maxRecDepth 100000 in
set_option maxHeartbeats 2000000 in
theorem Cc_clo {rowP : Int → Int → Pr R4} {seenP : Int → Int → Int → Pr (List Sn)} {findP : Int → Int → Int → Pr Int} (K : KeptTable rowP seenP findP) {n : Int} {kl : Bool} {ai id ln v : Int} (d0 : 0 ≤ n) (d1 : n ≤ 1000) (hi : U id) (hl : U ln) (v0 : 0 ≤ v) (v1 : v ≤ 1000) (bn ba bv rb mb cb Bd : Nat) (hB : Bd < 1000000000)   :
    Clo 22 #[.pointer (some ⟨bn, 0, none⟩), .pointer (some ⟨ba, 0, none⟩), .pointer (some ⟨bv, 0, none⟩)] rb mb cb (CcS bn ba bv) (CcI bn ba bv n kl ai id ln v) (layR 0 n id ln (v + 1)) (fun _ _ => True) Bd where
  enter := fun args w => rfl
  keepI := fun w w' h _ hb => h.of_blocks hb
  keepP := fun x w w' go st h _ hm => trivial
  old := fun w h k hk => by
    rcases hk with rfl | rfl | rfl
    · exact lt_of_heap h.n
    · exact lt_of_heap h.a
    · exact lt_of_heap h.v
  call := fun w go st hrm hfine hoff hI hS => by
    have HI := Lib.hid hI
    have HK := Lib.hid (K.lay 0 n id ln (v + 1) hrm hfine hB (by omega) (by omega) d0 (by omega) hi hl ⟨by omega, by omega⟩)
    have HS := Lib.hid hS
    have c_n := cell_at hI.n 0
    have c_a2 := cell_at hI.a 2
    have c_a3 := cell_at hI.a 3
    have c_v := cell_at hI.v 0
    clear hI hrm hfine hoff hS d0 d1 hi hl
    show Calls Try.prog 22 #[.pointer (some ⟨rb, 0, none⟩), .pointer (some ⟨bn, 0, none⟩), .pointer (some ⟨ba, 0, none⟩), .pointer (some ⟨bv, 0, none⟩)] w _
    have s2 : IntKind.u32.wrap (v + 1) = v + 1 := IntWalk.u32_in _ (by omega)
    go_enter Try.func22, Try.ntmps22
    go_wp2_with fail
    refine HK.out.mono ?_
    clear HK
    rintro e w1 ⟨go', rfl, hrm1, hadv⟩
    have hb : ∀ k, CcS bn ba bv k → k < w.heap.size → w1.heap[k]? = w.heap[k]? := fun k hk hlt => hadv.mod.block k hlt fun e => HS.out k hk e
    have hI1 := HI.out.of_blocks hb
    have HI1 := Lib.hid hI1
    have HA := Lib.hid (And.intro hrm1 hadv)
    clear hb hI1 hrm1 hadv c_n c_a2 c_a3 c_v  
    go_wp2_with fail
    go_end0
    obtain ⟨hrm1, hadv⟩ := HA.out
    have hm : Mod (CcS bn ba bv) w1 w1 := Mod.refl _ _
    have hfar : ∀ k, Feet rb mb cb go' k → ¬ CcS bn ba bv k := fun k hk hs => (hadv.advS (fun _ => False)).apart (show k < w.heap.size by
      have h := HI.out
      rcases hs with rfl | rfl | rfl
      · exact lt_of_heap h.n
      · exact lt_of_heap h.a
      · exact lt_of_heap h.v) (HS.out k hs) hk
    refine ⟨rfl, go', hrm1.mod hm hfar, (hadv.advS _).trans (AdvS.of_mod hm fun k hk => .inl hk), ⟨HI1.out.n, HI1.out.a, HI1.out.v⟩, ?_⟩
    intro x hx
    trivial
end Go.Proofs.Ytgponhdmhgdalaa
