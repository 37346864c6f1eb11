/-
  The laws' own 'find', 'put' and 'read', at once, on a memory that holds a dictionary. Over the program's own text.
-/
import Derived.Test.YteliaammffmmiaaDictKept
import Derived.Test.YteliaammffmmiaaRegion
namespace Go.Proofs.Yteliaammffmmiaa
open Go.RowKit

theorem heap_below {w : World} {o : Obj} {k : Nat} {x : Obj} (h : w.heap[k]? = some x) : (w.alloc o).heap[k]? = some x := (Below.heap_alloc _ _ _ (lt_of_heap h)).trans h
theorem heap_top {w : World} (o : Obj) {k : Nat} (h : k = w.heap.size) : (w.alloc o).heap[k]? = some o := by subst h; exact heap_alloc_new w o
theorem Dict.Le.antisymm {a b : Dict} (h : a.Le b) (k : b.Le a) : a = b := funext fun i => by
  cases e : a i with
  | some x => exact (h i x e).symm
  | none =>
    cases e2 : b i with
    | none => rfl
    | some x => rw [k i x e2] at e; cases e
/-- A plan whose book and slots lie so. -/
structure DP (n : Nat) (s : Int) (B S : Nat → Int) : Prop where
  n0 : 1 ≤ n ∧ n ≤ 64
  s0 : 0 ≤ s ∧ s ≤ 1000000
  b4 : 0 ≤ B 4 ∧ B 4 ≤ 1000000
  room : B 4 + S 4 ≤ s
/-- A memory with a dictionary, behind at most N accesses. -/
structure DS (n : Nat) (s : Int) (B S Us : Nat → Int) (C : Nat) (mb cb : Nat) (d : Dict) (cs : List Int) (N : Nat) (w : World) : Prop where
  mem : ∃ l sm, MemAt w mb cb cs l sm ∧ 0 ≤ l ∧ 0 ≤ sm ∧ l + sm ≤ N
  dict : DictAt n s (B 4) (B 4 + Us 4) d cs
  cells : ∀ y ∈ cs, U y
  len : cs.length = C ∧ C ≤ 1000000
  used : ∀ k, k < 6 → 0 ≤ Us k ∧ Us k ≤ S k ∧ S k ≤ 1000000
section
variable {n : Nat} {s : Int} {B S Us : Nat → Int} {C mb cb : Nat} {d : Dict} {cs : List Int} {N : Nat} {w w' : World}
theorem DS.mod (h : DS n s B S Us C mb cb d cs N w) {T : Nat → Prop} (hm : Mod T w w') (h1 : ¬ T mb) (h2 : ¬ T cb) : DS n s B S Us C mb cb d cs N w' := by
  obtain ⟨⟨l, sm, hmem, a, b, c⟩, h3, h4, h5, h6⟩ := h
  exact ⟨⟨l, sm, hmem.mod hm h1 h2, a, b, c⟩, h3, h4, h5, h6⟩
theorem DS.below (h : DS n s B S Us C mb cb d cs N w) (hb : Below w.heap.size w w') : DS n s B S Us C mb cb d cs N w' := by
  obtain ⟨⟨l, sm, hmem, a, b, c⟩, h3, h4, h5, h6⟩ := h
  exact ⟨⟨l, sm, hmem.below hb, a, b, c⟩, h3, h4, h5, h6⟩
theorem DS.more (h : DS n s B S Us C mb cb d cs N w) (M : Nat) (hM : N ≤ M) : DS n s B S Us C mb cb d cs M w := by
  obtain ⟨⟨l, sm, hmem, a, b, c⟩, h3, h4, h5, h6⟩ := h
  exact ⟨⟨l, sm, hmem, a, b, by omega⟩, h3, h4, h5, h6⟩
theorem DS.lt (h : DS n s B S Us C mb cb d cs N w) : mb < w.heap.size ∧ cb < w.heap.size := by
  obtain ⟨⟨l, sm, hmem, _⟩, _⟩ := h
  exact ⟨lt_of_heap hmem.rec_, lt_of_heap hmem.row⟩
end

/-! ### Find -/
def findW (W : World) (s n : Int) (key : ByteArray) : World := ((((W.alloc (.cells #[.int .i64 s] 3)).alloc (.cells #[.int .i64 n] 3)).alloc (.cells #[.string key] 9)).alloc (.cells #[.int .i64 0] 3)).alloc (.cells #[.int .i64 0] 3)
theorem findW_i (W : World) (s n : Int) (key : ByteArray) : FiI W.heap.size (W.heap.size + 1) (W.heap.size + 2) (W.heap.size + 3) (W.heap.size + 4) s n key (findW W s n key) ∧ Below W.heap.size W (findW W s n key) ∧ (findW W s n key).heap.size = W.heap.size + 5 := by
  unfold findW
  refine ⟨⟨?_, ?_, ?_, ⟨0, ?_⟩, ⟨0, ?_⟩⟩, ?_, ?_⟩
  · exact heap_below (heap_below (heap_below (heap_below (heap_top _ rfl))))
  · exact heap_below (heap_below (heap_below (heap_top _ (by simp))))
  · exact heap_below (heap_below (heap_top _ (by simp)))
  · exact heap_below (heap_top _ (by simp))
  · exact heap_top _ (by simp)
  · exact ((((((Below.refl _ _).alloc (Nat.le_refl _) _).alloc (by simp) _).alloc (by simp; omega) _).alloc (by simp; omega) _).alloc (by simp; omega) _)
  · simp
set_option maxRecDepth 100000 in
set_option maxHeartbeats 2000000 in
theorem find_at {findP : Int → Int → List Nat → Pr (Int × Int)} (K : KeptDict findP) {n : Nat} {s : Int} {B S Us : Nat → Int} {C mb cb : Nat} {d : Dict} {cs : List Int} {N : Nat} {W : World} (hP : DP n s B S) (h : DS n s B S Us C mb cb d cs N W) (hN : N ≤ 90000000) (key : ByteArray) (hk : key.size ≤ reachBytes) (hk4 : key.size < 4294967296) :
    Calls Try.prog 9 #[.pointer (some ⟨mb, 0, none⟩), .int .i64 s, .int .i64 (n : Int), .string key] W fun e w' => Mod (fun k => k = mb ∨ k = cb) W w' ∧ ∃ x : Int × Int, e = .returned (.tuple #[.int .i64 x.1, .int .i64 x.2, .bool true]) ∧ Good n (bytesL key) d x ∧ DS n s B S Us C mb cb d cs (N + 2000) w' := by
  have hD := h.dict
  obtain ⟨m, x, hmn, hd, d1, hd1, hd2, hgood⟩ := (K.rely n s (B 4) (B 4 + Us 4) cs.length (bytesL key) d (bytesL_lt key) (by rw [bytesL_length]; exact hk4) (by have := hP.n0; omega)).does Dict.Le.refl ⟨B 4 + Us 4, Int.le_refl _, rfl, hD⟩
  obtain rfl := hd1.antisymm hd2
  obtain ⟨⟨l, sm, hm, l0, s0, hls⟩, hdict, hcu, hlen, hused⟩ := h
  obtain ⟨hI, hB, hz⟩ := findW_i W s (n : Int) key
  have hmb := lt_of_heap hm.rec_
  have hcb := lt_of_heap hm.row
  have hn := hP.n0
  have hK := whole_at (B := 200000000) (hm.below hB) l0 s0 hcu hd (fun rb hrb => Fi_clo K hP.s0.1 hP.s0.2 (by omega) (by omega) hk W.heap.size (W.heap.size + 1) (W.heap.size + 2) (W.heap.size + 3) (W.heap.size + 4) rb mb cb 200000000 (by omega) (by omega) (by omega) (by omega) (by omega) (by omega) (by omega) (by omega) (by omega) (by omega)) hI (fun k hk => by
    unfold FiS at hk
    omega) (by omega) (by omega) (by omega)
  have HK := Lib.hid hK
  have HW := Lib.hid hB
  have HD := Lib.hid (And.intro hdict (And.intro hcu (And.intro hlen (And.intro hused (And.intro hgood (And.intro hls hmn))))))
  clear hK hD hd1 hd2 hgood hdict hcu hlen hused hm hI hd K hP l0 s0 hls hB hmn hk
  go_enter Try.func9, Try.ntmps9
  go_wp2_with fail
  rw [show ((((W.alloc (.cells #[.int .i64 s] 3)).alloc (.cells #[.int .i64 (n : Int)] 3)).alloc (.cells #[.string key] 9)).alloc (.cells #[.int .i64 0] 3)).alloc (.cells #[.int .i64 0] 3) = findW W s (n : Int) key from rfl]
  refine HK.out.mono ?_
  clear HK
  rintro e w2 ⟨rfl, ⟨l', s', hm2, a0, a1, a2⟩, hcu2, hI2, hQ2, hmod⟩
  have e3 : w2.cell? ⟨W.heap.size + 1 + 1 + 1, 0, none⟩ = some (.int .i64 x.1) := cell_at hQ2.a 0
  have e4 : w2.cell? ⟨W.heap.size + 1 + 1 + 1 + 1, 0, none⟩ = some (.int .i64 x.2) := cell_at hQ2.k 0
  have HM := Lib.hid (And.intro hm2 (And.intro a0 (And.intro a1 a2)))
  have HMod := Lib.hid hmod
  clear hI2 hQ2 hmod hm2 a0 a1 a2 hcu2
  go_wp2_with fail
  go_quiet (fail)
  go_wp2_with fail
  obtain ⟨hm2, a0, a1, a2⟩ := HM.out
  obtain ⟨b1, b2, b3, b4, b5, b6, b7⟩ := HD.out
  refine bodyPost_ret (v := .tuple #[.int .i64 x.1, .int .i64 x.2, .bool true]) (by simp [results, Try.results9, go_sem]) rfl ⟨?_, x, rfl, b5, ⟨l', s', hm2.below (below_drawn (Below.refl _ _) _), a0, a1, by omega⟩, b1, b2, b3, b4⟩
  refine ((Below.mod HW.out (fun k => k = mb ∨ k = cb) fun k hk hk' => by omega).then HMod.out (by
      rintro k hk (e | e | e)
      · unfold FiS at e; omega
      · exact .inl e
      · exact .inr e)).then (T := fun _ => False) (Below.mod (below_drawn (Below.refl w2.heap.size w2) _) _ fun k hk hk' => by omega) (fun _ _ h => h.elim)
set_option maxRecDepth 100000 in
set_option maxHeartbeats 2000000 in
/-- Of any text: nothing is turned. -/
theorem find_ro {findP : Int → Int → List Nat → Pr (Int × Int)} (K : KeptDict findP) {n : Nat} {s : Int} {B S Us : Nat → Int} {C mb cb : Nat} {d : Dict} {cs : List Int} {N : Nat} {W : World} (hP : DP n s B S) (h : DS n s B S Us C mb cb d cs N W) (hN : N ≤ 90000000) (key : ByteArray) (hk : key.size ≤ reachBytes) :
    Calls Try.prog 9 #[.pointer (some ⟨mb, 0, none⟩), .int .i64 s, .int .i64 (n : Int), .string key] W fun e w' => Mod (fun k => k = mb ∨ k = cb) W w' ∧ ∃ (x : Int × Int) (b : Bool), e = .returned (.tuple #[.int .i64 x.1, .int .i64 x.2, .bool b]) ∧ DS n s B S Us C mb cb d cs (N + 262144) w' := by
  obtain ⟨⟨l, sm, hm, l0, s0, hls⟩, hdict, hcu, hlen, hused⟩ := h
  obtain ⟨hI, hB, hz⟩ := findW_i W s (n : Int) key
  have hmb := lt_of_heap hm.rec_
  have hcb := lt_of_heap hm.row
  have hn := hP.n0
  have hK := whole_ro (B := 200000000) (hm.below hB) l0 s0 hcu (K.ro s (n : Int) (bytesL key)) (fun rb hrb => Fi_clo K hP.s0.1 hP.s0.2 (by omega) (by omega) hk W.heap.size (W.heap.size + 1) (W.heap.size + 2) (W.heap.size + 3) (W.heap.size + 4) rb mb cb 200000000 (by omega) (by omega) (by omega) (by omega) (by omega) (by omega) (by omega) (by omega) (by omega) (by omega)) hI (fun k hk => by
    unfold FiS at hk
    omega) (by omega) (by omega)
  have HK := Lib.hid hK
  have HW := Lib.hid hB
  have HD := Lib.hid (And.intro hdict (And.intro hcu (And.intro hlen (And.intro hused hls))))
  clear hK hdict hcu hlen hused hm hI K hP l0 s0 hls hB hk
  go_enter Try.func9, Try.ntmps9
  go_wp2_with fail
  rw [show ((((W.alloc (.cells #[.int .i64 s] 3)).alloc (.cells #[.int .i64 (n : Int)] 3)).alloc (.cells #[.string key] 9)).alloc (.cells #[.int .i64 0] 3)).alloc (.cells #[.int .i64 0] 3) = findW W s (n : Int) key from rfl]
  refine HK.out.mono ?_
  clear HK
  rintro e w2 ⟨b, rfl, ⟨st, go, hrm, hcs2, _, _, a0, a1, a2, _, hcu2, _⟩, hI2, hmod⟩
  obtain ⟨x1, hx1⟩ := hI2.a
  obtain ⟨x2, hx2⟩ := hI2.k
  have hm2 : MemAt w2 mb cb cs st.l st.s := by rw [← hcs2]; exact hrm.mem
  have e3 : w2.cell? ⟨W.heap.size + 1 + 1 + 1, 0, none⟩ = some (.int .i64 x1) := cell_at hx1 0
  have e4 : w2.cell? ⟨W.heap.size + 1 + 1 + 1 + 1, 0, none⟩ = some (.int .i64 x2) := cell_at hx2 0
  have HM := Lib.hid (And.intro hm2 (And.intro a0 (And.intro a1 a2)))
  have HMod := Lib.hid hmod
  clear hI2 hmod hm2 a0 a1 a2 hcu2 hrm hcs2 hx1 hx2
  go_wp2_with fail
  go_quiet (fail)
  go_wp2_with fail
  obtain ⟨hm2, a0, a1, a2⟩ := HM.out
  obtain ⟨b1, b2, b3, b4, b6⟩ := HD.out
  refine bodyPost_ret (v := .tuple #[.int .i64 x1, .int .i64 x2, .bool b]) (by simp [results, Try.results9, go_sem]) rfl ⟨?_, (x1, x2), b, rfl, ⟨st.l, st.s, hm2.below (below_drawn (Below.refl _ _) _), a0, a1, by omega⟩, b1, b2, b3, b4⟩
  refine ((Below.mod HW.out (fun k => k = mb ∨ k = cb) fun k hk hk' => by omega).then HMod.out (by
      rintro k hk (e | e | e)
      · unfold FiS at e; omega
      · exact .inl e
      · exact .inr e)).then (T := fun _ => False) (Below.mod (below_drawn (Below.refl w2.heap.size w2) _) _ fun k hk hk' => by omega) (fun _ _ h => h.elim)
/-! ### Put -/
def putW (W : World) (B S : Nat → Int) (Z T L : Int) (Us : Nat → Int) (s slot : Int) (key : ByteArray) : World := (((((((((W.alloc (.cells (planC B S Z T L) 25)).alloc (.cells (six Us) 23)).alloc (.cells #[.int .i64 s] 3)).alloc (.cells #[.int .i64 slot] 3)).alloc (.cells #[.string key] 9)).alloc (.cells #[.int .i64 0, .int .i64 0, .int .i64 0, .int .i64 0, .int .i64 0, .int .i64 0] 23)).alloc (.cells #[.int .i64 0] 3)).alloc (.cells #[.int .i64 0, .int .i64 0, .int .i64 0, .int .i64 0, .int .i64 0, .int .i64 0] 23)).alloc (.cells #[.int .i64 0] 29))
theorem putW_i (W : World) (B S : Nat → Int) (Z T L : Int) (Us : Nat → Int) (s slot : Int) (key : ByteArray) : PuI W.heap.size (W.heap.size + 1) (W.heap.size + 2) (W.heap.size + 3) (W.heap.size + 4) (W.heap.size + 6) (W.heap.size + 7) (W.heap.size + 8) B S Z T L Us s slot key (putW W B S Z T L Us s slot key) ∧ (putW W B S Z T L Us s slot key).heap[W.heap.size + 5]? = some (.cells (six fun _ => 0) 23 (0, 0)) ∧ Below W.heap.size W (putW W B S Z T L Us s slot key) ∧ (putW W B S Z T L Us s slot key).heap.size = W.heap.size + 9 := by
  unfold putW
  refine ⟨⟨?_, ?_, ?_, ?_, ?_, ⟨0, ?_⟩, ⟨fun _ => 0, ?_⟩, ⟨0, ?_⟩⟩, ?_, ?_, ?_⟩
  · exact heap_below (heap_below (heap_below (heap_below (heap_below (heap_below (heap_below (heap_below (heap_top _ (by simp)))))))))
  · exact heap_below (heap_below (heap_below (heap_below (heap_below (heap_below (heap_below (heap_top _ (by simp))))))))
  · exact heap_below (heap_below (heap_below (heap_below (heap_below (heap_below (heap_top _ (by simp)))))))
  · exact heap_below (heap_below (heap_below (heap_below (heap_below (heap_top _ (by simp))))))
  · exact heap_below (heap_below (heap_below (heap_below (heap_top _ (by simp)))))
  · exact heap_below (heap_below (heap_top _ (by simp)))
  · exact heap_below (heap_top _ (by simp))
  · exact heap_top _ (by simp)
  · exact heap_below (heap_below (heap_below (heap_top _ (by simp))))
  · exact ((((((((((Below.refl _ _).alloc (Nat.le_refl _) _).alloc (by simp) _).alloc (by simp; omega) _).alloc (by simp; omega) _).alloc (by simp; omega) _).alloc (by simp; omega) _).alloc (by simp; omega) _).alloc (by simp; omega) _).alloc (by simp; omega) _)
  · simp
set_option maxRecDepth 100000 in
set_option maxHeartbeats 2000000 in
theorem put_does {findP : Int → Int → List Nat → Pr (Int × Int)} (K : KeptDict findP) {n : Nat} {s : Int} {B S Us : Nat → Int} {C mb cb : Nat} {d : Dict} {cs cs' : List Int} {N : Nat} {Z T L slot : Int} {W : World} (hP : DP n s B S) (h : DS n s B S Us C mb cb d cs N W) (hN : N ≤ 90000000) (key : ByteArray) (hk : key.size ≤ 1000) (i0 : 0 ≤ slot) (i1 : slot ≤ 1000000) {m : Nat} {x : PutD} (hd : Does (putDP B S Us s slot (bytesL key)) cs m x cs') (hm1 : m ≤ 1000) :
    Calls Try.prog 10 #[.pointer (some ⟨mb, 0, none⟩), .agg (planC B S Z T L), .agg (six Us), .int .i64 s, .int .i64 slot, .string key] W fun e w' => Mod (fun k => k = mb ∨ k = cb) W w' ∧ e = .returned (.tuple #[.int .i64 x.1, .agg (six x.2.1), .int .i64 x.2.2]) ∧ (∀ y ∈ cs', U y) ∧ ∃ l sm, MemAt w' mb cb cs' l sm ∧ 0 ≤ l ∧ 0 ≤ sm ∧ l + sm ≤ N + m := by
  obtain ⟨⟨l, sm, hm, l0, s0, hls⟩, hdict, hcu, hlen, hused⟩ := h
  obtain ⟨hI, hv, hB, hz⟩ := putW_i W B S Z T L Us s slot key
  have hmb := lt_of_heap hm.rec_
  have hcb := lt_of_heap hm.row
  have hK := whole_at (B := 200000000) (hm.below hB) l0 s0 hcu hd (fun rb hrb => Pu_clo K (C := Z) (T := T) (L := L) hP.b4 hused hP.s0.1 hP.s0.2 i0 i1 (by omega) W.heap.size (W.heap.size + 1) (W.heap.size + 2) (W.heap.size + 3) (W.heap.size + 4) (W.heap.size + 6) (W.heap.size + 7) (W.heap.size + 8) rb mb cb 200000000 (by omega) (by omega) (by omega) (by omega) (by omega) (by omega) (by omega) (by omega) (by omega) (by omega) (by omega) (by omega) (by omega) (by omega) (by omega) (by omega) (by omega) (by omega) (by omega) (by omega) (by omega) (by omega)) hI (fun k hk => by
    unfold PuS at hk
    omega) (by omega) (by omega) (by omega)
  have HK := Lib.hid hK
  have HW := Lib.hid (And.intro hB (And.intro hv hls))
  clear hK hdict hcu hlen hused hm hI hd K hP l0 s0 hls hB hk i0 i1 hv
  go_enter Try.func10, Try.ntmps10
  go_wp2_with fail
  rw [show (((((((((W.alloc (.cells (planC B S Z T L) 25)).alloc (.cells (six Us) 23)).alloc (.cells #[.int .i64 s] 3)).alloc (.cells #[.int .i64 slot] 3)).alloc (.cells #[.string key] 9)).alloc (.cells #[.int .i64 0, .int .i64 0, .int .i64 0, .int .i64 0, .int .i64 0, .int .i64 0] 23)).alloc (.cells #[.int .i64 0] 3)).alloc (.cells #[.int .i64 0, .int .i64 0, .int .i64 0, .int .i64 0, .int .i64 0, .int .i64 0] 23)).alloc (.cells #[.int .i64 0] 29)) = putW W B S Z T L Us s slot key from rfl]
  refine HK.out.mono ?_
  clear HK
  rintro e w2 ⟨rfl, ⟨l', s', hm2, a0, a1, a2⟩, hcu2, hI2, hQ2, hmod⟩
  have hz5 : w2.heap[W.heap.size + 5]? = some (.cells (six fun _ => 0) 23 (0, 0)) := (hmod.block _ (by omega) (by
    rintro (e | e | e)
    · unfold PuS at e; omega
    · omega
    · omega)).trans HW.out.2.1
  have HQ := Lib.hid hQ2
  have HZ := Lib.hid hz5
  have HM := Lib.hid (And.intro hm2 (And.intro a0 (And.intro a1 a2)))
  have HCU := Lib.hid hcu2
  have HMod := Lib.hid hmod
  clear hI2 hQ2 hmod hm2 a0 a1 a2 hcu2 hz5
  go_wp2_with fail
  refine wp_region_by (fun (_ : Unit) j => [.int .i64 x.1, .agg (six x.2.1), .int .i64 x.2.2, .int .i64 x.1, undef, .int .i64 x.2.2].getD j undef)
    (fun _ l wx => PuQ (W.heap.size + 6) (W.heap.size + 7) (W.heap.size + 8) x wx ∧ (∃ V, wx.heap[W.heap.size + 5]? = some (.cells (six V) 23 (0, 0))) ∧ (l 4 = true → wx.heap[W.heap.size + 5]? = some (.cells (six x.2.1) 23 (0, 0))) ∧ Mod (fun k => k = W.heap.size + 5) w2 wx)
    (by kernel_rfl) (by kernel_rfl) (fun q => by simp only [putTo, dstOf, Act.put, List.size_toArray, List.length_cons, List.length_nil, List.getElem?_toArray, Nat.reduceAdd, Option.bind_some, List.getElem?_cons_zero, List.getElem?_cons_succ, List.setIfInBounds_toArray, List.set_cons_zero, List.set_cons_succ, List.getD_cons_zero, List.getD_cons_succ]; exact rfl) () ?_ ?_ ?_
  · exact ⟨⟨HQ.out.a, HQ.out.v, HQ.out.e⟩, ⟨_, HZ.out⟩, (fun h => by cases h), (Mod.refl _ _).drew⟩
  · intro i o ho q l wx hR hl he K hK
    rcases i with _ | _ | _ | _ | _ | _ | i
    · obtain rfl : _ = o := Option.some.inj ho
      have c1 : wx.cell? ⟨W.heap.size + 1 + 1 + 1 + 1 + 1 + 1, 0, none⟩ = some (.int .i64 x.1) := cell_at hR.1.a 0
      go_simp
      exact hK () wx (fun _ _ => rfl) hR
    · obtain rfl : _ = o := Option.some.inj ho
      refine wp_load_row 23 (.tmp 16) rfl (W.heap.size + 7) rfl 23 (six x.2.1) (0, 0) _ hR.1.v Try.underlying23 rfl (six_info _) ?_
      exact hK () wx (fun _ _ => rfl) hR
    · obtain rfl : _ = o := Option.some.inj ho
      have c1 : wx.cell? ⟨W.heap.size + 1 + 1 + 1 + 1 + 1 + 1 + 1 + 1, 0, none⟩ = some (.int .i64 x.2.2) := cell_at hR.1.e 0
      go_simp
      exact hK () wx (fun _ _ => rfl) hR
    · obtain rfl : _ = o := Option.some.inj ho
      go_simp
      exact hK () wx (fun _ _ => rfl) hR
    · obtain rfl : _ = o := Option.some.inj ho
      obtain ⟨V, hV⟩ := hR.2.1
      refine wp_store_row 23 (.tmp 13) (.tmp 23) rfl (W.heap.size + 5) (six x.2.1) rfl rfl 23 (six V) hV (six_info _) (six_both _ _) (six_one _) ?_
      have hs := setRow_heap wx (W.heap.size + 5) _ (six x.2.1) _ _ hV
      refine hK () _ (fun _ _ => rfl) ⟨⟨(setRow_other _ _ _ _ (by omega)).trans hR.1.a, (setRow_other _ _ _ _ (by omega)).trans hR.1.v, (setRow_other _ _ _ _ (by omega)).trans hR.1.e⟩, ⟨_, hs⟩, fun _ => hs, hR.2.2.2.setRow (.inr rfl) _⟩
    · obtain rfl : _ = o := Option.some.inj ho
      go_simp
      exact hK () wx (fun _ _ => rfl) hR
    · simp at ho
  · intro q l wx hl hR
    have H4 : Hid (wx.heap[W.heap.size + 1 + 1 + 1 + 1 + 1]? = some (.cells (six x.2.1) 23 (0, 0))) := Lib.hid (hR.2.2.1 (hl 4 (by decide)))
    have HMX := Lib.hid hR.2.2.2
    clear hR hl
    go_wp2_with fail
    have hmx := HMX.out
    have h4 := H4.out
    refine bodyPost_ret (v := .tuple #[.int .i64 x.1, .agg (six x.2.1), .int .i64 x.2.2]) (results_tmp_cell_tmp rfl _ _ (W.heap.size + 1 + 1 + 1 + 1 + 1) _ _ (0, 0) _ _ _ rfl rfl rfl h4 Try.underlying23 rfl (six_info _)) rfl ⟨?_, rfl, HCU.out, ?_⟩
    · have h2 : Mod (fun k => k = mb ∨ k = cb) W w2 := (Below.mod HW.out.1 (fun k => k = mb ∨ k = cb) fun k hk hk' => by omega).then HMod.out (by
        rintro k hk (e | e | e)
        · unfold PuS at e; omega
        · exact .inl e
        · exact .inr e)
      exact h2.then hmx fun k hk e => by omega
    · obtain ⟨hm2, a0, a1, a2⟩ := HM.out
      have hls := HW.out.2.2
      exact ⟨l', s', hm2.mod hmx (by omega) (by omega), a0, a1, by omega⟩
/-- A key is put into the slot that a Find told, or there is no room. -/
theorem put_at {findP : Int → Int → List Nat → Pr (Int × Int)} (K : KeptDict findP) {n : Nat} {s : Int} {B S Us : Nat → Int} {C mb cb : Nat} {d : Dict} {cs : List Int} {N : Nat} {Z T L : Int} {W : World} (hP : DP n s B S) (h : DS n s B S Us C mb cb d cs N W) (hN : N ≤ 90000000) (key : ByteArray) (hk : key.size ≤ 100) {x : Int × Int} (hg : Good n (bytesL key) d x) (hx : x.1 = 0) (hx2 : 0 ≤ x.2) :
    Calls Try.prog 10 #[.pointer (some ⟨mb, 0, none⟩), .agg (planC B S Z T L), .agg (six Us), .int .i64 s, .int .i64 x.2, .string key] W fun e w' => Mod (fun k => k = mb ∨ k = cb) W w' ∧
      ((2 + ((cellsN (bytesL key)).length : Int) > S 4 - Us 4 ∧ e = .returned (.tuple #[.int .i64 0, .agg (six fun _ => 0), .int .i64 3]) ∧ DS n s B S Us C mb cb d cs (N + 200) w') ∨
       ∃ Us' cs' i, e = .returned (.tuple #[.int .i64 (B 4 + Us 4), .agg (six Us'), .int .i64 0]) ∧ Us' = more Us 4 (2 + ((cellsN (bytesL key)).length : Int)) ∧ x.2 = (i : Nat) ∧ d i = none ∧ DS n s B S Us' C mb cb (d.put i (B 4 + Us 4, bytesL key)) cs' (N + 200) w' ∧ d.Le (d.put i (B 4 + Us 4, bytesL key))) := by
  have hb := bytesL_lt key
  have hbl : (bytesL key).length ≤ 100 := by rw [bytesL_length]; exact hk
  have hcl := cellsN_length (bytesL key)
  obtain ⟨t, ht, hx3, hp, hd⟩ : ∃ t, t < n ∧ x.2 = (slotOf n (hashN (bytesL key)) t : Nat) ∧ Passed n d (bytesL key) t ∧ d (slotOf n (hashN (bytesL key)) t) = none := by
    rcases hg with ⟨t, ht, e, hp, ⟨h1, _⟩ | h1⟩ | ⟨_, e, _⟩
    · exact ⟨t, ht, e, hp, h1⟩
    · have := h.dict.pos (a := x.1) ⟨_, h1⟩
      omega
    · omega
  have hn := hP.n0
  have hsl := slotOf_lt (show 0 < n by omega) (hashN (bytesL key)) t
  have hlen := h.len
  by_cases hf : 2 + ((cellsN (bytesL key)).length : Int) ≤ S 4 - Us 4
  · obtain ⟨cs', hdoes, hl', hdict', hle⟩ := h.dict.put hb hbl hP.room (by omega) ht hp hd hf
    rw [← hx3] at hdoes
    refine (put_does K (Z := Z) (T := T) (L := L) hP h hN key (by omega) hx2 (by omega) hdoes (by omega)).mono ?_
    rintro e w' ⟨hm, rfl, hcu, l, sm, hmem, a0, a1, a2⟩
    refine ⟨hm, .inr ⟨_, cs', _, rfl, rfl, hx3, hd, ⟨⟨l, sm, hmem, a0, a1, by omega⟩, hdict', hcu, ⟨by omega, hlen.2⟩, fun k hk6 => ?_⟩, hle⟩⟩
    have := h.used k hk6
    have h4 := h.used 4 (by omega)
    show 0 ≤ more Us 4 (2 + ((cellsN (bytesL key)).length : Int)) k ∧ more Us 4 (2 + ((cellsN (bytesL key)).length : Int)) k ≤ S k ∧ S k ≤ 1000000
    unfold more
    split
    · subst k; omega
    · omega
  · refine (put_does K (Z := Z) (T := T) (L := L) hP h hN key (by omega) hx2 (by omega) (putD_full (B := B) (S := S) (U := Us) (s := s) (slot := x.2) hf cs) (by omega)).mono ?_
    rintro e w' ⟨hm, rfl, hcu, l, sm, hmem, a0, a1, a2⟩
    exact ⟨hm, .inl ⟨by omega, rfl, ⟨⟨l, sm, hmem, a0, a1, by omega⟩, h.dict, hcu, hlen, h.used⟩⟩⟩

/-! ### Read -/
set_option maxRecDepth 100000 in
set_option maxHeartbeats 2000000 in
theorem read_at {findP : Int → Int → List Nat → Pr (Int × Int)} (K : KeptDict findP) {n : Nat} {s : Int} {B S Us : Nat → Int} {C mb cb : Nat} {d : Dict} {cs : List Int} {N : Nat} {W : World} (hP : DP n s B S) (h : DS n s B S Us C mb cb d cs N W) (hN : N ≤ 90000000) {a : Int} {k : List Nat} (ha : Has d k a) :
    Calls Try.prog 11 #[.pointer (some ⟨mb, 0, none⟩), .int .i64 a] W fun e w' => Mod (fun k => k = mb ∨ k = cb) W w' ∧ e = .returned (.tuple #[.string (byteText (if k.length ≤ 17 then k else [])), .bool true]) ∧ DS n s B S Us C mb cb d cs (N + 200) w' := by
  obtain ⟨i, hi⟩ := ha
  obtain ⟨r1, r2, r3, r4, r5⟩ := h.dict.rec_ i a k hi
  have hdl := h.dict.len
  have hdh := h.dict.his
  have hdlo := h.dict.lo0
  have hcl := cellsN_length k
  have hlen0 := h.len
  have hs00 := hP.s0
  obtain ⟨m, hm1, hd⟩ := read_does r3 r4 (by omega) (by omega)
  have hm1 : m ≤ 200 := by omega
  obtain ⟨⟨l, sm, hm, l0, s0, hls⟩, hdict, hcu, hlen, hused⟩ := h
  have hmb := lt_of_heap hm.rec_
  have hcb := lt_of_heap hm.row
  have hB := below_al2 (w := W) (A := .cells #[.int .i64 a] 3) (B := .cells #[.string ⟨#[]⟩] 9)
  obtain ⟨ans, hans⟩ : ∃ ans, ans = (if k.length ≤ 17 then k else []) := ⟨_, rfl⟩
  rw [← hans] at hd ⊢
  have hK := whole_at (B := 200000000) (hm.below hB) l0 s0 hcu hd (fun rb hrb => Re_clo K (a := a) (by omega) (by omega) W.heap.size (W.heap.size + 1) rb mb cb 200000000 (by omega) (by omega) (by simp at hrb; omega)) ⟨heap2_0 W _ _, ⟨_, heap2_1 W _ _⟩⟩ (fun k hk => by
    unfold ReS at hk
    simp
    omega) (by omega) (by omega) (by omega)
  have HK := Lib.hid hK
  have HW := Lib.hid hB
  have HD := Lib.hid (And.intro hdict (And.intro hcu (And.intro hlen (And.intro hused (And.intro hls hm1)))))
  clear hK hdict hcu hlen hused hm hd K hP l0 s0 hls hB hans hm1 r1 r2 r3 r4 r5 hi hdl hdh hdlo hcl hlen0 hs00
  go_enter Try.func11, Try.ntmps11
  go_wp2_with fail
  refine HK.out.mono ?_
  clear HK
  rintro e w2 ⟨rfl, ⟨l', s', hm2, a0, a1, a2⟩, hcu2, hI2, hQ2, hmod⟩
  have e3 : w2.cell? ⟨W.heap.size + 1, 0, none⟩ = some (.string (byteText ans)) := cell_at hQ2.t 0
  have HM := Lib.hid (And.intro hm2 (And.intro a0 (And.intro a1 a2)))
  have HMod := Lib.hid hmod
  clear hI2 hQ2 hmod hm2 a0 a1 a2 hcu2
  go_wp2_with fail
  obtain ⟨hm2, a0, a1, a2⟩ := HM.out
  obtain ⟨b1, b2, b3, b4, b6, b7⟩ := HD.out
  refine bodyPost_ret (v := .tuple #[.string (byteText ans), .bool true]) (by simp [results, Try.results11, go_sem]) rfl ⟨?_, rfl, ⟨l', s', hm2, a0, a1, by omega⟩, b1, b2, b3, b4⟩
  exact (Below.mod HW.out (fun k => k = mb ∨ k = cb) fun k hk hk' => by omega).then HMod.out (by
      rintro k hk (e | e | e)
      · unfold ReS at e; omega
      · exact .inl e
      · exact .inr e)
end Go.Proofs.Yteliaammffmmiaa
