/-
  The law's closure that puts a text where it isn't found. Over the program's own text.
-/
import Derived.Test.YteliaammffmmiaaDictLaw
namespace Go.Proofs.Yteliaammffmmiaa
open Go.RowKit

/-- The law's variables. -/
structure AB (bm bs bp bu mb : Nat) (B S : Nat → Int) (Z T L s : Int) (Us : Nat → Int) (w : World) : Prop where
  m : w.heap[bm]? = some (.cells #[.pointer (some ⟨mb, 0, none⟩)] 28 (0, 0))
  s : w.heap[bs]? = some (.cells #[.int .i64 s] 3 (0, 0))
  p : w.heap[bp]? = some (.cells (planC B S Z T L) 25 (0, 0))
  u : w.heap[bu]? = some (.cells (six Us) 23 (0, 0))
theorem AB.of_blocks {bm bs bp bu mb : Nat} {B S : Nat → Int} {Z T L s : Int} {Us : Nat → Int} {w w' : World} (h : AB bm bs bp bu mb B S Z T L s Us w) (hb : ∀ k, (k = bm ∨ k = bs ∨ k = bp ∨ k = bu) → k < w.heap.size → w'.heap[k]? = w.heap[k]?) : AB bm bs bp bu mb B S Z T L s Us w' :=
  ⟨(hb _ (.inl rfl) (lt_of_heap h.m)).trans h.m, (hb _ (.inr (.inl rfl)) (lt_of_heap h.s)).trans h.s, (hb _ (.inr (.inr (.inl rfl))) (lt_of_heap h.p)).trans h.p, (hb _ (.inr (.inr (.inr rfl))) (lt_of_heap h.u)).trans h.u⟩
theorem AB.below {bm bs bp bu mb : Nat} {B S : Nat → Int} {Z T L s : Int} {Us : Nat → Int} {w w' : World} (h : AB bm bs bp bu mb B S Z T L s Us w) (hb : Below w.heap.size w w') : AB bm bs bp bu mb B S Z T L s Us w' := h.of_blocks fun k _ hk => hb.block k hk
/-- In the order in which they were made. -/
def AOrd (bm bs bp bu mb cb : Nat) : Prop := bp < cb ∧ cb < mb ∧ mb < bm ∧ bm < bs ∧ bs < bu
theorem AB.mem {bm bs bp bu mb cb : Nat} {B S : Nat → Int} {Z T L s : Int} {Us : Nat → Int} {w w' : World} (h : AB bm bs bp bu mb B S Z T L s Us w) (ho : AOrd bm bs bp bu mb cb) (hm : Mod (fun k => k = mb ∨ k = cb) w w') : AB bm bs bp bu mb B S Z T L s Us w' := by
  obtain ⟨o1, o2, o3, o4, o5⟩ := ho
  exact h.of_blocks fun k hk hlt => hm.block k hlt (by omega)
theorem Has.put {d : Dict} {i : Nat} {a b : Int} {k k' : List Nat} (h : Has (d.put i (b, k')) k a) : Has d k a ∨ k = k' := by
  obtain ⟨j, hj⟩ := h
  unfold Dict.put at hj
  split at hj
  · cases hj; exact .inr rfl
  · exact .inl ⟨j, hj⟩
/-- What it leaves. -/
def AddPost (bm bs bp bu mb cb : Nat) (B S : Nat → Int) (Z T L s : Int) (C : Nat) (d : Dict) (N : Nat) (W : World) (x : ByteArray) (e : Ending) (w' : World) : Prop := e = .returned (.tuple #[]) ∧ Mod (fun k => k = bu ∨ k = mb ∨ k = cb) W w' ∧ ∃ Us' d' cs', AB bm bs bp bu mb B S Z T L s Us' w' ∧ DS 16 s B S Us' C mb cb d' cs' (N + 300000) w' ∧ d.Le d' ∧ ∀ k a, Has d' k a → Has d k a ∨ k = bytesL x
set_option maxRecDepth 100000 in
set_option maxHeartbeats 4000000 in
theorem add_at {findP : Int → Int → List Nat → Pr (Int × Int)} (K : KeptDict findP) {bm bs bp bu mb cb : Nat} {B S Us : Nat → Int} {Z T L s : Int} {C : Nat} {d : Dict} {cs : List Int} {N : Nat} {W : World} (hP : DP 16 s B S) (ho : AOrd bm bs bp bu mb cb) (hab : AB bm bs bp bu mb B S Z T L s Us W) (h : DS 16 s B S Us C mb cb d cs N W) (hN : N ≤ 80000000) (x : ByteArray) (hx : x.size ≤ reachBytes) :
    Calls Try.prog 12 #[.string x, .pointer (some ⟨bm, 0, none⟩), .pointer (some ⟨bs, 0, none⟩), .pointer (some ⟨bp, 0, none⟩), .pointer (some ⟨bu, 0, none⟩)] W (AddPost bm bs bp bu mb cb B S Z T L s C d N W x) := by
  have HF := Lib.hid (fun h4 => find_at K hP h (by omega) x hx h4)
  have HF2 := Lib.hid (find_ro K hP h (by omega) x hx)
  have HPut := Lib.hid (fun (w : World) (h : DS 16 s B S Us C mb cb d cs (N + 2000) w) (y : Int × Int) (hy : Good 16 (bytesL x) d y) (h1 : y.1 = 0) (h2 : 0 ≤ y.2) (h3 : x.size ≤ 100) => put_at K (Z := Z) (T := T) (L := L) hP h (by omega) x h3 hy h1 h2)
  have cm : W.cell? ⟨bm, 0, none⟩ = some (.pointer (some ⟨mb, 0, none⟩)) := cell_at hab.m 0
  have csv : W.cell? ⟨bs, 0, none⟩ = some (.int .i64 s) := cell_at hab.s 0
  have HAB := Lib.hid hab
  have HO := Lib.hid ho
  have hxz : (x.size : Int) ≤ 9223372036854775807 := reach_int hx
  clear h hab ho hP hN hx K
  go_enter Try.func12, Try.ntmps12
  rcases Nat.lt_or_ge 100 x.size with hlong | hshort
  · go_wp2_with fail
    refine HF2.out.mono ?_; rintro e w1 ⟨hm1, ⟨x1, x2⟩, b, rfl, hds⟩
    have HAB1 := Lib.hid (HAB.out.mem HO.out hm1)
    have HM1 := Lib.hid hm1
    have HD := Lib.hid hds
    clear cm csv hm1 hds HF HF2
    rcases (show x1 ≠ 0 ∨ x1 = 0 by omega) with h1 | h1
    · have h1b : (x1 == 0) = false := by simpa using h1
      go_wp2_with fail
      first | refine bodyPost_ret (results_none rfl _ _ _) rfl ?_ | go_end0
      unfold AddPost
      exact ⟨rfl, HM1.out.mono fun _ _ h => .inr h, Us, d, cs, HAB1.out, HD.out.more _ (by omega), Dict.Le.refl d, fun k a h => .inl h⟩
    subst h1
    rcases Int.lt_or_le x2 0 with h2 | h2
    · have h2b : ¬ 0 ≤ x2 := by omega
      go_wp2_with fail
      first | refine bodyPost_ret (results_none rfl _ _ _) rfl ?_ | go_end0
      unfold AddPost
      exact ⟨rfl, HM1.out.mono fun _ _ h => .inr h, Us, d, cs, HAB1.out, HD.out.more _ (by omega), Dict.Le.refl d, fun k a h => .inl h⟩
    have h3b : ¬ (x.size : Int) ≤ 100 := by omega
    go_wp2_with fail
    first | refine bodyPost_ret (results_none rfl _ _ _) rfl ?_ | go_end0
    unfold AddPost
    exact ⟨rfl, HM1.out.mono fun _ _ h => .inr h, Us, d, cs, HAB1.out, HD.out.more _ (by omega), Dict.Le.refl d, fun k a h => .inl h⟩
  clear HF2
  have HF := Lib.hid (HF.out (by omega))
  go_wp2_with fail
  refine HF.out.mono ?_; rintro e w1 ⟨hm1, ⟨x1, x2⟩, rfl, hg, hds⟩
  have HAB1 := Lib.hid (HAB.out.mem HO.out hm1)
  have HM1 := Lib.hid hm1
  have HG := Lib.hid hg
  have HD := Lib.hid hds
  clear cm csv hm1 hg hds HF
  rcases (show x1 ≠ 0 ∨ x1 = 0 by omega) with h1 | h1
  · have h1b : (x1 == 0) = false := by simpa using h1
    go_wp2_with fail
    first | refine bodyPost_ret (results_none rfl _ _ _) rfl ?_ | go_end0
    unfold AddPost
    exact ⟨rfl, HM1.out.mono fun _ _ h => .inr h, Us, d, cs, HAB1.out, HD.out.more _ (by omega), Dict.Le.refl d, fun k a h => .inl h⟩
  subst h1
  rcases Int.lt_or_le x2 0 with h2 | h2
  · have h2b : ¬ 0 ≤ x2 := by omega
    go_wp2_with fail
    first | refine bodyPost_ret (results_none rfl _ _ _) rfl ?_ | go_end0
    unfold AddPost
    exact ⟨rfl, HM1.out.mono fun _ _ h => .inr h, Us, d, cs, HAB1.out, HD.out.more _ (by omega), Dict.Le.refl d, fun k a h => .inl h⟩
  have h3 : x.size ≤ 100 := by omega
  have h3b : (x.size : Int) ≤ 100 := by omega
  have cm : w1.cell? ⟨bm, 0, none⟩ = some (.pointer (some ⟨mb, 0, none⟩)) := cell_at HAB1.out.m 0
  have csv : w1.cell? ⟨bs, 0, none⟩ = some (.int .i64 s) := cell_at HAB1.out.s 0
  have HP1 := Lib.hid HAB1.out.p
  have HU1 := Lib.hid HAB1.out.u
  go_wp2_with (first
    | (refine wpList_load_row rfl 25 (.tmp 3) rfl bp rfl 25 (planC B S Z T L) (0, 0) _ HP1.out Try.underlying25 rfl (planC_info _ _ _ _ _) ?_)
    | (refine wpList_load_row rfl 23 (.tmp 4) rfl bu rfl 23 (six Us) (0, 0) _ HU1.out Try.underlying23 rfl (six_info _) ?_)
    | fail)
  refine (HPut.out w1 HD.out (0, x2) HG.out rfl h2 h3).mono ?_
  clear HP1 HU1 cm csv HD HPut
  rintro e w2 ⟨hm2, ⟨_, he, hds⟩ | ⟨Us', cs', i, rfl, hUs, hix, hdi, hds, hle⟩⟩
  · obtain ⟨V, hV⟩ : ∃ V, e = .returned (.tuple #[.int .i64 0, .agg (six V), .int .i64 3]) := ⟨_, he⟩
    clear he
    subst hV
    have HAB2 := Lib.hid (HAB1.out.mem HO.out hm2)
    have HM2 := Lib.hid (HM1.out.trans hm2)
    have HD := Lib.hid hds
    clear hm2 hds HM1 HAB1
    go_upto_region 3 with (first
      | (refine wpList_store_row rfl 23 (.tmp 10) (.tmp 40) rfl w2.heap.size (six V) rfl rfl 23 (six fun _ => 0) (heap_alloc_new w2 _) (six_info _) rfl (six_one _) ?_)
      | fail)
    rw [World.setRow_alloc_new]
    have hb := below_one (w := w2) (A := .cells (six V) 23)
    have HAB3 := Lib.hid (HAB2.out.below hb)
    have HD := Lib.hid (HD.out.below hb)
    have HM3 := Lib.hid (HM2.out.trans (Below.mod hb (fun k => k = mb ∨ k = cb) fun k hk hk' => by omega))
    generalize w2.alloc (.cells (six V) 23) = w3 at HAB3 HD HM3 ⊢
    clear hb
    go_wp2_with fail
    first | refine bodyPost_ret (results_none rfl _ _ _) rfl ?_ | go_end0
    unfold AddPost
    exact ⟨rfl, HM3.out.mono fun _ _ h => .inr h, Us, d, cs, HAB3.out, HD.out.more _ (by omega), Dict.Le.refl d, fun k a h => .inl h⟩
  · have HAB2 := Lib.hid (HAB1.out.mem HO.out hm2)
    have HM2 := Lib.hid (HM1.out.trans hm2)
    have HD := Lib.hid hds
    have HL := Lib.hid (And.intro hle (fun (k : List Nat) (a : Int) (h : Has (d.put i (B 4 + Us 4, bytesL x)) k a) => h.put))
    obtain ⟨d', hd'⟩ : ∃ d', d' = d.put i (B 4 + Us 4, bytesL x) := ⟨_, rfl⟩
    rw [← hd'] at HD HL
    clear hm2 hds HM1 HAB1 hle hd' hdi hUs hix HG
    go_upto_region 3 with (first
      | (refine wpList_store_row rfl 23 (.tmp 10) (.tmp 40) rfl w2.heap.size (six Us') rfl rfl 23 (six fun _ => 0) (heap_alloc_new w2 _) (six_info _) rfl (six_one _) ?_)
      | fail)
    rw [World.setRow_alloc_new]
    have hb := below_one (w := w2) (A := .cells (six Us') 23)
    have H10 := Lib.hid (heap_alloc_new w2 (.cells (six Us') 23))
    have HAB3 := Lib.hid (HAB2.out.below hb)
    have HD := Lib.hid (HD.out.below hb)
    have HM3 := Lib.hid (HM2.out.trans (Below.mod hb (fun k => k = mb ∨ k = cb) fun k hk hk' => by omega))
    have hlt := lt_of_heap HAB2.out.u
    generalize w2.alloc (.cells (six Us') 23) = w3 at HAB3 HD HM3 H10 ⊢
    clear hb HAB2
    have HU3 := Lib.hid HAB3.out.u
    go_wp2_with (first
      | (refine wpList_load_row rfl 23 (.tmp 10) rfl w2.heap.size rfl 23 (six Us') (0, 0) _ H10.out Try.underlying23 rfl (six_info _) ?_)
      | (refine wpList_store_row rfl 23 (.tmp 4) (.tmp 44) rfl bu (six Us') rfl rfl 23 (six Us) HU3.out (six_info _) (six_both _ _) (six_one _) ?_)
      | fail)
    first | refine bodyPost_ret (results_none rfl _ _ _) rfl ?_ | go_end0
    unfold AddPost
    obtain ⟨o1, o2, o3, o4, o5⟩ := HO.out
    have hms : Mod (fun k => k = bu) w3 (w3.setRow bu (six Us')) := (Mod.refl (fun k => k = bu) w3).setRow (.inr rfl) _
    refine ⟨rfl, (HM3.out.mono fun k _ h => (.inr h : k = bu ∨ k = mb ∨ k = cb)).then hms fun k _ e => .inl e, Us', d', cs', ?_, (HD.out.mod hms (by omega) (by omega)).more _ (by omega), HL.out.1, HL.out.2⟩
    obtain ⟨a1, a2, a3, a4⟩ := HAB3.out
    exact ⟨(setRow_other _ _ _ _ (by omega)).trans a1, (setRow_other _ _ _ _ (by omega)).trans a2, (setRow_other _ _ _ _ (by omega)).trans a3, setRow_heap _ _ _ _ _ _ a4⟩
end Go.Proofs.Yteliaammffmmiaa
