/-
  Texts that come in, within the reach of the statement's form. Over the program's own text.
-/
import Derived.Test.YteliaammffmmiaaStrs
import Derived.Test.YteliaammffmmiaaNums
import Derived.SizedLaws
namespace Go.Proofs.Yteliaammffmmiaa
open Go.ChangeShapes Go.WideShapes Go.ChangeAt Go.ChangeMaps Go.RowKit Go.Deep

theorem sz_at {H : Type} {P : Program} {ts : List TypeId} {ds : List (DataW H)} (j : Nat) (h : (DataW.weightsEach P ts ds).all (· ≤ reachBytes) = true) {t : TypeId} {d : DataW H} (ht : ts[j]? = some t) (hd : ds[j]? = some d) : ∀ n ∈ d.weights P t, n ≤ reachBytes := by
  intro n hn
  have := List.all_eq_true.1 h n (DataW.weights_mem_each ht hd n hn)
  simpa using this
theorem mem_weightsAll {H : Type} {P : Program} {e : TypeId} : ∀ {l : List (DataW H)} {i : Nat} {d : DataW H}, l[i]? = some d → ∀ n ∈ d.weights P e, n ∈ DataW.weightsAll P e l
  | d0 :: l, 0, d, hd, n, hn => by
    simp only [List.getElem?_cons_zero, Option.some.injEq] at hd
    subst hd
    simp only [DataW.weightsAll, List.mem_append]
    exact Or.inl hn
  | d0 :: l, i + 1, d, hd, n, hn => by
    simp only [List.getElem?_cons_succ] at hd
    simp only [DataW.weightsAll, List.mem_append]
    exact Or.inr (mem_weightsAll hd n hn)
  | [], _, _, hd, _, _ => by simp at hd
theorem open_str_r {H : Type} {enc : TypeId × Value → H} {W : World} {v : Value} {d : DataW H} {p : List MemPlace} {base : Nat} (hs : ∀ n ∈ d.weights Try.prog 9, n ≤ reachBytes)
    (hv : Value.okWide Try.prog W .any base 9 v) (h : DataW.Trod enc Try.prog W 0 (fun _ => true) true 9 v d p) : ∃ s : ByteArray, v = .string s ∧ s.size ≤ reachBytes := by
  obtain ⟨s, rfl, rfl, rfl, _⟩ := open_string Try.underlying9 hv h
  exact ⟨s, rfl, hs _ (by simp [DataW.weights])⟩
theorem open_texts_r {H : Type} {enc : TypeId × Value → H} {W : World} {v : Value} {d : DataW H} {p : List MemPlace} {base : Nat} (hs : ∀ n ∈ d.weights Try.prog 22, n ≤ reachBytes)
    (hv : Value.okWide Try.prog W .any base 22 v) (h : DataW.Trod enc Try.prog W 0 (fun _ => true) true 22 v d p) :
    ∃ ao F cap, v = .slice ao F.length cap ∧ ReadS W ao F ∧ F.length ≤ maxLen ∧ ∀ x ∈ F, x.size ≤ reachBytes := by
  obtain ⟨a, len, cap, rfl⟩ := okWide_slice Try.underlying22 hv
  obtain ⟨fuel, hf⟩ := h
  rcases DataW.trod_slice Try.underlying22 hf with ⟨hcs, _⟩ | ⟨a', len', cap', elems, rest, m, rfl, hcs, hx, hb, hl, hm, hlen, hel, _, _⟩
  · simp only [Value.cells, List.cons.injEq, and_true, Value.slice.injEq] at hcs
    obtain ⟨rfl, rfl, rfl⟩ := hcs
    exact ⟨none, [], 0, rfl, fun j r hj => by simp at hj, by simp, by simp⟩
  · simp only [Value.cells, List.cons.injEq, and_true, Value.slice.injEq] at hcs
    obtain ⟨rfl, rfl, rfl⟩ := hcs
    have hc1 : Try.prog.cellsOf 9 = 1 := by kernel_rfl
    have hd : d = .slice (elems.map (·.1)) (rest.map (·.1)) := congrArg Prod.fst hx
    have hu : Try.prog.underlying 22 = some (.slice 9) := Try.underlying22
    have each : ∀ i, i < len → ∃ s : ByteArray, W.cell? (a'.add i) = some (.string s) ∧ s.size ≤ reachBytes := by
      intro i hi
      have h5 := hel i hi
      rw [List.getElem?_eq_getElem (by omega), hc1, Nat.mul_one] at h5
      obtain ⟨cs2, hc2, h6⟩ := Option.bind_eq_some_iff.1 h5
      obtain ⟨_, hn, hcells⟩ := World.cells?_some hc2
      obtain ⟨s, rfl, he, _⟩ := DataW.trod_string Try.underlying9 h6
      have := hcells 0 (by omega)
      rw [Addr.add_add, Nat.add_zero] at this
      refine ⟨s, by simpa using this, hs s.size ?_⟩
      rw [hd]
      unfold DataW.weights
      rw [hu]
      refine List.mem_cons_of_mem _ (List.mem_append_left _ (mem_weightsAll (i := i) (d := .lit (.string s.data.toList)) ?_ _ ?_))
      · rw [List.getElem?_map, List.getElem?_eq_getElem (by omega), he]
        rfl
      · simp [DataW.weights]
    let F := (List.range len).pmap (fun i hi => Classical.choose (each i hi)) (fun i hi => List.mem_range.1 hi)
    have hFl : F.length = len := by simp [F]
    have hget : ∀ j x, F[j]? = some x → W.cell? (a'.add j) = some (.string x) ∧ x.size ≤ reachBytes := by
      intro j x hj
      obtain ⟨hj1, hj2⟩ := List.getElem?_eq_some_iff.1 hj
      simp only [F, List.getElem_pmap, List.getElem_range] at hj2
      subst hj2
      exact Classical.choose_spec (each j (by omega))
    refine ⟨some a', F, cap, by rw [hFl], fun j x hj => ?_, by omega, fun x hx => ?_⟩
    · have hc := (hget j x hj).1
      obtain ⟨g, o, he⟩ : ∃ g o, a' = ⟨g, o, none⟩ := by
        obtain ⟨s0, h0, _⟩ := each 0 (by have := (List.getElem?_eq_some_iff.1 hj).1; omega)
        rw [show a'.add 0 = a' by simp [Addr.add]] at h0
        exact cell_plain h0
      subst he
      refine ⟨g, o, rfl, ?_⟩
      rwa [Addr.add_lit] at hc
    · obtain ⟨j, hj⟩ := List.getElem?_of_mem hx
      exact (hget j x hj).2
theorem open_u8s {H : Type} {enc : TypeId × Value → H} {W : World} {v : Value} {d : DataW H} {p : List MemPlace} {base : Nat} (hv : Value.okWide Try.prog W .any base 41 v) (h : DataW.Trod enc Try.prog W 0 (fun _ => true) true 41 v d p) :
    ∃ ao L cap, v = .slice ao L.length cap ∧ ReadN .u8 W ao L ∧ L.length ≤ maxLen ∧ ∀ x ∈ L, x < 256 := by
  obtain ⟨ao, L, cap, h1, h2, h3, h4, _, h6⟩ := open_nums (k := .u8) rfl Try.underlying41 Try.underlying5 (by kernel_rfl) hv h
  exact ⟨ao, L, cap, h1, h2, by omega, h6⟩
theorem open_u32s {H : Type} {enc : TypeId × Value → H} {W : World} {v : Value} {d : DataW H} {p : List MemPlace} {base : Nat} (hv : Value.okWide Try.prog W .any base 50 v) (h : DataW.Trod enc Try.prog W 0 (fun _ => true) true 50 v d p) :
    ∃ ao L cap, v = .slice ao L.length cap ∧ ReadN .u32 W ao L ∧ L.length ≤ maxLen ∧ ∀ x ∈ L, x < 4294967296 := by
  obtain ⟨ao, L, cap, h1, h2, h3, h4, _, h6⟩ := open_nums (k := .u32) rfl Try.underlying50 Try.underlying52 (by kernel_rfl) hv h
  exact ⟨ao, L, cap, h1, h2, by omega, h6⟩
end Go.Proofs.Yteliaammffmmiaa
