/-
  A tree's text is read as the tree; what is read may be. Without the program's text.
-/
import Derived.Test.YtaaeooimalglaaaDoorQryShow
namespace Go.Proofs.YtaaeooimalglaaaDoor

def itemR (p : Int) (x : Nd) : List Nat := if brk p x.kind then 40 :: (showR x ++ [41]) else showR x
set_option maxRecDepth 100000 in
theorem showR_eq (k f : Int) (ts : List Tk) (ks : List Nd) : showR (.mk k f ts ks) = if k = 1 then leafG runesOf f ts else (if k = 4 then [33] else []) ++ showK runesOf k true ks := by
  unfold showR; rw [showG]
set_option maxRecDepth 100000 in
theorem showK_cons (k : Int) (first : Bool) (x : Nd) (l : List Nd) : showK runesOf k first (x :: l) = (if first then [] else betw k) ++ itemR k x ++ showK runesOf k false l := by
  rw [showK]; rfl
set_option maxRecDepth 100000 in
theorem skip_sp (l : List Nat) : skipB (32 :: l) = skipB l := rfl
set_option maxRecDepth 100000 in
theorem stopA_close (T : List Nat) : StopA (41 :: T) := ⟨.inr (.inr ⟨T, rfl⟩), by rw [show skipB (41 :: T) = 41 :: T from rfl]; exact ⟨by simp [headZ], show beginB 41 = false by decide +kernel⟩⟩
set_option maxRecDepth 100000 in
theorem stopO_close (T : List Nat) : StopO (41 :: T) := ⟨stopA_close T, by rw [show skipB (41 :: T) = 41 :: T from rfl]; simp [headZ]⟩
set_option maxRecDepth 100000 in
theorem stopA_or (T : List Nat) : StopA (32 :: 124 :: T) := ⟨.inr (.inl ⟨_, rfl⟩), by rw [show skipB (32 :: 124 :: T) = 124 :: T from rfl]; exact ⟨by simp [headZ], show beginB 124 = false by decide +kernel⟩⟩
set_option maxRecDepth 100000 in
theorem stopW_sp (T : List Nat) : StopW (32 :: T) := .inr (.inl ⟨_, rfl⟩)
set_option maxRecDepth 100000 in
theorem and_end (k : Nat) (ps : List Nd) {T : List Nat} (h : StopA T) : andR k ps T = .ok (joinN 2 ps) (skipB T) := by
  rw [andR_step, if_neg h.2.1, h.2.2]; rfl
set_option maxRecDepth 100000 in
theorem or_end (k : Nat) (ps : List Nd) {T : List Nat} (h : headZ (skipB T) ≠ 124) : orR k ps T = .ok (joinN 3 ps) (skipB T) := by
  rw [orR_step, if_neg h]
set_option maxRecDepth 100000 in
theorem join_many (kind : Int) (a b : Nd) (l : List Nd) : joinN kind (a :: b :: l) = .mk kind 0 [] (a :: b :: l) := rfl
set_option maxRecDepth 100000 in
theorem join_ge (kind : Int) {ps : List Nd} (h : 2 ≤ ps.length) : joinN kind ps = .mk kind 0 [] ps := by
  match ps, h with
  | a :: b :: l, _ => rfl
/-- What each tree's text is read as. -/
structure BackN (t : Nd) : Prop where
  leaf : ∀ (k : Nat) (T : List Nat), k ≤ 8 → mayT (8 - k) t = true → (t.kind = 1 ∨ t.kind = 4) → StopW T → notP k (showR t ++ T) = .ok t T
  and : ∀ (k : Nat) (T : List Nat), k ≤ 8 → mayT (8 - k) t = true → t.kind ≠ 3 → StopA T → ∃ T', andP (notP k) (showR t ++ T) = .ok t T' ∧ T' = skipB T
  or : ∀ (k : Nat) (T : List Nat), k ≤ 8 → mayT (8 - k) t = true → StopO T → orP (andP (notP k)) (showR t ++ T) = .ok t (skipB T)
set_option maxRecDepth 100000 in
theorem and_single {k : Nat} {l T : List Nat} {t : Nd} (h : notP k l = .ok t T) (hT : StopA T) : andP (notP k) l = .ok t (skipB T) := by
  rw [andP_eq, h]
  show andR k [t] T = _
  rw [and_end k _ hT]; rfl
set_option maxRecDepth 100000 in
theorem or_single {k : Nat} {l T : List Nat} {t : Nd} (h : andP (notP k) l = .ok t T) (hT : headZ (skipB T) ≠ 124) : orP (andP (notP k)) l = .ok t (skipB T) := by
  rw [orP_eq, h]
  show orR k [t] T = _
  rw [or_end k _ hT]; rfl
set_option maxRecDepth 100000 in
theorem item_not {x : Nd} (b : BackN x) (p : Int) (hp : p ≠ 3) (k : Nat) (T : List Nat) (hk : k ≤ 8) (h1 : (if brk p x.kind = true then 8 - k + 1 else 8 - k) ≤ 8) (h2 : mayT (if brk p x.kind = true then 8 - k + 1 else 8 - k) x = true) (hT : StopW T) : notP k (itemR p x ++ T) = .ok x T := by
  unfold itemR
  by_cases hb : brk p x.kind = true
  · rw [if_pos hb] at h1 h2 ⊢
    obtain ⟨j, rfl⟩ : ∃ j, k = j + 1 := ⟨k - 1, by omega⟩
    have e : 8 - (j + 1) + 1 = 8 - j := by omega
    rw [e] at h2
    have ho := b.or j (41 :: T) (by omega) h2 (stopO_close T)
    have e2 : 40 :: (showR x ++ [41]) ++ T = 40 :: (showR x ++ 41 :: T) := by simp
    rw [e2, notP, show skipB (40 :: (showR x ++ 41 :: T)) = 40 :: (showR x ++ 41 :: T) from rfl, if_neg (by simp [headZ]), if_pos (by simp [headZ]), List.drop_succ_cons, List.drop_zero, ho]
    rfl
  · rw [if_neg hb] at h1 h2 ⊢
    have hk2 := mayT_kind h2
    have hb2 : x.kind ≠ 3 ∧ x.kind ≠ 2 := by
      unfold brk at hb
      simp at hb
      exact ⟨hb.1, fun e => hp (hb.2 e)⟩
    exact b.leaf k T hk h2 (by omega) hT
set_option maxRecDepth 100000 in
theorem item_or {x : Nd} (b : BackN x) (k : Nat) (T : List Nat) (hk : k ≤ 8) (h1 : (if brk 3 x.kind = true then 8 - k + 1 else 8 - k) ≤ 8) (h2 : mayT (if brk 3 x.kind = true then 8 - k + 1 else 8 - k) x = true) (hT : StopA T) : andP (notP k) (itemR 3 x ++ T) = .ok x (skipB T) := by
  by_cases hb : brk 3 x.kind = true
  · unfold itemR
    rw [if_pos hb] at h1 h2 ⊢
    obtain ⟨j, rfl⟩ : ∃ j, k = j + 1 := ⟨k - 1, by omega⟩
    have e : 8 - (j + 1) + 1 = 8 - j := by omega
    rw [e] at h2
    have ho := b.or j (41 :: T) (by omega) h2 (stopO_close T)
    have e2 : 40 :: (showR x ++ [41]) ++ T = 40 :: (showR x ++ 41 :: T) := by simp
    refine and_single (T := T) ?_ hT
    rw [e2, notP, show skipB (40 :: (showR x ++ 41 :: T)) = 40 :: (showR x ++ 41 :: T) from rfl, if_neg (by simp [headZ]), if_pos (by simp [headZ]), List.drop_succ_cons, List.drop_zero, ho]
    rfl
  · unfold itemR
    rw [if_neg hb] at h1 h2 ⊢
    have hb2 : x.kind ≠ 3 := by
      unfold brk at hb
      simp at hb
      exact hb
    obtain ⟨T', h, rfl⟩ := b.and k T hk h2 hb2 hT
    exact h
set_option maxRecDepth 100000 in
/-- The kids of an And behind the first ones. -/
theorem and_kids (k : Nat) (hk : k ≤ 8) : ∀ (l : List Nd) (ps : List Nd) (T : List Nat), (∀ x ∈ l, BackN x) → mayK 2 (8 - k) l = true → StopA T → andR k ps (showK runesOf 2 false l ++ T) = .ok (joinN 2 (ps ++ l)) (skipB T)
  | [], ps, T, _, _, hT => by
    rw [showK, List.nil_append, List.append_nil]
    exact and_end k ps hT
  | x :: l, ps, T, hb, hm, hT => by
    obtain ⟨h1, h2⟩ := (mayK_iff _ _ _).1 hm x (by simp)
    have hm2 : mayK 2 (8 - k) l = true := (mayK_iff _ _ _).2 fun y hy => (mayK_iff _ _ _).1 hm y (by simp [hy])
    have hW : StopW (showK runesOf 2 false l ++ T) := by
      cases l with
      | nil => rw [showK]; exact hT.1
      | cons y l => rw [showK_cons]; exact stopW_sp _
    have hn := item_not (hb x (by simp)) 2 (by decide) k _ hk h1 h2 hW
    have e : showK runesOf 2 false (x :: l) ++ T = 32 :: 38 :: 32 :: (itemR 2 x ++ (showK runesOf 2 false l ++ T)) := by rw [showK_cons]; simp [betw]
    rw [e, andR_step, show skipB (32 :: 38 :: 32 :: (itemR 2 x ++ (showK runesOf 2 false l ++ T))) = 38 :: 32 :: (itemR 2 x ++ (showK runesOf 2 false l ++ T)) from rfl, if_pos (by simp [headZ]), List.drop_succ_cons, List.drop_zero, ← notP_skip, skip_sp, notP_skip, hn]
    show andR k (ps ++ [x]) _ = _
    rw [and_kids k hk l (ps ++ [x]) T (fun y hy => hb y (by simp [hy])) hm2 hT]
    simp
set_option maxRecDepth 100000 in
theorem or_kids (k : Nat) (hk : k ≤ 8) : ∀ (l : List Nd) (ps : List Nd) (T T' : List Nat), (∀ x ∈ l, BackN x) → mayK 3 (8 - k) l = true → StopO T → skipB T' = skipB (showK runesOf 3 false l ++ T) → orR k ps T' = .ok (joinN 3 (ps ++ l)) (skipB T)
  | [], ps, T, T', _, _, hT, he => by
    rw [showK, List.nil_append] at he
    rw [List.append_nil, or_end k ps (by rw [he]; exact hT.2), he]
  | x :: l, ps, T, T', hb, hm, hT, he => by
    obtain ⟨h1, h2⟩ := (mayK_iff _ _ _).1 hm x (by simp)
    have hm2 : mayK 3 (8 - k) l = true := (mayK_iff _ _ _).2 fun y hy => (mayK_iff _ _ _).1 hm y (by simp [hy])
    have hA : StopA (showK runesOf 3 false l ++ T) := by
      cases l with
      | nil => rw [showK]; exact hT.1
      | cons y l =>
        rw [showK_cons, show ((if false = true then [] else betw 3) ++ itemR 3 y ++ showK runesOf 3 false l) ++ T = 32 :: 124 :: (32 :: (itemR 3 y ++ (showK runesOf 3 false l ++ T))) by simp [betw]]
        exact stopA_or _
    have hn := item_or (hb x (by simp)) k _ hk h1 h2 hA
    have e : showK runesOf 3 false (x :: l) ++ T = 32 :: 124 :: 32 :: (itemR 3 x ++ (showK runesOf 3 false l ++ T)) := by rw [showK_cons]; simp [betw]
    rw [e] at he
    rw [orR_step, he, show skipB (32 :: 124 :: 32 :: (itemR 3 x ++ (showK runesOf 3 false l ++ T))) = 124 :: 32 :: (itemR 3 x ++ (showK runesOf 3 false l ++ T)) from rfl, if_pos (by simp [headZ]), List.drop_succ_cons, List.drop_zero, ← andP_skip, skip_sp, andP_skip, hn]
    show orR k (ps ++ [x]) _ = _
    rw [or_kids k hk l (ps ++ [x]) T _ (fun y hy => hb y (by simp [hy])) hm2 hT (skipB_skip _)]
    simp
set_option maxRecDepth 100000 in
theorem may_leaf {w : Nat} {f : Int} {ts : List Tk} {ks : List Nd} (h : mayT w (.mk 1 f ts ks) = true) : ks = [] ∧ 0 ≤ f ∧ f < 4 ∧ mayLeafB f ts = true := by
  rw [mayT, if_pos rfl] at h
  simp only [Bool.and_eq_true, decide_eq_true_eq, List.isEmpty_iff] at h
  exact ⟨h.1.1.1, h.1.1.2, h.1.2, h.2⟩
set_option maxRecDepth 100000 in
theorem may_not {w : Nat} {f : Int} {ts : List Tk} {ks : List Nd} (h : mayT w (.mk 4 f ts ks) = true) : ∃ x, ks = [x] ∧ f = 0 ∧ ts = [] ∧ mayK 4 (w + 1) ks = true := by
  rw [mayT, if_neg (by decide)] at h
  simp at h
  obtain ⟨⟨⟨h1, h2⟩, h3⟩, h4⟩ := h
  match ks, h1, h4 with
  | [x], _, h4 => exact ⟨x, rfl, h2, h3, h4⟩
set_option maxRecDepth 100000 in
theorem may_more {w : Nat} {k f : Int} {ts : List Tk} {ks : List Nd} (hk : k = 2 ∨ k = 3) (h : mayT w (.mk k f ts ks) = true) : ∃ x l, ks = x :: l ∧ l ≠ [] ∧ f = 0 ∧ ts = [] ∧ mayK k w ks = true := by
  rw [mayT, if_neg (by omega), if_neg (by omega)] at h
  simp only [Bool.and_eq_true, Bool.or_eq_true, decide_eq_true_eq, beq_iff_eq, List.isEmpty_iff] at h
  obtain ⟨⟨⟨h1, h2⟩, h3⟩, h4⟩ := h
  have h5 : 2 ≤ ks.length := by omega
  match ks, h5, h4 with
  | x :: y :: l, _, h4 => exact ⟨x, y :: l, rfl, by simp, h2, h3, h4⟩
set_option maxRecDepth 100000 in
theorem back_all : ∀ t, BackN t := by
  refine Nd.induct fun k f ts ks ih => ?_
  have hleaf : ∀ (j : Nat) (T : List Nat), j ≤ 8 → mayT (8 - j) (.mk k f ts ks) = true → (k = 1 ∨ k = 4) → StopW T → notP j (showR (.mk k f ts ks) ++ T) = .ok (.mk k f ts ks) T := by
    intro j T hj hm hk hT
    rcases hk with rfl | rfl
    · obtain ⟨rfl, hf0, hf, hl⟩ := may_leaf hm
      have hb := back_leaf j f hf0 hf ts hl hT
      rw [showR_eq, if_pos rfl]
      have hh : ∀ l, headZ (skipB (leafG runesOf f ts ++ l)) = 48 + (f.toNat : Int) := fun l => by
        unfold leafG
        rw [List.cons_append, skip_field (by omega) (by omega)]
        simp [headZ]
      cases j with
      | zero => rw [notP, hh, if_neg (by omega), leafP_skip, hb]
      | succ j => rw [notP, hh, if_neg (by omega), if_neg (by omega), leafP_skip, hb]
    · obtain ⟨x, rfl, rfl, rfl, h4⟩ := may_not hm
      obtain ⟨h1, h2⟩ := (mayK_iff _ _ _).1 h4 x (by simp)
      obtain ⟨i, rfl⟩ : ∃ i, j = i + 1 := ⟨j - 1, by split at h1 <;> omega⟩
      have e : 8 - (i + 1) + 1 = 8 - i := by omega
      rw [e] at h1 h2
      have hn := item_not (ih x (by simp)) 4 (by decide) i T (by omega) h1 h2 hT
      rw [showR_eq, if_neg (by decide), if_pos rfl, showK_cons]
      rw [show [33] ++ ((if true = true then [] else betw 4) ++ itemR 4 x ++ showK runesOf 4 false []) ++ T = 33 :: (itemR 4 x ++ T) by rw [showK]; simp, notP, show skipB (33 :: (itemR 4 x ++ T)) = 33 :: (itemR 4 x ++ T) from rfl, if_pos (by simp [headZ]), List.drop_succ_cons, List.drop_zero, hn]
      rfl
  have hand : ∀ (j : Nat) (T : List Nat), j ≤ 8 → mayT (8 - j) (.mk k f ts ks) = true → k ≠ 3 → StopA T → andP (notP j) (showR (.mk k f ts ks) ++ T) = .ok (.mk k f ts ks) (skipB T) := by
    intro j T hj hm hk hT
    have hkk : k = 1 ∨ k = 2 ∨ k = 3 ∨ k = 4 := mayT_kind hm
    by_cases h14 : k = 1 ∨ k = 4
    · exact and_single (hleaf j T hj hm h14 hT.1) hT
    · obtain rfl : k = 2 := by omega
      obtain ⟨x, l, rfl, hl, rfl, rfl, hm2⟩ := may_more (.inl rfl) hm
      obtain ⟨h1, h2⟩ := (mayK_iff _ _ _).1 hm2 x (by simp)
      have hm3 : mayK 2 (8 - j) l = true := (mayK_iff _ _ _).2 fun y hy => (mayK_iff _ _ _).1 hm2 y (by simp [hy])
      have hW : StopW (showK runesOf 2 false l ++ T) := by
        cases l with
        | nil => exact absurd rfl hl
        | cons y l => rw [showK_cons]; exact stopW_sp _
      have hn := item_not (ih x (by simp)) 2 (by decide) j _ hj h1 h2 hW
      rw [showR_eq, if_neg (by decide), if_neg (by decide), showK_cons]
      rw [show [] ++ ((if true = true then [] else betw 2) ++ itemR 2 x ++ showK runesOf 2 false l) ++ T = itemR 2 x ++ (showK runesOf 2 false l ++ T) by simp, andP_eq, hn]
      show andR j [x] _ = _
      rw [and_kids j hj l [x] T (fun y hy => ih y (by simp [hy])) hm3 hT, List.singleton_append, join_ge 2 (by cases l with | nil => exact absurd rfl hl | cons y l => simp)]
  refine ⟨hleaf, fun j T hj hm hk hT => ⟨_, hand j T hj hm hk hT, rfl⟩, fun j T hj hm hT => ?_⟩
  have hkk : k = 1 ∨ k = 2 ∨ k = 3 ∨ k = 4 := mayT_kind hm
  by_cases h3 : k = 3
  · subst h3
    obtain ⟨x, l, rfl, hl, rfl, rfl, hm2⟩ := may_more (.inr rfl) hm
    obtain ⟨h1, h2⟩ := (mayK_iff _ _ _).1 hm2 x (by simp)
    have hm3 : mayK 3 (8 - j) l = true := (mayK_iff _ _ _).2 fun y hy => (mayK_iff _ _ _).1 hm2 y (by simp [hy])
    have hA : StopA (showK runesOf 3 false l ++ T) := by
      cases l with
      | nil => exact absurd rfl hl
      | cons y l =>
        rw [showK_cons, show ((if false = true then [] else betw 3) ++ itemR 3 y ++ showK runesOf 3 false l) ++ T = 32 :: 124 :: (32 :: (itemR 3 y ++ (showK runesOf 3 false l ++ T))) by simp [betw]]
        exact stopA_or _
    have hn := item_or (ih x (by simp)) j _ hj h1 h2 hA
    rw [showR_eq, if_neg (by decide), if_neg (by decide), showK_cons]
    rw [show [] ++ ((if true = true then [] else betw 3) ++ itemR 3 x ++ showK runesOf 3 false l) ++ T = itemR 3 x ++ (showK runesOf 3 false l ++ T) by simp, orP_eq, hn]
    show orR j [x] _ = _
    rw [or_kids j hj l [x] T _ (fun y hy => ih y (by simp [hy])) hm3 hT (skipB_skip _), List.singleton_append, join_ge 3 (by cases l with | nil => exact absurd rfl hl | cons y l => simp)]
  · have := or_single (hand j T hj hm h3 hT.1) (by rw [skipB_skip]; exact hT.2)
    rw [this, skipB_skip]

/-! ### The whole query's text -/
def digitsL (n : Int) : List Nat := if n < 10 then [48 + n.toNat] else [48 + n.toNat / 10, 48 + n.toNat % 10]
def orderL (o : Int) : List Nat := if o = 1 then [110, 101, 119] else [114, 97, 110, 107]
def wholeR (g : ByteArray → List Nat) (t : Nd) (lim ord : Int) : List Nat := showG g t ++ 32 :: 35 :: (digitsL lim ++ 32 :: 64 :: orderL ord)
def mayQ (t : Nd) (lim ord : Int) : Bool := decide (0 ≤ lim) && decide (lim ≤ 64) && (ord == 0 || ord == 1) && mayT 0 t
set_option maxRecDepth 100000 in
theorem digits_let : ∀ n : Nat, n ≤ 64 → digitsL (n : Int) ≠ [] ∧ (∀ c ∈ digitsL (n : Int), letB c = true) ∧ limZ (digitsL (n : Int)) = (n : Int) := by decide +kernel
set_option maxRecDepth 100000 in
theorem order_let (o : Int) (h : o = 0 ∨ o = 1) : orderL o ≠ [] ∧ (∀ c ∈ orderL o, letB c = true) := by
  rcases h with rfl | rfl <;> decide +kernel
set_option maxRecDepth 100000 in
theorem back_query (t : Nd) (lim ord : Int) (h : mayQ t lim ord = true) : ∃ o, parseR (wholeR runesOf t lim ord) = .ok (t, o) [] ∧ o.lim = lim ∧ o.ord = ord := by
  unfold mayQ at h
  simp only [Bool.and_eq_true, Bool.or_eq_true, decide_eq_true_eq, beq_iff_eq] at h
  obtain ⟨⟨⟨h1, h2⟩, h3⟩, h4⟩ := h
  obtain ⟨n, rfl⟩ : ∃ n : Nat, lim = n := ⟨lim.toNat, by omega⟩
  obtain ⟨d1, d2, d3⟩ := digits_let n (by omega)
  obtain ⟨o1, o2⟩ := order_let ord h3
  have hO : StopO (32 :: 35 :: (digitsL n ++ 32 :: 64 :: orderL ord)) := by
    refine ⟨⟨stopW_sp _, ?_⟩, ?_⟩
    · rw [skip_sp, show ∀ l, skipB (35 :: l) = 35 :: l from fun _ => rfl]; exact ⟨by simp [headZ], show beginB 35 = false by decide +kernel⟩
    · rw [skip_sp, show ∀ l, skipB (35 :: l) = 35 :: l from fun _ => rfl]; simp [headZ]
  have hb := (back_all t).or 8 _ (Nat.le_refl _) h4 hO
  have hl : limitP (digitsL n ++ 32 :: 64 :: orderL ord) = .ok (n : Int) (32 :: 64 :: orderL ord) := by
    unfold limitP
    rw [word_at 8 d1 d2 (stopW_let (stopW_sp _))]
    show (if limZ (digitsL n) = -1 then _ else _) = _
    rw [d3, if_neg (by omega)]
  have hr : orderP (orderL ord) = .ok ord [] := by
    have hw := word_at 8 (T := []) o1 o2 (by simp)
    rw [List.append_nil] at hw
    unfold orderP
    rw [hw]
    show (if orderL ord = [110, 101, 119] then _ else if orderL ord = [114, 97, 110, 107] then _ else _) = _
    rcases h3 with rfl | rfl <;> rfl
  refine ⟨⟨n, true, ord, true⟩, ?_, rfl, rfl⟩
  unfold wholeR
  rw [parseR_eq, show showG runesOf t = showR t from rfl, hb]
  show (optR ⟨10, false, 0, false⟩ (skipB (32 :: 35 :: (digitsL n ++ 32 :: 64 :: orderL ord)))).map _ = _
  rw [skip_sp, show ∀ l, skipB (35 :: l) = 35 :: l from fun _ => rfl, optR_step, show ∀ l, skipB (35 :: l) = 35 :: l from fun _ => rfl, if_pos ⟨by simp [headZ], rfl⟩, List.drop_succ_cons, List.drop_zero, hl]
  show (optR ⟨n, true, 0, false⟩ (32 :: 64 :: orderL ord)).map _ = _
  rw [optR_step, skip_sp, show ∀ l, skipB (64 :: l) = 64 :: l from fun _ => rfl, if_neg (by simp), if_pos ⟨by simp [headZ], rfl⟩, List.drop_succ_cons, List.drop_zero, hr]
  show (optR ⟨n, true, ord, true⟩ []).map _ = _
  rw [optR_step]
  rfl

/-! ### Bytes and runes -/
set_option maxRecDepth 100000 in
theorem textL_append (a b : List Nat) : textL (a ++ b) = textL a ++ textL b := by unfold textL; rw [List.flatMap_append]
set_option maxRecDepth 100000 in
theorem textL_low : ∀ {l : List Nat}, (∀ c ∈ l, c < 128) → textL l = l
  | [], _ => rfl
  | c :: l, h => by
    have e : encR c = [c] := by unfold encR; rw [if_pos (h c (by simp))]
    show encR c ++ textL l = _
    rw [e, textL_low fun x hx => h x (by simp [hx])]
    rfl
set_option maxRecDepth 100000 in
theorem inter_text (ts : List Tk) : ∀ n : Nat, (∀ t ∈ ts, termOk t.2.1 = true) → textL (interL (padG runesOf n ts)) = interL (padG bytesL n ts) := by
  have hi : ∀ l : List (List Nat), textL (interL l) = interL (l.map textL) := by
    intro l
    induction l with
    | nil => rfl
    | cons a l ih =>
      cases l with
      | nil => rfl
      | cons b l =>
        rw [interL, textL_append, List.map_cons, List.map_cons, interL]
        rw [List.map_cons] at ih
        rw [← ih]
        rfl
  intro n h
  rw [hi]
  congr 1
  induction ts generalizing n with
  | nil => rfl
  | cons t ts ih =>
    rw [padG, padG, List.map_append, List.map_replicate, List.map_cons, ih _ fun x hx => h x (by simp [hx]), ← (letters_of (h t (by simp))).2.2]
    rfl
set_option maxRecDepth 100000 in
theorem leaf_text (f : Int) (hf : f < 4) (ts : List Tk) (h : ∀ t ∈ ts, termOk t.2.1 = true) : textL (leafG runesOf f ts) = leafG bytesL f ts := by
  have e : ∀ l, textL ((48 + f.toNat) :: 58 :: l) = (48 + f.toNat) :: 58 :: textL l := fun l => by
    have := textL_append [48 + f.toNat, 58] l
    rw [textL_low (l := [48 + f.toNat, 58]) (by simp; omega)] at this
    exact this
  have g : ∀ l, textL (34 :: l ++ [34]) = 34 :: textL l ++ [34] := fun l => by
    rw [textL_append, textL_low (l := [34]) (by simp)]
    rfl
  unfold leafG
  rw [e]
  match ts, h with
  | [], h => rfl
  | [t], h => simp only; rw [(letters_of (h t (by simp))).2.2]
  | a :: b :: ts, h => simp only; rw [g, inter_text _ 0 h]
set_option maxRecDepth 100000 in
theorem show_text : ∀ (t : Nd) (w : Nat), mayT w t = true → textL (showR t) = showB t := by
  refine Nd.induct fun k f ts ks ih w hm => ?_
  have hkids : ∀ (l : List Nd) (b : Bool), (∀ x ∈ l, textL (showR x) = showB x) → textL (showK runesOf k b l) = showK bytesL k b l := by
    intro l
    induction l with
    | nil => intro b _; rw [showK, showK]; rfl
    | cons x l ih2 =>
      intro b hx
      have h1 := hx x (by simp)
      rw [showK, showK, textL_append, textL_append, ih2 false fun y hy => hx y (by simp [hy])]
      have hb : textL (if b = true then [] else betw k) = if b = true then [] else betw k := by
        apply textL_low
        intro c hc
        split at hc
        · simp at hc
        · unfold betw at hc
          split at hc
          · simp at hc; omega
          · split at hc
            · simp at hc; omega
            · simp at hc
      rw [hb]
      congr 2
      split
      · show textL (40 :: (showR x ++ [41])) = _
        rw [show textL (40 :: (showR x ++ [41])) = 40 :: textL (showR x ++ [41]) from rfl, textL_append, h1]
        rfl
      · exact h1
  unfold showB
  rw [showR_eq, showG]
  by_cases h1 : k = 1
  · subst h1
    obtain ⟨rfl, hf0, hf, hl⟩ := may_leaf hm
    unfold mayLeafB at hl
    rw [Bool.and_eq_true] at hl
    rw [if_pos rfl, if_pos rfl, leaf_text f hf ts fun t ht => (mayTs_all f ts _ hl.2 t ht).2.2.2]
  · rw [if_neg h1, if_neg h1, textL_append]
    rw [mayT, if_neg h1, Bool.and_eq_true, mayK_iff] at hm
    rw [hkids ks true fun x hx => ih x hx _ (hm.2 x hx).2]
    congr 1
    split <;> rfl
set_option maxRecDepth 100000 in
theorem low_ok {l : List Nat} (h : ∀ c ∈ l, c < 128) : ∀ c ∈ l, okR c := fun c hc => ok_low (h c hc)
set_option maxRecDepth 100000 in
theorem inter_ok : ∀ l : List (List Nat), (∀ q ∈ l, ∀ c ∈ q, okR c) → ∀ c ∈ interL l, okR c
  | [], _, c, hc => by simp [interL] at hc
  | [a], h, c, hc => h a (by simp) c hc
  | a :: b :: l, h, c, hc => by
    rw [interL] at hc
    rcases List.mem_append.1 hc with hc | hc
    · exact h a (by simp) c hc
    · rcases List.mem_cons.1 hc with rfl | hc
      · exact ok_blank
      · exact inter_ok (b :: l) (fun q hq => h q (by simp at hq ⊢; exact .inr hq)) c hc
set_option maxRecDepth 100000 in
theorem pad_ok (ts : List Tk) : ∀ n : Nat, ∀ q ∈ padG runesOf n ts, ∀ c ∈ q, okR c := by
  induction ts with
  | nil => intro n q hq; simp [padG] at hq
  | cons t ts ih =>
    intro n q hq c hc
    rw [padG] at hq
    rcases List.mem_append.1 hq with hq | hq
    · have := List.eq_of_mem_replicate hq
      subst this
      simp at hc; subst hc; decide
    · rcases List.mem_cons.1 hq with rfl | hq
      · exact runesOf_ok _ c hc
      · exact ih _ q hq c hc
set_option maxRecDepth 100000 in
theorem leaf_oks (f : Int) (hf : f < 4) (ts : List Tk) : ∀ c ∈ leafG runesOf f ts, okR c := by
  intro c hc
  unfold leafG at hc
  rcases List.mem_cons.1 hc with rfl | hc
  · exact ok_low (by omega)
  · rcases List.mem_cons.1 hc with rfl | hc
    · decide
    · have ph : ∀ ts, c ∈ 34 :: interL (padG runesOf 0 ts) ++ [34] → okR c := fun ts hc => by
        simp at hc
        rcases hc with rfl | hc | rfl
        · decide
        · exact inter_ok _ (pad_ok ts 0) c hc
        · decide
      match ts, hc with
      | [], hc => exact ph [] hc
      | [t], hc => exact runesOf_ok _ c hc
      | a :: b :: ts, hc => exact ph (a :: b :: ts) hc
set_option maxRecDepth 100000 in
theorem show_ok : ∀ (t : Nd) (w : Nat), mayT w t = true → ∀ c ∈ showR t, okR c := by
  refine Nd.induct fun k f ts ks ih w hm => ?_
  have hkids : ∀ (l : List Nd) (b : Bool), (∀ x ∈ l, ∀ c ∈ showR x, okR c) → ∀ c ∈ showK runesOf k b l, okR c := by
    intro l
    induction l with
    | nil => intro b _ c hc; rw [showK] at hc; simp at hc
    | cons x l ih2 =>
      intro b hx c hc
      rw [showK_cons] at hc
      rcases List.mem_append.1 hc with hc | hc
      · rcases List.mem_append.1 hc with hc | hc
        · refine ok_low ?_
          split at hc
          · simp at hc
          · unfold betw at hc
            split at hc
            · simp at hc; omega
            · split at hc
              · simp at hc; omega
              · simp at hc
        · unfold itemR at hc
          split at hc
          · simp at hc
            rcases hc with rfl | hc | rfl
            · decide
            · exact hx x (by simp) c hc
            · decide
          · exact hx x (by simp) c hc
      · exact ih2 false (fun y hy => hx y (by simp [hy])) c hc
  intro c hc
  rw [showR_eq] at hc
  by_cases h1 : k = 1
  · subst h1
    obtain ⟨rfl, hf0, hf, hl⟩ := may_leaf hm
    rw [if_pos rfl] at hc
    exact leaf_oks f hf ts c hc
  · rw [if_neg h1] at hc
    rw [mayT, if_neg h1, Bool.and_eq_true, mayK_iff] at hm
    rcases List.mem_append.1 hc with hc | hc
    · split at hc
      · simp at hc; subst hc; decide
      · simp at hc
    · exact hkids ks true (fun x hx => ih x hx _ (hm.2 x hx).2) c hc
set_option maxRecDepth 100000 in
theorem tail_low (lim ord : Int) (h1 : 0 ≤ lim) (h2 : lim ≤ 64) : ∀ c ∈ 32 :: 35 :: (digitsL lim ++ 32 :: 64 :: orderL ord), c < 128 := by
  intro c hc
  simp at hc
  unfold digitsL orderL at hc
  rcases hc with rfl | rfl | hc | rfl | rfl | hc
  · omega
  · omega
  · split at hc
    · simp at hc; omega
    · simp at hc; omega
  · omega
  · omega
  · split at hc
    · simp at hc; omega
    · simp at hc; omega
set_option maxRecDepth 100000 in
theorem whole_text (t : Nd) (lim ord : Int) (h : mayQ t lim ord = true) : textL (wholeR runesOf t lim ord) = wholeR bytesL t lim ord ∧ ∀ r ∈ wholeR runesOf t lim ord, okR r := by
  unfold mayQ at h
  simp only [Bool.and_eq_true, decide_eq_true_eq] at h
  obtain ⟨⟨⟨h1, h2⟩, h3⟩, h4⟩ := h
  have hl := tail_low lim ord h1 h2
  unfold wholeR
  constructor
  · rw [textL_append, textL_low hl]
    rw [show textL (showG runesOf t) = showG bytesL t from show_text t 0 h4]
  · intro r hr
    rcases List.mem_append.1 hr with hr | hr
    · exact show_ok t 0 h4 r hr
    · exact ok_low (hl r hr)
set_option maxRecDepth 100000 in
theorem enc_byte {r : Nat} (h : okR r) : ∀ b ∈ encR r, b < 256 := by
  intro b hb
  unfold okR at h
  unfold encR at hb
  split at hb
  · simp at hb; omega
  · split at hb
    · simp at hb; omega
    · split at hb
      · simp at hb; omega
      · simp at hb; omega
set_option maxRecDepth 100000 in
theorem textL_byte {l : List Nat} (h : ∀ r ∈ l, okR r) : ∀ b ∈ textL l, b < 256 := by
  intro b hb
  unfold textL at hb
  obtain ⟨r, hr, hb⟩ := List.mem_flatMap.1 hb
  exact enc_byte (h r hr) b hb
set_option maxRecDepth 100000 in
/-- The text that is shown of a query that may be has just its runes, and is read as the query. -/
theorem shown_back (t : Nd) (lim ord : Int) (h : mayQ t lim ord = true) : ∃ o, parseR (runesOf (byteText (wholeR bytesL t lim ord))) = .ok (t, o) [] ∧ o.lim = lim ∧ o.ord = ord := by
  obtain ⟨h1, h2⟩ := whole_text t lim ord h
  have h3 := textL_byte h2
  have : runesOf (byteText (wholeR bytesL t lim ord)) = wholeR runesOf t lim ord := by
    unfold runesOf
    rw [← h1, bytesL_byteText _ h3]
    have := runes_text (wholeR runesOf t lim ord) h2 []
    rw [List.append_nil, runesL_nil, List.append_nil] at this
    exact this
  rw [this]
  exact back_query t lim ord h
end Go.Proofs.YtaaeooimalglaaaDoor
