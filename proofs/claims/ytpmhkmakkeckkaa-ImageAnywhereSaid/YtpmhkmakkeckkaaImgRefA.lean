/-
  The reference of layer 14: which text stands ahead; rows, and lists, that are the same. Over the program's own text.
-/
import Derived.Test.YtpmhkmakkeckkaaLists
import Derived.Test.YtpmhkmakkeckkaaBlkLawA
import Derived.Laws.StructEq
namespace Go.Proofs.Ytpmhkmakkeckkaa
open Go.RowKit

set_option maxRecDepth 100000 in
theorem drewN_add15 (w : World) (a b : Nat) : (w.drewN a).drewN b = w.drewN (a + b) := by simp [World.drewN, Nat.add_assoc]
set_option maxRecDepth 100000 in
theorem key_drop {s : ByteArray} {i : Nat} (h : i < s.size) : (keyN s).drop i = (s[i]'h).toNat :: (keyN s).drop (i + 1) := by
  have hl : i < (keyN s).length := by unfold keyN; simpa using h
  rw [List.drop_eq_getElem_cons hl]
  congr 1
  simp [keyN]
  rfl
set_option maxRecDepth 100000 in
theorem key_len (s : ByteArray) : (keyN s).length = s.size := by simp [keyN]
set_option maxRecDepth 100000 in
theorem lessN_end : ∀ (x y : List Nat), (x = [] ∨ y = []) → lessN x y = decide (x.length < y.length)
  | [], [], _ => rfl
  | [], _ :: _, _ => by simp [lessN]
  | _ :: _, [], _ => by simp [lessN]
  | a :: x, b :: y, h => by rcases h with h | h <;> cases h
set_option maxRecDepth 100000 in
set_option maxHeartbeats 4000000 in
theorem ref_less (W : World) (a b : ByteArray) (ha : a.size ≤ reachBytes) (hb : b.size ≤ reachBytes) : Calls Try.prog 32 #[.string a, .string b] W fun e w' => e = .returned (.bool (lessN (keyN a) (keyN b))) ∧ ∃ t, w' = W.drewN t := by
  have hab : a.size ≤ 281474976710656 ∧ b.size ≤ 281474976710656 := by unfold reachBytes at ha hb; omega
  clear ha hb
  go_enter Try.func32, Try.ntmps32
  go_wp2_with fail
  go_loopw [5] (fun iv wr => ∃ n : Nat, n ≤ a.size ∧ iv = .int .i64 (n : Int) ∧ Hid (lessN ((keyN a).drop n) ((keyN b).drop n) = lessN (keyN a) (keyN b)) ∧ ∃ t, wr = W.drewN t) (fun iv _ => a.size - (intOf iv).toNat)
  case atStart => exact ⟨0, by omega, rfl, Lib.hid (by rw [List.drop_zero, List.drop_zero]), 0, rfl⟩
  case round =>
    obtain ⟨n, hn, rfl, HR, t, rfl⟩ := hrel
    by_cases h1 : n < a.size
    · have h1i : (n : Int) < (a.size : Int) := by omega
      by_cases h2 : n < b.size
      · have h2i : (n : Int) < (b.size : Int) := by omega
        have hst := HR.out
        rw [key_drop h1, key_drop h2, lessN_cons] at hst
        by_cases he : (a[n]'h1).toNat = (b[n]'h2).toNat
        · have HNx := Lib.hid (show lessN ((keyN a).drop (n + 1)) ((keyN b).drop (n + 1)) = lessN (keyN a) (keyN b) by
            rw [← hst, he]
            simp)
          have hne : (((a[n]'h1).toNat : Int) != ((b[n]'h2).toNat : Int)) = false := by rw [he]; simp
          obtain ⟨xa, hxa⟩ : ∃ x, (a[n]'h1).toNat = x := ⟨_, rfl⟩
          obtain ⟨xb, hxb⟩ : ∃ x, (b[n]'h2).toNat = x := ⟨_, rfl⟩
          rw [hxa, hxb] at hne
          clear he hst
          go_wp2_with fail
          refine wp_region_cl (fun (p : Unit) jz => [.string a, .int .i64 (n : Int), .int .u8 (xa : Int), .string b, .int .i64 (n : Int), .int .u8 (xb : Int), .bool false].getD jz undef)
            (fun p l wx => wx = (W.drewN t).drew)
            (by kernel_rfl) (by kernel_rfl) (fun q => by simp only [putTo, dstOf, Act.put, List.size_toArray, List.length_cons, List.length_nil, List.getElem?_toArray, Nat.reduceAdd, Option.bind_some, List.getElem?_cons_zero, List.getElem?_cons_succ, List.setIfInBounds_toArray, List.set_cons_zero, List.set_cons_succ, List.getD_cons_zero, List.getD_cons_succ]; exact rfl) () ?_ ?_ ?_
          · rfl
          · intro i o ho p l wx hR hl he hcl K hK
            rcases i with _ | _ | _ | _ | _ | _ | _ | i
            · obtain rfl : _ = o := Option.some.inj ho
              subst hR
              go_simp
              exact hK p _ (fun _ _ => rfl) rfl
            · obtain rfl : _ = o := Option.some.inj ho
              subst hR
              go_simp
              exact hK p _ (fun _ _ => rfl) rfl
            · obtain rfl : _ = o := Option.some.inj ho
              subst hR
              go_simp
              exact hK p _ (fun _ _ => rfl) rfl
            · obtain rfl : _ = o := Option.some.inj ho
              subst hR
              go_simp
              exact hK p _ (fun _ _ => rfl) rfl
            · obtain rfl : _ = o := Option.some.inj ho
              subst hR
              go_simp
              exact hK p _ (fun _ _ => rfl) rfl
            · obtain rfl : _ = o := Option.some.inj ho
              subst hR
              go_simp
              exact hK p _ (fun _ _ => rfl) rfl
            · obtain rfl : _ = o := Option.some.inj ho
              subst hR
              go_simp
              exact hK p _ (fun _ _ => rfl) rfl
            · simp at ho
          · intro p l wx hl hR
            subst hR
            clear hl
            have hd : (W.drewN t).drew = W.drewN (t + 1) := by simp [World.drewN, World.drew, Nat.add_assoc]
            rw [hd]
            go_wp2_with fail
            go_roundw
            case rel => exact ⟨n + 1, by omega, by go_num, HNx, _, rfl⟩
            case measure => simp [intOf]; omega
        · have HRes := Lib.hid (show lessN (keyN a) (keyN b) = decide (((a[n]'h1).toNat : Int) < ((b[n]'h2).toNat : Int)) by
            rw [← hst, beq_eq_false_iff_ne.2 he, Bool.false_and, Bool.or_false, decide_eq_decide]
            omega)
          have hne : (((a[n]'h1).toNat : Int) != ((b[n]'h2).toNat : Int)) = true := bne_iff_ne.2 (by omega)
          obtain ⟨xa, hxa⟩ : ∃ x, (a[n]'h1).toNat = x := ⟨_, rfl⟩
          obtain ⟨xb, hxb⟩ : ∃ x, (b[n]'h2).toNat = x := ⟨_, rfl⟩
          rw [hxa, hxb] at hne HRes
          obtain ⟨bb, hbb1⟩ : ∃ bb, decide ((xa : Int) < (xb : Int)) = bb := ⟨_, rfl⟩
          rw [hbb1] at HRes
          have hbb2 : decide (xa < xb) = bb := by rw [← hbb1, decide_eq_decide]; omega
          clear he hst
          go_wp2_with fail
          refine wp_region_cl (fun (p : Unit) jz => [.string a, .int .i64 (n : Int), .int .u8 (xa : Int), .string b, .int .i64 (n : Int), .int .u8 (xb : Int), .bool true].getD jz undef)
            (fun p l wx => wx = (W.drewN t).drew)
            (by kernel_rfl) (by kernel_rfl) (fun q => by simp only [putTo, dstOf, Act.put, List.size_toArray, List.length_cons, List.length_nil, List.getElem?_toArray, Nat.reduceAdd, Option.bind_some, List.getElem?_cons_zero, List.getElem?_cons_succ, List.setIfInBounds_toArray, List.set_cons_zero, List.set_cons_succ, List.getD_cons_zero, List.getD_cons_succ]; exact rfl) () ?_ ?_ ?_
          · rfl
          · intro i o ho p l wx hR hl he hcl K hK
            rcases i with _ | _ | _ | _ | _ | _ | _ | i
            · obtain rfl : _ = o := Option.some.inj ho
              subst hR
              go_simp
              exact hK p _ (fun _ _ => rfl) rfl
            · obtain rfl : _ = o := Option.some.inj ho
              subst hR
              go_simp
              exact hK p _ (fun _ _ => rfl) rfl
            · obtain rfl : _ = o := Option.some.inj ho
              subst hR
              go_simp
              exact hK p _ (fun _ _ => rfl) rfl
            · obtain rfl : _ = o := Option.some.inj ho
              subst hR
              go_simp
              exact hK p _ (fun _ _ => rfl) rfl
            · obtain rfl : _ = o := Option.some.inj ho
              subst hR
              go_simp
              exact hK p _ (fun _ _ => rfl) rfl
            · obtain rfl : _ = o := Option.some.inj ho
              subst hR
              go_simp
              exact hK p _ (fun _ _ => rfl) rfl
            · obtain rfl : _ = o := Option.some.inj ho
              subst hR
              go_simp
              exact hK p _ (fun _ _ => rfl) rfl
            · simp at ho
          · intro p l wx hl hR
            subst hR
            clear hl
            have hd : (W.drewN t).drew = W.drewN (t + 1) := by simp [World.drewN, World.drew, Nat.add_assoc]
            rw [hd]
            go_wp2_with fail
            refine wp_region_cl (fun (p : Unit) jz => [.string a, .int .i64 (n : Int), .int .u8 (xa : Int), .string b, .int .i64 (n : Int), .int .u8 (xb : Int), .bool bb, .bool bb].getD jz undef)
              (fun p l wx => wx = (W.drewN (t + 1)).drew)
              (by kernel_rfl) (by kernel_rfl) (fun q => by simp only [putTo, dstOf, Act.put, List.size_toArray, List.length_cons, List.length_nil, List.getElem?_toArray, Nat.reduceAdd, Option.bind_some, List.getElem?_cons_zero, List.getElem?_cons_succ, List.setIfInBounds_toArray, List.set_cons_zero, List.set_cons_succ, List.getD_cons_zero, List.getD_cons_succ]; exact rfl) () ?_ ?_ ?_
            · rfl
            · intro i o ho p l wx hR hl he hcl K hK
              rcases i with _ | _ | _ | _ | _ | _ | _ | _ | i
              · obtain rfl : _ = o := Option.some.inj ho
                subst hR
                go_simp
                exact hK p _ (fun _ _ => rfl) rfl
              · obtain rfl : _ = o := Option.some.inj ho
                subst hR
                go_simp
                exact hK p _ (fun _ _ => rfl) rfl
              · obtain rfl : _ = o := Option.some.inj ho
                subst hR
                go_simp
                exact hK p _ (fun _ _ => rfl) rfl
              · obtain rfl : _ = o := Option.some.inj ho
                subst hR
                go_simp
                exact hK p _ (fun _ _ => rfl) rfl
              · obtain rfl : _ = o := Option.some.inj ho
                subst hR
                go_simp
                exact hK p _ (fun _ _ => rfl) rfl
              · obtain rfl : _ = o := Option.some.inj ho
                subst hR
                go_simp
                exact hK p _ (fun _ _ => rfl) rfl
              · obtain rfl : _ = o := Option.some.inj ho
                subst hR
                go_simp
                exact hK p _ (fun _ _ => rfl) rfl
              · obtain rfl : _ = o := Option.some.inj ho
                subst hR
                go_simp
                exact hK p _ (fun _ _ => rfl) rfl
              · simp at ho
            · intro p l wx hl hR
              subst hR
              clear hl
              go_wp2_with fail
              go_ret
              exact ⟨by rw [HRes.out]; rfl, t + 2, by simp [World.drewN, World.drew, Nat.add_assoc]⟩
      · have h2i : ¬ (n : Int) < (b.size : Int) := by omega
        have HRes := Lib.hid (show lessN (keyN a) (keyN b) = decide ((a.size : Int) < (b.size : Int)) by
          rw [← HR.out, lessN_end _ _ (.inr (List.drop_eq_nil_of_le (by rw [key_len]; omega))), decide_eq_decide, List.length_drop, List.length_drop, key_len, key_len]
          omega)
        obtain ⟨bb, hbb⟩ : ∃ bb, decide ((a.size : Int) < (b.size : Int)) = bb := ⟨_, rfl⟩
        rw [hbb] at HRes
        have hbb2 : decide (a.size < b.size) = bb := by rw [← hbb, decide_eq_decide]; omega
        go_wp2_with fail
        go_ret
        refine ⟨?_, t, rfl⟩
        rw [HRes.out]
        first | rfl | (rw [← hbb]; rfl) | (rw [← hbb2]; rfl)
    · have h1i : ¬ (n : Int) < (a.size : Int) := by omega
      have HRes := Lib.hid (show lessN (keyN a) (keyN b) = decide ((a.size : Int) < (b.size : Int)) by
        rw [← HR.out, lessN_end _ _ (.inl (List.drop_eq_nil_of_le (by rw [key_len]; omega))), decide_eq_decide, List.length_drop, List.length_drop, key_len, key_len]
        omega)
      obtain ⟨bb, hbb⟩ : ∃ bb, decide ((a.size : Int) < (b.size : Int)) = bb := ⟨_, rfl⟩
      rw [hbb] at HRes
      have hbb2 : decide (a.size < b.size) = bb := by rw [← hbb, decide_eq_decide]; omega
      go_wp2_with fail
      go_ret
      refine ⟨?_, t, rfl⟩
      rw [HRes.out]
      first | rfl | (rw [← hbb]; rfl) | (rw [← hbb2]; rfl)
set_option maxRecDepth 100000 in
theorem eq_row (a b c d : Int) (w : World) : (Op.equalIn 10000 54 (.agg #[.int .u32 a, .int .u32 b, .int .u32 c, .int .u32 d]) (.agg #[.int .u32 a, .int .u32 b, .int .u32 c, .int .u32 d])).run Try.prog w = .ok true w := by
  have u3 := Try.underlying47
  have a3 := Try.isAgg47
  have z3 := Try.sizeOf47
  have hS : Try.prog.underlying 54 = some (.struct (Try.prog.fieldsOf 54)) := by kernel_rfl
  rw [show (10000 : Nat) = 9999 + 1 from rfl, run_equalIn_agg w 9999 54 _ _ hS (by kernel_rfl)]
  simp only [Program.fieldsOf, Try.underlying54]
  go_simp
set_option maxRecDepth 100000 in
theorem row_cells {w : World} {oa : Option Addr} {F : List Nat} {n i : Nat} (hF : F.length = 4 * n) (h : ReadN .u32 w oa F) (hi : i < n) : ∃ g o a b c d : Nat, oa = some ⟨g, o, none⟩ ∧ (F[4 * i]? = some a ∧ F[4 * i + 1]? = some b ∧ F[4 * i + 2]? = some c ∧ F[4 * i + 3]? = some d) ∧ w.cell? ⟨g, o + i * 4, none⟩ = some (.int .u32 (a : Int)) ∧ w.cell? ⟨g, o + i * 4 + 1, none⟩ = some (.int .u32 (b : Int)) ∧ w.cell? ⟨g, o + i * 4 + 2, none⟩ = some (.int .u32 (c : Int)) ∧ w.cell? ⟨g, o + i * 4 + 3, none⟩ = some (.int .u32 (d : Int)) := by
  have f : ∀ k, k < 4 → ∃ x, F[4 * i + k]? = some x := fun k hk => ⟨_, List.getElem?_eq_getElem (by omega)⟩
  obtain ⟨a, fa⟩ := f 0 (by omega)
  obtain ⟨b, fb⟩ := f 1 (by omega)
  obtain ⟨c, fc⟩ := f 2 (by omega)
  obtain ⟨d, fd⟩ := f 3 (by omega)
  obtain ⟨g, o, rfl, ka⟩ := h _ _ fa
  obtain ⟨_, _, hq, kb⟩ := h _ _ fb
  injection hq with hq; injection hq with h1 h2; subst h1 h2
  obtain ⟨_, _, hq, kc⟩ := h _ _ fc
  injection hq with hq; injection hq with h1 h2; subst h1 h2
  obtain ⟨_, _, hq, kd⟩ := h _ _ fd
  injection hq with hq; injection hq with h1 h2; subst h1 h2
  refine ⟨g, o, a, b, c, d, rfl, ⟨fa, fb, fc, fd⟩, ?_, ?_, ?_, ?_⟩
  · rw [show o + i * 4 = o + (4 * i + 0) by omega]; exact ka
  · rw [show o + i * 4 + 1 = o + (4 * i + 1) by omega]; exact kb
  · rw [show o + i * 4 + 2 = o + (4 * i + 2) by omega]; exact kc
  · rw [show o + i * 4 + 3 = o + (4 * i + 3) by omega]; exact kd
set_option maxRecDepth 100000 in
set_option maxHeartbeats 4000000 in
theorem same_rows (W : World) (oa ob : Option Addr) (ca cb n : Nat) (F : List Nat) (hF : F.length = 4 * n) (ha : ReadN .u32 W oa F) (hb : ReadN .u32 W ob F) (hn : n ≤ 1000000) :
    Calls Try.prog 18 #[.slice oa n ca, .slice ob n cb] W fun e w' => e = .returned (.bool true) ∧ Below W.heap.size W w' := by
  have HA := Lib.hid ha
  have HB := Lib.hid hb
  have HF := Lib.hid hF
  clear ha hb hF
  go_enter Try.func18, Try.ntmps18
  go_wp2_with fail
  go_loopw [13] (fun iv wr => ∃ m : Nat, m ≤ n ∧ iv = .int .i64 (m : Int) ∧ ∃ t, wr = W.drewN t) (fun iv _ => n - (intOf iv).toNat)
  case atStart => exact ⟨0, by omega, rfl, 0, rfl⟩
  case round =>
    obtain ⟨m, hm, rfl, t, rfl⟩ := hrel
    by_cases hlt : m < n
    · have hlt1 : (m : Int) < (n : Int) := by omega
      obtain ⟨g, oo, xa, xb, xc, xd, hoa, ⟨f0, f1, f2, f3⟩, c0, c1, c2, c3⟩ := row_cells HF.out HA.out hlt
      obtain ⟨g2, o2, ya, yb, yc, yd, hob, ⟨e0, e1, e2, e3⟩, d0, d1, d2, d3⟩ := row_cells HF.out HB.out hlt
      subst hoa hob
      obtain rfl : ya = xa := by rw [f0] at e0; injection e0 with e0; exact e0.symm
      obtain rfl : yb = xb := by rw [f1] at e1; injection e1 with e1; exact e1.symm
      obtain rfl : yc = xc := by rw [f2] at e2; injection e2 with e2; exact e2.symm
      obtain rfl : yd = xd := by rw [f3] at e3; injection e3 with e3; exact e3.symm
      have HC := Lib.hid (And.intro c0 (And.intro c1 (And.intro c2 c3)))
      have HD := Lib.hid (And.intro d0 (And.intro d1 (And.intro d2 d3)))
      have HEq := Lib.hid (eq_row (ya : Int) (yb : Int) (yc : Int) (yd : Int))
      clear f0 f1 f2 f3 e0 e1 e2 e3 c0 c1 c2 c3 d0 d1 d2 d3
      go_wp2_with fail
      refine wp_region_cl (fun (p : Unit) jz => [.slice (some ⟨g, oo, none⟩) n ca, .int .i64 (m : Int), .pointer (some ⟨g, oo + m * 4, none⟩), .agg #[.int .u32 (ya : Int), .int .u32 (yb : Int), .int .u32 (yc : Int), .int .u32 (yd : Int)], .slice (some ⟨g2, o2, none⟩) n cb, .int .i64 (m : Int), .pointer (some ⟨g2, o2 + m * 4, none⟩), .agg #[.int .u32 (ya : Int), .int .u32 (yb : Int), .int .u32 (yc : Int), .int .u32 (yd : Int)], .bool false].getD jz undef)
        (fun p l wx => wx = (W.drewN t).drew)
        (by kernel_rfl) (by kernel_rfl) (fun q => by simp only [putTo, dstOf, Act.put, List.size_toArray, List.length_cons, List.length_nil, List.getElem?_toArray, Nat.reduceAdd, Option.bind_some, List.getElem?_cons_zero, List.getElem?_cons_succ, List.setIfInBounds_toArray, List.set_cons_zero, List.set_cons_succ, List.getD_cons_zero, List.getD_cons_succ]; exact rfl) () ?_ ?_ ?_
      · rfl
      · intro i o ho p l wx hR hl he hcl K hK
        rcases i with _ | _ | _ | _ | _ | _ | _ | _ | _ | i
        · obtain rfl : _ = o := Option.some.inj ho
          subst hR
          go_simp
          exact hK p _ (fun _ _ => rfl) rfl
        · obtain rfl : _ = o := Option.some.inj ho
          subst hR
          go_simp
          exact hK p _ (fun _ _ => rfl) rfl
        · obtain rfl : _ = o := Option.some.inj ho
          subst hR
          go_simp
          exact hK p _ (fun _ _ => rfl) rfl
        · obtain rfl : _ = o := Option.some.inj ho
          subst hR
          have q0 : W.cell? _ = _ := HC.out.1
          have q1 : W.cell? _ = _ := HC.out.2.1
          have q2 : W.cell? _ = _ := HC.out.2.2.1
          have q3 : W.cell? _ = _ := HC.out.2.2.2
          go_simp
          exact hK p _ (fun _ _ => rfl) rfl
        · obtain rfl : _ = o := Option.some.inj ho
          subst hR
          go_simp
          exact hK p _ (fun _ _ => rfl) rfl
        · obtain rfl : _ = o := Option.some.inj ho
          subst hR
          go_simp
          exact hK p _ (fun _ _ => rfl) rfl
        · obtain rfl : _ = o := Option.some.inj ho
          subst hR
          go_simp
          exact hK p _ (fun _ _ => rfl) rfl
        · obtain rfl : _ = o := Option.some.inj ho
          subst hR
          have q0 : W.cell? _ = _ := HD.out.1
          have q1 : W.cell? _ = _ := HD.out.2.1
          have q2 : W.cell? _ = _ := HD.out.2.2.1
          have q3 : W.cell? _ = _ := HD.out.2.2.2
          go_simp
          exact hK p _ (fun _ _ => rfl) rfl
        · obtain rfl : _ = o := Option.some.inj ho
          subst hR
          have q := HEq.out
          go_simp
          exact hK p _ (fun _ _ => rfl) rfl
        · simp at ho
      · intro p l wx hl hR
        subst hR
        clear hl
        have hd : (W.drewN t).drew = W.drewN (t + 1) := by simp [World.drewN, World.drew, Nat.add_assoc]
        rw [hd]
        go_wp2_with fail
        go_roundw
        case rel => exact ⟨m + 1, by omega, by go_num, _, rfl⟩
        case measure => simp [intOf]; omega
    · obtain rfl : m = n := by omega
      go_wp2_with fail
      go_ret
      exact ⟨rfl, below_drawn (Below.refl _ _) _⟩
set_option maxRecDepth 100000 in
set_option maxHeartbeats 4000000 in
theorem same_lists (W : World) (oa ob : Option Addr) (ca cb n : Nat) (A B : List Li) (ea : A.length = n) (eb : B.length = n) (hAB : A.map bare = B.map bare) (ha : ReadLi W oa A) (hb : ReadLi W ob B) (hn : n ≤ 1000000) (hE : ∀ l ∈ A, l.ents.length ≤ 1000000 ∧ ∀ e ∈ l.ents, e.2.length ≤ 1000000) :
    Calls Try.prog 19 #[.slice oa n ca, .slice ob n cb] W fun e w' => e = .returned (.bool true) ∧ Below W.heap.size W w' := by
  have HA := Lib.hid ha
  have HB := Lib.hid hb
  have HL := Lib.hid (And.intro ea eb)
  have HAB := Lib.hid hAB
  have HE := Lib.hid hE
  have HSame := Lib.hid same13_eq
  clear ha hb ea eb hAB hE
  go_enter Try.func19, Try.ntmps19
  go_wp2_with fail
  go_loopw [13] (fun iv wr => ∃ m : Nat, m ≤ n ∧ iv = .int .i64 (m : Int) ∧ Below W.heap.size W wr) (fun iv _ => n - (intOf iv).toNat)
  case atStart => exact ⟨0, by omega, rfl, Below.refl _ _⟩
  case round =>
    obtain ⟨m, hm, rfl, hlow⟩ := hrel
    have HLow := Lib.hid hlow
    by_cases hlt : m < n
    · have hlt1 : (m : Int) < (n : Int) := by omega
      obtain ⟨x, hx⟩ : ∃ x, A[m]? = some x := ⟨_, List.getElem?_eq_getElem (by rw [HL.out.1]; exact hlt)⟩
      obtain ⟨y, hy⟩ : ∃ y, B[m]? = some y := ⟨_, List.getElem?_eq_getElem (by rw [HL.out.2]; exact hlt)⟩
      have hxy : bare x = bare y := by
        have h := congrArg (fun L : List Li => L[m]?) HAB.out
        simp only [List.getElem?_map, hx, hy, Option.map_some, Option.some.injEq] at h
        exact h
      obtain ⟨g, oo, hoa, _, c1, p, c2, pa, pc, rfl, p1, p2, p3, p4⟩ := HA.out m x hx
      obtain ⟨g2, o2, hob, _, d1, q, d2, qa, qc, rfl, q1, q2, q3, q4⟩ := HB.out m y hy
      subst hoa hob
      obtain ⟨kx, rx, ex⟩ := x
      obtain ⟨ky, ry, ey⟩ := y
      unfold bare at hxy
      injection hxy with _ hr he
      dsimp only at hr he c1 c2 d1 d2 p4 q4 p1 q1
      subst hr he
      obtain ⟨le, hle⟩ : ∃ le, ex.length = le := ⟨_, rfl⟩
      rw [hle] at c2 d2
      have hee := HE.out _ (List.mem_of_getElem? hx)
      dsimp only at hee
      have HC := Lib.hid (And.intro c1 (And.intro c2 (And.intro d1 d2)))
      have HS := Lib.hid (fun (w : World) (h1 : ReadE w pa ex) (h2 : ReadE w qa ex) => HSame.out w pa qa pc qc le ex hle h1 h2 (by omega) hee.2)
      have HP := Lib.hid (And.intro p4 q4)
      have hrr : ((rx : Int) != rx) = false := by simp
      clear hx hy c1 c2 d1 d2 p4 q4 p1 q1 p2 q2 p3 q3 hle hee
      go_wp2_with fail
      refine wp_region_cl (fun (p : Unit) jz => [.slice (some ⟨g, oo, none⟩) n ca, .int .i64 (m : Int), .pointer (some ⟨g, oo + m * 3, none⟩), .pointer (some ⟨g, oo + m * 3 + 1, none⟩), .int .i64 rx, .slice (some ⟨g2, o2, none⟩) n cb, .int .i64 (m : Int), .pointer (some ⟨g2, o2 + m * 3, none⟩), .pointer (some ⟨g2, o2 + m * 3 + 1, none⟩), .int .i64 rx, .bool false, .bool false, .slice (some ⟨g, oo, none⟩) n ca, .int .i64 (m : Int), .pointer (some ⟨g, oo + m * 3, none⟩), .pointer (some ⟨g, oo + m * 3 + 2, none⟩), .slice pa le pc, .slice (some ⟨g2, o2, none⟩) n cb, .int .i64 (m : Int), .pointer (some ⟨g2, o2 + m * 3, none⟩), .pointer (some ⟨g2, o2 + m * 3 + 2, none⟩), .slice qa le qc, .bool true, .bool false, .bool false].getD jz undef)
        (fun p l wx => Below wr.heap.size wr wx)
        (by kernel_rfl) (by kernel_rfl) (fun q => by simp only [putTo, dstOf, Act.put, List.size_toArray, List.length_cons, List.length_nil, List.getElem?_toArray, Nat.reduceAdd, Option.bind_some, List.getElem?_cons_zero, List.getElem?_cons_succ, List.setIfInBounds_toArray, List.set_cons_zero, List.set_cons_succ, List.getD_cons_zero, List.getD_cons_succ]; exact rfl) () ?_ ?_ ?_
      · exact (Below.refl _ _).drew
      · intro i o ho p l wx hR hl he hcl K hK
        rcases i with _ | _ | _ | _ | _ | _ | _ | _ | _ | _ | _ | _ | _ | _ | _ | _ | _ | _ | _ | _ | _ | _ | _ | _ | _ | i
        · obtain rfl : _ = o := Option.some.inj ho
          have HR := Lib.hid hR
          clear hR
          go_simp
          exact hK p wx (fun _ _ => rfl) HR.out
        · obtain rfl : _ = o := Option.some.inj ho
          have HR := Lib.hid hR
          clear hR
          go_simp
          exact hK p wx (fun _ _ => rfl) HR.out
        · obtain rfl : _ = o := Option.some.inj ho
          have HR := Lib.hid hR
          clear hR
          go_simp
          exact hK p wx (fun _ _ => rfl) HR.out
        · obtain rfl : _ = o := Option.some.inj ho
          have HR := Lib.hid hR
          clear hR
          go_simp
          exact hK p wx (fun _ _ => rfl) HR.out
        · obtain rfl : _ = o := Option.some.inj ho
          have q := below_cell (below_cell HC.out.1 HLow.out) hR
          have HR := Lib.hid hR
          clear hR
          go_simp
          exact hK p wx (fun _ _ => rfl) HR.out
        · obtain rfl : _ = o := Option.some.inj ho
          have HR := Lib.hid hR
          clear hR
          go_simp
          exact hK p wx (fun _ _ => rfl) HR.out
        · obtain rfl : _ = o := Option.some.inj ho
          have HR := Lib.hid hR
          clear hR
          go_simp
          exact hK p wx (fun _ _ => rfl) HR.out
        · obtain rfl : _ = o := Option.some.inj ho
          have HR := Lib.hid hR
          clear hR
          go_simp
          exact hK p wx (fun _ _ => rfl) HR.out
        · obtain rfl : _ = o := Option.some.inj ho
          have HR := Lib.hid hR
          clear hR
          go_simp
          exact hK p wx (fun _ _ => rfl) HR.out
        · obtain rfl : _ = o := Option.some.inj ho
          have q := below_cell (below_cell HC.out.2.2.1 HLow.out) hR
          have HR := Lib.hid hR
          clear hR
          go_simp
          exact hK p wx (fun _ _ => rfl) HR.out
        · obtain rfl : _ = o := Option.some.inj ho
          have HR := Lib.hid hR
          clear hR
          go_simp
          exact hK p wx (fun _ _ => rfl) HR.out
        · obtain rfl : _ = o := Option.some.inj ho
          have HR := Lib.hid hR
          clear hR
          go_simp
          exact hK p wx (fun _ _ => rfl) HR.out
        · obtain rfl : _ = o := Option.some.inj ho
          have HR := Lib.hid hR
          clear hR
          go_simp
          exact hK p wx (fun _ _ => rfl) HR.out
        · obtain rfl : _ = o := Option.some.inj ho
          have HR := Lib.hid hR
          clear hR
          go_simp
          exact hK p wx (fun _ _ => rfl) HR.out
        · obtain rfl : _ = o := Option.some.inj ho
          have HR := Lib.hid hR
          clear hR
          go_simp
          exact hK p wx (fun _ _ => rfl) HR.out
        · obtain rfl : _ = o := Option.some.inj ho
          have HR := Lib.hid hR
          clear hR
          go_simp
          exact hK p wx (fun _ _ => rfl) HR.out
        · obtain rfl : _ = o := Option.some.inj ho
          have q := below_cell (below_cell HC.out.2.1 HLow.out) hR
          have HR := Lib.hid hR
          clear hR
          go_simp
          exact hK p wx (fun _ _ => rfl) HR.out
        · obtain rfl : _ = o := Option.some.inj ho
          have HR := Lib.hid hR
          clear hR
          go_simp
          exact hK p wx (fun _ _ => rfl) HR.out
        · obtain rfl : _ = o := Option.some.inj ho
          have HR := Lib.hid hR
          clear hR
          go_simp
          exact hK p wx (fun _ _ => rfl) HR.out
        · obtain rfl : _ = o := Option.some.inj ho
          have HR := Lib.hid hR
          clear hR
          go_simp
          exact hK p wx (fun _ _ => rfl) HR.out
        · obtain rfl : _ = o := Option.some.inj ho
          have HR := Lib.hid hR
          clear hR
          go_simp
          exact hK p wx (fun _ _ => rfl) HR.out
        · obtain rfl : _ = o := Option.some.inj ho
          have q := below_cell (below_cell HC.out.2.2.2 HLow.out) hR
          have HR := Lib.hid hR
          clear hR
          go_simp
          exact hK p wx (fun _ _ => rfl) HR.out
        · obtain rfl : _ = o := Option.some.inj ho
          have HR := Lib.hid hR
          clear hR
          go_simp
          refine (HS.out wx ((HP.out.1.below HLow.out).below HR.out) ((HP.out.2.below HLow.out).below HR.out)).mono ?_; rintro e w5 ⟨rfl, hb5⟩
          exact hK p w5 (fun _ _ => rfl) (low_more HR.out hb5)
        · obtain rfl : _ = o := Option.some.inj ho
          have HR := Lib.hid hR
          clear hR
          go_simp
          exact hK p wx (fun _ _ => rfl) HR.out
        · obtain rfl : _ = o := Option.some.inj ho
          have HR := Lib.hid hR
          clear hR
          go_simp
          exact hK p wx (fun _ _ => rfl) HR.out
        · simp at ho
      · intro p l wx hl hR
        have HR := Lib.hid (low_more HLow.out hR)
        clear hl hR
        go_wp2_with fail
        go_roundw
        case rel => exact ⟨m + 1, by omega, by go_num, HR.out⟩
        case measure => simp [intOf]; omega
    · obtain rfl : m = n := by omega
      go_wp2_with fail
      go_ret
      exact ⟨rfl, HLow.out⟩
end Go.Proofs.Ytpmhkmakkeckkaa
