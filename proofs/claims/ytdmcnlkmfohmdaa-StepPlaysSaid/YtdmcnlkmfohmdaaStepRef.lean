/-
  The reference's programs: what its quiet and its on do. Over the program's own text.
-/
import Derived.Test.YtdmcnlkmfohmdaaStepD
import Derived.Test.YtdmcnlkmfohmdaaStepPureD
import Derived.Test.YtdmcnlkmfohmdaaRets
namespace Go.Proofs.Ytdmcnlkmfohmdaa
open Go.RowKit

/-- A reference's program on its way. -/
structure PS where
  ao : Option Addr
  len : Nat
  cap : Nat
  at_ : Nat
  last : Int
  over : Bool
  err : Int
  made : Nat
instance : Inhabited PS := ⟨⟨none, 0, 0, 0, 0, false, 0, 0⟩⟩
def progC (p : PS) : Array Value := #[.slice p.ao p.len p.cap, .int .i64 p.at_, .int .u32 p.last, .bool p.over, .int .i64 p.err, .int .i64 p.made]
theorem progC_info (p : PS) : (Try.prog.info? 38).map (·.size) = some (progC p).size := by
  have h : (Try.prog.info? 38).map (·.size) = some 6 := by kernel_rfl
  rw [h]; simp [progC]
theorem progC_one (p : PS) : (progC p).all (·.oneCell') = true := by simp [progC, Value.oneCell']

/-- 2: the end; 1: neither it nor an access; 0: an access. -/
def quietOf (E : Nat → Ins) (len i : Nat) (last : Int) : Int := if len ≤ i then 2 else if (E i).ends last then 2 else if (E i).acc then 0 else 1
theorem quiet_pos {E : Nat → Ins} {len : Nat} : ∀ (n i : Nat) (last : Int), i + n = len → quietOf E len (pos E n i last) last = if nxt E n i last = true then 0 else 2
  | 0, i, last, h => by simp [pos, nxt, quietOf]; omega
  | n + 1, i, last, h => by
    by_cases he : (E i).ends last
    · simp [pos, nxt, quietOf, he]
    · by_cases hac : (E i).acc
      · simp [pos, nxt, quietOf, he, hac]; omega
      · have e1 : nxt E (n + 1) i last = nxt E n (i + 1) last := by simp [nxt, he, hac]
        have e2 : pos E (n + 1) i last = pos E n (i + 1) last := by simp [pos, he, hac]
        rw [e1, e2]
        exact quiet_pos n (i + 1) last (by omega)
theorem quiet_one {E : Nat → Ins} {len i : Nat} {last : Int} (h : quietOf E len i last = 1) : i < len ∧ nxt E (len - i) i last = nxt E (len - (i + 1)) (i + 1) last ∧ pos E (len - i) i last = pos E (len - (i + 1)) (i + 1) last := by
  unfold quietOf at h
  split at h
  · omega
  · split at h
    · omega
    · split at h
      · omega
      · rename_i h1 h2 h3
        obtain ⟨n, hn⟩ : ∃ n, len - i = n + 1 := ⟨len - i - 1, by omega⟩
        rw [hn, show len - (i + 1) = n by omega]
        simp [nxt, pos, h2, h3]; omega
theorem quiet_else {E : Nat → Ins} {len i : Nat} {last : Int} (hi : i ≤ len) (h : quietOf E len i last ≠ 1) : pos E (len - i) i last = i := by
  cases e : len - i with
  | zero => rfl
  | succ n =>
    unfold quietOf at h
    have : ¬ len ≤ i := by omega
    simp only [this, if_false] at h
    by_cases he : (E i).ends last
    · simp [pos, he]
    · by_cases hac : (E i).acc
      · simp [pos, hac]
      · simp [he, hac] at h

set_option maxHeartbeats 1000000 in
theorem quiet_any {w : World} {D : Nat → Prop} {E : Nat → Ins} (p : PS) (hI : InsAt w D p.ao p.len E) (hu : U p.last) (hl : p.len ≤ 100) :
    Calls Try.prog 32 #[.agg (progC p)] w fun e w' => e = .returned (.int .i64 (quietOf E p.len p.at_ p.last)) ∧ Below w.heap.size w w' := by
  obtain ⟨ao, len, cap, at_, last, over, err, made⟩ := p
  simp only at hI hu hl ⊢
  unfold progC
  simp only
  have hu0 := hu.1
  have hu1 := hu.2
  clear hu
  by_cases hlt : at_ < len
  · obtain ⟨b, off, rfl, _, hb, c0, c1, c2⟩ := hI.cell at_ hlt
    obtain ⟨op, a, v, hx⟩ : ∃ op a v, E at_ = ⟨op, a, v⟩ := ⟨_, _, _, rfl⟩
    rw [hx] at c0 c1 c2
    have hn : ¬ len ≤ at_ := by omega
    have hlt1 : (at_ : Int) < (len : Int) := by omega
    have c0 := (below_one (w := w) (A := .cells #[.slice (some ⟨b, off, none⟩) len cap, .int .i64 at_, .int .u32 last, .bool over, .int .i64 err, .int .i64 made] 38)).cell (p := ⟨b, off + at_ * 3, none⟩) hb |>.trans c0
    have c1 := (below_one (w := w) (A := .cells #[.slice (some ⟨b, off, none⟩) len cap, .int .i64 at_, .int .u32 last, .bool over, .int .i64 err, .int .i64 made] 38)).cell (p := ⟨b, off + at_ * 3 + 1, none⟩) hb |>.trans c1
    have c2 := (below_one (w := w) (A := .cells #[.slice (some ⟨b, off, none⟩) len cap, .int .i64 at_, .int .u32 last, .bool over, .int .i64 err, .int .i64 made] 38)).cell (p := ⟨b, off + at_ * 3 + 2, none⟩) hb |>.trans c2
    clear hI
    by_cases h4 : op = 4
    · subst h4
      by_cases hodd : last % 2 = 1
      · have ho : (last % 2 == 1) = true := by simpa using hodd
        have HE := Lib.hid (show quietOf E len at_ last = 2 by unfold quietOf; rw [if_neg hn, hx, if_pos ⟨rfl, hodd⟩])
        rw [HE.out]
        clear hodd hx HE
        go_enter Try.func32, Try.ntmps32
        go_wp2
        go_ret
        exact ⟨rfl, below_al2⟩
      · have ho : (last % 2 == 1) = false := by simpa using hodd
        have HE := Lib.hid (show quietOf E len at_ last = 1 by unfold quietOf; rw [if_neg hn, hx, if_neg (fun h => hodd h.2), if_neg (by unfold Ins.acc; simp)])
        rw [HE.out]
        clear hodd hx HE
        go_enter Try.func32, Try.ntmps32
        go_wp2
        go_ret
        exact ⟨rfl, below_al2⟩
    · have e4 : (op == 4) = false := by simpa using h4
      by_cases hacc : 0 ≤ op ∧ op ≤ 3
      · have HE := Lib.hid (show quietOf E len at_ last = 0 by unfold quietOf; rw [if_neg hn, hx, if_neg (fun h => h4 h.1), if_pos (by unfold Ins.acc; simp only; omega)])
        rw [HE.out]
        obtain ⟨h1, h2⟩ := hacc
        clear h4 hx HE
        go_enter Try.func32, Try.ntmps32
        go_wp2
        go_ret
        exact ⟨rfl, below_al2⟩
      · have HE := Lib.hid (show quietOf E len at_ last = 1 by unfold quietOf; rw [if_neg hn, hx, if_neg (fun h => h4 h.1), if_neg (by unfold Ins.acc; simp only; omega)])
        rw [HE.out]
        have hout : op < 0 ∨ 3 < op := by omega
        clear h4 hx HE hacc
        rcases hout with h1 | h1
        all_goals
          first
            | (have hneg : ¬ op < 0 := by omega)
            | skip
          go_enter Try.func32, Try.ntmps32
          go_wp2
          go_ret
          exact ⟨rfl, below_al2⟩
  · have HE := Lib.hid (show quietOf E len at_ last = 2 by unfold quietOf; rw [if_pos (by omega)])
    rw [HE.out]
    have hge : (len : Int) ≤ (at_ : Int) := by omega
    clear hI HE
    go_enter Try.func32, Try.ntmps32
    go_wp2
    go_ret
    exact ⟨rfl, below_one⟩
end Go.Proofs.Ytdmcnlkmfohmdaa
