/-
  The reference of layer 4: may a rune be, its bytes, the rune at a place. Over the program's own text.
-/
import Derived.Test.YtaaeooimalglaaaDoorUtfList
import Derived.Test.YtaaeooimalglaaaDoorRets
namespace Go.Proofs.YtaaeooimalglaaaDoor
open Go.RowKit

set_option maxRecDepth 100000 in
theorem may_yes (w : World) (n : Nat) (h : okR n) : Calls Tryd.prog 31 #[.int .i32 n] w fun e w' => e = .returned (.bool true) ∧ w = w' := by
  unfold okR at h
  rcases h with h | ⟨h1, h2⟩
  · have h0 : (n : Int) < 55296 := by omega
    clear h
    go_enter Tryd.func31, Tryd.ntmps31
    go_wp2
    go_ret
    exact ⟨rfl, rfl⟩
  · have h3 : ¬ (n : Int) < 55296 := by omega
    have h4 : (57344 : Int) ≤ (n : Int) := by omega
    have h5 : (n : Int) ≤ 1114111 := by omega
    clear h1 h2
    go_enter Tryd.func31, Tryd.ntmps31
    go_wp2
    go_ret
    exact ⟨rfl, rfl⟩
set_option maxRecDepth 100000 in
theorem may_no (w : World) (r : Int) (h : ¬ (0 ≤ r ∧ okR r.toNat)) : Calls Tryd.prog 31 #[.int .i32 r] w fun e w' => e = .returned (.bool false) ∧ w = w' := by
  have hr : r < 0 ∨ (55296 ≤ r ∧ r < 57344) ∨ 1114111 < r := by unfold okR at h; omega
  clear h
  rcases hr with h | ⟨h, h2⟩ | h
  · have h1 : ¬ 0 ≤ r := by omega
    have h3 : ¬ 57344 ≤ r := by omega
    go_enter Tryd.func31, Tryd.ntmps31
    go_wp2
    go_ret
    exact ⟨rfl, rfl⟩
  · have h1 : 0 ≤ r := by omega
    have h3 : ¬ 57344 ≤ r := by omega
    have h4 : ¬ r < 55296 := by omega
    go_enter Tryd.func31, Tryd.ntmps31
    go_wp2
    go_ret
    exact ⟨rfl, rfl⟩
  · have h1 : 0 ≤ r := by omega
    have h3 : 57344 ≤ r := by omega
    have h4 : ¬ r < 55296 := by omega
    have h5 : ¬ r ≤ 1114111 := by omega
    go_enter Tryd.func31, Tryd.ntmps31
    go_wp2
    go_ret
    exact ⟨rfl, rfl⟩

set_option maxRecDepth 100000 in
set_option maxHeartbeats 1000000 in
theorem bytes_1 (w : World) (r : Int) (hM : ∀ w, Calls Tryd.prog 31 #[.int .i32 r] w fun e w' => e = .returned (.bool true) ∧ w = w') (h0 : 0 ≤ r) (h1 : r < 128) :
    Calls Tryd.prog 21 #[.int .i32 r] w fun e w' => e = .returned (.slice (some ⟨w.heap.size, 0, none⟩) 1 1) ∧ w' = w.alloc (.cells #[.int .u8 (r)] 5) := by
  have HM := Lib.hid hM
  clear hM
  go_enter Tryd.func21, Tryd.ntmps21
  go_wp2_with (go_at_call 31; refine (HM.out _).mono ?_; rintro e w' ⟨rfl, rfl⟩)
  go_ret
  exact ⟨rfl, rfl⟩
set_option maxRecDepth 100000 in
set_option maxHeartbeats 1000000 in
theorem bytes_2 (w : World) (r : Int) (hM : ∀ w, Calls Tryd.prog 31 #[.int .i32 r] w fun e w' => e = .returned (.bool true) ∧ w = w') (h0 : 128 ≤ r) (h1 : r < 2048) :
    Calls Tryd.prog 21 #[.int .i32 r] w fun e w' => e = .returned (.slice (some ⟨w.heap.size, 0, none⟩) 2 2) ∧ w' = w.alloc (.cells #[.int .u8 (192 + r / 64), .int .u8 (128 + r % 64)] 5) := by
  have HM := Lib.hid hM
  clear hM
  have n1 : ¬ r < 128 := by omega
  go_enter Tryd.func21, Tryd.ntmps21
  go_wp2_with (go_at_call 31; refine (HM.out _).mono ?_; rintro e w' ⟨rfl, rfl⟩)
  go_ret
  exact ⟨rfl, rfl⟩
set_option maxRecDepth 100000 in
set_option maxHeartbeats 1000000 in
theorem bytes_3 (w : World) (r : Int) (hM : ∀ w, Calls Tryd.prog 31 #[.int .i32 r] w fun e w' => e = .returned (.bool true) ∧ w = w') (h0 : 2048 ≤ r) (h1 : r < 65536) :
    Calls Tryd.prog 21 #[.int .i32 r] w fun e w' => e = .returned (.slice (some ⟨w.heap.size, 0, none⟩) 3 3) ∧ w' = w.alloc (.cells #[.int .u8 (224 + r / 4096), .int .u8 (128 + r / 64 % 64), .int .u8 (128 + r % 64)] 5) := by
  have HM := Lib.hid hM
  clear hM
  have n1 : ¬ r < 128 := by omega
  have n2 : ¬ r < 2048 := by omega
  go_enter Tryd.func21, Tryd.ntmps21
  go_wp2_with (go_at_call 31; refine (HM.out _).mono ?_; rintro e w' ⟨rfl, rfl⟩)
  go_ret
  exact ⟨rfl, rfl⟩
set_option maxRecDepth 100000 in
set_option maxHeartbeats 1000000 in
theorem bytes_4 (w : World) (r : Int) (hM : ∀ w, Calls Tryd.prog 31 #[.int .i32 r] w fun e w' => e = .returned (.bool true) ∧ w = w') (h0 : 65536 ≤ r) (h1 : r ≤ 1114111) :
    Calls Tryd.prog 21 #[.int .i32 r] w fun e w' => e = .returned (.slice (some ⟨w.heap.size, 0, none⟩) 4 4) ∧ w' = w.alloc (.cells #[.int .u8 (240 + r / 262144), .int .u8 (128 + r / 4096 % 64), .int .u8 (128 + r / 64 % 64), .int .u8 (128 + r % 64)] 5) := by
  have HM := Lib.hid hM
  clear hM
  have n1 : ¬ r < 128 := by omega
  have n2 : ¬ r < 2048 := by omega
  have n3 : ¬ r < 65536 := by omega
  go_enter Tryd.func21, Tryd.ntmps21
  go_wp2_with (go_at_call 31; refine (HM.out _).mono ?_; rintro e w' ⟨rfl, rfl⟩)
  go_ret
  exact ⟨rfl, rfl⟩
/-- A row of bytes in a block of its own. -/
def BytesAt (w : World) (g : Nat) (l : List Nat) : Prop := w.heap[g]? = some (.cells (l.map fun (b : Nat) => Value.int .u8 (b : Int)).toArray 5 (0, 0))
/-- What a rune is taken for. -/
def normR (r : Int) : Nat := if 0 ≤ r ∧ okR r.toNat then r.toNat else 65533
set_option maxRecDepth 100000 in
theorem normR_ok (r : Int) : okR (normR r) := by
  unfold normR
  split
  · rename_i h; exact h.2
  · exact .inr ⟨by omega, by omega⟩
set_option maxRecDepth 100000 in
theorem normR_self {n : Nat} (h : okR n) : normR (n : Int) = n := by
  unfold normR
  rw [if_pos ⟨by omega, by simpa using h⟩]
  simp
set_option maxRecDepth 100000 in
theorem bytes_ok (w : World) (n : Nat) (h : okR n) : Calls Tryd.prog 21 #[.int .i32 n] w fun e w' => ∃ g, e = .returned (.slice (some ⟨g, 0, none⟩) (encR n).length (encR n).length) ∧ BytesAt w' g (encR n) ∧ Below w.heap.size w w' := by
  have hM := fun w => may_yes w n h
  have hb : n ≤ 1114111 := by unfold okR at h; omega
  have fin : ∀ (m : Nat) (cs : Array Value), m = (encR n).length → ((encR n).map fun (b : Nat) => Value.int .u8 (b : Int)).toArray = cs → ∀ (e : Ending) (w' : World), (e = .returned (.slice (some ⟨w.heap.size, 0, none⟩) m m) ∧ w' = w.alloc (.cells cs 5)) → ∃ g, e = .returned (.slice (some ⟨g, 0, none⟩) (encR n).length (encR n).length) ∧ BytesAt w' g (encR n) ∧ Below w.heap.size w w' := by
    rintro m cs rfl rfl e w' ⟨rfl, rfl⟩
    exact ⟨_, rfl, heap_alloc_new w _, below_one⟩
  by_cases h1 : n < 128
  · exact (bytes_1 w n hM (by omega) (by omega)).mono (fin 1 _ (by simp [encR, h1]) (by simp [encR, h1]))
  · by_cases h2 : n < 2048
    · exact (bytes_2 w n hM (by omega) (by omega)).mono (fin 2 _ (by simp [encR, h1, h2]) (by simp [encR, h1, h2]))
    · by_cases h3 : n < 65536
      · exact (bytes_3 w n hM (by omega) (by omega)).mono (fin 3 _ (by simp [encR, h1, h2, h3]) (by simp [encR, h1, h2, h3]))
      · exact (bytes_4 w n hM (by omega) (by omega)).mono (fin 4 _ (by simp [encR, h1, h2, h3]) (by simp [encR, h1, h2, h3]))
set_option maxRecDepth 100000 in
theorem bytes_bad (w : World) (r : Int) (h : ¬ (0 ≤ r ∧ okR r.toNat)) : Calls Tryd.prog 21 #[.int .i32 r] w fun e w' => ∃ g, e = .returned (.slice (some ⟨g, 0, none⟩) 3 3) ∧ BytesAt w' g (encR 65533) ∧ Below w.heap.size w w' := by
  have HM := Lib.hid (fun w => may_no w r h)
  clear h
  go_enter Tryd.func21, Tryd.ntmps21
  go_wp2_with (go_at_call 31; refine (HM.out _).mono ?_; rintro e w' ⟨rfl, rfl⟩)
  go_ret
  exact ⟨_, rfl, heap_alloc_new w _, below_one⟩
set_option maxRecDepth 100000 in
theorem bytes_any (w : World) (r : Int) : Calls Tryd.prog 21 #[.int .i32 r] w fun e w' => ∃ g, e = .returned (.slice (some ⟨g, 0, none⟩) (encR (normR r)).length (encR (normR r)).length) ∧ BytesAt w' g (encR (normR r)) ∧ Below w.heap.size w w' := by
  by_cases h : 0 ≤ r ∧ okR r.toNat
  · obtain ⟨n, rfl⟩ := Int.eq_ofNat_of_zero_le h.1
    have hn : okR n := by simpa using h.2
    rw [normR_self hn]
    exact bytes_ok w n hn
  · have e : normR r = 65533 := by unfold normR; rw [if_neg h]
    rw [e]
    exact bytes_bad w r h

/-! ### The rune at a place -/
set_option maxRecDepth 100000 in
theorem byte_get {s : ByteArray} {i : Nat} (h : i < s.size) : (s[i]'h).toNat = byteAt s i := by
  unfold byteAt
  congr 1
  have : i < s.data.toList.length := by simpa using h
  rw [List.getD_eq_getElem?_getD, List.getElem?_eq_getElem this]
  rfl
end Go.Proofs.YtaaeooimalglaaaDoor
