/-
  What the document's own reading of numbers (transeptref01.begins, Get, Text, PutText) answers; what was there stays. Condition: texts of at most 1000000 bytes.
-/
import Derived.Test.YtjgcodnabgkjoaaDoorRef
import Derived.Test.YtjgcodnabgkjoaaDoorText
namespace Go.Proofs.YtjgcodnabgkjoaaDoor
open Go.RowKit

set_option maxHeartbeats 400000 in
theorem refPutText_any (l : List UInt8) (w : World) (hl : l.length ≤ 1000000) :
    Calls Tryd.prog 44 #[.string (str l)] w fun e w' => e = .returned (.string (str (leb l.length ++ l))) ∧ Below w.heap.size w w' := by
  have hs := str_size l
  have hs2 := str_size (leb l.length)
  have hs3 := leb_len10 (n := l.length) (by omega)
  go_enter Tryd.func44, Tryd.ntmps44
  go_wp2_with fail
  refine (refPut_any (l.length + 1) l.length w (by omega) (by omega)).mono ?_
  rintro e w1 ⟨rfl, hb1⟩
  go_wp2_with fail
  go_ret
  exact ⟨congrArg (fun s => Ending.returned (.string s)) (str_append (leb l.length) l), hb1⟩

def badAt (l : List UInt8) (j : Nat) : Bool := decide (9 < j) || wrongB (l.getD j 0).toNat j || (decide ((l.getD j 0).toNat < 128) && decide (j + 1 < l.length))
def begB (l : List UInt8) : Bool := (List.range l.length).all fun j => !badAt l j
theorem begB_true {l : List UInt8} (h : ∀ j, j < l.length → badAt l j = false) : begB l = true := by
  simp only [begB, List.all_eq_true, List.mem_range, Bool.not_eq_true']
  exact h
theorem begB_false {l : List UInt8} {j : Nat} (hj : j < l.length) (h : badAt l j = true) : begB l = false := by
  rw [Bool.eq_false_iff]
  intro hb
  simp only [begB, List.all_eq_true, List.mem_range, Bool.not_eq_true'] at hb
  rw [hb j hj] at h
  cases h

theorem all_step {l : List UInt8} {k : Nat} (h : ∀ j, j < k → badAt l j = false) (hk : badAt l k = false) : Hid (∀ j, j < k + 1 → badAt l j = false) := fun j hj => by
  rcases Nat.lt_or_ge j k with h1 | h1
  · exact h j h1
  · obtain rfl : j = k := by omega
    exact hk

set_option maxHeartbeats 1000000 in
set_option maxRecDepth 100000 in
theorem begins_any (l : List UInt8) (w : World) (hl : l.length ≤ 1000000) :
    Calls Tryd.prog 49 #[.string (str l)] w fun e w' => e = .returned (.bool (begB l)) ∧ w = w' := by
  have hs := str_size l
  go_enter Tryd.func49, Tryd.ntmps49
  go_wp2_with fail
  go_loop [3] (fun i => ∃ k : Nat, k ≤ l.length ∧ i = .int .i64 k ∧ Hid (∀ j, j < k → badAt l j = false)) (fun i => l.length - (intOf i).toNat)
  case atStart => exact ⟨0, by omega, rfl, fun j h => absurd h (by omega)⟩
  case round =>
    obtain ⟨k, hk, rfl, HB⟩ := hrel
    by_cases hlt : k < l.length
    · obtain ⟨m, hm⟩ : ∃ m, m = (l.getD k 0).toNat := ⟨_, rfl⟩
      have hget : ∀ h, ((str l)[k]'h).toNat = m := fun h => by
        rw [hm]
        simp [str, List.getD, List.getElem?_eq_getElem hlt, ByteArray.getElem_eq_getElem_data]
      have HG : Hid (badAt l k = (decide (9 < k) || wrongB m k || (decide (m < 128) && decide (k + 1 < l.length)))) := by show badAt l k = _; rw [hm]; rfl
      have hm8 : m < 256 := by rw [hm]; exact UInt8.toNat_lt _
      clear hm
      rcases (show 9 < k ∨ k = 9 ∧ 1 < m ∨ k = 9 ∧ m = 0 ∨ k = 9 ∧ m = 1 ∧ 10 < l.length ∨ k = 9 ∧ m = 1 ∧ l.length ≤ 10 ∨ k = 0 ∧ m < 128 ∧ 1 < l.length ∨ k = 0 ∧ m < 128 ∧ l.length ≤ 1 ∨ k = 0 ∧ 128 ≤ m ∨
          (0 < k ∧ k < 9) ∧ m = 0 ∨ (0 < k ∧ k < 9) ∧ (0 < m ∧ m < 128) ∧ k + 1 < l.length ∨ (0 < k ∧ k < 9) ∧ (0 < m ∧ m < 128) ∧ l.length ≤ k + 1 ∨ (0 < k ∧ k < 9) ∧ 128 ≤ m from by omega) with
        h | ⟨rfl, h⟩ | ⟨rfl, rfl⟩ | ⟨rfl, rfl, h⟩ | ⟨rfl, rfl, h⟩ | ⟨rfl, h, h'⟩ | ⟨rfl, h, h'⟩ | ⟨rfl, h⟩ | ⟨⟨h0, h9⟩, rfl⟩ | ⟨⟨h0, h9⟩, ⟨h1, h2⟩, h⟩ | ⟨⟨h0, h9⟩, ⟨h1, h2⟩, h⟩ | ⟨⟨h0, h9⟩, h⟩
      · have t1 : decide ((9 : Int) < (k : Int)) = true := by simp; omega
        go_wp2_with fail
        go_ret
        exact ⟨ret_bool (a := false) (begB_false hlt (by rw [HG.out]; simp [h])).symm, rfl⟩
      · have t3 : decide ((1 : Int) < (m : Int)) = true := by simp; omega
        have HB1 : Hid (badAt l 9 = true) := by show badAt l 9 = true; rw [HG.out]; simp [wrongB] <;> omega
        go_wp2_with fail
        go_ret
        exact ⟨ret_bool (a := false) (begB_false hlt HB1.out).symm, rfl⟩
      · have HB1 : Hid (badAt l 9 = true) := by show badAt l 9 = true; rw [HG.out]; simp [wrongB] <;> omega
        go_wp2_with fail
        go_ret
        exact ⟨ret_bool (a := false) (begB_false hlt HB1.out).symm, rfl⟩
      · have t7 : decide ((10 : Int) < (l.length : Int)) = true := by simp; omega
        have HB1 : Hid (badAt l 9 = true) := by show badAt l 9 = true; rw [HG.out]; simp [wrongB] <;> omega
        go_wp2_with fail
        go_ret
        exact ⟨ret_bool (a := false) (begB_false hlt HB1.out).symm, rfl⟩
      · have t7 : decide ((10 : Int) < (l.length : Int)) = false := by simp; omega
        have HB1 : Hid (badAt l 9 = false) := by show badAt l 9 = false; rw [HG.out]; simp [wrongB] <;> omega
        go_wp2_with fail
        go_round
        case rel => exact ⟨_, by omega, by go_num, all_step HB.out HB1.out⟩
        case measure => simp [intOf]; omega
      · have t6 : decide ((m : Int) < 128) = true := by simp; omega
        have t7 : decide ((1 : Int) < (l.length : Int)) = true := by simp; omega
        have HB1 : Hid (badAt l 0 = true) := by show badAt l 0 = true; rw [HG.out]; simp [wrongB] <;> omega
        go_wp2_with fail
        go_ret
        exact ⟨ret_bool (a := false) (begB_false hlt HB1.out).symm, rfl⟩
      · have t6 : decide ((m : Int) < 128) = true := by simp; omega
        have t7 : decide ((1 : Int) < (l.length : Int)) = false := by simp; omega
        have HB1 : Hid (badAt l 0 = false) := by show badAt l 0 = false; rw [HG.out]; simp [wrongB] <;> omega
        go_wp2_with fail
        go_round
        case rel => exact ⟨_, by omega, by go_num, all_step HB.out HB1.out⟩
        case measure => simp [intOf]; omega
      · have t6 : decide ((m : Int) < 128) = false := by simp; omega
        have HB1 : Hid (badAt l 0 = false) := by show badAt l 0 = false; rw [HG.out]; simp [wrongB] <;> omega
        go_wp2_with fail
        go_round
        case rel => exact ⟨_, by omega, by go_num, all_step HB.out HB1.out⟩
        case measure => simp [intOf]; omega
      · have t1 : decide ((9 : Int) < (k : Int)) = false := by simp; omega
        have t2 : ((k : Int) == 9) = false := by simp; omega
        have t4 : decide ((0 : Int) < (k : Int)) = true := by simp; omega
        have HB1 : Hid (badAt l k = true) := by show badAt l k = true; rw [HG.out]; simp [wrongB] <;> omega
        go_wp2_with fail
        go_ret
        exact ⟨ret_bool (a := false) (begB_false hlt HB1.out).symm, rfl⟩
      · have t1 : decide ((9 : Int) < (k : Int)) = false := by simp; omega
        have t2 : ((k : Int) == 9) = false := by simp; omega
        have t4 : decide ((0 : Int) < (k : Int)) = true := by simp; omega
        have t5 : ((m : Int) == 0) = false := by simp; omega
        have t6 : decide ((m : Int) < 128) = true := by simp; omega
        have t7 : decide ((k : Int) + 1 < (l.length : Int)) = true := by simp; omega
        have HB1 : Hid (badAt l k = true) := by show badAt l k = true; rw [HG.out]; simp [wrongB] <;> omega
        go_wp2_with fail
        go_ret
        exact ⟨ret_bool (a := false) (begB_false hlt HB1.out).symm, rfl⟩
      · have t1 : decide ((9 : Int) < (k : Int)) = false := by simp; omega
        have t2 : ((k : Int) == 9) = false := by simp; omega
        have t4 : decide ((0 : Int) < (k : Int)) = true := by simp; omega
        have t5 : ((m : Int) == 0) = false := by simp; omega
        have t6 : decide ((m : Int) < 128) = true := by simp; omega
        have t7 : decide ((k : Int) + 1 < (l.length : Int)) = false := by simp; omega
        have HB1 : Hid (badAt l k = false) := by show badAt l k = false; rw [HG.out]; simp [wrongB] <;> omega
        go_wp2_with fail
        go_round
        case rel => exact ⟨_, by omega, by go_num, all_step HB.out HB1.out⟩
        case measure => simp [intOf]; omega
      · have t1 : decide ((9 : Int) < (k : Int)) = false := by simp; omega
        have t2 : ((k : Int) == 9) = false := by simp; omega
        have t4 : decide ((0 : Int) < (k : Int)) = true := by simp; omega
        have t5 : ((m : Int) == 0) = false := by simp; omega
        have t6 : decide ((m : Int) < 128) = false := by simp; omega
        have HB1 : Hid (badAt l k = false) := by show badAt l k = false; rw [HG.out]; simp [wrongB] <;> omega
        go_wp2_with fail
        go_round
        case rel => exact ⟨_, by omega, by go_num, all_step HB.out HB1.out⟩
        case measure => simp [intOf]; omega
    · go_wp2_with fail
      go_ret
      exact ⟨ret_bool (a := true) (begB_true fun j hj => HB.out j (by omega)).symm, rfl⟩
end Go.Proofs.YtjgcodnabgkjoaaDoor
