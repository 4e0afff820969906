/-
  What safe.odd, inLanguage and the tests of all bytes answer; strings.HasPrefix, CutPrefix. No condition but sizes.
-/
import Derived.Test.YtonchnmcklgpoaaGreatDoorSm
import Derived.Test.YtonchnmcklgpoaaGreatDoorEa
namespace Go.Proofs.YtonchnmcklgpoaaGreatDoor
open Go.RowKit
set_option linter.unusedVariables false

theorem oddi_any (c : UInt8) (w : World) : ∃ i : Int, (decide (0 ≤ i) = oddL.contains c) ∧ Calls Tryz.prog 54 #[.string ⟨#[34, 40, 41, 58, 60, 62, 63, 64, 91, 92, 93, 123, 125]⟩, .int .u8 (c.toNat : Int)] w fun e w' => e = .returned (.int .i64 i) ∧ w' = w := by
  refine ⟨Lib.indexByte oddL c, indexByte_iff c oddL, ?_⟩
  have h := Tryz.strings_IndexByte ⟨#[34, 40, 41, 58, 60, 62, 63, 64, 91, 92, 93, 123, 125]⟩ (c.toNat : Int) w
  have e : ((c.toNat : Int).toNat.toUInt8) = c := by simp
  rw [e] at h
  exact h
theorem lngi_any (c : UInt8) (w : World) : ∃ i : Int, (decide (0 ≤ i) = lngL.contains c) ∧ Calls Tryz.prog 54 #[.string ⟨#[42, 45, 46, 59, 61, 44, 32]⟩, .int .u8 (c.toNat : Int)] w fun e w' => e = .returned (.int .i64 i) ∧ w' = w := by
  refine ⟨Lib.indexByte lngL c, indexByte_iff c lngL, ?_⟩
  have h := Tryz.strings_IndexByte ⟨#[42, 45, 46, 59, 61, 44, 32]⟩ (c.toNat : Int) w
  have e : ((c.toNat : Int).toNat.toUInt8) = c := by simp
  rw [e] at h
  exact h
theorem odd_at (c : UInt8) (m : Nat) (hm : m = c.toNat) : oddB c = ((decide (m < 32) && !decide (m = 9)) || decide (m = 127) || oddL.contains c) := by rw [hm]; rfl
theorem lng_at (c : UInt8) (m : Nat) (hm : m = c.toNat) : lngB c = (((decide (65 ≤ m) && decide (m ≤ 90)) || (decide (97 ≤ m) && decide (m ≤ 122)) || (decide (48 ≤ m) && decide (m ≤ 57))) || lngL.contains c) := by rw [hm]; rfl
set_option maxHeartbeats 4000000 in
set_option maxRecDepth 100000 in
theorem odd_any (c : UInt8) (w : World) : Calls Tryz.prog 38 #[vb c] w fun e w' => e = .returned (.bool (oddB c)) ∧ w' = w := by
  unfold vb
  obtain ⟨i, hi, hB⟩ := oddi_any c w
  have HB := Lib.hid hB
  clear hB
  obtain ⟨m, hm⟩ : ∃ m, m = c.toNat := ⟨_, rfl⟩
  rw [odd_at c m hm, ← hi, ← hm]
  rw [← hm] at HB
  clear hm hi
  rcases (by omega : (m < 32 ∧ m ≠ 9) ∨ m = 9 ∨ (32 ≤ m ∧ m ≠ 127) ∨ m = 127) with h | h | h | h
  · skip
    have l32 : (decide ((m : Int) < 32)) = true := by simp; omega
    have n9 : ((m : Int) != 9) = true := by simp; omega
    have e127 : ((m : Int) == 127) = false := by simp; omega
    rw [show ((decide (m < 32) && !decide (m = 9)) || decide (m = 127)) = true from by simp; omega]
    clear h
    go_enter Tryz.func38, Tryz.ntmps38
    go_wp2_with fail
    go_ret
    exact ⟨rfl, rfl⟩
  · skip
    have l32 : (decide ((m : Int) < 32)) = true := by simp; omega
    have n9 : ((m : Int) != 9) = false := by simp; omega
    have e127 : ((m : Int) == 127) = false := by simp; omega
    rw [show ((decide (m < 32) && !decide (m = 9)) || decide (m = 127)) = false from by simp; omega]
    clear h
    go_enter Tryz.func38, Tryz.ntmps38
    go_wp2_with (first | (go_at_call 54; (with_reducible refine (HB.out).mono ?_); (rintro e w1 ⟨rfl, hq⟩); subst w1))
    go_ret
    exact ⟨rfl, rfl⟩
  · skip
    have l32 : (decide ((m : Int) < 32)) = false := by simp; omega
    have n9 : ((m : Int) != 9) = true := by simp; omega
    have e127 : ((m : Int) == 127) = false := by simp; omega
    rw [show ((decide (m < 32) && !decide (m = 9)) || decide (m = 127)) = false from by simp; omega]
    clear h
    go_enter Tryz.func38, Tryz.ntmps38
    go_wp2_with (first | (go_at_call 54; (with_reducible refine (HB.out).mono ?_); (rintro e w1 ⟨rfl, hq⟩); subst w1))
    go_ret
    exact ⟨rfl, rfl⟩
  · skip
    have l32 : (decide ((m : Int) < 32)) = false := by simp; omega
    have n9 : ((m : Int) != 9) = true := by simp; omega
    have e127 : ((m : Int) == 127) = true := by simp; omega
    rw [show ((decide (m < 32) && !decide (m = 9)) || decide (m = 127)) = true from by simp; omega]
    clear h
    go_enter Tryz.func38, Tryz.ntmps38
    go_wp2_with fail
    go_ret
    exact ⟨rfl, rfl⟩
set_option maxHeartbeats 4000000 in
set_option maxRecDepth 100000 in
theorem lang_any (c : UInt8) (w : World) : Calls Tryz.prog 39 #[vb c] w fun e w' => e = .returned (.bool (lngB c)) ∧ w' = w := by
  unfold vb
  obtain ⟨i, hi, hB⟩ := lngi_any c w
  have HB := Lib.hid hB
  clear hB
  obtain ⟨m, hm⟩ : ∃ m, m = c.toNat := ⟨_, rfl⟩
  rw [lng_at c m hm, ← hi, ← hm]
  rw [← hm] at HB
  clear hm hi
  rcases (by omega : m < 48 ∨ (48 ≤ m ∧ m ≤ 57) ∨ (57 < m ∧ m < 65) ∨ (65 ≤ m ∧ m ≤ 90) ∨ (90 < m ∧ m < 97) ∨ (97 ≤ m ∧ m ≤ 122) ∨ 122 < m) with h | h | h | h | h | h | h
  · skip
    have g65 : (decide ((65 : Int) ≤ (m : Int))) = false := by simp; omega
    have l90 : (decide ((m : Int) ≤ 90)) = true := by simp; omega
    have g97 : (decide ((97 : Int) ≤ (m : Int))) = false := by simp; omega
    have l122 : (decide ((m : Int) ≤ 122)) = true := by simp; omega
    have g48 : (decide ((48 : Int) ≤ (m : Int))) = false := by simp; omega
    have l57 : (decide ((m : Int) ≤ 57)) = true := by simp; omega
    rw [show ((decide (65 ≤ m) && decide (m ≤ 90)) || (decide (97 ≤ m) && decide (m ≤ 122)) || (decide (48 ≤ m) && decide (m ≤ 57))) = false from by simp; omega]
    clear h
    go_enter Tryz.func39, Tryz.ntmps39
    go_wp2_with (first | (go_at_call 54; (with_reducible refine (HB.out).mono ?_); (rintro e w1 ⟨rfl, hq⟩); subst w1))
    go_ret
    exact ⟨rfl, rfl⟩
  · skip
    have g65 : (decide ((65 : Int) ≤ (m : Int))) = false := by simp; omega
    have l90 : (decide ((m : Int) ≤ 90)) = true := by simp; omega
    have g97 : (decide ((97 : Int) ≤ (m : Int))) = false := by simp; omega
    have l122 : (decide ((m : Int) ≤ 122)) = true := by simp; omega
    have g48 : (decide ((48 : Int) ≤ (m : Int))) = true := by simp; omega
    have l57 : (decide ((m : Int) ≤ 57)) = true := by simp; omega
    rw [show ((decide (65 ≤ m) && decide (m ≤ 90)) || (decide (97 ≤ m) && decide (m ≤ 122)) || (decide (48 ≤ m) && decide (m ≤ 57))) = true from by simp; omega]
    clear h
    go_enter Tryz.func39, Tryz.ntmps39
    go_wp2_with fail
    go_ret
    exact ⟨rfl, rfl⟩
  · skip
    have g65 : (decide ((65 : Int) ≤ (m : Int))) = false := by simp; omega
    have l90 : (decide ((m : Int) ≤ 90)) = true := by simp; omega
    have g97 : (decide ((97 : Int) ≤ (m : Int))) = false := by simp; omega
    have l122 : (decide ((m : Int) ≤ 122)) = true := by simp; omega
    have g48 : (decide ((48 : Int) ≤ (m : Int))) = true := by simp; omega
    have l57 : (decide ((m : Int) ≤ 57)) = false := by simp; omega
    rw [show ((decide (65 ≤ m) && decide (m ≤ 90)) || (decide (97 ≤ m) && decide (m ≤ 122)) || (decide (48 ≤ m) && decide (m ≤ 57))) = false from by simp; omega]
    clear h
    go_enter Tryz.func39, Tryz.ntmps39
    go_wp2_with (first | (go_at_call 54; (with_reducible refine (HB.out).mono ?_); (rintro e w1 ⟨rfl, hq⟩); subst w1))
    go_ret
    exact ⟨rfl, rfl⟩
  · skip
    have g65 : (decide ((65 : Int) ≤ (m : Int))) = true := by simp; omega
    have l90 : (decide ((m : Int) ≤ 90)) = true := by simp; omega
    have g97 : (decide ((97 : Int) ≤ (m : Int))) = false := by simp; omega
    have l122 : (decide ((m : Int) ≤ 122)) = true := by simp; omega
    have g48 : (decide ((48 : Int) ≤ (m : Int))) = true := by simp; omega
    have l57 : (decide ((m : Int) ≤ 57)) = false := by simp; omega
    rw [show ((decide (65 ≤ m) && decide (m ≤ 90)) || (decide (97 ≤ m) && decide (m ≤ 122)) || (decide (48 ≤ m) && decide (m ≤ 57))) = true from by simp; omega]
    clear h
    go_enter Tryz.func39, Tryz.ntmps39
    go_wp2_with fail
    go_ret
    exact ⟨rfl, rfl⟩
  · skip
    have g65 : (decide ((65 : Int) ≤ (m : Int))) = true := by simp; omega
    have l90 : (decide ((m : Int) ≤ 90)) = false := by simp; omega
    have g97 : (decide ((97 : Int) ≤ (m : Int))) = false := by simp; omega
    have l122 : (decide ((m : Int) ≤ 122)) = true := by simp; omega
    have g48 : (decide ((48 : Int) ≤ (m : Int))) = true := by simp; omega
    have l57 : (decide ((m : Int) ≤ 57)) = false := by simp; omega
    rw [show ((decide (65 ≤ m) && decide (m ≤ 90)) || (decide (97 ≤ m) && decide (m ≤ 122)) || (decide (48 ≤ m) && decide (m ≤ 57))) = false from by simp; omega]
    clear h
    go_enter Tryz.func39, Tryz.ntmps39
    go_wp2_with (first | (go_at_call 54; (with_reducible refine (HB.out).mono ?_); (rintro e w1 ⟨rfl, hq⟩); subst w1))
    go_ret
    exact ⟨rfl, rfl⟩
  · skip
    have g65 : (decide ((65 : Int) ≤ (m : Int))) = true := by simp; omega
    have l90 : (decide ((m : Int) ≤ 90)) = false := by simp; omega
    have g97 : (decide ((97 : Int) ≤ (m : Int))) = true := by simp; omega
    have l122 : (decide ((m : Int) ≤ 122)) = true := by simp; omega
    have g48 : (decide ((48 : Int) ≤ (m : Int))) = true := by simp; omega
    have l57 : (decide ((m : Int) ≤ 57)) = false := by simp; omega
    rw [show ((decide (65 ≤ m) && decide (m ≤ 90)) || (decide (97 ≤ m) && decide (m ≤ 122)) || (decide (48 ≤ m) && decide (m ≤ 57))) = true from by simp; omega]
    clear h
    go_enter Tryz.func39, Tryz.ntmps39
    go_wp2_with fail
    go_ret
    exact ⟨rfl, rfl⟩
  · skip
    have g65 : (decide ((65 : Int) ≤ (m : Int))) = true := by simp; omega
    have l90 : (decide ((m : Int) ≤ 90)) = false := by simp; omega
    have g97 : (decide ((97 : Int) ≤ (m : Int))) = true := by simp; omega
    have l122 : (decide ((m : Int) ≤ 122)) = false := by simp; omega
    have g48 : (decide ((48 : Int) ≤ (m : Int))) = true := by simp; omega
    have l57 : (decide ((m : Int) ≤ 57)) = false := by simp; omega
    rw [show ((decide (65 ≤ m) && decide (m ≤ 90)) || (decide (97 ≤ m) && decide (m ≤ 122)) || (decide (48 ≤ m) && decide (m ≤ 57))) = false from by simp; omega]
    clear h
    go_enter Tryz.func39, Tryz.ntmps39
    go_wp2_with (first | (go_at_call 54; (with_reducible refine (HB.out).mono ?_); (rintro e w1 ⟨rfl, hq⟩); subst w1))
    go_ret
    exact ⟨rfl, rfl⟩
theorem sv1_any (c : UInt8) (w : World) : Calls Tryz.prog 37 #[vb c] w fun e w' => e = .returned (.bool (clnB c)) ∧ w' = w := by
  unfold clnB
  have H : Hid (∀ w', Calls Tryz.prog 38 #[vb c] w' fun e w2 => e = .returned (.bool (oddB c)) ∧ w2 = w') := fun w' => odd_any c w'
  generalize oddB c = B at *
  unfold vb at *
  generalize (c.toNat : Int) = m at *
  go_enter Tryz.func37, Tryz.ntmps37
  go_wp2_with (first | (go_at_call 38; (with_reducible refine (H.out _).mono ?_); (rintro e w1 ⟨rfl, hq⟩); subst w1))
  go_ret
  exact ⟨rfl, rfl⟩
end Go.Proofs.YtonchnmcklgpoaaGreatDoor
