/-
  Alnum, inName, Name, transeptref09.Name. No condition.
-/
import Derived.Test.YtonchnmcklgpoaaGreatDoorPa
namespace Go.Proofs.YtonchnmcklgpoaaGreatDoor
open Go.RowKit
set_option linter.unusedVariables false

theorem aln_at (c : UInt8) (m : Nat) (hm : m = c.toNat) : aln c = ((decide (48 ≤ m) && decide (m ≤ 57)) || (decide (65 ≤ m) && decide (m ≤ 90)) || (decide (97 ≤ m) && decide (m ≤ 122))) := by rw [hm]; rfl
set_option maxHeartbeats 4000000 in
set_option maxRecDepth 100000 in
theorem aln_any (c : UInt8) (w : World) : Calls Tryz.prog 44 #[vb c] w fun e w' => e = .returned (.bool (aln c)) ∧ w' = w := by
  unfold vb
  obtain ⟨m, hm⟩ : ∃ m, m = c.toNat := ⟨_, rfl⟩
  rw [aln_at c m hm, ← hm]
  clear hm
  rcases (by omega : m < 48 ∨ (48 ≤ m ∧ m ≤ 57) ∨ (57 < m ∧ m < 65) ∨ (65 ≤ m ∧ m ≤ 90) ∨ (90 < m ∧ m < 97) ∨ (97 ≤ m ∧ m ≤ 122) ∨ 122 < m) with h | h | h | h | h | h | h
  · have hr : ((decide (48 ≤ m) && decide (m ≤ 57)) || (decide (65 ≤ m) && decide (m ≤ 90)) || (decide (97 ≤ m) && decide (m ≤ 122))) = false := by simp; omega
    have g48 : decide ((48 : Int) ≤ (m : Int)) = false := by simp; omega
    have l57 : decide ((m : Int) ≤ 57) = true := by simp; omega
    have g65 : decide ((65 : Int) ≤ (m : Int)) = false := by simp; omega
    have l90 : decide ((m : Int) ≤ 90) = true := by simp; omega
    have g97 : decide ((97 : Int) ≤ (m : Int)) = false := by simp; omega
    have l122 : decide ((m : Int) ≤ 122) = true := by simp; omega
    rw [hr]
    clear h hr
    go_enter Tryz.func44, Tryz.ntmps44
    go_wp2_with fail
    go_ret
    exact ⟨rfl, rfl⟩
  · have hr : ((decide (48 ≤ m) && decide (m ≤ 57)) || (decide (65 ≤ m) && decide (m ≤ 90)) || (decide (97 ≤ m) && decide (m ≤ 122))) = true := by simp; omega
    have g48 : decide ((48 : Int) ≤ (m : Int)) = true := by simp; omega
    have l57 : decide ((m : Int) ≤ 57) = true := by simp; omega
    have g65 : decide ((65 : Int) ≤ (m : Int)) = false := by simp; omega
    have l90 : decide ((m : Int) ≤ 90) = true := by simp; omega
    have g97 : decide ((97 : Int) ≤ (m : Int)) = false := by simp; omega
    have l122 : decide ((m : Int) ≤ 122) = true := by simp; omega
    rw [hr]
    clear h hr
    go_enter Tryz.func44, Tryz.ntmps44
    go_wp2_with fail
    go_ret
    exact ⟨rfl, rfl⟩
  · have hr : ((decide (48 ≤ m) && decide (m ≤ 57)) || (decide (65 ≤ m) && decide (m ≤ 90)) || (decide (97 ≤ m) && decide (m ≤ 122))) = false := by simp; omega
    have g48 : decide ((48 : Int) ≤ (m : Int)) = true := by simp; omega
    have l57 : decide ((m : Int) ≤ 57) = false := by simp; omega
    have g65 : decide ((65 : Int) ≤ (m : Int)) = false := by simp; omega
    have l90 : decide ((m : Int) ≤ 90) = true := by simp; omega
    have g97 : decide ((97 : Int) ≤ (m : Int)) = false := by simp; omega
    have l122 : decide ((m : Int) ≤ 122) = true := by simp; omega
    rw [hr]
    clear h hr
    go_enter Tryz.func44, Tryz.ntmps44
    go_wp2_with fail
    go_ret
    exact ⟨rfl, rfl⟩
  · have hr : ((decide (48 ≤ m) && decide (m ≤ 57)) || (decide (65 ≤ m) && decide (m ≤ 90)) || (decide (97 ≤ m) && decide (m ≤ 122))) = true := by simp; omega
    have g48 : decide ((48 : Int) ≤ (m : Int)) = true := by simp; omega
    have l57 : decide ((m : Int) ≤ 57) = false := by simp; omega
    have g65 : decide ((65 : Int) ≤ (m : Int)) = true := by simp; omega
    have l90 : decide ((m : Int) ≤ 90) = true := by simp; omega
    have g97 : decide ((97 : Int) ≤ (m : Int)) = false := by simp; omega
    have l122 : decide ((m : Int) ≤ 122) = true := by simp; omega
    rw [hr]
    clear h hr
    go_enter Tryz.func44, Tryz.ntmps44
    go_wp2_with fail
    go_ret
    exact ⟨rfl, rfl⟩
  · have hr : ((decide (48 ≤ m) && decide (m ≤ 57)) || (decide (65 ≤ m) && decide (m ≤ 90)) || (decide (97 ≤ m) && decide (m ≤ 122))) = false := by simp; omega
    have g48 : decide ((48 : Int) ≤ (m : Int)) = true := by simp; omega
    have l57 : decide ((m : Int) ≤ 57) = false := by simp; omega
    have g65 : decide ((65 : Int) ≤ (m : Int)) = true := by simp; omega
    have l90 : decide ((m : Int) ≤ 90) = false := by simp; omega
    have g97 : decide ((97 : Int) ≤ (m : Int)) = false := by simp; omega
    have l122 : decide ((m : Int) ≤ 122) = true := by simp; omega
    rw [hr]
    clear h hr
    go_enter Tryz.func44, Tryz.ntmps44
    go_wp2_with fail
    go_ret
    exact ⟨rfl, rfl⟩
  · have hr : ((decide (48 ≤ m) && decide (m ≤ 57)) || (decide (65 ≤ m) && decide (m ≤ 90)) || (decide (97 ≤ m) && decide (m ≤ 122))) = true := by simp; omega
    have g48 : decide ((48 : Int) ≤ (m : Int)) = true := by simp; omega
    have l57 : decide ((m : Int) ≤ 57) = false := by simp; omega
    have g65 : decide ((65 : Int) ≤ (m : Int)) = true := by simp; omega
    have l90 : decide ((m : Int) ≤ 90) = false := by simp; omega
    have g97 : decide ((97 : Int) ≤ (m : Int)) = true := by simp; omega
    have l122 : decide ((m : Int) ≤ 122) = true := by simp; omega
    rw [hr]
    clear h hr
    go_enter Tryz.func44, Tryz.ntmps44
    go_wp2_with fail
    go_ret
    exact ⟨rfl, rfl⟩
  · have hr : ((decide (48 ≤ m) && decide (m ≤ 57)) || (decide (65 ≤ m) && decide (m ≤ 90)) || (decide (97 ≤ m) && decide (m ≤ 122))) = false := by simp; omega
    have g48 : decide ((48 : Int) ≤ (m : Int)) = true := by simp; omega
    have l57 : decide ((m : Int) ≤ 57) = false := by simp; omega
    have g65 : decide ((65 : Int) ≤ (m : Int)) = true := by simp; omega
    have l90 : decide ((m : Int) ≤ 90) = false := by simp; omega
    have g97 : decide ((97 : Int) ≤ (m : Int)) = true := by simp; omega
    have l122 : decide ((m : Int) ≤ 122) = false := by simp; omega
    rw [hr]
    clear h hr
    go_enter Tryz.func44, Tryz.ntmps44
    go_wp2_with fail
    go_ret
    exact ⟨rfl, rfl⟩
theorem indexByte_iff (c : UInt8) : ∀ l : List UInt8, decide (0 ≤ Lib.indexByte l c) = l.contains c := by
  intro l
  induction l with
  | nil => simp [Lib.indexByte]
  | cons b l ih =>
    unfold Lib.indexByte
    have hg := Lib.indexByte_ge l c
    rw [List.contains_cons, ← ih]
    by_cases h : b = c
    · subst h
      simp
    · have h' : (c == b) = false := by simpa using fun e => h e.symm
      rw [if_neg (by simpa using h), h', Bool.false_or]
      by_cases h2 : Lib.indexByte l c = -1
      · rw [h2]; rfl
      · rw [if_neg (by simpa using h2)]
        have : 0 ≤ Lib.indexByte l c := by omega
        rw [decide_eq_true this, decide_eq_true (by omega)]
theorem sgn_any (c : UInt8) (w : World) : ∃ i : Int, (decide (0 ≤ i) = sg1.contains c) ∧ Calls Tryz.prog 54 #[.string ⟨#[33, 35, 36, 37, 38, 39, 42, 43, 45, 46, 94, 95, 124, 126, 96]⟩, .int .u8 (c.toNat : Int)] w fun e w' => e = .returned (.int .i64 i) ∧ w' = w := by
  refine ⟨Lib.indexByte sg1 c, indexByte_iff c sg1, ?_⟩
  have h := Tryz.strings_IndexByte ⟨#[33, 35, 36, 37, 38, 39, 42, 43, 45, 46, 94, 95, 124, 126, 96]⟩ (c.toNat : Int) w
  have e : ((c.toNat : Int).toNat.toUInt8) = c := by simp
  rw [e] at h
  exact h
theorem inN_at (c : UInt8) (m : Nat) (hm : m = c.toNat) : inN c = (((decide (48 ≤ m) && decide (m ≤ 57)) || (decide (65 ≤ m) && decide (m ≤ 90)) || (decide (97 ≤ m) && decide (m ≤ 122))) || sg1.contains c) := by rw [hm]; rfl
set_option maxHeartbeats 4000000 in
set_option maxRecDepth 100000 in
theorem inN_any (c : UInt8) (w : World) : Calls Tryz.prog 73 #[vb c] w fun e w' => e = .returned (.bool (inN c)) ∧ w' = w := by
  unfold vb
  obtain ⟨i, hi, hB⟩ := sgn_any c w
  have HB := Lib.hid hB
  clear hB
  obtain ⟨m, hm⟩ : ∃ m, m = c.toNat := ⟨_, rfl⟩
  rw [inN_at c m hm, ← hi, ← hm]
  rw [← hm] at HB
  clear hm hi
  rcases (by omega : m < 48 ∨ (48 ≤ m ∧ m ≤ 57) ∨ (57 < m ∧ m < 65) ∨ (65 ≤ m ∧ m ≤ 90) ∨ (90 < m ∧ m < 97) ∨ (97 ≤ m ∧ m ≤ 122) ∨ 122 < m) with h | h | h | h | h | h | h
  · have hr : ((decide (48 ≤ m) && decide (m ≤ 57)) || (decide (65 ≤ m) && decide (m ≤ 90)) || (decide (97 ≤ m) && decide (m ≤ 122))) = false := by simp; omega
    have g48 : decide ((48 : Int) ≤ (m : Int)) = false := by simp; omega
    have l57 : decide ((m : Int) ≤ 57) = true := by simp; omega
    have g65 : decide ((65 : Int) ≤ (m : Int)) = false := by simp; omega
    have l90 : decide ((m : Int) ≤ 90) = true := by simp; omega
    have g97 : decide ((97 : Int) ≤ (m : Int)) = false := by simp; omega
    have l122 : decide ((m : Int) ≤ 122) = true := by simp; omega
    rw [hr]
    clear h hr
    go_enter Tryz.func73, Tryz.ntmps73
    go_wp2_with (go_at_call 54; (with_reducible refine (HB.out).mono ?_); (rintro e w1 ⟨rfl, rfl⟩))
    go_ret
    exact ⟨rfl, rfl⟩
  · have hr : ((decide (48 ≤ m) && decide (m ≤ 57)) || (decide (65 ≤ m) && decide (m ≤ 90)) || (decide (97 ≤ m) && decide (m ≤ 122))) = true := by simp; omega
    have g48 : decide ((48 : Int) ≤ (m : Int)) = true := by simp; omega
    have l57 : decide ((m : Int) ≤ 57) = true := by simp; omega
    have g65 : decide ((65 : Int) ≤ (m : Int)) = false := by simp; omega
    have l90 : decide ((m : Int) ≤ 90) = true := by simp; omega
    have g97 : decide ((97 : Int) ≤ (m : Int)) = false := by simp; omega
    have l122 : decide ((m : Int) ≤ 122) = true := by simp; omega
    rw [hr]
    clear h hr
    go_enter Tryz.func73, Tryz.ntmps73
    go_wp2_with fail
    go_ret
    exact ⟨rfl, rfl⟩
  · have hr : ((decide (48 ≤ m) && decide (m ≤ 57)) || (decide (65 ≤ m) && decide (m ≤ 90)) || (decide (97 ≤ m) && decide (m ≤ 122))) = false := by simp; omega
    have g48 : decide ((48 : Int) ≤ (m : Int)) = true := by simp; omega
    have l57 : decide ((m : Int) ≤ 57) = false := by simp; omega
    have g65 : decide ((65 : Int) ≤ (m : Int)) = false := by simp; omega
    have l90 : decide ((m : Int) ≤ 90) = true := by simp; omega
    have g97 : decide ((97 : Int) ≤ (m : Int)) = false := by simp; omega
    have l122 : decide ((m : Int) ≤ 122) = true := by simp; omega
    rw [hr]
    clear h hr
    go_enter Tryz.func73, Tryz.ntmps73
    go_wp2_with (go_at_call 54; (with_reducible refine (HB.out).mono ?_); (rintro e w1 ⟨rfl, rfl⟩))
    go_ret
    exact ⟨rfl, rfl⟩
  · have hr : ((decide (48 ≤ m) && decide (m ≤ 57)) || (decide (65 ≤ m) && decide (m ≤ 90)) || (decide (97 ≤ m) && decide (m ≤ 122))) = true := by simp; omega
    have g48 : decide ((48 : Int) ≤ (m : Int)) = true := by simp; omega
    have l57 : decide ((m : Int) ≤ 57) = false := by simp; omega
    have g65 : decide ((65 : Int) ≤ (m : Int)) = true := by simp; omega
    have l90 : decide ((m : Int) ≤ 90) = true := by simp; omega
    have g97 : decide ((97 : Int) ≤ (m : Int)) = false := by simp; omega
    have l122 : decide ((m : Int) ≤ 122) = true := by simp; omega
    rw [hr]
    clear h hr
    go_enter Tryz.func73, Tryz.ntmps73
    go_wp2_with fail
    go_ret
    exact ⟨rfl, rfl⟩
  · have hr : ((decide (48 ≤ m) && decide (m ≤ 57)) || (decide (65 ≤ m) && decide (m ≤ 90)) || (decide (97 ≤ m) && decide (m ≤ 122))) = false := by simp; omega
    have g48 : decide ((48 : Int) ≤ (m : Int)) = true := by simp; omega
    have l57 : decide ((m : Int) ≤ 57) = false := by simp; omega
    have g65 : decide ((65 : Int) ≤ (m : Int)) = true := by simp; omega
    have l90 : decide ((m : Int) ≤ 90) = false := by simp; omega
    have g97 : decide ((97 : Int) ≤ (m : Int)) = false := by simp; omega
    have l122 : decide ((m : Int) ≤ 122) = true := by simp; omega
    rw [hr]
    clear h hr
    go_enter Tryz.func73, Tryz.ntmps73
    go_wp2_with (go_at_call 54; (with_reducible refine (HB.out).mono ?_); (rintro e w1 ⟨rfl, rfl⟩))
    go_ret
    exact ⟨rfl, rfl⟩
  · have hr : ((decide (48 ≤ m) && decide (m ≤ 57)) || (decide (65 ≤ m) && decide (m ≤ 90)) || (decide (97 ≤ m) && decide (m ≤ 122))) = true := by simp; omega
    have g48 : decide ((48 : Int) ≤ (m : Int)) = true := by simp; omega
    have l57 : decide ((m : Int) ≤ 57) = false := by simp; omega
    have g65 : decide ((65 : Int) ≤ (m : Int)) = true := by simp; omega
    have l90 : decide ((m : Int) ≤ 90) = false := by simp; omega
    have g97 : decide ((97 : Int) ≤ (m : Int)) = true := by simp; omega
    have l122 : decide ((m : Int) ≤ 122) = true := by simp; omega
    rw [hr]
    clear h hr
    go_enter Tryz.func73, Tryz.ntmps73
    go_wp2_with fail
    go_ret
    exact ⟨rfl, rfl⟩
  · have hr : ((decide (48 ≤ m) && decide (m ≤ 57)) || (decide (65 ≤ m) && decide (m ≤ 90)) || (decide (97 ≤ m) && decide (m ≤ 122))) = false := by simp; omega
    have g48 : decide ((48 : Int) ≤ (m : Int)) = true := by simp; omega
    have l57 : decide ((m : Int) ≤ 57) = false := by simp; omega
    have g65 : decide ((65 : Int) ≤ (m : Int)) = true := by simp; omega
    have l90 : decide ((m : Int) ≤ 90) = false := by simp; omega
    have g97 : decide ((97 : Int) ≤ (m : Int)) = true := by simp; omega
    have l122 : decide ((m : Int) ≤ 122) = false := by simp; omega
    rw [hr]
    clear h hr
    go_enter Tryz.func73, Tryz.ntmps73
    go_wp2_with (go_at_call 54; (with_reducible refine (HB.out).mono ?_); (rintro e w1 ⟨rfl, rfl⟩))
    go_ret
    exact ⟨rfl, rfl⟩
theorem inN_sg2 (c : UInt8) : inN c = (aln c || sg2.contains c) := by
  refine u8_all (P := fun c => inN c = (aln c || sg2.contains c)) ?_ c
  decide +kernel
theorem str_empty (l : List UInt8) : (str l).toList.isEmpty = decide (l = []) := by
  rw [toList_str]; cases l <;> simp
set_option maxHeartbeats 4000000 in
set_option maxRecDepth 100000 in
theorem name_any (l : List UInt8) (w : World) (hl : l.length ≤ 9223372036854775807) : Calls Tryz.prog 65 #[.string (str l)] w fun e w' => e = .returned (.bool (nmb l)) ∧ w' = w := by
  have hsz := str_size l
  have hgb : Hid (∀ k, k < l.length → ∀ h, ((str l)[k]'h).toNat = (l.getD k 0).toNat) := fun k hk h => str_at l k hk h
  have hdr : Hid (∀ k, k < l.length → (l.drop k).all inN = (inN (l.getD k 0) && (l.drop (k + 1)).all inN)) := fun k hk => by rw [drop_at l k hk, List.all_cons]
  have hend : Hid ((l.drop l.length).all inN = true) := by show _ = _; rw [List.drop_length]; rfl
  obtain ⟨Q, hQ⟩ : ∃ Q, Q = l.all inN := ⟨_, rfl⟩
  have HQ := Lib.hid hQ
  have hem := str_empty l
  obtain ⟨E, hE⟩ : ∃ E, E = decide (l = []) := ⟨_, rfl⟩
  obtain ⟨R, hR⟩ : ∃ R, R = nmb l := ⟨_, rfl⟩
  have HR : Hid (R = (Q && !E)) := by show _ = _; rw [hR, hQ, hE]; unfold nmb; simp
  rw [← hR]
  rw [← hE] at hem
  obtain ⟨S, hS⟩ : ∃ S, S = l.length := ⟨_, rfl⟩
  rw [← hS] at hsz hgb hdr hend hl
  clear hS hR hE hQ
  go_enter Tryz.func65, Tryz.ntmps65
  go_wp2_with fail
  go_loop [6] (fun i => ∃ k : Nat, k ≤ S ∧ i = .int .i64 (k : Int) ∧ (l.drop k).all inN = Q) (fun i => S - (intOf i).toNat)
  case atStart => exact ⟨0, by omega, rfl, by rw [List.drop_zero]; exact HQ.out.symm⟩
  case round =>
    obtain ⟨k, hk, rfl, hA⟩ := hrel
    have HA := Lib.hid hA
    clear hA
    by_cases hlt : k < S
    · have hkS : (k : Int) < (S : Int) := by omega
      have HG := hgb.out k hlt
      have HD := hdr.out k hlt
      obtain ⟨x, hx⟩ : ∃ x, x = l.getD k 0 := ⟨_, rfl⟩
      rw [← hx] at HG HD
      have HD := Lib.hid HD
      have HI := inN_any x w
      unfold vb at HI
      obtain ⟨b, hbb⟩ : ∃ b, b = x.toNat := ⟨_, rfl⟩
      rw [← hbb] at HG HI
      have HI := Lib.hid HI
      clear hx hbb
      cases hin : inN x
      · rw [hin] at HI
        have HX := Lib.hid hin
        clear hin
        go_wp2_with (go_at_call 73; (with_reducible refine (HI.out).mono ?_); (rintro e w1 ⟨rfl, rfl⟩))
        go_ret
        refine ⟨?_, rfl⟩
        rw [HR.out, ← HA.out, HD.out, HX.out]
        rfl
      · rw [hin] at HI
        have HX := Lib.hid hin
        clear hin
        go_wp2_with (go_at_call 73; (with_reducible refine (HI.out).mono ?_); (rintro e w1 ⟨rfl, rfl⟩))
        go_round
        case rel => exact ⟨k + 1, by omega, by go_num, by rw [← HA.out, HD.out, HX.out]; rfl⟩
        case measure => simp [intOf]; omega
    · have hkS : ¬ (k : Int) < (S : Int) := by omega
      have hke : Hid (k = S) := by show _ = _; omega
      go_wp2_with fail
      go_ret
      refine ⟨?_, rfl⟩
      rw [HR.out, ← HA.out, hke.out, hend.out]
      cases E <;> rfl
set_option maxHeartbeats 4000000 in
set_option maxRecDepth 100000 in
theorem rname_any (l : List UInt8) (w : World) (hl : l.length ≤ 9223372036854775807) : Calls Tryz.prog 47 #[.string (str l)] w fun e w' => e = .returned (.bool (nmb l)) ∧ w' = w := by
  have hsz := str_size l
  have hgb : Hid (∀ k, k < l.length → ∀ h, ((str l)[k]'h).toNat = (l.getD k 0).toNat) := fun k hk h => str_at l k hk h
  have hdr : Hid (∀ k, k < l.length → (l.drop k).all inN = (inN (l.getD k 0) && (l.drop (k + 1)).all inN)) := fun k hk => by rw [drop_at l k hk, List.all_cons]
  have hend : Hid ((l.drop l.length).all inN = true) := by show _ = _; rw [List.drop_length]; rfl
  obtain ⟨Q, hQ⟩ : ∃ Q, Q = l.all inN := ⟨_, rfl⟩
  have HQ := Lib.hid hQ
  have hem := str_empty l
  obtain ⟨E, hE⟩ : ∃ E, E = decide (l = []) := ⟨_, rfl⟩
  obtain ⟨R, hR⟩ : ∃ R, R = nmb l := ⟨_, rfl⟩
  have HR : Hid (R = (Q && !E)) := by show _ = _; rw [hR, hQ, hE]; unfold nmb; simp
  rw [← hR]
  rw [← hE] at hem
  obtain ⟨S, hS⟩ : ∃ S, S = l.length := ⟨_, rfl⟩
  rw [← hS] at hsz hgb hdr hend hl
  clear hS hR hE hQ
  go_enter Tryz.func47, Tryz.ntmps47
  go_wp2_with fail
  go_loop [3] (fun i => ∃ k : Nat, k ≤ S ∧ i = .int .i64 (k : Int) ∧ (l.drop k).all inN = Q) (fun i => S - (intOf i).toNat)
  case atStart => exact ⟨0, by omega, rfl, by rw [List.drop_zero]; exact HQ.out.symm⟩
  case round =>
    obtain ⟨k, hk, rfl, hA⟩ := hrel
    have HA := Lib.hid hA
    clear hA
    by_cases hlt : k < S
    · have hkS : (k : Int) < (S : Int) := by omega
      have HG := hgb.out k hlt
      have HD := hdr.out k hlt
      obtain ⟨x, hx⟩ : ∃ x, x = l.getD k 0 := ⟨_, rfl⟩
      rw [← hx] at HG HD
      have HD := Lib.hid HD
      have HI := aln_any x w
      have HJ := in_any sg2 x w (by decide)
      have hor : inN x = (aln x || sg2.contains x) := by rw [inN_sg2]
      unfold vb at HI HJ
      obtain ⟨b, hbb⟩ : ∃ b, b = x.toNat := ⟨_, rfl⟩
      rw [← hbb] at HG HI HJ
      have HI := Lib.hid HI
      have HJ : Hid (Calls Tryz.prog 43 #[.string ⟨#[33, 35, 36, 37, 38, 39, 42, 43, 45, 46, 94, 95, 96, 124, 126]⟩, .int .u8 (b : Int)] w fun e w' => e = .returned (.bool (sg2.contains x)) ∧ w' = w) := HJ
      have hor := Lib.hid hor
      clear hx hbb
      cases ha : aln x
      · rw [ha] at HI hor
        cases hs : sg2.contains x
        · rw [hs] at HJ hor
          have HX : Hid (inN x = false) := by show _ = _; rw [hor.out]; rfl
          clear ha hs hor
          go_wp2_with (first | (go_at_call 44; (with_reducible refine (HI.out).mono ?_); (rintro e w1 ⟨rfl, rfl⟩)) | (go_at_call 43; (with_reducible refine (HJ.out).mono ?_); (rintro e w1 ⟨rfl, rfl⟩)))
          go_ret
          refine ⟨?_, rfl⟩
          rw [HR.out, ← HA.out, HD.out, HX.out]
          rfl
        · rw [hs] at HJ hor
          have HX : Hid (inN x = true) := by show _ = _; rw [hor.out]; rfl
          clear ha hs hor
          go_wp2_with (first | (go_at_call 44; (with_reducible refine (HI.out).mono ?_); (rintro e w1 ⟨rfl, rfl⟩)) | (go_at_call 43; (with_reducible refine (HJ.out).mono ?_); (rintro e w1 ⟨rfl, rfl⟩)))
          go_round
          case rel => exact ⟨k + 1, by omega, by go_num, by rw [← HA.out, HD.out, HX.out]; rfl⟩
          case measure => simp [intOf]; omega
      · rw [ha] at HI hor
        have HX : Hid (inN x = true) := by show _ = _; rw [hor.out]; rfl
        clear ha hor HJ
        go_wp2_with (go_at_call 44; (with_reducible refine (HI.out).mono ?_); (rintro e w1 ⟨rfl, rfl⟩))
        go_round
        case rel => exact ⟨k + 1, by omega, by go_num, by rw [← HA.out, HD.out, HX.out]; rfl⟩
        case measure => simp [intOf]; omega
    · have hkS : ¬ (k : Int) < (S : Int) := by omega
      have hke : Hid (k = S) := by show _ = _; omega
      go_wp2_with fail
      go_ret
      refine ⟨?_, rfl⟩
      rw [HR.out, ← HA.out, hke.out, hend.out]
      cases E <;> rfl
end Go.Proofs.YtonchnmcklgpoaaGreatDoor
