/-
  What mime.Essence and transeptref11.Essence answer. No condition but sizes.
-/
import Derived.Test.YtonchnmcklgpoaaGreatDoorEa
import Derived.Test.YtonchnmcklgpoaaGreatDoorLo
import Derived.Test.YtonchnmcklgpoaaGreatDoorPa
namespace Go.Proofs.YtonchnmcklgpoaaGreatDoor
open Go.RowKit
set_option linter.unusedVariables false

set_option maxHeartbeats 4000000 in
set_option maxRecDepth 100000 in
theorem ess_any (l : List UInt8) (w : World) (hl : l.length ≤ 4611686018427387904) : Calls Tryz.prog 55 #[.string (str l)] w fun e w' => e = .returned (.tuple #[.string (str (esS l)), .bool (esB l)]) ∧ Below w.heap.size w w' := by
  have H1 : Hid (∀ w', Calls Tryz.prog 57 #[.string (str l), .string ⟨#[59]⟩] w' fun e w2 => e = .returned (.tuple #[.string (str (bef 59 l)), .string (str (aft 59 l)), .bool (l.contains 59)]) ∧ Below w'.heap.size w' w2) := fun w' => cut_any l 59 w' (by omega)
  have hb0 := bef_len 59 l
  have H2 : Hid (∀ w', Calls Tryz.prog 64 #[.string (str (bef 59 l))] w' fun e w2 => e = .returned (.string (str (tr (bef 59 l)))) ∧ Below w'.heap.size w' w2) := fun w' => tok_trim_any (bef 59 l) w' (by omega)
  have ht0 : (tr (bef 59 l)).length ≤ (bef 59 l).length := tS_len _ _
  have H3 : Hid (∀ w', Calls Tryz.prog 57 #[.string (str (tr (bef 59 l))), .string ⟨#[47]⟩] w' fun e w2 => e = .returned (.tuple #[.string (str (kd l)), .string (str (sbt l)), .bool ((tr (bef 59 l)).contains 47)]) ∧ Below w'.heap.size w' w2) := fun w' => cut_any (tr (bef 59 l)) 47 w' (by omega)
  have HLl := Nat.le_trans (es_len l) hl
  have H4 : Hid (∀ w', Calls Tryz.prog 65 #[.string (str (kd l))] w' fun e w2 => e = .returned (.bool (nmb (kd l))) ∧ w2 = w') := fun w' => name_any (kd l) w' (by omega)
  have H5 : Hid (∀ w', Calls Tryz.prog 65 #[.string (str (sbt l))] w' fun e w2 => e = .returned (.bool (nmb (sbt l))) ∧ w2 = w') := fun w' => name_any (sbt l) w' (by omega)
  have HK1 : Hid (∀ w', Calls Tryz.prog 29 #[.string (str (kd l))] w' fun e w2 => e = .returned (.string (str (low (kd l)))) ∧ Below w'.heap.size w' w2) := fun w' => lower_any (kd l) w' (by omega)
  have HK2 : Hid (∀ w', Calls Tryz.prog 29 #[.string (str (sbt l))] w' fun e w2 => e = .returned (.string (str (low (sbt l)))) ∧ Below w'.heap.size w' w2) := fun w' => lower_any (sbt l) w' (by omega)
  generalize bef 59 l = X1 at *
  generalize aft 59 l = X2 at *
  generalize l.contains 59 = X3 at *
  generalize tr X1 = X4 at *
  generalize X4.contains 47 = X5 at *
  obtain ⟨n1, e1⟩ : ∃ n, n = nmb (kd l) := ⟨_, rfl⟩
  obtain ⟨n2, e2⟩ : ∃ n, n = nmb (sbt l) := ⟨_, rfl⟩
  have HB : Hid (esB l = (n1 && n2)) := by show _ = _; rw [e1, e2]; rfl
  rw [← e1] at H4
  rw [← e2] at H5
  clear e1 e2 hb0 ht0
  obtain ⟨Y, hY⟩ : ∃ Y, Y = low (kd l) ++ [47] ++ low (sbt l) := ⟨_, rfl⟩
  have HS : Hid (esB l = true → esS l = Y) := fun h => by rw [hY]; exact esS_yes h
  have hk := low_length (kd l)
  have hs := low_length (sbt l)
  generalize kd l = K at *
  generalize sbt l = T at *
  generalize low K = LK at *
  generalize low T = LT at *
  obtain ⟨Z, hZ⟩ : ∃ Z, Z = LK ++ [47] := ⟨_, rfl⟩
  have q1 : str LK ++ ⟨#[47]⟩ = str Z := by rw [hZ]; exact str_add LK [47]
  have q2 : str Z ++ str LT = str Y := by rw [hY, ← hZ]; exact str_add Z LT
  have p1 : ¬ 9223372036854775807 < (str LK).size + 1 := by rw [str_size]; omega
  have p2 : ¬ 9223372036854775807 < (str Z).size + (str LT).size := by rw [str_size, str_size, hZ, List.length_append, List.length_singleton]; omega
  clear hY hZ hk hs HLl hl
  cases n1
  · have HB2 : Hid (esB l = false) := HB.out
    clear HB HS q1 q2 p1 p2
    rw [HB2.out, esS_no HB2.out]
    go_enter Tryz.func55, Tryz.ntmps55
    go_wp2_with (first
      | (go_at_call 57; (with_reducible refine (H1.out _).mono ?_); (rintro e w1 ⟨rfl, hb⟩); have HZ1 := Lib.hid hb; clear hb; clear H1)
      | (go_at_call 64; (with_reducible refine (H2.out _).mono ?_); (rintro e w2 ⟨rfl, hb⟩); have HZ2 := Lib.hid (HZ1.out.trans (hb.mono HZ1.out.size)); clear hb)
      | (go_at_call 57; (with_reducible refine (H3.out _).mono ?_); (rintro e w3 ⟨rfl, hb⟩); have HZ3 := Lib.hid (HZ2.out.trans (hb.mono HZ2.out.size)); clear hb)
      | (go_at_call 65; (with_reducible refine (H4.out _).mono ?_); (rintro e w4 ⟨rfl, hq4⟩); subst w4; clear H4))
    go_ret2
    exact ⟨rfl, HZ3.out⟩
  · cases n2
    · have HB2 : Hid (esB l = false) := HB.out
      clear HB HS q1 q2 p1 p2
      rw [HB2.out, esS_no HB2.out]
      go_enter Tryz.func55, Tryz.ntmps55
      go_wp2_with (first
        | (go_at_call 57; (with_reducible refine (H1.out _).mono ?_); (rintro e w1 ⟨rfl, hb⟩); have HZ1 := Lib.hid hb; clear hb; clear H1)
        | (go_at_call 64; (with_reducible refine (H2.out _).mono ?_); (rintro e w2 ⟨rfl, hb⟩); have HZ2 := Lib.hid (HZ1.out.trans (hb.mono HZ1.out.size)); clear hb)
        | (go_at_call 57; (with_reducible refine (H3.out _).mono ?_); (rintro e w3 ⟨rfl, hb⟩); have HZ3 := Lib.hid (HZ2.out.trans (hb.mono HZ2.out.size)); clear hb)
        | (go_at_call 65; (with_reducible refine (H4.out _).mono ?_); (rintro e w4 ⟨rfl, hq4⟩); subst w4; clear H4)
        | (go_at_call 65; (with_reducible refine (H5.out _).mono ?_); (rintro e w5 ⟨rfl, hq5⟩); subst w5; clear H5))
      go_ret2
      exact ⟨rfl, HZ3.out⟩
    · have HB2 : Hid (esB l = true) := HB.out
      clear HB
      rw [HB2.out, HS.out HB2.out]
      clear HS
      go_enter Tryz.func55, Tryz.ntmps55
      go_wp2_with (first
        | (go_at_call 57; (with_reducible refine (H1.out _).mono ?_); (rintro e w1 ⟨rfl, hb⟩); have HZ1 := Lib.hid hb; clear hb; clear H1)
        | (go_at_call 64; (with_reducible refine (H2.out _).mono ?_); (rintro e w2 ⟨rfl, hb⟩); have HZ2 := Lib.hid (HZ1.out.trans (hb.mono HZ1.out.size)); clear hb)
        | (go_at_call 57; (with_reducible refine (H3.out _).mono ?_); (rintro e w3 ⟨rfl, hb⟩); have HZ3 := Lib.hid (HZ2.out.trans (hb.mono HZ2.out.size)); clear hb)
        | (go_at_call 65; (with_reducible refine (H4.out _).mono ?_); (rintro e w4 ⟨rfl, hq4⟩); subst w4; clear H4)
        | (go_at_call 65; (with_reducible refine (H5.out _).mono ?_); (rintro e w5 ⟨rfl, hq5⟩); subst w5; clear H5)
        | (go_at_call 29; (with_reducible refine (HK1.out _).mono ?_); (rintro e w6 ⟨rfl, hb⟩); have HZ4 := Lib.hid (HZ3.out.trans (hb.mono HZ3.out.size)); clear hb; clear HK1)
        | (go_at_call 29; (with_reducible refine (HK2.out _).mono ?_); (rintro e w7 ⟨rfl, hb⟩); have HZ5 := Lib.hid (HZ4.out.trans (hb.mono HZ4.out.size)); clear hb; clear HK2))
      go_ret2
      exact ⟨rfl, HZ5.out⟩
set_option maxHeartbeats 4000000 in
set_option maxRecDepth 100000 in
theorem ress_any (l : List UInt8) (w : World) (hl : l.length ≤ 4611686018427387904) : Calls Tryz.prog 27 #[.string (str l)] w fun e w' => e = .returned (.tuple #[.string (str (esS l)), .bool (esB l)]) ∧ Below w.heap.size w w' := by
  have H1 : Hid (∀ w', Calls Tryz.prog 45 #[.string (str l), .int .u8 59] w' fun e w2 => e = .returned (.tuple #[.string (str (bef 59 l)), .string (str (aft 59 l)), .bool (l.contains 59)]) ∧ Below w'.heap.size w' w2) := fun w' => until_any l 59 w' (by omega)
  have hb0 := bef_len 59 l
  have H2 : Hid (∀ w', Calls Tryz.prog 46 #[.string (str (bef 59 l))] w' fun e w2 => e = .returned (.string (str (tr (bef 59 l)))) ∧ w2 = w') := fun w' => rtrim_any (bef 59 l) w' (by omega)
  have ht0 : (tr (bef 59 l)).length ≤ (bef 59 l).length := tS_len _ _
  have H3 : Hid (∀ w', Calls Tryz.prog 45 #[.string (str (tr (bef 59 l))), .int .u8 47] w' fun e w2 => e = .returned (.tuple #[.string (str (kd l)), .string (str (sbt l)), .bool ((tr (bef 59 l)).contains 47)]) ∧ Below w'.heap.size w' w2) := fun w' => until_any (tr (bef 59 l)) 47 w' (by omega)
  have HLl := Nat.le_trans (es_len l) hl
  have H4 : Hid (∀ w', Calls Tryz.prog 47 #[.string (str (kd l))] w' fun e w2 => e = .returned (.bool (nmb (kd l))) ∧ w2 = w') := fun w' => rname_any (kd l) w' (by omega)
  have H5 : Hid (∀ w', Calls Tryz.prog 47 #[.string (str (sbt l))] w' fun e w2 => e = .returned (.bool (nmb (sbt l))) ∧ w2 = w') := fun w' => rname_any (sbt l) w' (by omega)
  have HK1 : Hid (∀ w', Calls Tryz.prog 24 #[.string (str (kd l))] w' fun e w2 => e = .returned (.string (str (low (kd l)))) ∧ Below w'.heap.size w' w2) := fun w' => rlower_any (kd l) w' (by omega)
  have HK2 : Hid (∀ w', Calls Tryz.prog 24 #[.string (str (sbt l))] w' fun e w2 => e = .returned (.string (str (low (sbt l)))) ∧ Below w'.heap.size w' w2) := fun w' => rlower_any (sbt l) w' (by omega)
  obtain ⟨ok, eo⟩ : ∃ n, n = (tr (bef 59 l)).contains 47 := ⟨_, rfl⟩
  have HO : ok = false → esB l = false := fun h => by
    have h1 : (47 : UInt8) ∉ tr (bef 59 l) := by rw [eo] at h; simpa using h
    rw [esB, sbt, (bef_none 47 _ h1).2, show nmb [] = false from rfl, Bool.and_false]
  rw [← eo] at H3
  generalize bef 59 l = X1 at *
  generalize aft 59 l = X2 at *
  generalize l.contains 59 = X3 at *
  generalize tr X1 = X4 at *
  obtain ⟨n1, e1⟩ : ∃ n, n = nmb (kd l) := ⟨_, rfl⟩
  obtain ⟨n2, e2⟩ : ∃ n, n = nmb (sbt l) := ⟨_, rfl⟩
  have HB : esB l = (n1 && n2) := by rw [e1, e2]; rfl
  rw [← e1] at H4
  rw [← e2] at H5
  clear e1 e2 eo hb0 ht0
  obtain ⟨Y, hY⟩ : ∃ Y, Y = low (kd l) ++ [47] ++ low (sbt l) := ⟨_, rfl⟩
  have HS : Hid (esB l = true → esS l = Y) := fun h => by rw [hY]; exact esS_yes h
  have hk := low_length (kd l)
  have hs := low_length (sbt l)
  generalize kd l = K at *
  generalize sbt l = T at *
  generalize low K = LK at *
  generalize low T = LT at *
  obtain ⟨Z, hZ⟩ : ∃ Z, Z = LK ++ [47] := ⟨_, rfl⟩
  have q1 : str LK ++ ⟨#[47]⟩ = str Z := by rw [hZ]; exact str_add LK [47]
  have q2 : str Z ++ str LT = str Y := by rw [hY, ← hZ]; exact str_add Z LT
  have p1 : ¬ 9223372036854775807 < (str LK).size + 1 := by rw [str_size]; omega
  have p2 : ¬ 9223372036854775807 < (str Z).size + (str LT).size := by rw [str_size, str_size, hZ, List.length_append, List.length_singleton]; omega
  clear hY hZ hk hs HLl hl
  by_cases hall : ok = true ∧ n1 = true ∧ n2 = true
  · obtain ⟨rfl, rfl, rfl⟩ := hall
    have HB2 : Hid (esB l = true) := HB
    clear HB HO
    rw [HB2.out, HS.out HB2.out]
    clear HS
    go_enter Tryz.func27, Tryz.ntmps27
    go_wp2_with (first
      | (go_at_call 45; (with_reducible refine (H1.out _).mono ?_); (rintro e w1 ⟨rfl, hb⟩); have HZ1 := Lib.hid hb; clear hb; clear H1)
      | (go_at_call 46; (with_reducible refine (H2.out _).mono ?_); (rintro e w2 ⟨rfl, hq2⟩); subst w2)
      | (go_at_call 45; (with_reducible refine (H3.out _).mono ?_); (rintro e w3 ⟨rfl, hb⟩); have HZ2 := Lib.hid (HZ1.out.trans (hb.mono HZ1.out.size)); clear hb)
      | (go_at_call 47; (with_reducible refine (H4.out _).mono ?_); (rintro e w4 ⟨rfl, hq4⟩); subst w4; clear H4)
      | (go_at_call 47; (with_reducible refine (H5.out _).mono ?_); (rintro e w5 ⟨rfl, hq5⟩); subst w5; clear H5)
      | (go_at_call 24; (with_reducible refine (HK1.out _).mono ?_); (rintro e w6 ⟨rfl, hb⟩); have HZ3 := Lib.hid (HZ2.out.trans (hb.mono HZ2.out.size)); clear hb; clear HK1)
      | (go_at_call 24; (with_reducible refine (HK2.out _).mono ?_); (rintro e w7 ⟨rfl, hb⟩); have HZ4 := Lib.hid (HZ3.out.trans (hb.mono HZ3.out.size)); clear hb; clear HK2))
    go_ret2
    exact ⟨rfl, HZ4.out⟩
  · have HB2 : Hid (esB l = false) := by
      show _ = _
      rw [HB]
      cases ok
      · rw [← HB]; exact HO rfl
      · cases n1 <;> cases n2 <;> simp_all
    clear HB HO HS q1 q2 p1 p2
    rw [HB2.out, esS_no HB2.out]
    cases ok <;> cases n1 <;> cases n2
    case true.true.true => exact absurd ⟨rfl, rfl, rfl⟩ hall
    all_goals clear hall
    all_goals go_enter Tryz.func27, Tryz.ntmps27
    all_goals go_wp2_with (first
      | (go_at_call 45; (with_reducible refine (H1.out _).mono ?_); (rintro e w1 ⟨rfl, hb⟩); have HZ1 := Lib.hid hb; clear hb; clear H1)
      | (go_at_call 46; (with_reducible refine (H2.out _).mono ?_); (rintro e w2 ⟨rfl, hq2⟩); subst w2)
      | (go_at_call 45; (with_reducible refine (H3.out _).mono ?_); (rintro e w3 ⟨rfl, hb⟩); have HZ2 := Lib.hid (HZ1.out.trans (hb.mono HZ1.out.size)); clear hb)
      | (go_at_call 47; (with_reducible refine (H4.out _).mono ?_); (rintro e w4 ⟨rfl, hq4⟩); subst w4; clear H4)
      | (go_at_call 47; (with_reducible refine (H5.out _).mono ?_); (rintro e w5 ⟨rfl, hq5⟩); subst w5; clear H5))
    all_goals go_ret2
    all_goals exact ⟨rfl, HZ2.out⟩
end Go.Proofs.YtonchnmcklgpoaaGreatDoor
