/-
  What transeptlaw09's shown, TokenTells, TokenParts and TokenAgain answer: true; nothing that was there turns. Condition for TokenParts: values of at most 2^62 bytes with at most 100000000 parts.
-/
import Derived.Test.YtpkjebagpolfgaaDoorTh
namespace Go.Proofs.YtpkjebagpolfgaaDoor
open Go.RowKit
set_option linter.unusedVariables false

theorem parts_shown : prts [97, 44, 32, 34, 98, 44, 99, 34, 32, 44, 100] = [[97], [34, 98, 44, 99, 34], [100]] := by decide
set_option maxHeartbeats 4000000 in
set_option maxRecDepth 100000 in
theorem shown_any (w : World) : Calls Tryd.prog 10 #[] w fun e w' => e = .returned (.bool true) ∧ Below w.heap.size w w' := by
  have HP : Hid (∀ w', Calls Tryd.prog 25 #[.string ⟨#[97, 44, 32, 34, 98, 44, 99, 34, 32, 44, 100]⟩] w' fun e w2 => ∃ g c, e = .returned (.slice (some ⟨g, 0, none⟩) 3 c) ∧ 3 ≤ c ∧ Ps w2 g [[97], [34, 98, 44, 99, 34], [100]] ∧ Below w'.heap.size w' w2) := fun w' => by
    have h := parts_any [97, 44, 32, 34, 98, 44, 99, 34, 32, 44, 100] w' (by decide) (by rw [parts_shown]; decide)
    rw [parts_shown] at h
    exact h
  have HN1 : Hid (∀ w', Calls Tryd.prog 11 #[.string ⟨#[97, 45, 98]⟩] w' fun e w2 => e = .returned (.bool true) ∧ w2 = w') := fun w' => name_any [97, 45, 98] w' (by decide)
  have HN2 : Hid (∀ w', Calls Tryd.prog 11 #[.string ⟨#[97, 32, 98]⟩] w' fun e w2 => e = .returned (.bool false) ∧ w2 = w') := fun w' => name_any [97, 32, 98] w' (by decide)
  have HV1 : Hid (∀ w', Calls Tryd.prog 13 #[.string ⟨#[97, 32, 98]⟩] w' fun e w2 => e = .returned (.bool true) ∧ Below w'.heap.size w' w2) := fun w' => value_any [97, 32, 98] w' (by decide)
  have HV2 : Hid (∀ w', Calls Tryd.prog 13 #[.string ⟨#[32, 97]⟩] w' fun e w2 => e = .returned (.bool false) ∧ Below w'.heap.size w' w2) := fun w' => value_any [32, 97] w' (by decide)
  have HT : Hid (∀ w', Calls Tryd.prog 15 #[.string ⟨#[32, 97, 9]⟩] w' fun e w2 => e = .returned (.string ⟨#[97]⟩) ∧ Below w'.heap.size w' w2) := fun w' => tok_trim_any [32, 97, 9] w' (by decide)
  have HL : Hid (∀ w', Calls Tryd.prog 17 #[.string ⟨#[97, 66]⟩] w' fun e w2 => e = .returned (.string ⟨#[97, 98]⟩) ∧ Below w'.heap.size w' w2) := fun w' => lower_any [97, 66] w' (by decide)
  have HM1 : Hid (∀ w', Calls Tryd.prog 20 #[.string ⟨#[103, 101, 116]⟩] w' fun e w2 => e = .returned (.string ⟨#[71, 69, 84]⟩) ∧ Below w'.heap.size w' w2) := fun w' => method_any [103, 101, 116] w' (by decide)
  have HM2 : Hid (∀ w', Calls Tryd.prog 20 #[.string ⟨#[112, 97, 116, 99, 104]⟩] w' fun e w2 => e = .returned (.string ⟨#[112, 97, 116, 99, 104]⟩) ∧ Below w'.heap.size w' w2) := fun w' => method_any [112, 97, 116, 99, 104] w' (by decide)
  have HE : Hid (∀ w', Calls Tryd.prog 22 #[.string ⟨#[116, 114, 97, 99, 101]⟩] w' fun e w2 => e = .returned (.bool true) ∧ Below w'.heap.size w' w2) := fun w' => never_any [116, 114, 97, 99, 101] w' (by decide)
  have hq : ((str [34, 98, 44, 99, 34]).toList == [34, 98, 44, 99, 34]) = true := by rw [toList_str]; rfl
  go_enter Tryd.func10, Tryd.ntmps10
  go_wp2_with (first
    | (go_at_call 25; (with_reducible refine (HP.out _).mono ?_); (rintro e wp ⟨g, c, rfl, hc, hps, hb0⟩; have HB0 := Lib.hid hb0; have HPs := Lib.hid hps; have HC := Lib.hid hc; have J0 := Lib.hid (Kept.refl wp); clear hb0 hps hc))
    | (go_at_call 11; (with_reducible refine (HN1.out _).mono ?_); (rintro e ws1 ⟨rfl, hws⟩; subst ws1))
    | (go_at_call 11; (with_reducible refine (HN2.out _).mono ?_); (rintro e ws2 ⟨rfl, hws⟩; subst ws2))
    | (go_at_call 13; (with_reducible refine (HV1.out _).mono ?_); (rintro e wb1 ⟨rfl, hb⟩; have J1 := Lib.hid (J0.out.step hb); clear hb))
    | (go_at_call 13; (with_reducible refine (HV2.out _).mono ?_); (rintro e wb2 ⟨rfl, hb⟩; have J2 := Lib.hid (J1.out.step hb); clear hb))
    | (go_at_call 15; (with_reducible refine (HT.out _).mono ?_); (rintro e wb3 ⟨rfl, hb⟩; have J3 := Lib.hid (J2.out.step hb); clear hb))
    | (go_at_call 17; (with_reducible refine (HL.out _).mono ?_); (rintro e wb4 ⟨rfl, hb⟩; have J4 := Lib.hid (J3.out.step hb); clear hb))
    | (go_at_call 20; (with_reducible refine (HM1.out _).mono ?_); (rintro e wb5 ⟨rfl, hb⟩; have J5 := Lib.hid (J4.out.step hb); clear hb))
    | (go_at_call 20; (with_reducible refine (HM2.out _).mono ?_); (rintro e wb6 ⟨rfl, hb⟩; have J6 := Lib.hid (J5.out.step hb); clear hb))
    | (go_at_call 22; (with_reducible refine (HE.out _).mono ?_); (rintro e wb7 ⟨rfl, hb⟩; have J7 := Lib.hid (J6.out.step hb); clear hb); have hcell := (HPs.out.kept J7.out).at_ (j := 1) rfl))
  go_ret
  exact ⟨rfl, HB0.out.trans (J7.out.mono HB0.out.size)⟩
set_option maxHeartbeats 8000000 in
set_option maxRecDepth 100000 in
theorem tells_any9 (s t : List UInt8) (w : World) (hs : s.length ≤ 9223372036854775807) (ht : t.length ≤ 9223372036854775807) : Calls Tryd.prog 3 #[.string (str s), .string (str t)] w fun e w' => e = .returned (.bool true) ∧ Below w.heap.size w w' := by
  have H0 : Hid (∀ w', Calls Tryd.prog 10 #[] w' fun e w2 => e = .returned (.bool true) ∧ Below w'.heap.size w' w2) := fun w' => shown_any w'
  have H11 : Hid (∀ w', Calls Tryd.prog 11 #[.string (str s)] w' fun e w2 => e = .returned (.bool (nmb s)) ∧ w2 = w') := fun w' => name_any s w' hs
  have H12 : Hid (∀ w', Calls Tryd.prog 12 #[.string (str s)] w' fun e w2 => e = .returned (.bool (nmb s)) ∧ w2 = w') := fun w' => rname_any s w' hs
  have H13 : Hid (∀ w', Calls Tryd.prog 13 #[.string (str s)] w' fun e w2 => e = .returned (.bool (vlu s)) ∧ Below w'.heap.size w' w2) := fun w' => value_any s w' hs
  have H14 : Hid (∀ w', Calls Tryd.prog 14 #[.string (str s)] w' fun e w2 => e = .returned (.bool (vlu s)) ∧ w2 = w') := fun w' => rvalue_any s w' hs
  have H15 : Hid (∀ w', Calls Tryd.prog 15 #[.string (str s)] w' fun e w2 => e = .returned (.string (str (tr s))) ∧ Below w'.heap.size w' w2) := fun w' => tok_trim_any s w' hs
  have H16 : Hid (∀ w', Calls Tryd.prog 16 #[.string (str s)] w' fun e w2 => e = .returned (.string (str (tr s))) ∧ w2 = w') := fun w' => rtrim_any s w' hs
  have H17 : Hid (∀ w', Calls Tryd.prog 17 #[.string (str s)] w' fun e w2 => e = .returned (.string (str (low s))) ∧ Below w'.heap.size w' w2) := fun w' => lower_any s w' hs
  have H18 : Hid (∀ w', Calls Tryd.prog 18 #[.string (str s)] w' fun e w2 => e = .returned (.string (str (low s))) ∧ Below w'.heap.size w' w2) := fun w' => rlower_any s w' hs
  have H19 : Hid (∀ w', Calls Tryd.prog 19 #[.string (str s), .string (str t)] w' fun e w2 => e = .returned (.bool (decide (low s = low t))) ∧ Below w'.heap.size w' w2) := fun w' => fold_any s t w' hs ht
  have H18t : Hid (∀ w', Calls Tryd.prog 18 #[.string (str t)] w' fun e w2 => e = .returned (.string (str (low t))) ∧ Below w'.heap.size w' w2) := fun w' => rlower_any t w' ht
  have H20 : Hid (∀ w', Calls Tryd.prog 20 #[.string (str s)] w' fun e w2 => e = .returned (.string (str (mth mths s))) ∧ Below w'.heap.size w' w2) := fun w' => method_any s w' hs
  have H21 : Hid (∀ w', Calls Tryd.prog 21 #[.string (str s)] w' fun e w2 => e = .returned (.string (str (mth mths s))) ∧ Below w'.heap.size w' w2) := fun w' => rmethod_any s w' hs
  have H22 : Hid (∀ w', Calls Tryd.prog 22 #[.string (str s)] w' fun e w2 => e = .returned (.bool (nev s)) ∧ Below w'.heap.size w' w2) := fun w' => never_any s w' hs
  have H23 : Hid (∀ w', Calls Tryd.prog 23 #[.string (str s)] w' fun e w2 => e = .returned (.bool (nev s)) ∧ Below w'.heap.size w' w2) := fun w' => rnever_any s w' hs
  have hq : ((str (low s)).toList == (str (low t)).toList) = decide (low s = low t) := by rw [toList_str, toList_str, Bool.eq_iff_iff]; simp
  generalize decide (low s = low t) = R at *
  generalize low s = x at *
  generalize low t = y at *
  generalize tr s = u at *
  generalize nmb s = n at *
  generalize vlu s = v at *
  generalize mth mths s = m at *
  generalize nev s = v2 at *
  go_enter Tryd.func3, Tryd.ntmps3
  go_wp2_with (first
    | (go_at_call 10; (with_reducible refine (H0.out _).mono ?_); (rintro e wb1 ⟨rfl, hb⟩; have J1 := Lib.hid ((Kept.refl w).step hb); clear hb))
    | (go_at_call 11; (with_reducible refine (H11.out _).mono ?_); (rintro e ws1 ⟨rfl, hws⟩; subst ws1))
    | (go_at_call 12; (with_reducible refine (H12.out _).mono ?_); (rintro e ws2 ⟨rfl, hws⟩; subst ws2))
    | (go_at_call 13; (with_reducible refine (H13.out _).mono ?_); (rintro e wb2 ⟨rfl, hb⟩; have J2 := Lib.hid (J1.out.step hb); clear hb))
    | (go_at_call 14; (with_reducible refine (H14.out _).mono ?_); (rintro e ws3 ⟨rfl, hws⟩; subst ws3))
    | (go_at_call 15; (with_reducible refine (H15.out _).mono ?_); (rintro e wb3 ⟨rfl, hb⟩; have J3 := Lib.hid (J2.out.step hb); clear hb))
    | (go_at_call 16; (with_reducible refine (H16.out _).mono ?_); (rintro e ws4 ⟨rfl, hws⟩; subst ws4))
    | (go_at_call 17; (with_reducible refine (H17.out _).mono ?_); (rintro e wb4 ⟨rfl, hb⟩; have J4 := Lib.hid (J3.out.step hb); clear hb))
    | (go_at_call 18; (with_reducible refine (H18.out _).mono ?_); (rintro e wb5 ⟨rfl, hb⟩; have J5 := Lib.hid (J4.out.step hb); clear hb))
    | (go_at_call 19; (with_reducible refine (H19.out _).mono ?_); (rintro e wb6 ⟨rfl, hb⟩; have J6 := Lib.hid (J5.out.step hb); clear hb))
    | (go_at_call 18; (with_reducible refine (H18.out _).mono ?_); (rintro e wb7 ⟨rfl, hb⟩; have J7 := Lib.hid (J6.out.step hb); clear hb))
    | (go_at_call 18; (with_reducible refine (H18t.out _).mono ?_); (rintro e wb8 ⟨rfl, hb⟩; have J8 := Lib.hid (J7.out.step hb); clear hb))
    | (go_at_call 20; (with_reducible refine (H20.out _).mono ?_); (rintro e wb9 ⟨rfl, hb⟩; have J9 := Lib.hid (J8.out.step hb); clear hb))
    | (go_at_call 21; (with_reducible refine (H21.out _).mono ?_); (rintro e wb10 ⟨rfl, hb⟩; have J10 := Lib.hid (J9.out.step hb); clear hb))
    | (go_at_call 22; (with_reducible refine (H22.out _).mono ?_); (rintro e wb11 ⟨rfl, hb⟩; have J11 := Lib.hid (J10.out.step hb); clear hb))
    | (go_at_call 23; (with_reducible refine (H23.out _).mono ?_); (rintro e wb12 ⟨rfl, hb⟩; have J12 := Lib.hid (J11.out.step hb); clear hb)))
  go_ret
  exact ⟨rfl, J12.out⟩
set_option maxHeartbeats 8000000 in
set_option maxRecDepth 100000 in
theorem again_any9 (s : List UInt8) (w : World) (hs : s.length ≤ 9223372036854775807) : Calls Tryd.prog 6 #[.string (str s)] w fun e w' => e = .returned (.bool true) ∧ Below w.heap.size w w' := by
  have lT : (tr s).length ≤ s.length := tS_len s T4
  have lL : (low s).length = s.length := low_length s
  have lM : (mth mths s).length ≤ 9223372036854775807 := by rw [← low_length, mth_low, low_length]; exact hs
  have H0 : Hid (∀ w', Calls Tryd.prog 10 #[] w' fun e w2 => e = .returned (.bool true) ∧ Below w'.heap.size w' w2) := fun w' => shown_any w'
  have H15 : Hid (∀ w', Calls Tryd.prog 15 #[.string (str s)] w' fun e w2 => e = .returned (.string (str (tr s))) ∧ Below w'.heap.size w' w2) := fun w' => tok_trim_any s w' hs
  have H17 : Hid (∀ w', Calls Tryd.prog 17 #[.string (str s)] w' fun e w2 => e = .returned (.string (str (low s))) ∧ Below w'.heap.size w' w2) := fun w' => lower_any s w' hs
  have H20 : Hid (∀ w', Calls Tryd.prog 20 #[.string (str s)] w' fun e w2 => e = .returned (.string (str (mth mths s))) ∧ Below w'.heap.size w' w2) := fun w' => method_any s w' hs
  have H11 : Hid (∀ w', Calls Tryd.prog 11 #[.string (str s)] w' fun e w2 => e = .returned (.bool (nmb s)) ∧ w2 = w') := fun w' => name_any s w' hs
  have H13 : Hid (∀ w', Calls Tryd.prog 13 #[.string (str s)] w' fun e w2 => e = .returned (.bool (vlu s)) ∧ Below w'.heap.size w' w2) := fun w' => value_any s w' hs
  have H11L : Hid (∀ w', Calls Tryd.prog 11 #[.string (str (low s))] w' fun e w2 => e = .returned (.bool (nmb s)) ∧ w2 = w') := fun w' => by have h := name_any (low s) w' (by omega); rwa [nmb_low] at h
  have H15T : Hid (∀ w', Calls Tryd.prog 15 #[.string (str (tr s))] w' fun e w2 => e = .returned (.string (str (tr s))) ∧ Below w'.heap.size w' w2) := fun w' => by have h := tok_trim_any (tr s) w' (by omega); rwa [show tr (tr s) = tr s from tS_tS s T4] at h
  have H17L : Hid (∀ w', Calls Tryd.prog 17 #[.string (str (low s))] w' fun e w2 => e = .returned (.string (str (low s))) ∧ Below w'.heap.size w' w2) := fun w' => by have h := lower_any (low s) w' (by omega); rwa [show (low s).map lwc = low s from low_low s] at h
  have H20M : Hid (∀ w', Calls Tryd.prog 20 #[.string (str (mth mths s))] w' fun e w2 => e = .returned (.string (str (mth mths s))) ∧ Below w'.heap.size w' w2) := fun w' => by have h := method_any (mth mths s) w' lM; rwa [mth_mth] at h
  have H19L : Hid (∀ w', Calls Tryd.prog 19 #[.string (str s), .string (str (low s))] w' fun e w2 => e = .returned (.bool true) ∧ Below w'.heap.size w' w2) := fun w' => by have h := fold_any s (low s) w' hs (by omega); rwa [low_low, decide_eq_true rfl] at h
  have H19M : Hid (∀ w', Calls Tryd.prog 19 #[.string (str (mth mths s)), .string (str s)] w' fun e w2 => e = .returned (.bool true) ∧ Below w'.heap.size w' w2) := fun w' => by have h := fold_any (mth mths s) s w' lM hs; rwa [mth_low, decide_eq_true rfl] at h
  have H22 : Hid (∀ w', Calls Tryd.prog 22 #[.string (str s)] w' fun e w2 => e = .returned (.bool (nev s)) ∧ Below w'.heap.size w' w2) := fun w' => never_any s w' hs
  have H22L : Hid (∀ w', Calls Tryd.prog 22 #[.string (str (low s))] w' fun e w2 => e = .returned (.bool (nev s)) ∧ Below w'.heap.size w' w2) := fun w' => by have h := never_any (low s) w' (by omega); rwa [nev_low] at h
  have zs := str_size s
  have zT := str_size (tr s)
  have zL := str_size (low s)
  rw [lL] at zL
  obtain ⟨b, hb⟩ : ∃ b, b = s.length := ⟨_, rfl⟩
  obtain ⟨a, ha⟩ : ∃ a, a = (tr s).length := ⟨_, rfl⟩
  rw [← hb] at zs zL lT
  rw [← ha] at zT lT
  have hle : (a : Int) ≤ (b : Int) := by omega
  have hnm : Hid (nmb s = true → vlu s = true ∧ tr s = s) := fun h => ⟨nmb_vlu h, nmb_tr h⟩
  generalize mth mths s = m at *
  generalize nev s = v2 at *
  obtain ⟨x, hx⟩ : ∃ x, x = low s := ⟨_, rfl⟩
  rw [← hx] at H17 H11L H17L H19L H22L zL
  clear hx hb ha lL lM lT
  cases hn : nmb s
  · rw [hn] at H11 H11L
    generalize tr s = u at *
    clear hn hnm H13
    go_enter Tryd.func6, Tryd.ntmps6
    go_wp2_with (first
      | (go_at_call 10; (with_reducible refine (H0.out _).mono ?_); (rintro e wb1 ⟨rfl, hb⟩; have J1 := Lib.hid ((Kept.refl w).step hb); clear hb))
      | (go_at_call 15; (with_reducible refine (H15.out _).mono ?_); (rintro e wb2 ⟨rfl, hb⟩; have J2 := Lib.hid (J1.out.step hb); clear hb))
      | (go_at_call 17; (with_reducible refine (H17.out _).mono ?_); (rintro e wb3 ⟨rfl, hb⟩; have J3 := Lib.hid (J2.out.step hb); clear hb))
      | (go_at_call 20; (with_reducible refine (H20.out _).mono ?_); (rintro e wb4 ⟨rfl, hb⟩; have J4 := Lib.hid (J3.out.step hb); clear hb))
      | (go_at_call 11; (with_reducible refine (H11.out _).mono ?_); (rintro e ws1 ⟨rfl, hws⟩; subst ws1))
      | (go_at_call 15; (with_reducible refine (H15T.out _).mono ?_); (rintro e wb5 ⟨rfl, hb⟩; have J5 := Lib.hid (J4.out.step hb); clear hb))
      | (go_at_call 17; (with_reducible refine (H17L.out _).mono ?_); (rintro e wb6 ⟨rfl, hb⟩; have J6 := Lib.hid (J5.out.step hb); clear hb))
      | (go_at_call 20; (with_reducible refine (H20M.out _).mono ?_); (rintro e wb7 ⟨rfl, hb⟩; have J7 := Lib.hid (J6.out.step hb); clear hb))
      | (go_at_call 19; (with_reducible refine (H19L.out _).mono ?_); (rintro e wb8 ⟨rfl, hb⟩; have J8 := Lib.hid (J7.out.step hb); clear hb))
      | (go_at_call 19; (with_reducible refine (H19M.out _).mono ?_); (rintro e wb9 ⟨rfl, hb⟩; have J9 := Lib.hid (J8.out.step hb); clear hb))
      | (go_at_call 22; (with_reducible refine (H22.out _).mono ?_); (rintro e wb10 ⟨rfl, hb⟩; have J10 := Lib.hid (J9.out.step hb); clear hb))
      | (go_at_call 22; (with_reducible refine (H22L.out _).mono ?_); (rintro e wb11 ⟨rfl, hb⟩; have J11 := Lib.hid (J10.out.step hb); clear hb)))
    go_ret
    exact ⟨rfl, J11.out⟩
  · rw [hn] at H11 H11L
    obtain ⟨hv, hu⟩ := hnm.out hn
    rw [hv] at H13
    rw [hu] at H15 H15T zT
    have hab : a = b := by rw [← zT, ← zs]
    subst hab
    clear hn hnm hv hu
    go_enter Tryd.func6, Tryd.ntmps6
    go_wp2_with (first
      | (go_at_call 10; (with_reducible refine (H0.out _).mono ?_); (rintro e wb1 ⟨rfl, hb⟩; have J1 := Lib.hid ((Kept.refl w).step hb); clear hb))
      | (go_at_call 15; (with_reducible refine (H15.out _).mono ?_); (rintro e wb2 ⟨rfl, hb⟩; have J2 := Lib.hid (J1.out.step hb); clear hb))
      | (go_at_call 17; (with_reducible refine (H17.out _).mono ?_); (rintro e wb3 ⟨rfl, hb⟩; have J3 := Lib.hid (J2.out.step hb); clear hb))
      | (go_at_call 20; (with_reducible refine (H20.out _).mono ?_); (rintro e wb4 ⟨rfl, hb⟩; have J4 := Lib.hid (J3.out.step hb); clear hb))
      | (go_at_call 11; (with_reducible refine (H11.out _).mono ?_); (rintro e ws1 ⟨rfl, hws⟩; subst ws1))
      | (go_at_call 13; (with_reducible refine (H13.out _).mono ?_); (rintro e wb5 ⟨rfl, hb⟩; have J5 := Lib.hid (J4.out.step hb); clear hb))
      | (go_at_call 11; (with_reducible refine (H11L.out _).mono ?_); (rintro e ws2 ⟨rfl, hws⟩; subst ws2))
      | (go_at_call 11; (with_reducible refine (H11.out _).mono ?_); (rintro e ws3 ⟨rfl, hws⟩; subst ws3))
      | (go_at_call 15; (with_reducible refine (H15T.out _).mono ?_); (rintro e wb6 ⟨rfl, hb⟩; have J6 := Lib.hid (J5.out.step hb); clear hb))
      | (go_at_call 17; (with_reducible refine (H17L.out _).mono ?_); (rintro e wb7 ⟨rfl, hb⟩; have J7 := Lib.hid (J6.out.step hb); clear hb))
      | (go_at_call 20; (with_reducible refine (H20M.out _).mono ?_); (rintro e wb8 ⟨rfl, hb⟩; have J8 := Lib.hid (J7.out.step hb); clear hb))
      | (go_at_call 19; (with_reducible refine (H19L.out _).mono ?_); (rintro e wb9 ⟨rfl, hb⟩; have J9 := Lib.hid (J8.out.step hb); clear hb))
      | (go_at_call 19; (with_reducible refine (H19M.out _).mono ?_); (rintro e wb10 ⟨rfl, hb⟩; have J10 := Lib.hid (J9.out.step hb); clear hb))
      | (go_at_call 22; (with_reducible refine (H22.out _).mono ?_); (rintro e wb11 ⟨rfl, hb⟩; have J11 := Lib.hid (J10.out.step hb); clear hb))
      | (go_at_call 22; (with_reducible refine (H22L.out _).mono ?_); (rintro e wb12 ⟨rfl, hb⟩; have J12 := Lib.hid (J11.out.step hb); clear hb)))
    go_ret
    exact ⟨rfl, J12.out⟩
theorem ps_same {w : World} {g c : Nat} {ps : List (List UInt8)} (h : Ps w g ps) : ∀ (j : Nat) (x : List UInt8), ps[j]? = some x → ∃ g', (some ⟨g, 0, none⟩ : Option Addr) = some ⟨g', 0, none⟩ ∧ w.cell? ⟨g', j, none⟩ = some (vstr x) := fun j x hj => ⟨g, rfl, h.2 j x hj⟩
set_option maxHeartbeats 8000000 in
set_option maxRecDepth 100000 in
theorem partsl_any9 (s : List UInt8) (w : World) (hs : s.length ≤ 4611686018427387904) (hp : (prts s).length ≤ 100000000) : Calls Tryd.prog 4 #[.string (str s)] w fun e w' => e = .returned (.bool true) ∧ Below w.heap.size w w' := by
  have H0 : Hid (∀ w', Calls Tryd.prog 10 #[] w' fun e w2 => e = .returned (.bool true) ∧ Below w'.heap.size w' w2) := fun w' => shown_any w'
  have HP : Hid (∀ w', Calls Tryd.prog 25 #[.string (str s)] w' fun e w2 => ∃ g c, e = .returned (.slice (some ⟨g, 0, none⟩) (prts s).length c) ∧ (prts s).length ≤ c ∧ Ps w2 g (prts s) ∧ Below w'.heap.size w' w2) := fun w' => parts_any s w' hs hp
  have HR : Hid (∀ w', Calls Tryd.prog 26 #[.string (str s)] w' fun e w2 => ∃ g c, e = .returned (.slice (some ⟨g, 0, none⟩) (prts s).length c) ∧ (prts s).length ≤ c ∧ Ps w2 g (prts s) ∧ Below w'.heap.size w' w2) := fun w' => rparts_any s w' hs hp
  have HSm : Hid (∀ g h c d w', Ps w' g (prts s) → Ps w' h (prts s) → (prts s).length ≤ c → (prts s).length ≤ d → Calls Tryd.prog 24 #[.slice (some ⟨g, 0, none⟩) (prts s).length c, .slice (some ⟨h, 0, none⟩) (prts s).length d] w' fun e w2 => e = .returned (.bool true) ∧ Below w'.heap.size w' w2) := fun g h c d w' h1 h2 h3 h4 => by
    have := same_any (prts s) (prts s) (some ⟨g, 0, none⟩) (some ⟨h, 0, none⟩) c d w' (ps_same (c := c) h1) (ps_same (c := c) h2) h3 h4 (by omega)
    rwa [decide_eq_true rfl] at this
  generalize prts s = P at *
  go_enter Tryd.func4, Tryd.ntmps4
  go_wp2_with (first
    | (go_at_call 10; (with_reducible refine (H0.out _).mono ?_); (rintro e w1 ⟨rfl, hb⟩; have K1 := Lib.hid ((Kept.refl w).step hb); clear hb))
    | (go_at_call 25; (with_reducible refine (HP.out _).mono ?_); (rintro e w2 ⟨g, c, rfl, hc, hps, hb⟩; have K2 := Lib.hid (K1.out.step hb); have G1 := Lib.hid hps; have C1 := Lib.hid hc; clear hb hps hc))
    | (go_at_call 26; (with_reducible refine (HR.out _).mono ?_); (rintro e w3 ⟨h, d, rfl, hd, hps, hb⟩; have K3 := Lib.hid (K2.out.step hb); have G2 := Lib.hid hps; have C2 := Lib.hid hd; have G3 := Lib.hid (G1.out.kept hb); clear hb hps hd))
    | (go_at_call 24; (with_reducible refine (HSm.out _ _ _ _ _ G3.out G2.out C1.out C2.out).mono ?_); (rintro e w4 ⟨rfl, hb⟩; have K4 := Lib.hid (K3.out.step hb); clear hb)))
  go_ret
  exact ⟨rfl, K4.out⟩
end Go.Proofs.YtpkjebagpolfgaaDoor
