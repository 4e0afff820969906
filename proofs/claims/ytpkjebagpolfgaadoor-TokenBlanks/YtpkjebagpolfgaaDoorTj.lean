/-
  What transeptlaw09.TokenBlanks answers: true; nothing that was there turns. Condition: texts of at most 2^47 bytes.
-/
import Derived.Test.YtpkjebagpolfgaaDoorTi
namespace Go.Proofs.YtpkjebagpolfgaaDoor
open Go.RowKit
set_option linter.unusedVariables false

theorem i64_mask7 (n : Int) : bits .and .i64 n 7 = n % (8 : Nat) := by
  have key : (BitVec.ofInt 64 n &&& BitVec.ofInt 64 7).toNat = (n % ((2 ^ 64 : Nat) : Int)).toNat % 2 ^ 3 := by
    rw [BitVec.toNat_and, BitVec.toNat_ofInt, show (BitVec.ofInt 64 7).toNat = 2 ^ 3 - 1 by decide, Nat.and_two_pow_sub_one_eq_mod]
  show IntKind.i64.wrap ((BitVec.ofInt 64 n &&& BitVec.ofInt 64 7).toNat : Nat) = n % (8 : Nat)
  rw [key, IntKind.wrap_i64]
  omega
/-- The blanks that are put at the ends. -/
def B8 : List UInt8 := [9, 10, 13, 32, 9, 10, 13, 32]
theorem B8_in : ∀ x ∈ B8, T4.contains x = true := by decide
theorem bl_tr (s : List UInt8) (x y : Nat) : tr (B8.take x ++ s ++ B8.drop y) = tr s :=
  tS_app _ _ _ _ (fun c hc => B8_in c (List.mem_of_mem_take hc)) (fun c hc => B8_in c (List.mem_of_mem_drop hc))
theorem bl_vlu (s : List UInt8) (x y : Nat) (hx : 0 < x) : vlu (B8.take x ++ s ++ B8.drop y) = false := by
  apply vlu_not
  intro h
  have h0 : (B8.take x ++ s ++ B8.drop y)[0]? = some 9 := by
    obtain ⟨k, rfl⟩ : ∃ k, x = k + 1 := ⟨x - 1, by omega⟩
    rfl
  rw [← h] at h0
  have := tS_head _ _ _ h0
  exact absurd this (by decide)
theorem vlu_tr (s : List UInt8) : vlu (tr s) = !(tr s).any bar := vlu_yes _ (tS_tS s T4)
set_option maxHeartbeats 8000000 in
set_option maxRecDepth 100000 in
theorem blanks_any9 (s : List UInt8) (n1 n2 : Int) (w : World) (hs : s.length ≤ 140737488351232) : Calls Tryd.prog 8 #[.string (str s), .int .i64 n1, .int .i64 n2] w fun e w' => e = .returned (.bool true) ∧ Below w.heap.size w w' := by
  obtain ⟨x, hx, hx8⟩ : ∃ x : Nat, bits .and .i64 n1 7 = (x : Int) ∧ x < 8 := ⟨(n1 % (8 : Nat)).toNat, by rw [i64_mask7]; omega, by omega⟩
  obtain ⟨y, hy, hy8⟩ : ∃ y : Nat, bits .and .i64 n2 7 = (y : Int) ∧ y < 8 := ⟨(n2 % (8 : Nat)).toNat, by rw [i64_mask7]; omega, by omega⟩
  have hxi : (x : Int) ≤ 8 := by omega
  have hyi : (y : Int) ≤ 8 := by omega
  obtain ⟨Z, hZ⟩ : ∃ Z, Z = B8.take x ++ s ++ B8.drop y := ⟨_, rfl⟩
  have hZl : Z.length ≤ 140737488355328 := by rw [hZ]; have h1 := List.length_take_le x B8; have h2 : (B8.drop y).length ≤ 8 := by rw [List.length_drop]; exact Nat.sub_le _ _
                                              have h3 : (B8.take x).length ≤ 8 := by rw [List.length_take]; exact Nat.min_le_right _ _
                                              simp only [List.length_append]; omega
  have H0 : Hid (∀ w', Calls Tryd.prog 10 #[] w' fun e w2 => e = .returned (.bool true) ∧ Below w'.heap.size w' w2) := fun w' => shown_any w'
  have H15 : Hid (∀ w', Calls Tryd.prog 15 #[.string (str s)] w' fun e w2 => e = .returned (.string (str (tr s))) ∧ Below w'.heap.size w' w2) := fun w' => tok_trim_any s w' (by omega)
  have H15Z : Hid (∀ w', Calls Tryd.prog 15 #[.string (str Z)] w' fun e w2 => e = .returned (.string (str (tr s))) ∧ Below w'.heap.size w' w2) := fun w' => by have h := tok_trim_any Z w' (by omega); rwa [show tr Z = tr s by rw [hZ, bl_tr]] at h
  have H13 : Hid (∀ w', Calls Tryd.prog 13 #[.string (str (tr s))] w' fun e w2 => e = .returned (.bool (!(tr s).any bar)) ∧ Below w'.heap.size w' w2) := fun w' => by have h := value_any (tr s) w' (by have := tS_len s T4; unfold tr; omega); rwa [vlu_tr] at h
  have H13Z : Hid (0 < x → ∀ w', Calls Tryd.prog 13 #[.string (str Z)] w' fun e w2 => e = .returned (.bool false) ∧ Below w'.heap.size w' w2) := fun h0 w' => by
    have h := value_any Z w' (by omega)
    rwa [show vlu Z = false by rw [hZ]; exact bl_vlu s x y h0] at h
  obtain ⟨U, hU⟩ : ∃ U, U = tr s := ⟨_, rfl⟩
  have hUl : U.length ≤ 140737488351232 := by rw [hU]; have := tS_len s T4; unfold tr; omega
  rw [← hU] at H15 H15Z H13
  obtain ⟨X, hX⟩ : ∃ X, X = B8.take x := ⟨_, rfl⟩
  obtain ⟨Y, hY⟩ : ∃ Y, Y = B8.drop y := ⟨_, rfl⟩
  obtain ⟨Z1, hZ1⟩ : ∃ Z, Z = X ++ s := ⟨_, rfl⟩
  have hXl : X.length ≤ 8 := by rw [hX, List.length_take]; exact Nat.min_le_right _ _
  have hYl : Y.length ≤ 8 := by rw [hY, List.length_drop]; exact Nat.sub_le _ _
  have e1 : (⟨#[9, 10, 13, 32, 9, 10, 13, 32]⟩ : ByteArray).extract 0 x = str X := by rw [hX]; exact str_take B8 x
  have e2 : (⟨#[9, 10, 13, 32, 9, 10, 13, 32]⟩ : ByteArray).extract y 8 = str Y := by rw [hY]; exact str_drop B8 y 8 rfl (by omega)
  have e3 : str X ++ str s = str Z1 := by rw [hZ1]; exact str_add X s
  have e4 : str Z1 ++ str Y = str Z := by rw [hZ, hZ1, hX, hY]; exact str_add _ _
  have q1 : ¬ (9223372036854775807 : Nat) < (str X).size + (str s).size := by rw [str_size, str_size]; omega
  have q2 : ¬ (9223372036854775807 : Nat) < (str Z1).size + (str Y).size := by rw [str_size, str_size, hZ1, List.length_append]; omega
  obtain ⟨C, hC⟩ : ∃ C : ByteArray, C = ⟨#[9, 10, 13, 32, 9, 10, 13, 32]⟩ := ⟨_, rfl⟩
  have hsz := str_size U
  have hgb : Hid (∀ k, k < U.length → ∀ h, ((str U)[k]'h).toNat = (U.getD k 0).toNat) := fun k hk h => str_at U k hk h
  have hdr : Hid (∀ k, k < U.length → (U.drop k).any bar = (bar (U.getD k 0) || (U.drop (k + 1)).any bar)) := fun k hk => by rw [drop_at U k hk, List.any_cons]
  have hend : Hid ((U.drop U.length).any bar = false) := by show _ = _; rw [List.drop_length]; rfl
  obtain ⟨R, hR⟩ : ∃ R, R = U.any bar := ⟨_, rfl⟩
  have HR := Lib.hid hR
  rw [← hR] at H13
  obtain ⟨S, hS⟩ : ∃ S, S = U.length := ⟨_, rfl⟩
  rw [← hS] at hsz hUl hgb hdr hend
  clear hS hR hU hZ hX hY hZ1 hZl hXl hYl hC
  go_enter Tryd.func8, Tryd.ntmps8
  go_wp2_with (go_at_call 10; (with_reducible refine (H0.out _).mono ?_); (rintro e w1 ⟨rfl, hb⟩; have K1 := Lib.hid ((Kept.refl w).step hb); clear hb))
  go_quiet (fail)
  have K2 : Hid (Kept w (w1.drewN nq)) := below_drewN K1.out nq
  generalize w1.drewN nq = wb at *
  clear nq
  go_wp2_with (go_at_call 15; (with_reducible refine (H15.out _).mono ?_); (rintro e w2 ⟨rfl, hb⟩; have K3 := Lib.hid (K2.out.step hb); clear hb))
  go_loop [12, 10] (fun i q => ∃ (k : Nat) (b : Bool), k ≤ S ∧ i = .int .i64 (k : Int) ∧ q = .bool b ∧ (b || (U.drop k).any bar) = R) (fun i _ => S - (intOf i).toNat)
  case atStart => exact ⟨0, false, by omega, rfl, rfl, by rw [List.drop_zero, Bool.false_or]; exact HR.out.symm⟩
  case round =>
    obtain ⟨k, q, hk, rfl, rfl, hA⟩ := hrel
    have HA := Lib.hid hA
    clear hA
    by_cases hlt : k < S
    · have hkS : (k : Int) < (S : Int) := by omega
      have HG := hgb.out k hlt
      have HD := hdr.out k hlt
      obtain ⟨c, hc⟩ : ∃ c, c = U.getD k 0 := ⟨_, rfl⟩
      rw [← hc] at HG HD
      obtain ⟨b, hbb⟩ : ∃ b, b = c.toNat := ⟨_, rfl⟩
      rw [bar_at c b hbb] at HD
      rw [← hbb] at HG
      clear hc hbb
      cases q
      · rcases (by omega : b = 0 ∨ b = 10 ∨ b = 13 ∨ (b ≠ 0 ∧ b ≠ 10 ∧ b ≠ 13)) with h | h | h | h
        · have c0 : ((b : Int) == 0) = true := by simp; omega
          have c1 : ((b : Int) == 10) = false := by simp; omega
          have c2 : ((b : Int) == 13) = false := by simp; omega
          have HX : Hid ((U.drop k).any bar = true) := by show _ = _; rw [HD]; simp [h]
          clear h HD
          go_wp2_with fail
          go_round
          case rel => exact ⟨k + 1, true, by omega, by go_num, rfl, by rw [← HA.out, HX.out]; all_goals rfl⟩
          case measure => simp [intOf]; omega
        · have c0 : ((b : Int) == 0) = false := by simp; omega
          have c1 : ((b : Int) == 10) = true := by simp; omega
          have c2 : ((b : Int) == 13) = false := by simp; omega
          have HX : Hid ((U.drop k).any bar = true) := by show _ = _; rw [HD]; simp [h]
          clear h HD
          go_wp2_with fail
          go_round
          case rel => exact ⟨k + 1, true, by omega, by go_num, rfl, by rw [← HA.out, HX.out]; all_goals rfl⟩
          case measure => simp [intOf]; omega
        · have c0 : ((b : Int) == 0) = false := by simp; omega
          have c1 : ((b : Int) == 10) = false := by simp; omega
          have c2 : ((b : Int) == 13) = true := by simp; omega
          have HX : Hid ((U.drop k).any bar = true) := by show _ = _; rw [HD]; simp [h]
          clear h HD
          go_wp2_with fail
          go_round
          case rel => exact ⟨k + 1, true, by omega, by go_num, rfl, by rw [← HA.out, HX.out]; all_goals rfl⟩
          case measure => simp [intOf]; omega
        · have c0 : ((b : Int) == 0) = false := by simp; omega
          have c1 : ((b : Int) == 10) = false := by simp; omega
          have c2 : ((b : Int) == 13) = false := by simp; omega
          have HX : Hid ((U.drop k).any bar = (U.drop (k + 1)).any bar) := by show _ = _; rw [HD]; simp [h]
          clear h HD
          go_wp2_with fail
          go_round
          case rel => exact ⟨k + 1, false, by omega, by go_num, rfl, by rw [← HA.out, HX.out]; all_goals rfl⟩
          case measure => simp [intOf]; omega
      · clear HD
        go_wp2_with fail
        go_round
        case rel => exact ⟨k + 1, true, by omega, by go_num, rfl, by rw [← HA.out]; all_goals rfl⟩
        case measure => simp [intOf]; omega
    · have hkS : ¬ (k : Int) < (S : Int) := by omega
      have hke : Hid (k = S) := by show _ = _; omega
      have hqR : q = R := by rw [← HA.out, hke.out, hend.out, Bool.or_false]
      subst hqR
      by_cases hx0 : 0 < x
      · have c0 : ((x : Int) == 0) = false := by simp; omega
        have HZ := Lib.hid (H13Z.out hx0)
        clear hx0 hlt
        go_wp2_with (first
          | (go_at_call 15; (with_reducible refine (H15Z.out _).mono ?_); (rintro e w3 ⟨rfl, hb⟩; have K4 := Lib.hid (K3.out.step hb); clear hb))
          | (go_at_call 13; (with_reducible refine (H13.out _).mono ?_); (rintro e w4 ⟨rfl, hb⟩; have K5 := Lib.hid (K4.out.step hb); clear hb))
          | (go_at_call 13; (with_reducible refine (HZ.out _).mono ?_); (rintro e w5 ⟨rfl, hb⟩; have K6 := Lib.hid (K5.out.step hb); clear hb)))
        go_ret
        exact ⟨rfl, K6.out⟩
      · have c0 : ((x : Int) == 0) = true := by simp; omega
        clear hx0 hlt
        go_wp2_with (first
          | (go_at_call 15; (with_reducible refine (H15Z.out _).mono ?_); (rintro e w3 ⟨rfl, hb⟩; have K4 := Lib.hid (K3.out.step hb); clear hb))
          | (go_at_call 13; (with_reducible refine (H13.out _).mono ?_); (rintro e w4 ⟨rfl, hb⟩; have K5 := Lib.hid (K4.out.step hb); clear hb)))
        go_ret
        exact ⟨rfl, K5.out⟩
end Go.Proofs.YtpkjebagpolfgaaDoor
