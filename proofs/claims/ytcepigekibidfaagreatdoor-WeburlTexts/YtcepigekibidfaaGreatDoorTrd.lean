/-
  What transeptref07.Decimal answers for every number that is not below zero, and transeptref08.number for every int.
-/
import Derived.Lib.ItoaLen
import Derived.Test.YtcepigekibidfaaGreatDoorGj
import Derived.Test.YtcepigekibidfaaGreatDoorGk
namespace Go.Proofs.YtcepigekibidfaaGreatDoor
open Go.RowKit
set_option linter.unusedVariables false

theorem dec_short63 (n : Nat) (h : n < 9223372036854775809) : (Lib.decDigits n).length ≤ 100 := by
  match n, h with
  | 0, _ => rw [Lib.decDigits_one (by omega)]; decide
  | n + 1, h =>
    have h1 := Lib.itoa_length_le (-((n + 1 : Nat) : Int)) (by omega) (by omega)
    rw [Lib.itoa_neg _ (by omega), List.length_cons] at h1
    omega
set_option maxHeartbeats 4000000 in
theorem decimal_all : ∀ (n : Nat) (w : World), n < 9223372036854775808 → Calls Tryz.prog 27 #[.int .i64 (n : Int)] w fun e w' => e = .returned (.string (str (Lib.decDigits n))) ∧ Below w.heap.size w w' := by
  intro n
  induction n using Nat.strongRecOn with
  | _ n ih =>
    intro w hn
    by_cases h : n < 10
    · have hge : ¬ (10 : Int) ≤ (n : Int) := by omega
      have hR : Hid (Lib.decDigits n = [UInt8.ofNat (48 + n)]) := by show _ = _; rw [Lib.decDigits, dif_pos h]
      obtain ⟨m, hm⟩ : ∃ m, m = 48 + n := ⟨_, rfl⟩
      have hmi : (48 : Int) + (n : Int) = (m : Int) := by omega
      have hwr : IntKind.u8.wrap (m : Int) = (m : Int) := by rw [IntKind.wrap_u8]; omega
      have hmc : Hid (m = (UInt8.ofNat m).toNat) := by show _ = _; rw [toNat_ofNat_lt m (by omega)]
      rw [← hm] at hR
      clear hm ih
      go_enter Tryz.func27, Tryz.ntmps27
      go_wp2_with (first
        | ((with_reducible show wpList _ _ _ (⟨some 16, .convert _ _ _, _, _, _, _⟩ :: _) _ _); refine wp_str _ rfl (.tmp 15) rfl _ _ 1 1 [UInt8.ofNat m] rfl (bs_of _ _ _ hmc.out) ?_; simp only [Act.put, List.setIfInBounds_toArray, List.set_cons_zero, List.set_cons_succ]))
      go_ret
      rw [hR.out]
      exact ⟨rfl, (Below.refl _ _).alloc (Nat.le_refl _) _⟩
    · have hge : (10 : Int) ≤ (n : Int) := by omega
      have hR : Lib.decDigits n = Lib.decDigits (n / 10) ++ Lib.decDigits (n % 10) := by
        rw [Lib.decDigits, dif_neg h]
        congr 1
        rw [Lib.decDigits, dif_pos (by omega)]
      have HA : Hid (Calls Tryz.prog 27 #[.int .i64 ((n / 10 : Nat) : Int)] w fun e w' => e = .returned (.string (str (Lib.decDigits (n / 10)))) ∧ Below w.heap.size w w') := ih (n / 10) (by omega) w (by omega)
      have HB : Hid (∀ w, Calls Tryz.prog 27 #[.int .i64 ((n % 10 : Nat) : Int)] w fun e w' => e = .returned (.string (str (Lib.decDigits (n % 10)))) ∧ Below w.heap.size w w') := fun w => ih (n % 10) (by omega) w (by omega)
      have hq : (n : Int) / 10 = ((n / 10 : Nat) : Int) := rfl
      have hr : (n : Int) % 10 = ((n % 10 : Nat) : Int) := rfl
      have hl1 : (Lib.decDigits (n / 10)).length ≤ 100 := dec_short63 (n / 10) (by omega)
      have hl2 : (Lib.decDigits (n % 10)).length ≤ 100 := dec_short63 (n % 10) (by omega)
      rw [hR]
      obtain ⟨q, hq'⟩ : ∃ q, q = n / 10 := ⟨_, rfl⟩
      obtain ⟨r, hr'⟩ : ∃ r, r = n % 10 := ⟨_, rfl⟩
      rw [← hq'] at HA hq hl1 ⊢
      rw [← hr'] at HB hr hl2 ⊢
      obtain ⟨X, hX⟩ : ∃ X, X = Lib.decDigits q := ⟨_, rfl⟩
      obtain ⟨Y, hY⟩ : ∃ Y, Y = Lib.decDigits r := ⟨_, rfl⟩
      rw [← hX] at HA hl1 ⊢
      rw [← hY] at HB hl2 ⊢
      have hadd := str_add X Y
      have hsX := str_size X
      have hsY := str_size Y
      obtain ⟨nx, hnx⟩ : ∃ k, k = X.length := ⟨_, rfl⟩
      obtain ⟨ny, hny⟩ : ∃ k, k = Y.length := ⟨_, rfl⟩
      rw [← hnx] at hsX hl1
      rw [← hny] at hsY hl2
      clear hq' hr' hX hY hR ih hnx hny
      go_enter Tryz.func27, Tryz.ntmps27
      go_wp2_with (go_at_call 27; first
        | (with_reducible refine HA.out.mono ?_; rintro e w1 ⟨rfl, hb1⟩; have hk1 := kept_of hb1; clear hb1)
        | (with_reducible refine (HB.out w1).mono ?_; rintro e w2 ⟨rfl, hb2⟩; have hk2 := hk1.step hb2; clear hb2))
      go_ret
      exact ⟨rfl, hk2⟩
set_option maxHeartbeats 1000000 in
set_option maxRecDepth 100000 in
theorem nm1 (N R : Int) (d : Nat) (Y Z : List UInt8) (w : World) (h0 : ¬ (0 : Int) ≤ N) (hN : -9223372036854775808 ≤ N) (hr : N.tmod 10 = R) (hn : -R = (d : Int)) (hd : d ≤ 9) (hR1 : -9 ≤ R) (hR2 : R ≤ 0) (h10 : (-10 : Int) < N) (ha : str [45] ++ str Y = str Z) (hy : (str Y).size ≤ 100) (HB : Hid (∀ w, Calls Tryz.prog 27 #[.int .i64 (d : Int)] w fun e w' => e = .returned (.string (str Y)) ∧ Below w.heap.size w w')) : Calls Tryz.prog 47 #[.int .i64 N] w fun e w' => e = .returned (.string (str Z)) ∧ Below w.heap.size w w' := by
  have ha' : (⟨#[45]⟩ : ByteArray) ++ str Y = str Z := ha
  have hs1 : ¬ (9223372036854775807 : Nat) < (⟨#[45]⟩ : ByteArray).size + (str Y).size := by have : (⟨#[45]⟩ : ByteArray).size = 1 := rfl; omega
  go_enter Tryz.func47, Tryz.ntmps47
  go_wp2_with (go_at_call 27; (with_reducible refine (HB.out w).mono ?_); rintro e w1 ⟨rfl, hb1⟩)
  go_ret
  exact ⟨rfl, hb1⟩
set_option maxHeartbeats 1000000 in
set_option maxRecDepth 100000 in
theorem nm2 (N R Q : Int) (d : Nat) (X Y Z : List UInt8) (w : World) (h0 : ¬ (0 : Int) ≤ N) (hN : -9223372036854775808 ≤ N) (hr : N.tmod 10 = R) (hn : -R = (d : Int)) (hd : d ≤ 9) (hR1 : -9 ≤ R) (hR2 : R ≤ 0) (hq : N.tdiv 10 = Q) (hQ1 : -922337203685477581 ≤ Q) (hQ2 : Q ≤ 0) (h10 : ¬ (-10 : Int) < N) (ha : str X ++ str Y = str Z) (hx : (str X).size ≤ 101) (hy : (str Y).size ≤ 100) (HA : Hid (∀ w, Calls Tryz.prog 47 #[.int .i64 Q] w fun e w' => e = .returned (.string (str X)) ∧ Below w.heap.size w w')) (HB : Hid (∀ w, Calls Tryz.prog 27 #[.int .i64 (d : Int)] w fun e w' => e = .returned (.string (str Y)) ∧ Below w.heap.size w w')) : Calls Tryz.prog 47 #[.int .i64 N] w fun e w' => e = .returned (.string (str Z)) ∧ Below w.heap.size w w' := by
  have hs1 : ¬ (9223372036854775807 : Nat) < (str X).size + (str Y).size := by omega
  go_enter Tryz.func47, Tryz.ntmps47
  go_wp2_with (first
    | (go_at_call 27; (with_reducible refine (HB.out w).mono ?_); rintro e w1 ⟨rfl, hb1⟩; have hk1 := kept_of hb1; clear hb1)
    | (go_at_call 47; (with_reducible refine (HA.out w1).mono ?_); rintro e w2 ⟨rfl, hb2⟩; have hk2 := hk1.step hb2; clear hb2))
  go_ret
  exact ⟨rfl, hk2⟩
set_option maxHeartbeats 1000000 in
set_option maxRecDepth 100000 in
theorem nm0 (n : Nat) (Z : List UInt8) (w : World) (hN : n < 9223372036854775808) (HB : Hid (∀ w, Calls Tryz.prog 27 #[.int .i64 (n : Int)] w fun e w' => e = .returned (.string (str Z)) ∧ Below w.heap.size w w')) : Calls Tryz.prog 47 #[.int .i64 (n : Int)] w fun e w' => e = .returned (.string (str Z)) ∧ Below w.heap.size w w' := by
  have h0 : (0 : Int) ≤ (n : Int) := by omega
  go_enter Tryz.func47, Tryz.ntmps47
  go_wp2_with (go_at_call 27; (with_reducible refine (HB.out w).mono ?_); rintro e w1 ⟨rfl, hb1⟩)
  go_ret
  exact ⟨rfl, hb1⟩
theorem rneg_any : ∀ (m : Nat) (w : World), 1 ≤ m → m ≤ 9223372036854775808 → Calls Tryz.prog 47 #[.int .i64 (-(m : Int))] w fun e w' => e = .returned (.string (str (45 :: Lib.decDigits m))) ∧ Below w.heap.size w w' := by
  intro m
  induction m using Nat.strongRecOn with
  | _ m ih =>
    intro w h1 h2
    have hr : (-(m : Int)).tmod 10 = -((m % 10 : Nat) : Int) := by rw [Int.neg_tmod]; rfl
    have hq : (-(m : Int)).tdiv 10 = -((m / 10 : Nat) : Int) := by rw [Int.neg_tdiv]; rfl
    have hB : Hid (∀ w, Calls Tryz.prog 27 #[.int .i64 ((m % 10 : Nat) : Int)] w fun e w' => e = .returned (.string (str (Lib.decDigits (m % 10)))) ∧ Below w.heap.size w w') := fun w => decimal_all _ w (by omega)
    have hy : (str (Lib.decDigits (m % 10))).size ≤ 100 := by rw [str_size]; exact dec_short63 _ (by omega)
    by_cases h : m < 10
    · have e : m % 10 = m := by omega
      exact nm1 _ _ (m % 10) (Lib.decDigits (m % 10)) _ w (by omega) (by omega) hr (by omega) (by omega) (by omega) (by omega) (by omega) (by rw [e]; exact str_add [45] _) hy hB
    · have hR : Lib.decDigits m = Lib.decDigits (m / 10) ++ Lib.decDigits (m % 10) := by
        rw [Lib.decDigits, dif_neg h]
        congr 1
        rw [Lib.decDigits, dif_pos (by omega)]
      have hx : (str (45 :: Lib.decDigits (m / 10))).size ≤ 101 := by rw [str_size, List.length_cons]; have := dec_short63 (m / 10) (by omega); omega
      exact nm2 _ _ _ (m % 10) (45 :: Lib.decDigits (m / 10)) (Lib.decDigits (m % 10)) _ w (by omega) (by omega) hr (by omega) (by omega) (by omega) (by omega) hq (by omega) (by omega) (by omega) (by rw [hR]; exact str_add _ _) hx hy (fun w => ih (m / 10) (by omega) w (by omega) (by omega)) hB
theorem rnum47_any (n : Int) (w : World) (h1 : -9223372036854775808 ≤ n) (h2 : n ≤ 9223372036854775807) : Calls Tryz.prog 47 #[.int .i64 n] w fun e w' => e = .returned (.string (str (Lib.itoa n))) ∧ Below w.heap.size w w' := by
  by_cases h : n < 0
  · obtain ⟨m, rfl⟩ : ∃ m : Nat, n = -(m : Int) := ⟨n.natAbs, by omega⟩
    rw [Lib.itoa_neg m (by omega)]
    exact rneg_any m w (by omega) (by omega)
  · obtain ⟨m, rfl⟩ : ∃ m : Nat, n = (m : Int) := ⟨n.toNat, by omega⟩
    rw [Lib.itoa_nonneg]
    exact nm0 m _ w (by omega) (fun w => decimal_all m w (by omega))
end Go.Proofs.YtcepigekibidfaaGreatDoor
