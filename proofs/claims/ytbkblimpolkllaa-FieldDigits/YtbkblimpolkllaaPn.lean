/-
  What transeptlaw10.FieldNumbers and FieldDigits answer: true; nothing that was there turns. No condition.
-/
import Derived.Test.YtbkblimpolkllaaFj
import Derived.Laws.Bits128
import Derived.Laws.BitsLemmas
namespace Go.Proofs.Ytbkblimpolkllaa
open Go.RowKit
set_option linter.unusedVariables false

set_option maxHeartbeats 4000000 in
set_option maxRecDepth 100000 in
theorem numbers_any (l : List UInt8) (most : Int) (w : World) : Calls Try.prog 3 #[.string (str l), .int .i64 most] w fun e w' => e = .returned (.bool true) ∧ Below w.heap.size w w' := by
  have HS : Hid (∀ w', Calls Try.prog 7 #[] w' fun e w2 => e = .returned (.bool true) ∧ Below w'.heap.size w' w2) := fun w' => shown_any w'
  have HN : Hid (∀ w', Calls Try.prog 8 #[.string (str l), .int .i64 most] w' fun e w2 => e = .returned (.tuple #[.int .i64 (nmv l most), .bool (dg l)]) ∧ w2 = w') := fun w' => number_any l most w'
  have HR : Hid (∀ w', Calls Try.prog 9 #[.string (str l), .int .i64 most] w' fun e w2 => e = .returned (.tuple #[.int .i64 (nmv l most), .bool (dg l)]) ∧ w2 = w') := fun w' => rnumber_any l most w'
  generalize nmv l most = v at *
  generalize dg l = b at *
  have hb : (b == b) = true := by simp
  have hv : (v == v) = true := by simp
  go_enter Try.func3, Try.ntmps3
  go_wp2_with (first
    | (go_at_call 7; (with_reducible refine (HS.out _).mono ?_); (rintro e w1 ⟨rfl, hb1⟩); have HB1 := Lib.hid hb1; clear hb1)
    | (go_at_call 8; (with_reducible refine (HN.out _).mono ?_); (rintro e w2 ⟨rfl, hw⟩); subst w2)
    | (go_at_call 9; (with_reducible refine (HR.out _).mono ?_); (rintro e w3 ⟨rfl, hw⟩); subst w3))
  go_ret
  exact ⟨rfl, HB1.out⟩
/-- The digits of a number. -/
def dgs (n : Nat) : List UInt8 := if n < 10 then [UInt8.ofNat (48 + n)] else dgs (n / 10) ++ [UInt8.ofNat (48 + n % 10)]
termination_by n
decreasing_by omega
theorem dgs_lt (n : Nat) (h : n < 10) : dgs n = [UInt8.ofNat (48 + n)] := by rw [dgs, if_pos h]
theorem dgs_ge (n : Nat) (h : ¬ n < 10) : dgs n = dgs (n / 10) ++ [UInt8.ofNat (48 + n % 10)] := by rw [dgs, if_neg h]
theorem dig_nat (k : Nat) (h : k < 10) : (UInt8.ofNat (48 + k)).toNat = 48 + k := by rw [UInt8.toNat_ofNat']; omega
theorem isd_dig (k : Nat) (h : k < 10) : isd (UInt8.ofNat (48 + k)) = true := by
  unfold isd
  rw [dig_nat k h, decide_eq_true (by omega : 48 ≤ 48 + k), decide_eq_true (by omega : 48 + k ≤ 57)]
  rfl
theorem dgs_nv (n : Nat) : nv (dgs n) = n := by
  induction n using Nat.strongRecOn with
  | ind n ih =>
    by_cases h : n < 10
    · rw [dgs_lt n h]
      simp only [nv, List.foldl_cons, List.foldl_nil, dig_nat n h]
      omega
    · rw [dgs_ge n h, nv_snoc, ih (n / 10) (by omega), dig_nat _ (by omega)]
      omega
theorem dgs_all (n : Nat) : (dgs n).all isd = true := by
  induction n using Nat.strongRecOn with
  | ind n ih =>
    by_cases h : n < 10
    · rw [dgs_lt n h, List.all_cons, isd_dig n h]
      rfl
    · rw [dgs_ge n h, List.all_append, ih (n / 10) (by omega), List.all_cons, isd_dig (n % 10) (by omega)]
      rfl
theorem dgs_pos (n : Nat) : 1 ≤ (dgs n).length := by
  by_cases h : n < 10
  · rw [dgs_lt n h]; simp
  · rw [dgs_ge n h]; simp
theorem dgs_len : ∀ (k n : Nat), n < 10 ^ (k + 1) → (dgs n).length ≤ k + 1
  | 0, n, h => by rw [dgs_lt n (by simpa using h)]; simp
  | k + 1, n, h => by
    by_cases h10 : n < 10
    · rw [dgs_lt n h10]; simp
    · rw [dgs_ge n h10, List.length_append, List.length_singleton]
      have := dgs_len k (n / 10) (by rw [Nat.pow_succ] at h; omega)
      omega
/-- Digits with noughts ahead. -/
def ngt (k : Nat) (l : List UInt8) : List UInt8 := List.replicate k 48 ++ l
theorem ngt_succ (k : Nat) (l : List UInt8) : [48] ++ ngt k l = ngt (k + 1) l := by simp [ngt, List.replicate_succ]
theorem ngt_len (k : Nat) (l : List UInt8) : (ngt k l).length = k + l.length := by simp [ngt]
theorem ngt_nv (k : Nat) (l : List UInt8) : nv (ngt k l) = nv l := by
  induction k with
  | zero => rfl
  | succ k ih =>
    rw [← ngt_succ, ← ih]
    rfl
theorem ngt_all (k : Nat) (l : List UInt8) (h : l.all isd = true) : (ngt k l).all isd = true := by
  rw [ngt, List.all_append, h, Bool.and_true, List.all_eq_true]
  intro x hx
  rw [List.eq_of_mem_replicate hx]
  decide
theorem dg_cons (l : List UInt8) : dg (43 :: l) = false := dg_bad (43 :: l) 0 (by simp) (show isd 43 = false by decide)
theorem dg_blank (l : List UInt8) : dg (l ++ [32]) = false := by
  have e : (l ++ [32]).getD l.length (0 : UInt8) = 32 := by simp [List.getD]
  exact dg_bad (l ++ [32]) l.length (by simp) (by rw [e]; decide)
theorem run_bytes1 (w : World) (x : Int) (c : UInt8) (h : x = (c.toNat : Int)) : (convert 53 9 (.slice (some ⟨w.heap.size, 0, none⟩) 1 1)).run Try.prog (w.alloc (.cells #[.int .u8 x] 5)) = .ok (.string (str [c])) (w.alloc (.cells #[.int .u8 x] 5)) :=
  run_str _ _ _ 1 1 [c] (Bs.one' w x c h)
set_option maxHeartbeats 4000000 in
set_option maxRecDepth 100000 in
theorem digits_any (n : Nat) (hn : n ≤ 999999999) (w : World) : Calls Try.prog 19 #[.int .i64 (n : Int)] w fun e w' => e = .returned (.string (str (dgs n))) ∧ Below w.heap.size w w' := by
  induction n using Nat.strongRecOn generalizing w with
  | ind n ih =>
    obtain ⟨m, hm⟩ : ∃ m, m = n % 10 := ⟨_, rfl⟩
    obtain ⟨d, hd⟩ : ∃ d, d = 48 + m := ⟨_, rfl⟩
    have hw0 : (n : Int).tmod 10 = (m : Int) := by rw [hm, Int.tmod_eq_emod_of_nonneg (by omega)]; omega
    have hw1 : IntKind.i64.wrap (48 + (m : Int)) = (d : Int) := by rw [IntKind.wrap_i64]; omega
    have hw2 : IntKind.u8.wrap (d : Int) = (d : Int) := by simp [IntKind.wrap, IntKind.signed, IntKind.bits]; omega
    have hrb := fun w' : World => run_bytes1 w' (d : Int) (UInt8.ofNat d) (by rw [hd, dig_nat m (by omega)])
    by_cases h : n < 10
    · have h10 : (n : Int) < 10 := by omega
      have hD : dgs n = [UInt8.ofNat d] := by rw [dgs_lt n h, hd, hm, Nat.mod_eq_of_lt h]
      rw [hD]
      clear ih hD hm hd h
      generalize UInt8.ofNat d = c at *
      go_enter Try.func19, Try.ntmps19
      go_wp2_with fail
      go_ret
      exact ⟨rfl, (Below.refl _ w).alloc (Nat.le_refl _) _⟩
    · have h10 : ¬ (n : Int) < 10 := by omega
      obtain ⟨q, hq⟩ : ∃ q, q = n / 10 := ⟨_, rfl⟩
      have hw3 : (n : Int).tdiv 10 = (q : Int) := by rw [hq, Int.tdiv_eq_ediv_of_nonneg (by omega)]; omega
      have hw4 : wrap64 (q : Int) = (q : Int) := by unfold wrap64; omega
      have HC : Hid (∀ w', Calls Try.prog 19 #[.int .i64 (q : Int)] w' fun e w2 => e = .returned (.string (str (dgs q))) ∧ Below w'.heap.size w' w2) := fun w' => ih q (by omega) (by omega) w'
      have hD : dgs n = dgs q ++ [UInt8.ofNat d] := by rw [dgs_ge n h, hd, hm, hq]
      have hl : (dgs q).length ≤ 9 := dgs_len 8 q (by omega)
      have e1 : str (dgs q) ++ str [UInt8.ofNat d] = str (dgs n) := by rw [hD, str_add]
      have q1 : ¬ (9223372036854775807 : Nat) < (str (dgs q)).size + (str [UInt8.ofNat d]).size := by rw [str_size, str_size]; simp; omega
      clear ih hD hm hd h hq hl
      generalize UInt8.ofNat d = c at *
      generalize dgs q = X at *
      generalize dgs n = Y at *
      have hsz := str_size [c]
      go_enter Try.func19, Try.ntmps19
      go_wp2_with (go_at_call 19; (with_reducible refine (HC.out _).mono ?_); (rintro e w1 ⟨rfl, hb⟩); have HB := Lib.hid hb; clear hb)
      go_ret
      exact ⟨rfl, (((Below.refl _ w).alloc (Nat.le_refl _) _).trans (HB.out.mono (by simp)))⟩
theorem i64_and48 (n : Int) : bits .and .i64 n 281474976710655 = n % 281474976710656 := by
  have h1 : (BitVec.ofInt 64 281474976710655).toNat = 2 ^ 48 - 1 := by decide
  have key : (BitVec.ofInt 64 n &&& BitVec.ofInt 64 281474976710655).toNat = (n % ((2 ^ 64 : Nat) : Int)).toNat % 2 ^ 48 := by
    rw [BitVec.toNat_and, BitVec.toNat_ofInt, h1, Nat.and_two_pow_sub_one_eq_mod]
  show IntKind.i64.wrap ((BitVec.ofInt 64 n &&& BitVec.ofInt 64 281474976710655).toNat : Nat) = _
  rw [key, IntKind.wrap_i64]
  omega
theorem i64_and7 (n : Int) : bits .and .i64 n 7 = n % 8 := by
  have h1 : (BitVec.ofInt 64 7).toNat = 2 ^ 3 - 1 := by decide
  have key : (BitVec.ofInt 64 n &&& BitVec.ofInt 64 7).toNat = (n % ((2 ^ 64 : Nat) : Int)).toNat % 2 ^ 3 := by
    rw [BitVec.toNat_and, BitVec.toNat_ofInt, h1, Nat.and_two_pow_sub_one_eq_mod]
  show IntKind.i64.wrap ((BitVec.ofInt 64 n &&& BitVec.ofInt 64 7).toNat : Nat) = _
  rw [key, IntKind.wrap_i64]
  omega
theorem num_no (l : List UInt8) (most : Int) (h : dg l = false) (w' : World) : Calls Try.prog 8 #[.string (str l), .int .i64 most] w' fun e w2 => e = .returned (.tuple #[.int .i64 0, .bool false]) ∧ w2 = w' := by
  have := number_any l most w'
  rw [nmv_no l most h, h] at this
  exact this
set_option maxHeartbeats 4000000 in
set_option maxRecDepth 100000 in
theorem digits_law_any (n noughts most : Int) (w : World) : Calls Try.prog 6 #[.int .i64 n, .int .i64 noughts, .int .i64 most] w fun e w' => e = .returned (.bool true) ∧ Below w.heap.size w w' := by
  have HS : Hid (∀ w', Calls Try.prog 7 #[] w' fun e w2 => e = .returned (.bool true) ∧ Below w'.heap.size w' w2) := fun w' => shown_any w'
  obtain ⟨a, ha⟩ : ∃ a : Nat, bits .and .i64 n 281474976710655 = (a : Int) := ⟨(n % 281474976710656).toNat, by rw [i64_and48]; omega⟩
  obtain ⟨m, hm⟩ : ∃ m : Nat, bits .and .i64 noughts 7 = (m : Int) := ⟨(noughts % 8).toNat, by rw [i64_and7]; omega⟩
  have HM8 : Hid (m ≤ 7) := by show _ ≤ _; rw [i64_and7] at hm; omega
  obtain ⟨N, hN⟩ : ∃ N, N = a % 1000000000 := ⟨_, rfl⟩
  have hw0 : (a : Int).tmod 1000000000 = (N : Int) := by rw [hN, Int.tmod_eq_emod_of_nonneg (by omega)]; omega
  have hNl : N ≤ 999999999 := by omega
  have HC : Hid (∀ w', Calls Try.prog 19 #[.int .i64 (N : Int)] w' fun e w2 => e = .returned (.string (str (dgs N))) ∧ Below w'.heap.size w' w2) := fun w' => digits_any N hNl w'
  have HDl : Hid ((dgs N).length ≤ 9) := dgs_len 8 N (by omega)
  have HD1 : Hid (1 ≤ (dgs N).length) := dgs_pos N
  have HDa : Hid ((dgs N).all isd = true) := dgs_all N
  have HDn : Hid (nv (dgs N) = N) := dgs_nv N
  have HN0 : Hid (ngt 0 (dgs N) = dgs N) := rfl
  obtain ⟨mn, hmn⟩ : ∃ mn : Int, min (N : Int) most = mn := ⟨_, rfl⟩
  have HMn := Lib.hid hmn
  have hmm : (mn == mn) = true := by simp
  obtain ⟨D, hD⟩ : ∃ D, D = dgs N := ⟨_, rfl⟩
  rw [← hD] at HC HDl HD1 HDa HDn HN0
  clear hN hNl hD
  go_enter Try.func6, Try.ntmps6
  go_wp2_with (first
    | (go_at_call 7; (with_reducible refine (HS.out _).mono ?_); (rintro e w1 ⟨rfl, hb1⟩); have HB1 := Lib.hid hb1; clear hb1)
    | (go_at_call 19; (with_reducible refine (HC.out _).mono ?_); (rintro e w2 ⟨rfl, hb⟩); have HB2 := Lib.hid (HB1.out.trans (hb.mono HB1.out.size)); clear hb))
  go_loop [9, 8] (fun i v => ∃ k : Nat, i = .int .i64 (k : Int) ∧ v = .string (str (ngt k D)) ∧ k + D.length ≤ 9 ∧ k ≤ 7) (fun i _ => 10 - (intOf i).toNat)
  case atStart => exact ⟨0, rfl, by rw [HN0.out], by have := HDl.out; omega, by omega⟩
  case round =>
    obtain ⟨k, rfl, rfl, hL, hk7⟩ := hrel
    have HL := Lib.hid hL
    clear hL
    by_cases hkm : k < m
    · have hkm2 : (k : Int) < (m : Int) := by omega
      by_cases h9 : k + D.length < 9
      · have hsz0 := str_size (ngt k D)
        obtain ⟨XL, hXL⟩ : ∃ XL, XL = (ngt k D).length := ⟨_, rfl⟩
        have h9b : (XL : Int) < 9 := by rw [hXL, ngt_len]; omega
        have q1 : ¬ (9223372036854775807 : Nat) < 1 + XL := by omega
        have e1 : (⟨#[48]⟩ : ByteArray) ++ str (ngt k D) = str (ngt (k + 1) D) := by rw [← ngt_succ]; exact str_add [48] _
        have h10 : Hid (k + 1 + D.length ≤ 9) := by show _ ≤ _; omega
        have hk8 : Hid (k + 1 ≤ 7) := by show _ ≤ _; have := HM8.out; omega
        rw [← hXL] at hsz0
        clear hXL
        generalize ngt k D = X at *
        generalize hY : ngt (k + 1) D = Y at *
        have HY := Lib.hid hY
        clear hY
        go_wp2_with fail
        go_round
        case rel => exact ⟨k + 1, by go_num, by rw [HY.out], h10.out, hk8.out⟩
        case measure => simp [intOf]; omega
      · have h9c : ¬ k + D.length < 9 := h9
        obtain ⟨X, hX⟩ : ∃ X, X = ngt k D := ⟨_, rfl⟩
        have hXl : X.length ≤ 9 := by rw [hX, ngt_len]; exact HL.out
        have hXd : dg X = true := by rw [hX]; exact dg_yes _ (by rw [ngt_len]; have := HD1.out; omega) (by rw [ngt_len]; exact HL.out) (ngt_all _ _ HDa.out)
        have HNX : Hid (∀ w', Calls Try.prog 8 #[.string (str X), .int .i64 most] w' fun e w2 => e = .returned (.tuple #[.int .i64 (mn), .bool true]) ∧ w2 = w') := fun w' => by
          have h := number_any X most w'
          rw [nmv_yes X most hXd, hXd, hX, ngt_nv, HDn.out, HMn.out, ← hX] at h
          exact h
        obtain ⟨Y1, hY1⟩ : ∃ Y, Y = 43 :: X := ⟨_, rfl⟩
        obtain ⟨Y2, hY2⟩ : ∃ Y, Y = X ++ [32] := ⟨_, rfl⟩
        obtain ⟨Y3, hY3⟩ : ∃ Y, Y = List.replicate 9 48 ++ X := ⟨_, rfl⟩
        have HN1 : Hid (∀ w', Calls Try.prog 8 #[.string (str Y1), .int .i64 most] w' fun e w2 => e = .returned (.tuple #[.int .i64 (0), .bool false]) ∧ w2 = w') := fun w' => num_no Y1 most (by rw [hY1]; exact dg_cons X) w'
        have HN2 : Hid (∀ w', Calls Try.prog 8 #[.string (str Y2), .int .i64 most] w' fun e w2 => e = .returned (.tuple #[.int .i64 (0), .bool false]) ∧ w2 = w') := fun w' => num_no Y2 most (by rw [hY2]; exact dg_blank X) w'
        have HN3 : Hid (∀ w', Calls Try.prog 8 #[.string (str Y3), .int .i64 most] w' fun e w2 => e = .returned (.tuple #[.int .i64 (0), .bool false]) ∧ w2 = w') := fun w' => num_no Y3 most (by rw [hY3]; exact dg_long _ (by have := dgs_pos N; rw [List.length_append, hX, ngt_len]; simp; have := HD1.out; omega)) w'
        have e1 : (⟨#[43]⟩ : ByteArray) ++ str X = str Y1 := by rw [hY1]; exact str_add [43] X
        have e2 : str X ++ (⟨#[32]⟩ : ByteArray) = str Y2 := by rw [hY2]; exact str_add X [32]
        have e3 : (⟨#[48, 48, 48, 48, 48, 48, 48, 48, 48]⟩ : ByteArray) ++ str X = str Y3 := by rw [hY3]; exact str_add [48, 48, 48, 48, 48, 48, 48, 48, 48] X
        have hXz := str_size X
        have HXn : Hid (X.length = k + D.length) := by show _ = _; rw [hX, ngt_len]
        obtain ⟨XL, hXL⟩ : ∃ XL, XL = X.length := ⟨_, rfl⟩
        rw [← hXL] at hXl hXz HXn
        have q1 : ¬ (9223372036854775807 : Nat) < 1 + XL := by omega
        have q2 : ¬ (9223372036854775807 : Nat) < XL + 1 := by omega
        have q3 : ¬ (9223372036854775807 : Nat) < 9 + XL := by omega
        rw [← hX] at *
        have hsz0 := hXz
        clear hX hXd hY1 hY2 hY3 hXL
        have h9b : ¬ (XL : Int) < 9 := by have := HXn.out; omega
        clear h9 h9c
        go_wp2_with (first
          | (go_at_call 8; (with_reducible refine (HNX.out _).mono ?_); (rintro e wnHNX ⟨rfl, hw⟩); subst wnHNX)
          | (go_at_call 8; (with_reducible refine (HN1.out _).mono ?_); (rintro e wnHN1 ⟨rfl, hw⟩); subst wnHN1)
          | (go_at_call 8; (with_reducible refine (HN2.out _).mono ?_); (rintro e wnHN2 ⟨rfl, hw⟩); subst wnHN2)
          | (go_at_call 8; (with_reducible refine (HN3.out _).mono ?_); (rintro e wnHN3 ⟨rfl, hw⟩); subst wnHN3))
        go_ret
        exact ⟨rfl, HB2.out⟩
    · have hkm2 : ¬ (k : Int) < (m : Int) := by omega
      obtain ⟨X, hX⟩ : ∃ X, X = ngt k D := ⟨_, rfl⟩
      have hXl : X.length ≤ 9 := by rw [hX, ngt_len]; exact HL.out
      have hXd : dg X = true := by rw [hX]; exact dg_yes _ (by rw [ngt_len]; have := HD1.out; omega) (by rw [ngt_len]; exact HL.out) (ngt_all _ _ HDa.out)
      have HNX : Hid (∀ w', Calls Try.prog 8 #[.string (str X), .int .i64 most] w' fun e w2 => e = .returned (.tuple #[.int .i64 (mn), .bool true]) ∧ w2 = w') := fun w' => by
        have h := number_any X most w'
        rw [nmv_yes X most hXd, hXd, hX, ngt_nv, HDn.out, HMn.out, ← hX] at h
        exact h
      obtain ⟨Y1, hY1⟩ : ∃ Y, Y = 43 :: X := ⟨_, rfl⟩
      obtain ⟨Y2, hY2⟩ : ∃ Y, Y = X ++ [32] := ⟨_, rfl⟩
      obtain ⟨Y3, hY3⟩ : ∃ Y, Y = List.replicate 9 48 ++ X := ⟨_, rfl⟩
      have HN1 : Hid (∀ w', Calls Try.prog 8 #[.string (str Y1), .int .i64 most] w' fun e w2 => e = .returned (.tuple #[.int .i64 (0), .bool false]) ∧ w2 = w') := fun w' => num_no Y1 most (by rw [hY1]; exact dg_cons X) w'
      have HN2 : Hid (∀ w', Calls Try.prog 8 #[.string (str Y2), .int .i64 most] w' fun e w2 => e = .returned (.tuple #[.int .i64 (0), .bool false]) ∧ w2 = w') := fun w' => num_no Y2 most (by rw [hY2]; exact dg_blank X) w'
      have HN3 : Hid (∀ w', Calls Try.prog 8 #[.string (str Y3), .int .i64 most] w' fun e w2 => e = .returned (.tuple #[.int .i64 (0), .bool false]) ∧ w2 = w') := fun w' => num_no Y3 most (by rw [hY3]; exact dg_long _ (by have := dgs_pos N; rw [List.length_append, hX, ngt_len]; simp; have := HD1.out; omega)) w'
      have e1 : (⟨#[43]⟩ : ByteArray) ++ str X = str Y1 := by rw [hY1]; exact str_add [43] X
      have e2 : str X ++ (⟨#[32]⟩ : ByteArray) = str Y2 := by rw [hY2]; exact str_add X [32]
      have e3 : (⟨#[48, 48, 48, 48, 48, 48, 48, 48, 48]⟩ : ByteArray) ++ str X = str Y3 := by rw [hY3]; exact str_add [48, 48, 48, 48, 48, 48, 48, 48, 48] X
      have hXz := str_size X
      have HXn : Hid (X.length = k + D.length) := by show _ = _; rw [hX, ngt_len]
      obtain ⟨XL, hXL⟩ : ∃ XL, XL = X.length := ⟨_, rfl⟩
      rw [← hXL] at hXl hXz HXn
      have q1 : ¬ (9223372036854775807 : Nat) < 1 + XL := by omega
      have q2 : ¬ (9223372036854775807 : Nat) < XL + 1 := by omega
      have q3 : ¬ (9223372036854775807 : Nat) < 9 + XL := by omega
      rw [← hX] at *
      have hsz0 := hXz
      clear hX hXd hY1 hY2 hY3 hXL
      go_wp2_with (first
        | (go_at_call 8; (with_reducible refine (HNX.out _).mono ?_); (rintro e wnHNX ⟨rfl, hw⟩); subst wnHNX)
        | (go_at_call 8; (with_reducible refine (HN1.out _).mono ?_); (rintro e wnHN1 ⟨rfl, hw⟩); subst wnHN1)
        | (go_at_call 8; (with_reducible refine (HN2.out _).mono ?_); (rintro e wnHN2 ⟨rfl, hw⟩); subst wnHN2)
        | (go_at_call 8; (with_reducible refine (HN3.out _).mono ?_); (rintro e wnHN3 ⟨rfl, hw⟩); subst wnHN3))
      go_ret
      exact ⟨rfl, HB2.out⟩
end Go.Proofs.Ytbkblimpolkllaa
