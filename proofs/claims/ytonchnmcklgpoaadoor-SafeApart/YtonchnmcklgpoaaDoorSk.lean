/-
  SafeCuts and SafeRanges walked. Condition: texts of at most 2^62 bytes.
-/
import Derived.Test.YtonchnmcklgpoaaDoorSi
import Derived.Test.YtonchnmcklgpoaaDoorSj
import Derived.BigQuiet
namespace Go.Proofs.YtonchnmcklgpoaaDoor
open Go.RowKit Go.Maps
set_option linter.unusedVariables false

theorem i64_and65535 (n : Int) : bits .and .i64 n 65535 = n % 65536 := by
  have h1 : (BitVec.ofInt 64 65535).toNat = 2 ^ 16 - 1 := by decide
  have key : (BitVec.ofInt 64 n &&& BitVec.ofInt 64 65535).toNat = (n % ((2 ^ 64 : Nat) : Int)).toNat % 2 ^ 16 := by
    rw [BitVec.toNat_and, BitVec.toNat_ofInt, h1, Nat.and_two_pow_sub_one_eq_mod]
  show IntKind.i64.wrap ((BitVec.ofInt 64 n &&& BitVec.ofInt 64 65535).toNat : Nat) = n % 65536
  rw [key, IntKind.wrap_i64]
  omega
set_option maxHeartbeats 4000000 in
set_option maxRecDepth 100000 in
theorem cuts_any (v : List UInt8) (n1 n2 : Int) (w : World) (hv : v.length ≤ 4611686018427387904) : Calls Tryd.prog 5 #[.string (str v), .int .i64 n1, .int .i64 n2] w fun e w' => e = .returned (.bool true) ∧ Below w.heap.size w w' := by
  have HSh : Hid (∀ w', Calls Tryd.prog 9 #[] w' fun e w2 => e = .returned (.bool true) ∧ Below w'.heap.size w' w2) := fun w' => shown_any w'
  have hsz := str_size v
  obtain ⟨p0, hp0⟩ : ∃ q : Nat, bits .and .i64 n1 65535 = (q : Int) := ⟨(n1 % 65536).toNat, by rw [i64_and65535]; omega⟩
  obtain ⟨q0, hq0⟩ : ∃ q : Nat, bits .and .i64 n2 65535 = (q : Int) := ⟨(n2 % 65536).toNat, by rw [i64_and65535]; omega⟩
  obtain ⟨S, hS⟩ : ∃ S, S = v.length := ⟨_, rfl⟩
  rw [← hS] at hsz hv
  obtain ⟨S1, hS1⟩ : ∃ k, k = S + 1 := ⟨_, rfl⟩
  obtain ⟨f, hf⟩ : ∃ f, f = p0 % S1 := ⟨_, rfl⟩
  have hfS : f ≤ S := by have := Nat.mod_lt p0 (by omega : 0 < S1); omega
  obtain ⟨d, hd⟩ : ∃ k, k = S - f := ⟨_, rfl⟩
  obtain ⟨d1, hd1⟩ : ∃ k, k = d + 1 := ⟨_, rfl⟩
  obtain ⟨r, hr⟩ : ∃ f, f = q0 % d1 := ⟨_, rfl⟩
  have hrd : r ≤ d := by have := Nat.mod_lt q0 (by omega : 0 < d1); omega
  obtain ⟨t, ht⟩ : ∃ k, k = f + r := ⟨_, rfl⟩
  have a1 : IntKind.i64.wrap ((S : Int) + 1) = (S1 : Int) := by rw [IntKind.wrap_i64]; omega
  have a2 : (p0 : Int).tmod (S1 : Int) = (f : Int) := by rw [hf]; rfl
  have a3 : IntKind.i64.wrap ((S : Int) - (f : Int)) = (d : Int) := by rw [IntKind.wrap_i64]; omega
  have a4 : IntKind.i64.wrap ((d : Int) + 1) = (d1 : Int) := by rw [IntKind.wrap_i64]; omega
  have a5 : (q0 : Int).tmod (d1 : Int) = (r : Int) := by rw [hr]; rfl
  have a6 : IntKind.i64.wrap ((f : Int) + (r : Int)) = (t : Int) := by rw [IntKind.wrap_i64]; omega
  have a7 : ¬ (S1 : Int) = 0 := by omega
  have a8 : ¬ (d1 : Int) = 0 := by omega
  have a9 : (f : Int) ≤ (t : Int) := by omega
  have a10 : (t : Int) ≤ (S : Int) := by omega
  have a11 : (0 : Int) ≤ (f : Int) := by omega
  have hx0 := str_sub v f t
  obtain ⟨P, hP⟩ : ∃ P, P = (v.drop f).take (t - f) := ⟨_, rfl⟩
  have hmem : ∀ x ∈ P, x ∈ v := fun x hx => by rw [hP] at hx; exact List.mem_of_mem_drop (List.mem_of_mem_take hx)
  have hPl : P.length ≤ S := by rw [hP, List.length_take, List.length_drop]; omega
  rw [← hP] at hx0
  have HIa : hdr kAcc v = true → hdr kAcc P = true := acc_cut v P hmem (by omega)
  have HIb : hdr kAL v = true → hdr kCL P = true := al_cut v P hmem (by omega)
  have A1 : Hid (∀ w', Calls Tryd.prog 12 #[.string ⟨#[97, 99, 99, 101, 112, 116]⟩, .string (str v)] w' fun e w2 => e = .returned (.bool (hdr kAcc v)) ∧ Below w'.heap.size w' w2) := fun w' => header_any kAcc v w' (by decide) (by omega)
  have A2 : Hid (∀ w', Calls Tryd.prog 12 #[.string ⟨#[97, 99, 99, 101, 112, 116]⟩, .string (str P)] w' fun e w2 => e = .returned (.bool (hdr kAcc P)) ∧ Below w'.heap.size w' w2) := fun w' => header_any kAcc P w' (by decide) (by omega)
  have B1 : Hid (∀ w', Calls Tryd.prog 12 #[.string ⟨#[97, 99, 99, 101, 112, 116, 45, 108, 97, 110, 103, 117, 97, 103, 101]⟩, .string (str v)] w' fun e w2 => e = .returned (.bool (hdr kAL v)) ∧ Below w'.heap.size w' w2) := fun w' => header_any kAL v w' (by decide) (by omega)
  have B2 : Hid (∀ w', Calls Tryd.prog 12 #[.string ⟨#[99, 111, 110, 116, 101, 110, 116, 45, 108, 97, 110, 103, 117, 97, 103, 101]⟩, .string (str P)] w' fun e w2 => e = .returned (.bool (hdr kCL P)) ∧ Below w'.heap.size w' w2) := fun w' => header_any kCL P w' (by decide) (by omega)
  have C1 : Hid (∀ w', Calls Tryd.prog 12 #[.string ⟨#[97, 99, 99, 101, 112, 116]⟩, .string (str (P ++ [40]))] w' fun e w2 => e = .returned (.bool false) ∧ Below w'.heap.size w' w2) := fun w' => by
    have h := header_any kAcc ((P ++ [40])) w' (by decide) (by first | omega | (rw [List.length_append, List.length_singleton]; omega))
    rw [acc_bad P] at h
    exact h
  have eC1 : str P ++ ⟨#[40]⟩ = str (P ++ [40]) := str_add P [40]
  have C2 : Hid (∀ w', Calls Tryd.prog 12 #[.string ⟨#[99, 111, 110, 116, 101, 110, 116, 45, 116, 121, 112, 101]⟩, .string (str (P ++ [123]))] w' fun e w2 => e = .returned (.bool false) ∧ Below w'.heap.size w' w2) := fun w' => by
    have h := header_any kCT ((P ++ [123])) w' (by decide) (by first | omega | (rw [List.length_append, List.length_singleton]; omega))
    rw [ct_bad P] at h
    exact h
  have eC2 : str P ++ ⟨#[123]⟩ = str (P ++ [123]) := str_add P [123]
  have C3 : Hid (∀ w', Calls Tryd.prog 12 #[.string ⟨#[114, 97, 110, 103, 101]⟩, .string (str (P ++ [34]))] w' fun e w2 => e = .returned (.bool false) ∧ Below w'.heap.size w' w2) := fun w' => by
    have h := header_any kRg ((P ++ [34])) w' (by decide) (by first | omega | (rw [List.length_append, List.length_singleton]; omega))
    rw [rg_bad P] at h
    exact h
  have eC3 : str P ++ ⟨#[34]⟩ = str (P ++ [34]) := str_add P [34]
  have C4 : Hid (∀ w', Calls Tryd.prog 12 #[.string ⟨#[99, 111, 110, 116, 101, 110, 116, 45, 108, 97, 110, 103, 117, 97, 103, 101]⟩, .string (str (P ++ [64]))] w' fun e w2 => e = .returned (.bool false) ∧ Below w'.heap.size w' w2) := fun w' => by
    have h := header_any kCL ((P ++ [64])) w' (by decide) (by first | omega | (rw [List.length_append, List.length_singleton]; omega))
    rw [cl_bad P] at h
    exact h
  have eC4 : str P ++ ⟨#[64]⟩ = str (P ++ [64]) := str_add P [64]
  have q1 : ¬ 9223372036854775807 < (str P).size + 1 := by rw [str_size]; omega
  generalize P ++ [40] = X1 at *
  generalize P ++ [123] = X2 at *
  generalize P ++ [34] = X3 at *
  generalize P ++ [64] = X4 at *
  generalize hdr kAcc v = a at *
  generalize hdr kAL v = b at *
  generalize hdr kAcc P = a' at *
  generalize hdr kCL P = b' at *
  clear hmem hPl hP hS hS1 hf hd hd1 hr ht hfS hrd
  cases a
  · cases b
    · skip
      go_enter Tryd.func5, Tryd.ntmps5
      go_wp2_with (first
                | (go_at_call 9; (with_reducible refine (HSh.out _).mono ?_); (rintro e w1 ⟨rfl, hb⟩); have HB_1 := Lib.hid hb; clear hb)
                | (go_at_call 12; (with_reducible refine (A1.out _).mono ?_); (rintro e w2 ⟨rfl, hb⟩); have HB_2 := Lib.hid (HB_1.out.trans (hb.mono HB_1.out.size)); clear hb; clear A1)
                | (go_at_call 12; (with_reducible refine (B1.out _).mono ?_); (rintro e w3 ⟨rfl, hb⟩); have HB_3 := Lib.hid (HB_2.out.trans (hb.mono HB_2.out.size)); clear hb; clear B1)
                | (go_at_call 12; (with_reducible refine (C1.out _).mono ?_); (rintro e w4 ⟨rfl, hb⟩); have HB_4 := Lib.hid (HB_3.out.trans (hb.mono HB_3.out.size)); clear hb; clear C1)
                | (go_at_call 12; (with_reducible refine (C2.out _).mono ?_); (rintro e w5 ⟨rfl, hb⟩); have HB_5 := Lib.hid (HB_4.out.trans (hb.mono HB_4.out.size)); clear hb; clear C2)
                | (go_at_call 12; (with_reducible refine (C3.out _).mono ?_); (rintro e w6 ⟨rfl, hb⟩); have HB_6 := Lib.hid (HB_5.out.trans (hb.mono HB_5.out.size)); clear hb; clear C3)
                | (go_at_call 12; (with_reducible refine (C4.out _).mono ?_); (rintro e w7 ⟨rfl, hb⟩); have HB_7 := Lib.hid (HB_6.out.trans (hb.mono HB_6.out.size)); clear hb; clear C4))
      go_ret
      exact ⟨rfl, HB_7.out⟩
    · obtain rfl := HIb rfl
      go_enter Tryd.func5, Tryd.ntmps5
      go_wp2_with (first
                | (go_at_call 9; (with_reducible refine (HSh.out _).mono ?_); (rintro e w1 ⟨rfl, hb⟩); have HB_1 := Lib.hid hb; clear hb)
                | (go_at_call 12; (with_reducible refine (A1.out _).mono ?_); (rintro e w2 ⟨rfl, hb⟩); have HB_2 := Lib.hid (HB_1.out.trans (hb.mono HB_1.out.size)); clear hb; clear A1)
                | (go_at_call 12; (with_reducible refine (B1.out _).mono ?_); (rintro e w3 ⟨rfl, hb⟩); have HB_3 := Lib.hid (HB_2.out.trans (hb.mono HB_2.out.size)); clear hb; clear B1)
                | (go_at_call 12; (with_reducible refine (B2.out _).mono ?_); (rintro e w4 ⟨rfl, hb⟩); have HB_4 := Lib.hid (HB_3.out.trans (hb.mono HB_3.out.size)); clear hb; clear B2)
                | (go_at_call 12; (with_reducible refine (C1.out _).mono ?_); (rintro e w5 ⟨rfl, hb⟩); have HB_5 := Lib.hid (HB_4.out.trans (hb.mono HB_4.out.size)); clear hb; clear C1)
                | (go_at_call 12; (with_reducible refine (C2.out _).mono ?_); (rintro e w6 ⟨rfl, hb⟩); have HB_6 := Lib.hid (HB_5.out.trans (hb.mono HB_5.out.size)); clear hb; clear C2)
                | (go_at_call 12; (with_reducible refine (C3.out _).mono ?_); (rintro e w7 ⟨rfl, hb⟩); have HB_7 := Lib.hid (HB_6.out.trans (hb.mono HB_6.out.size)); clear hb; clear C3)
                | (go_at_call 12; (with_reducible refine (C4.out _).mono ?_); (rintro e w8 ⟨rfl, hb⟩); have HB_8 := Lib.hid (HB_7.out.trans (hb.mono HB_7.out.size)); clear hb; clear C4))
      go_ret
      exact ⟨rfl, HB_8.out⟩
  · obtain rfl := HIa rfl
    cases b
    · skip
      go_enter Tryd.func5, Tryd.ntmps5
      go_wp2_with (first
                | (go_at_call 9; (with_reducible refine (HSh.out _).mono ?_); (rintro e w1 ⟨rfl, hb⟩); have HB_1 := Lib.hid hb; clear hb)
                | (go_at_call 12; (with_reducible refine (A1.out _).mono ?_); (rintro e w2 ⟨rfl, hb⟩); have HB_2 := Lib.hid (HB_1.out.trans (hb.mono HB_1.out.size)); clear hb; clear A1)
                | (go_at_call 12; (with_reducible refine (A2.out _).mono ?_); (rintro e w3 ⟨rfl, hb⟩); have HB_3 := Lib.hid (HB_2.out.trans (hb.mono HB_2.out.size)); clear hb; clear A2)
                | (go_at_call 12; (with_reducible refine (B1.out _).mono ?_); (rintro e w4 ⟨rfl, hb⟩); have HB_4 := Lib.hid (HB_3.out.trans (hb.mono HB_3.out.size)); clear hb; clear B1)
                | (go_at_call 12; (with_reducible refine (C1.out _).mono ?_); (rintro e w5 ⟨rfl, hb⟩); have HB_5 := Lib.hid (HB_4.out.trans (hb.mono HB_4.out.size)); clear hb; clear C1)
                | (go_at_call 12; (with_reducible refine (C2.out _).mono ?_); (rintro e w6 ⟨rfl, hb⟩); have HB_6 := Lib.hid (HB_5.out.trans (hb.mono HB_5.out.size)); clear hb; clear C2)
                | (go_at_call 12; (with_reducible refine (C3.out _).mono ?_); (rintro e w7 ⟨rfl, hb⟩); have HB_7 := Lib.hid (HB_6.out.trans (hb.mono HB_6.out.size)); clear hb; clear C3)
                | (go_at_call 12; (with_reducible refine (C4.out _).mono ?_); (rintro e w8 ⟨rfl, hb⟩); have HB_8 := Lib.hid (HB_7.out.trans (hb.mono HB_7.out.size)); clear hb; clear C4))
      go_ret
      exact ⟨rfl, HB_8.out⟩
    · obtain rfl := HIb rfl
      go_enter Tryd.func5, Tryd.ntmps5
      go_wp2_with (first
                | (go_at_call 9; (with_reducible refine (HSh.out _).mono ?_); (rintro e w1 ⟨rfl, hb⟩); have HB_1 := Lib.hid hb; clear hb)
                | (go_at_call 12; (with_reducible refine (A1.out _).mono ?_); (rintro e w2 ⟨rfl, hb⟩); have HB_2 := Lib.hid (HB_1.out.trans (hb.mono HB_1.out.size)); clear hb; clear A1)
                | (go_at_call 12; (with_reducible refine (A2.out _).mono ?_); (rintro e w3 ⟨rfl, hb⟩); have HB_3 := Lib.hid (HB_2.out.trans (hb.mono HB_2.out.size)); clear hb; clear A2)
                | (go_at_call 12; (with_reducible refine (B1.out _).mono ?_); (rintro e w4 ⟨rfl, hb⟩); have HB_4 := Lib.hid (HB_3.out.trans (hb.mono HB_3.out.size)); clear hb; clear B1)
                | (go_at_call 12; (with_reducible refine (B2.out _).mono ?_); (rintro e w5 ⟨rfl, hb⟩); have HB_5 := Lib.hid (HB_4.out.trans (hb.mono HB_4.out.size)); clear hb; clear B2)
                | (go_at_call 12; (with_reducible refine (C1.out _).mono ?_); (rintro e w6 ⟨rfl, hb⟩); have HB_6 := Lib.hid (HB_5.out.trans (hb.mono HB_5.out.size)); clear hb; clear C1)
                | (go_at_call 12; (with_reducible refine (C2.out _).mono ?_); (rintro e w7 ⟨rfl, hb⟩); have HB_7 := Lib.hid (HB_6.out.trans (hb.mono HB_6.out.size)); clear hb; clear C2)
                | (go_at_call 12; (with_reducible refine (C3.out _).mono ?_); (rintro e w8 ⟨rfl, hb⟩); have HB_8 := Lib.hid (HB_7.out.trans (hb.mono HB_7.out.size)); clear hb; clear C3)
                | (go_at_call 12; (with_reducible refine (C4.out _).mono ?_); (rintro e w9 ⟨rfl, hb⟩); have HB_9 := Lib.hid (HB_8.out.trans (hb.mono HB_8.out.size)); clear hb; clear C4))
      go_ret
      exact ⟨rfl, HB_9.out⟩
/-- The digits of a number. -/
def dgs (n : Nat) : List UInt8 := if n < 10 then [UInt8.ofNat (48 + n)] else dgs (n / 10) ++ [UInt8.ofNat (48 + n % 10)]
termination_by n
decreasing_by omega
theorem dgs_lt (n : Nat) (h : n < 10) : dgs n = [UInt8.ofNat (48 + n)] := by rw [dgs, if_pos h]
theorem dgs_ge (n : Nat) (h : ¬ n < 10) : dgs n = dgs (n / 10) ++ [UInt8.ofNat (48 + n % 10)] := by rw [dgs, if_neg h]
theorem dig_nat (k : Nat) (h : k < 10) : (UInt8.ofNat (48 + k)).toNat = 48 + k := by rw [UInt8.toNat_ofNat']; omega
theorem isd_dig (k : Nat) (h : k < 10) : isd (UInt8.ofNat (48 + k)) = true := by
  unfold isd
  rw [dig_nat k h, decide_eq_true (by omega : 48 ≤ 48 + k), decide_eq_true (by omega : 48 + k ≤ 57)]
  rfl
theorem dgs_nv (n : Nat) : nv (dgs n) = n := by
  induction n using Nat.strongRecOn with
  | ind n ih =>
    by_cases h : n < 10
    · rw [dgs_lt n h]
      simp only [nv, List.foldl_cons, List.foldl_nil, dig_nat n h]
      omega
    · rw [dgs_ge n h, nv_snoc, ih (n / 10) (by omega), dig_nat _ (by omega)]
      omega
theorem dgs_all (n : Nat) : (dgs n).all isd = true := by
  induction n using Nat.strongRecOn with
  | ind n ih =>
    by_cases h : n < 10
    · rw [dgs_lt n h, List.all_cons, isd_dig n h]
      rfl
    · rw [dgs_ge n h, List.all_append, ih (n / 10) (by omega), List.all_cons, isd_dig (n % 10) (by omega)]
      rfl
theorem dgs_pos (n : Nat) : 1 ≤ (dgs n).length := by
  by_cases h : n < 10
  · rw [dgs_lt n h]; simp
  · rw [dgs_ge n h]; simp
theorem dgs_len : ∀ (k n : Nat), n < 10 ^ (k + 1) → (dgs n).length ≤ k + 1
  | 0, n, h => by rw [dgs_lt n (by simpa using h)]; simp
  | k + 1, n, h => by
    by_cases h10 : n < 10
    · rw [dgs_lt n h10]; simp
    · rw [dgs_ge n h10, List.length_append, List.length_singleton]
      have := dgs_len k (n / 10) (by rw [Nat.pow_succ] at h; omega)
      omega
theorem run_bytes1 (w : World) (x : Int) (c : UInt8) (h : x = (c.toNat : Int)) : (convert 38 9 (.slice (some ⟨w.heap.size, 0, none⟩) 1 1)).run Tryd.prog (w.alloc (.cells #[.int .u8 x] 5)) = .ok (.string (str [c])) (w.alloc (.cells #[.int .u8 x] 5)) :=
  run_str _ _ _ 1 1 [c] (Bs.one' w x c h)
set_option maxHeartbeats 4000000 in
set_option maxRecDepth 100000 in
theorem digits_any (n : Nat) (hn : n ≤ 999999999) (w : World) : Calls Tryd.prog 18 #[.int .i64 (n : Int)] w fun e w' => e = .returned (.string (str (dgs n))) ∧ Below w.heap.size w w' := by
  induction n using Nat.strongRecOn generalizing w with
  | ind n ih =>
    obtain ⟨m, hm⟩ : ∃ m, m = n % 10 := ⟨_, rfl⟩
    obtain ⟨d, hd⟩ : ∃ d, d = 48 + m := ⟨_, rfl⟩
    have hw0 : (n : Int).tmod 10 = (m : Int) := by rw [hm, Int.tmod_eq_emod_of_nonneg (by omega)]; omega
    have hw1 : IntKind.i64.wrap (48 + (m : Int)) = (d : Int) := by rw [IntKind.wrap_i64]; omega
    have hw2 : IntKind.u8.wrap (d : Int) = (d : Int) := by simp [IntKind.wrap, IntKind.signed, IntKind.bits]; omega
    have hrb := fun w' : World => run_bytes1 w' (d : Int) (UInt8.ofNat d) (by rw [hd, dig_nat m (by omega)])
    by_cases h : n < 10
    · have h10 : (n : Int) < 10 := by omega
      have hD : dgs n = [UInt8.ofNat d] := by rw [dgs_lt n h, hd, hm, Nat.mod_eq_of_lt h]
      rw [hD]
      clear ih hD hm hd h
      generalize UInt8.ofNat d = c at *
      go_enter Tryd.func18, Tryd.ntmps18
      go_wp2_with fail
      go_ret
      exact ⟨rfl, (Below.refl _ w).alloc (Nat.le_refl _) _⟩
    · have h10 : ¬ (n : Int) < 10 := by omega
      obtain ⟨q, hq⟩ : ∃ q, q = n / 10 := ⟨_, rfl⟩
      have hw3 : (n : Int).tdiv 10 = (q : Int) := by rw [hq, Int.tdiv_eq_ediv_of_nonneg (by omega)]; omega
      have hw4 : wrap64 (q : Int) = (q : Int) := by unfold wrap64; omega
      have HC : Hid (∀ w', Calls Tryd.prog 18 #[.int .i64 (q : Int)] w' fun e w2 => e = .returned (.string (str (dgs q))) ∧ Below w'.heap.size w' w2) := fun w' => ih q (by omega) (by omega) w'
      have hD : dgs n = dgs q ++ [UInt8.ofNat d] := by rw [dgs_ge n h, hd, hm, hq]
      have hl : (dgs q).length ≤ 9 := dgs_len 8 q (by omega)
      have e1 : str (dgs q) ++ str [UInt8.ofNat d] = str (dgs n) := by rw [hD, str_add]
      have q1 : ¬ (9223372036854775807 : Nat) < (str (dgs q)).size + (str [UInt8.ofNat d]).size := by rw [str_size, str_size]; simp; omega
      clear ih hD hm hd h hq hl
      generalize UInt8.ofNat d = c at *
      generalize dgs q = X at *
      generalize dgs n = Y at *
      have hsz := str_size [c]
      go_enter Tryd.func18, Tryd.ntmps18
      go_wp2_with (go_at_call 18; (with_reducible refine (HC.out _).mono ?_); (rintro e w1 ⟨rfl, hb⟩); have HB := Lib.hid hb; clear hb)
      go_ret
      exact ⟨rfl, (((Below.refl _ w).alloc (Nat.le_refl _) _).trans (HB.out.mono (by simp)))⟩
theorem i64_and48 (n : Int) : bits .and .i64 n 281474976710655 = n % 281474976710656 := by
  have h1 : (BitVec.ofInt 64 281474976710655).toNat = 2 ^ 48 - 1 := by decide
  have key : (BitVec.ofInt 64 n &&& BitVec.ofInt 64 281474976710655).toNat = (n % ((2 ^ 64 : Nat) : Int)).toNat % 2 ^ 48 := by
    rw [BitVec.toNat_and, BitVec.toNat_ofInt, h1, Nat.and_two_pow_sub_one_eq_mod]
  show IntKind.i64.wrap ((BitVec.ofInt 64 n &&& BitVec.ofInt 64 281474976710655).toNat : Nat) = _
  rw [key, IntKind.wrap_i64]
  omega
theorem dgs_dg (n : Nat) (hn : n ≤ 999999999) : dg (dgs n) = true := by
  have h1 := dgs_len 8 n (by omega)
  simp only [dg, Bool.and_eq_true, decide_eq_true_eq]
  exact ⟨⟨dgs_pos n, h1⟩, dgs_all n⟩
set_option maxHeartbeats 4000000 in
set_option maxRecDepth 100000 in
theorem ranges_any (n1 n2 : Int) (w : World) : Calls Tryd.prog 6 #[.int .i64 n1, .int .i64 n2] w fun e w' => e = .returned (.bool true) ∧ Below w.heap.size w w' := by
  have HSh : Hid (∀ w', Calls Tryd.prog 9 #[] w' fun e w2 => e = .returned (.bool true) ∧ Below w'.heap.size w' w2) := fun w' => shown_any w'
  obtain ⟨a, ha⟩ : ∃ a : Nat, bits .and .i64 n1 281474976710655 = (a : Int) := ⟨(n1 % 281474976710656).toNat, by rw [i64_and48]; omega⟩
  obtain ⟨b, hb⟩ : ∃ a : Nat, bits .and .i64 n2 281474976710655 = (a : Int) := ⟨(n2 % 281474976710656).toNat, by rw [i64_and48]; omega⟩
  obtain ⟨N, hN⟩ : ∃ N, N = a % 1000000000 := ⟨_, rfl⟩
  obtain ⟨M, hM⟩ : ∃ N, N = b % 1000000000 := ⟨_, rfl⟩
  have hw0 : (a : Int).tmod 1000000000 = (N : Int) := by rw [hN, Int.tmod_eq_emod_of_nonneg (by omega)]; omega
  have hw1 : (b : Int).tmod 1000000000 = (M : Int) := by rw [hM, Int.tmod_eq_emod_of_nonneg (by omega)]; omega
  have hNl : N ≤ 999999999 := by omega
  have hMl : M ≤ 999999999 := by omega
  have HC : Hid (∀ w', Calls Tryd.prog 18 #[.int .i64 (N : Int)] w' fun e w2 => e = .returned (.string (str (dgs N))) ∧ Below w'.heap.size w' w2) := fun w' => digits_any N hNl w'
  have HD : Hid (∀ w', Calls Tryd.prog 18 #[.int .i64 (M : Int)] w' fun e w2 => e = .returned (.string (str (dgs M))) ∧ Below w'.heap.size w' w2) := fun w' => digits_any M hMl w'
  have d1 := dgs_dg N hNl
  have d2 := dgs_dg M hMl
  have n1 := dgs_nv N
  have n2 := dgs_nv M
  generalize dgs N = X at *
  generalize dgs M = Y at *
  have l1 := (dg_nine d1).1
  have l2 := (dg_nine d2).1
  have u6 : unitL.length = 6 := rfl
  have F1 : hdr kRg (unitL ++ X ++ [45] ++ Y) = decide (N ≤ M) := by rw [hdr_rg, rg_two X Y d1 d2, n1, n2, decide_eq_true (by simp only [List.length_append, List.length_singleton]; omega), Bool.true_and]
  have F2 : hdr [82, 97, 110, 103, 101] (unitL ++ X ++ [45]) = true := by rw [show hdr [82, 97, 110, 103, 101] (unitL ++ X ++ [45]) = hdr kRg (unitL ++ X ++ [45]) from rfl, hdr_rg, rg_open X d1, decide_eq_true (by simp only [List.length_append, List.length_singleton]; omega), Bool.true_and]
  have F3 : hdr kRg (unitL ++ [45] ++ Y) = false := by rw [hdr_rg, rg_first Y, Bool.and_false]
  have F4 : hdr kRg (X ++ [45] ++ Y) = false := by rw [hdr_rg, rg_none X Y d1, Bool.and_false]
  have G1 : Hid (∀ w', Calls Tryd.prog 12 #[.string ⟨#[114, 97, 110, 103, 101]⟩, .string (str (unitL ++ X ++ [45] ++ Y))] w' fun e w2 => e = .returned (.bool (decide (N ≤ M))) ∧ Below w'.heap.size w' w2) := fun w' => by
    have h := header_any kRg ((unitL ++ X ++ [45] ++ Y)) w' (by decide) (by simp only [List.length_append, List.length_singleton]; omega)
    rw [F1] at h
    exact h
  have G2 : Hid (∀ w', Calls Tryd.prog 12 #[.string ⟨#[82, 97, 110, 103, 101]⟩, .string (str (unitL ++ X ++ [45]))] w' fun e w2 => e = .returned (.bool true) ∧ Below w'.heap.size w' w2) := fun w' => by
    have h := header_any [82, 97, 110, 103, 101] ((unitL ++ X ++ [45])) w' (by decide) (by simp only [List.length_append, List.length_singleton]; omega)
    rw [F2] at h
    exact h
  have G3 : Hid (∀ w', Calls Tryd.prog 12 #[.string ⟨#[114, 97, 110, 103, 101]⟩, .string (str (unitL ++ [45] ++ Y))] w' fun e w2 => e = .returned (.bool false) ∧ Below w'.heap.size w' w2) := fun w' => by
    have h := header_any kRg ((unitL ++ [45] ++ Y)) w' (by decide) (by simp only [List.length_append, List.length_singleton]; omega)
    rw [F3] at h
    exact h
  have G4 : Hid (∀ w', Calls Tryd.prog 12 #[.string ⟨#[114, 97, 110, 103, 101]⟩, .string (str (X ++ [45] ++ Y))] w' fun e w2 => e = .returned (.bool false) ∧ Below w'.heap.size w' w2) := fun w' => by
    have h := header_any kRg ((X ++ [45] ++ Y)) w' (by decide) (by simp only [List.length_append, List.length_singleton]; omega)
    rw [F4] at h
    exact h
  have e1 : ⟨#[98, 121, 116, 101, 115, 61]⟩ ++ str X = str (unitL ++ X) := str_add unitL X
  have e2 : str (unitL ++ X) ++ ⟨#[45]⟩ = str (unitL ++ X ++ [45]) := str_add _ [45]
  have e3 : str (unitL ++ X ++ [45]) ++ str Y = str (unitL ++ X ++ [45] ++ Y) := str_add _ Y
  have e4 : ⟨#[98, 121, 116, 101, 115, 61, 45]⟩ ++ str Y = str (unitL ++ [45] ++ Y) := by
    rw [show (⟨#[98, 121, 116, 101, 115, 61, 45]⟩ : ByteArray) = str (unitL ++ [45]) from by decide +kernel]
    exact str_add _ Y
  have e5 : str X ++ ⟨#[45]⟩ = str (X ++ [45]) := str_add X [45]
  have e6 : str (X ++ [45]) ++ str Y = str (X ++ [45] ++ Y) := str_add _ Y
  have z1 : ¬ 9223372036854775807 < 6 + (str X).size := by rw [str_size]; omega
  have z2 : ¬ 9223372036854775807 < (str (unitL ++ X)).size + 1 := by rw [str_size]; simp only [List.length_append]; omega
  have z3 : ¬ 9223372036854775807 < (str (unitL ++ X ++ [45])).size + (str Y).size := by rw [str_size, str_size]; simp only [List.length_append, List.length_singleton]; omega
  have z4 : ¬ 9223372036854775807 < 7 + (str Y).size := by rw [str_size]; omega
  have z5 : ¬ 9223372036854775807 < (str X).size + 1 := by rw [str_size]; omega
  have z6 : ¬ 9223372036854775807 < (str (X ++ [45])).size + (str Y).size := by rw [str_size, str_size]; simp only [List.length_append, List.length_singleton]; omega
  clear F1 F2 F3 F4 d1 d2 n1 n2 l1 l2 u6 hN hM hNl hMl
  generalize unitL ++ X ++ [45] ++ Y = X3 at *
  generalize unitL ++ X ++ [45] = X2 at *
  generalize unitL ++ X = X1 at *
  generalize unitL ++ [45] ++ Y = X4 at *
  generalize X ++ [45] ++ Y = X6 at *
  generalize X ++ [45] = X5 at *
  by_cases hle : N ≤ M
  · rw [decide_eq_true hle] at G1
    have hle2 : (N : Int) ≤ (M : Int) := by omega
    go_enter Tryd.func6, Tryd.ntmps6
    go_wp2_with (first
            | (go_at_call 9; (with_reducible refine (HSh.out _).mono ?_); (rintro e w1 ⟨rfl, hb⟩); have HB_1 := Lib.hid hb; clear hb)
            | (go_at_call 18; (with_reducible refine (HC.out _).mono ?_); (rintro e w2 ⟨rfl, hb⟩); have HB_2 := Lib.hid (HB_1.out.trans (hb.mono HB_1.out.size)); clear hb; clear HC)
            | (go_at_call 18; (with_reducible refine (HD.out _).mono ?_); (rintro e w3 ⟨rfl, hb⟩); have HB_3 := Lib.hid (HB_2.out.trans (hb.mono HB_2.out.size)); clear hb; clear HD)
            | (go_at_call 12; (with_reducible refine (G1.out _).mono ?_); (rintro e w4 ⟨rfl, hb⟩); have HB_4 := Lib.hid (HB_3.out.trans (hb.mono HB_3.out.size)); clear hb; clear G1)
            | (go_at_call 12; (with_reducible refine (G2.out _).mono ?_); (rintro e w5 ⟨rfl, hb⟩); have HB_5 := Lib.hid (HB_4.out.trans (hb.mono HB_4.out.size)); clear hb; clear G2)
            | (go_at_call 12; (with_reducible refine (G3.out _).mono ?_); (rintro e w6 ⟨rfl, hb⟩); have HB_6 := Lib.hid (HB_5.out.trans (hb.mono HB_5.out.size)); clear hb; clear G3)
            | (go_at_call 12; (with_reducible refine (G4.out _).mono ?_); (rintro e w7 ⟨rfl, hb⟩); have HB_7 := Lib.hid (HB_6.out.trans (hb.mono HB_6.out.size)); clear hb; clear G4))
    go_ret
    exact ⟨rfl, HB_7.out⟩
  · rw [decide_eq_false hle] at G1
    have hle2 : ¬ (N : Int) ≤ (M : Int) := by omega
    go_enter Tryd.func6, Tryd.ntmps6
    go_wp2_with (first
            | (go_at_call 9; (with_reducible refine (HSh.out _).mono ?_); (rintro e w1 ⟨rfl, hb⟩); have HB_1 := Lib.hid hb; clear hb)
            | (go_at_call 18; (with_reducible refine (HC.out _).mono ?_); (rintro e w2 ⟨rfl, hb⟩); have HB_2 := Lib.hid (HB_1.out.trans (hb.mono HB_1.out.size)); clear hb; clear HC)
            | (go_at_call 18; (with_reducible refine (HD.out _).mono ?_); (rintro e w3 ⟨rfl, hb⟩); have HB_3 := Lib.hid (HB_2.out.trans (hb.mono HB_2.out.size)); clear hb; clear HD)
            | (go_at_call 12; (with_reducible refine (G1.out _).mono ?_); (rintro e w4 ⟨rfl, hb⟩); have HB_4 := Lib.hid (HB_3.out.trans (hb.mono HB_3.out.size)); clear hb; clear G1)
            | (go_at_call 12; (with_reducible refine (G2.out _).mono ?_); (rintro e w5 ⟨rfl, hb⟩); have HB_5 := Lib.hid (HB_4.out.trans (hb.mono HB_4.out.size)); clear hb; clear G2)
            | (go_at_call 12; (with_reducible refine (G3.out _).mono ?_); (rintro e w6 ⟨rfl, hb⟩); have HB_6 := Lib.hid (HB_5.out.trans (hb.mono HB_5.out.size)); clear hb; clear G3)
            | (go_at_call 12; (with_reducible refine (G4.out _).mono ?_); (rintro e w7 ⟨rfl, hb⟩); have HB_7 := Lib.hid (HB_6.out.trans (hb.mono HB_6.out.size)); clear hb; clear G4))
    go_ret
    exact ⟨rfl, HB_7.out⟩
end Go.Proofs.YtonchnmcklgpoaaDoor
