/-
  What transeptlaw08.WeburlPorts answers: true; nothing that was there turns. Condition: the library's tables.
-/
import Derived.Test.YtcepigekibidfaaGreatDoorGr
import Derived.Test.YtcepigekibidfaaGreatDoorGn
import Derived.Test.YtcepigekibidfaaGreatDoorGj
import Derived.Test.YtcepigekibidfaaGreatDoorWpt
namespace Go.Proofs.YtcepigekibidfaaGreatDoor
open Go.RowKit

theorem i64_mask (n : Int) (m : Int) (k : Nat) (h1 : (BitVec.ofInt 64 m).toNat = 2 ^ k - 1) (hk : k ≤ 17) : bits .and .i64 n m = n % (2 ^ k : Nat) := by
  have key : (BitVec.ofInt 64 n &&& BitVec.ofInt 64 m).toNat = (n % ((2 ^ 64 : Nat) : Int)).toNat % 2 ^ k := by
    rw [BitVec.toNat_and, BitVec.toNat_ofInt, h1, Nat.and_two_pow_sub_one_eq_mod]
  show IntKind.i64.wrap ((BitVec.ofInt 64 n &&& BitVec.ofInt 64 m).toNat : Nat) = n % (2 ^ k : Nat)
  rw [key, IntKind.wrap_i64]
  have hkk : k = 0 ∨ k = 1 ∨ k = 2 ∨ k = 3 ∨ k = 4 ∨ k = 5 ∨ k = 6 ∨ k = 7 ∨ k = 8 ∨ k = 9 ∨ k = 10 ∨ k = 11 ∨ k = 12 ∨ k = 13 ∨ k = 14 ∨ k = 15 ∨ k = 16 ∨ k = 17 := by omega
  rcases hkk with rfl | rfl | rfl | rfl | rfl | rfl | rfl | rfl | rfl | rfl | rfl | rfl | rfl | rfl | rfl | rfl | rfl | rfl <;> omega
/-- What the document's Default tells. -/
def dfl (s : List UInt8) : Int := match dp s with
  | none => -1
  | some p => if p = -1 then 0 else p
set_option maxHeartbeats 2000000 in
theorem default_any (s : List UInt8) (w : World) : Calls Tryz.prog 28 #[.string (str s)] w fun e w' => e = .returned (.int .i64 (dfl s)) ∧ w' = w := by
  by_cases h0 : s = [104, 116, 116, 112]
  · have hd : dfl s = 80 := by rw [h0]; rfl
    rw [hd]
    have e0 : ((str s).toList == [104, 116, 116, 112]) = true := by rw [toList_str, h0]; rfl
    clear h0 hd
    go_enter Tryz.func28, Tryz.ntmps28
    go_wp2_with fail
    go_ret
    exact ⟨rfl, rfl⟩
  by_cases h1 : s = [119, 115]
  · have hd : dfl s = 80 := by rw [h1]; rfl
    rw [hd]
    have e0 : ((str s).toList == [104, 116, 116, 112]) = false := by rw [toList_str, h1]; rfl
    have e1 : ((str s).toList == [119, 115]) = true := by rw [toList_str, h1]; rfl
    clear h0 h1 hd
    go_enter Tryz.func28, Tryz.ntmps28
    go_wp2_with fail
    go_ret
    exact ⟨rfl, rfl⟩
  by_cases h2 : s = [104, 116, 116, 112, 115]
  · have hd : dfl s = 443 := by rw [h2]; rfl
    rw [hd]
    have e0 : ((str s).toList == [104, 116, 116, 112]) = false := by rw [toList_str, h2]; rfl
    have e1 : ((str s).toList == [119, 115]) = false := by rw [toList_str, h2]; rfl
    have e2 : ((str s).toList == [104, 116, 116, 112, 115]) = true := by rw [toList_str, h2]; rfl
    clear h0 h1 h2 hd
    go_enter Tryz.func28, Tryz.ntmps28
    go_wp2_with fail
    go_ret
    exact ⟨rfl, rfl⟩
  by_cases h3 : s = [119, 115, 115]
  · have hd : dfl s = 443 := by rw [h3]; rfl
    rw [hd]
    have e0 : ((str s).toList == [104, 116, 116, 112]) = false := by rw [toList_str, h3]; rfl
    have e1 : ((str s).toList == [119, 115]) = false := by rw [toList_str, h3]; rfl
    have e2 : ((str s).toList == [104, 116, 116, 112, 115]) = false := by rw [toList_str, h3]; rfl
    have e3 : ((str s).toList == [119, 115, 115]) = true := by rw [toList_str, h3]; rfl
    clear h0 h1 h2 h3 hd
    go_enter Tryz.func28, Tryz.ntmps28
    go_wp2_with fail
    go_ret
    exact ⟨rfl, rfl⟩
  by_cases h4 : s = [100, 97, 116, 97]
  · have hd : dfl s = 0 := by rw [h4]; rfl
    rw [hd]
    have e0 : ((str s).toList == [104, 116, 116, 112]) = false := by rw [toList_str, h4]; rfl
    have e1 : ((str s).toList == [119, 115]) = false := by rw [toList_str, h4]; rfl
    have e2 : ((str s).toList == [104, 116, 116, 112, 115]) = false := by rw [toList_str, h4]; rfl
    have e3 : ((str s).toList == [119, 115, 115]) = false := by rw [toList_str, h4]; rfl
    have e4 : ((str s).toList == [100, 97, 116, 97]) = true := by rw [toList_str, h4]; rfl
    clear h0 h1 h2 h3 h4 hd
    go_enter Tryz.func28, Tryz.ntmps28
    go_wp2_with fail
    go_ret
    exact ⟨rfl, rfl⟩
  by_cases h5 : s = [98, 108, 111, 98]
  · have hd : dfl s = 0 := by rw [h5]; rfl
    rw [hd]
    have e0 : ((str s).toList == [104, 116, 116, 112]) = false := by rw [toList_str, h5]; rfl
    have e1 : ((str s).toList == [119, 115]) = false := by rw [toList_str, h5]; rfl
    have e2 : ((str s).toList == [104, 116, 116, 112, 115]) = false := by rw [toList_str, h5]; rfl
    have e3 : ((str s).toList == [119, 115, 115]) = false := by rw [toList_str, h5]; rfl
    have e4 : ((str s).toList == [100, 97, 116, 97]) = false := by rw [toList_str, h5]; rfl
    have e5 : ((str s).toList == [98, 108, 111, 98]) = true := by rw [toList_str, h5]; rfl
    clear h0 h1 h2 h3 h4 h5 hd
    go_enter Tryz.func28, Tryz.ntmps28
    go_wp2_with fail
    go_ret
    exact ⟨rfl, rfl⟩
  by_cases h6 : s = [97, 98, 111, 117, 116]
  · have hd : dfl s = 0 := by rw [h6]; rfl
    rw [hd]
    have e0 : ((str s).toList == [104, 116, 116, 112]) = false := by rw [toList_str, h6]; rfl
    have e1 : ((str s).toList == [119, 115]) = false := by rw [toList_str, h6]; rfl
    have e2 : ((str s).toList == [104, 116, 116, 112, 115]) = false := by rw [toList_str, h6]; rfl
    have e3 : ((str s).toList == [119, 115, 115]) = false := by rw [toList_str, h6]; rfl
    have e4 : ((str s).toList == [100, 97, 116, 97]) = false := by rw [toList_str, h6]; rfl
    have e5 : ((str s).toList == [98, 108, 111, 98]) = false := by rw [toList_str, h6]; rfl
    have e6 : ((str s).toList == [97, 98, 111, 117, 116]) = true := by rw [toList_str, h6]; rfl
    clear h0 h1 h2 h3 h4 h5 h6 hd
    go_enter Tryz.func28, Tryz.ntmps28
    go_wp2_with fail
    go_ret
    exact ⟨rfl, rfl⟩
  have hd : dfl s = -1 := by
    unfold dfl
    cases hp : dp s with
    | none => rfl
    | some p =>
      rcases dp_cases s p hp with ⟨h, _⟩ | ⟨h, _⟩ | ⟨h, _⟩ | ⟨h, _⟩ | ⟨h, _⟩ | ⟨h, _⟩ | ⟨h, _⟩
      · exact absurd h h0
      · exact absurd h h2
      · exact absurd h h1
      · exact absurd h h3
      · exact absurd h h4
      · exact absurd h h5
      · exact absurd h h6
  rw [hd]
  have e0 : ((str s).toList == [104, 116, 116, 112]) = false := by rw [toList_str]; simpa using h0
  have e1 : ((str s).toList == [119, 115]) = false := by rw [toList_str]; simpa using h1
  have e2 : ((str s).toList == [104, 116, 116, 112, 115]) = false := by rw [toList_str]; simpa using h2
  have e3 : ((str s).toList == [119, 115, 115]) = false := by rw [toList_str]; simpa using h3
  have e4 : ((str s).toList == [100, 97, 116, 97]) = false := by rw [toList_str]; simpa using h4
  have e5 : ((str s).toList == [98, 108, 111, 98]) = false := by rw [toList_str]; simpa using h5
  have e6 : ((str s).toList == [97, 98, 111, 117, 116]) = false := by rw [toList_str]; simpa using h6
  clear h0 h1 h2 h3 h4 h5 h6 hd
  go_enter Tryz.func28, Tryz.ntmps28
  go_wp2_with fail
  go_ret
  exact ⟨rfl, rfl⟩
set_option maxHeartbeats 8000000 in
set_option maxRecDepth 100000 in
theorem po_0_big (u v : U) (n k q : Int) (N K : Nat) (Z D A X1 X : List UInt8) (w : World) (hN : bits .and .i64 n 131071 = (N : Int)) (hK : bits .and .i64 k 7 = (K : Int)) (hK7 : K ≤ 7) (hz : bits .and .i64 q 3 = 0) (HS : Hid (∀ w', Kept w w' → Calls Tryz.prog 13 #[] w' fun e w2 => e = .returned (.bool true) ∧ Below w'.heap.size w' w2)) (HD : Hid (∀ w', Kept w w' → Calls Tryz.prog 27 #[.int .i64 (N : Int)] w' fun e w2 => e = .returned (.string (str D)) ∧ Below w'.heap.size w' w2)) (HU : Hid (∀ w', Kept w w' → Calls Tryz.prog 14 #[.string (str X)] w' fun e w2 => e = .returned (.tuple #[.agg (uC u.sch u.host u.port u.path u.q u.f).toArray, .int .i64 7]) ∧ Below w'.heap.size w' w2)) (HV : Hid (∀ w', Kept w w' → Calls Tryz.prog 14 #[.string (str A)] w' fun e w2 => e = .returned (.tuple #[.agg (uC v.sch v.host v.port v.path v.q v.f).toArray, .int .i64 0]) ∧ Below w'.heap.size w' w2)) (b1 : (⟨#[104, 116, 116, 112]⟩ : ByteArray) ++ ⟨#[58, 47, 47, 97, 58]⟩ = str A) (b2 : str A ++ str Z = str X1) (b3 : str X1 ++ str D = str X) (r2 : ¬ (9223372036854775807 : Nat) < (str A).size + (str Z).size) (r3 : ¬ (9223372036854775807 : Nat) < (str X1).size + (str D).size) (hZ : Hid (List.replicate K 48 = Z)) (hv : (v.port != -1) = false) (hb : (65535 : Int) < (N : Int)) : Calls Tryz.prog 8 #[.int .i64 n, .int .i64 k, .int .i64 q] w fun e w' => e = .returned (.bool true) ∧ Below w.heap.size w w' := by
    go_enter Tryz.func8, Tryz.ntmps8
    go_wp2_with (first
      | (go_at_call 13; (with_reducible refine (HS.out _ (Hl.nil w).kp).mono ?_); (rintro e w1 ⟨rfl, hb⟩; have H0 := (Hl.nil w).step hb; clear hb)))
    go_loop [10, 9] (fun i z => ∃ j : Nat, j ≤ K ∧ i = .int .i64 (j : Int) ∧ z = .string (str (List.replicate j 48))) (fun i _ => K - (intOf i).toNat)
    case atStart => exact ⟨0, by omega, rfl, rfl⟩
    case round =>
      obtain ⟨j, hj, rfl, rfl⟩ := hrel
      by_cases hlt : j < K
      · have hjK : (j : Int) < (K : Int) := by omega
        obtain ⟨Y, hY⟩ : ∃ Y, Y = List.replicate (j + 1) (48 : UInt8) := ⟨_, rfl⟩
        obtain ⟨Y0, hY0⟩ : ∃ Y, Y = List.replicate j (48 : UInt8) := ⟨_, rfl⟩
        have hs : str Y0 ++ ⟨#[48]⟩ = str Y := by rw [hY, hY0, List.replicate_succ']; exact str_add _ _
        have hr : ¬ (9223372036854775807 : Nat) < (str Y0).size + 1 := by rw [str_size, hY0, List.length_replicate]; omega
        rw [← hY0]
        have HY := Lib.hid hY
        clear hY hY0
        go_wp2_with fail
        go_round
        case rel => exact ⟨j + 1, by omega, by go_num, by rw [HY.out]⟩
        case measure => simp [intOf]; omega
      · have hjK : ¬ (j : Int) < (K : Int) := by omega
        obtain rfl : j = K := by omega
        rw [hZ.out]
        clear hlt hZ hj
        go_wp2_with (first
          | (go_at_call 27; (with_reducible refine (HD.out _ (H0.kp.alloc _)).mono ?_); (rintro e w2 ⟨rfl, hb2⟩; have H1 : Hl w w2 [] := ⟨(H0.kp.alloc _).step hb2, by simp⟩; clear hb2 H0))
          | (go_at_call 14; (with_reducible refine (HU.out _ H1.kp).mono ?_); (rintro e wa1 ⟨rfl, hb⟩; have G1 := H1.step hb; clear hb))
          | ((with_reducible show wpList _ _ _ (⟨some 11, .alloc _, _, _, _, _⟩ :: _) _ _); refine wp_new _ rfl 24 rfl _ z24 ?_; intro wb1 g1 B1 F1; simp only [Act.put, List.setIfInBounds_toArray, List.set_cons_zero, List.set_cons_succ])
          | ((with_reducible show wpList _ _ _ (⟨none, .store 24 (.tmp 11) (.tmp 42), _, _, _, _⟩ :: _) _ _); refine wp_putAll _ rfl 24 (.tmp 11) (.tmp 42) rfl g1 24 _ (uC u.sch u.host u.port u.path u.q u.f) rfl rfl B1 rfl n24 (uC_one _ _ _ _ _ _) ?_; intro wc1 B U; simp only [Act.put]; have H2 := G1.new F1 U B; clear B U F1 B1 G1)
          | (go_at_call 14; (with_reducible refine (HV.out _ H2.kp).mono ?_); (rintro e wa2 ⟨rfl, hb⟩; have G2 := H2.step hb; clear hb))
          | ((with_reducible show wpList _ _ _ (⟨some 13, .alloc _, _, _, _, _⟩ :: _) _ _); refine wp_new _ rfl 24 rfl _ z24 ?_; intro wb2 g2 B2 F2; simp only [Act.put, List.setIfInBounds_toArray, List.set_cons_zero, List.set_cons_succ])
          | ((with_reducible show wpList _ _ _ (⟨none, .store 24 (.tmp 13) (.tmp 48), _, _, _, _⟩ :: _) _ _); refine wp_putAll _ rfl 24 (.tmp 13) (.tmp 48) rfl g2 24 _ (uC v.sch v.host v.port v.path v.q v.f) rfl rfl B2 rfl n24 (uC_one _ _ _ _ _ _) ?_; intro wc2 B U; simp only [Act.put]; have H3 := G2.new F2 U B; clear B U F2 B2 G2; have d2 : wc2.cell? ⟨g2, 2, none⟩ = some (.int .i64 v.port) := (H3.at (x := (g2, uC v.sch v.host v.port v.path v.q v.f)) (by simp)).cell rfl))
        go_ret
        exact ⟨by simp, H3.kp⟩
set_option maxHeartbeats 8000000 in
set_option maxRecDepth 100000 in
theorem po_0_own (u v : U) (n k q : Int) (N K : Nat) (Z D A X1 X O1 O2 : List UInt8) (w : World) (hN : bits .and .i64 n 131071 = (N : Int)) (hK : bits .and .i64 k 7 = (K : Int)) (hK7 : K ≤ 7) (hz : bits .and .i64 q 3 = 0) (HS : Hid (∀ w', Kept w w' → Calls Tryz.prog 13 #[] w' fun e w2 => e = .returned (.bool true) ∧ Below w'.heap.size w' w2)) (HD : Hid (∀ w', Kept w w' → Calls Tryz.prog 27 #[.int .i64 (N : Int)] w' fun e w2 => e = .returned (.string (str D)) ∧ Below w'.heap.size w' w2)) (HU : Hid (∀ w', Kept w w' → Calls Tryz.prog 14 #[.string (str X)] w' fun e w2 => e = .returned (.tuple #[.agg (uC u.sch u.host u.port u.path u.q u.f).toArray, .int .i64 0]) ∧ Below w'.heap.size w' w2)) (HV : Hid (∀ w', Kept w w' → Calls Tryz.prog 14 #[.string (str A)] w' fun e w2 => e = .returned (.tuple #[.agg (uC v.sch v.host v.port v.path v.q v.f).toArray, .int .i64 0]) ∧ Below w'.heap.size w' w2)) (b1 : (⟨#[104, 116, 116, 112]⟩ : ByteArray) ++ ⟨#[58, 47, 47, 97, 58]⟩ = str A) (b2 : str A ++ str Z = str X1) (b3 : str X1 ++ str D = str X) (r2 : ¬ (9223372036854775807 : Nat) < (str A).size + (str Z).size) (r3 : ¬ (9223372036854775807 : Nat) < (str X1).size + (str D).size) (hZ : Hid (List.replicate K 48 = Z)) (hv : (v.port != -1) = false) (hb : ¬ (65535 : Int) < (N : Int)) (HDf : Hid (∀ w', Calls Tryz.prog 28 #[.string ⟨#[104, 116, 116, 112]⟩] w' fun e w2 => e = .returned (.int .i64 80) ∧ w2 = w')) (ho : ((N : Int) == 80) = true) (hp : (u.port == -1) = true) (hpa : ((str u.path).toList == [47]) = true) (HA : Hid (∀ w', Calls Tryz.prog 23 #[.agg (uC u.sch u.host u.port u.path u.q u.f).toArray, .agg (uC v.sch v.host v.port v.path v.q v.f).toArray] w' fun e w2 => e = .returned (.bool true) ∧ Below w'.heap.size w' w2)) (HO1 : Hid (∀ w', Kept w w' → Calls Tryz.prog 21 #[.agg (uC u.sch u.host u.port u.path u.q u.f).toArray] w' fun e w2 => e = .returned (.string (str O1)) ∧ Below w'.heap.size w' w2)) (HO2 : Hid (∀ w', Kept w w' → Calls Tryz.prog 21 #[.agg (uC v.sch v.host v.port v.path v.q v.f).toArray] w' fun e w2 => e = .returned (.string (str O2)) ∧ Below w'.heap.size w' w2)) (he : ((str O1).toList == (str O2).toList) = true) : Calls Tryz.prog 8 #[.int .i64 n, .int .i64 k, .int .i64 q] w fun e w' => e = .returned (.bool true) ∧ Below w.heap.size w w' := by
    go_enter Tryz.func8, Tryz.ntmps8
    go_wp2_with (first
      | (go_at_call 13; (with_reducible refine (HS.out _ (Hl.nil w).kp).mono ?_); (rintro e w1 ⟨rfl, hb⟩; have H0 := (Hl.nil w).step hb; clear hb)))
    go_loop [10, 9] (fun i z => ∃ j : Nat, j ≤ K ∧ i = .int .i64 (j : Int) ∧ z = .string (str (List.replicate j 48))) (fun i _ => K - (intOf i).toNat)
    case atStart => exact ⟨0, by omega, rfl, rfl⟩
    case round =>
      obtain ⟨j, hj, rfl, rfl⟩ := hrel
      by_cases hlt : j < K
      · have hjK : (j : Int) < (K : Int) := by omega
        obtain ⟨Y, hY⟩ : ∃ Y, Y = List.replicate (j + 1) (48 : UInt8) := ⟨_, rfl⟩
        obtain ⟨Y0, hY0⟩ : ∃ Y, Y = List.replicate j (48 : UInt8) := ⟨_, rfl⟩
        have hs : str Y0 ++ ⟨#[48]⟩ = str Y := by rw [hY, hY0, List.replicate_succ']; exact str_add _ _
        have hr : ¬ (9223372036854775807 : Nat) < (str Y0).size + 1 := by rw [str_size, hY0, List.length_replicate]; omega
        rw [← hY0]
        have HY := Lib.hid hY
        clear hY hY0
        go_wp2_with fail
        go_round
        case rel => exact ⟨j + 1, by omega, by go_num, by rw [HY.out]⟩
        case measure => simp [intOf]; omega
      · have hjK : ¬ (j : Int) < (K : Int) := by omega
        obtain rfl : j = K := by omega
        rw [hZ.out]
        clear hlt hZ hj
        go_wp2_with (first
          | (go_at_call 27; (with_reducible refine (HD.out _ (H0.kp.alloc _)).mono ?_); (rintro e w2 ⟨rfl, hb2⟩; have H1 : Hl w w2 [] := ⟨(H0.kp.alloc _).step hb2, by simp⟩; clear hb2 H0))
          | (go_at_call 14; (with_reducible refine (HU.out _ H1.kp).mono ?_); (rintro e wa1 ⟨rfl, hb⟩; have G1 := H1.step hb; clear hb))
          | ((with_reducible show wpList _ _ _ (⟨some 11, .alloc _, _, _, _, _⟩ :: _) _ _); refine wp_new _ rfl 24 rfl _ z24 ?_; intro wb1 g1 B1 F1; simp only [Act.put, List.setIfInBounds_toArray, List.set_cons_zero, List.set_cons_succ])
          | ((with_reducible show wpList _ _ _ (⟨none, .store 24 (.tmp 11) (.tmp 42), _, _, _, _⟩ :: _) _ _); refine wp_putAll _ rfl 24 (.tmp 11) (.tmp 42) rfl g1 24 _ (uC u.sch u.host u.port u.path u.q u.f) rfl rfl B1 rfl n24 (uC_one _ _ _ _ _ _) ?_; intro wc1 B U; simp only [Act.put]; have H2 := G1.new F1 U B; clear B U F1 B1 G1)
          | (go_at_call 14; (with_reducible refine (HV.out _ H2.kp).mono ?_); (rintro e wa2 ⟨rfl, hb⟩; have G2 := H2.step hb; clear hb))
          | ((with_reducible show wpList _ _ _ (⟨some 13, .alloc _, _, _, _, _⟩ :: _) _ _); refine wp_new _ rfl 24 rfl _ z24 ?_; intro wb2 g2 B2 F2; simp only [Act.put, List.setIfInBounds_toArray, List.set_cons_zero, List.set_cons_succ])
          | ((with_reducible show wpList _ _ _ (⟨none, .store 24 (.tmp 13) (.tmp 48), _, _, _, _⟩ :: _) _ _); refine wp_putAll _ rfl 24 (.tmp 13) (.tmp 48) rfl g2 24 _ (uC v.sch v.host v.port v.path v.q v.f) rfl rfl B2 rfl n24 (uC_one _ _ _ _ _ _) ?_; intro wc2 B U; simp only [Act.put]; have H3 := G2.new F2 U B; clear B U F2 B2 G2; have d2 : wc2.cell? ⟨g2, 2, none⟩ = some (.int .i64 v.port) := (H3.at (x := (g2, uC v.sch v.host v.port v.path v.q v.f)) (by simp)).cell rfl)
          | (go_at_call 28; (with_reducible refine (HDf.out _).mono ?_); (rintro e w5 ⟨rfl, rfl⟩)))
        refine wp_region_held_drew (S := fun W => Hl w W [(g2, uC v.sch v.host v.port v.path v.q v.f), (g1, uC u.sch u.host u.port u.path u.q u.f)]) (by kernel_rfl) (H3.step (Below.refl _ _).drew) (fun hS => ?_)
        refine wpAnyH_take (i := 0) (oi := ⟨some 70, _, _, _, _, _⟩) (v := ?va0) rfl (by kernel_rfl) (by kernel_rfl) (by kernel_rfl) (fun _ _ _ h => h) (Or.inl ⟨by rfl, ?ya0⟩) hS ?ra0
        case ya0 => intro W hW; go_simp; first | done | with_reducible rfl
        simp only [Act.put, List.setIfInBounds_toArray, List.set_cons_zero, List.set_cons_succ]
        refine wpAnyH_take (i := 1) (oi := ⟨some 71, _, _, _, _, _⟩) (v := ?va1) rfl (by kernel_rfl) (by kernel_rfl) (by kernel_rfl) (fun _ _ _ h => h) (Or.inl ⟨by rfl, ?ya1⟩) hS ?ra1
        case ya1 => intro W hW; go_simp; first | done | with_reducible rfl
        simp only [Act.put, List.setIfInBounds_toArray, List.set_cons_zero, List.set_cons_succ]
        refine wpAnyH_take (i := 2) (oi := ⟨some 72, _, _, _, _, _⟩) (v := ?va2) rfl (by kernel_rfl) (by kernel_rfl) (by kernel_rfl) (fun _ _ _ h => h) (Or.inl ⟨by rfl, ?ya2⟩) hS ?ra2
        case ya2 => intro W hW; go_simp; first | done | with_reducible rfl
        simp only [Act.put, List.setIfInBounds_toArray, List.set_cons_zero, List.set_cons_succ]
        refine wpAnyH_take (i := 3) (oi := ⟨some 73, _, _, _, _, _⟩) (v := ?va3) rfl (by kernel_rfl) (by kernel_rfl) (by kernel_rfl) (fun _ _ _ h => h) (Or.inl ⟨by rfl, ?ya3⟩) hS ?ra3
        case ya3 => intro W hW; go_simp; first | done | with_reducible rfl
        simp only [Act.put, List.setIfInBounds_toArray, List.set_cons_zero, List.set_cons_succ]
        refine wpAnyH_take (i := 4) (oi := ⟨some 74, _, _, _, _, _⟩) (v := ?va4) rfl (by kernel_rfl) (by kernel_rfl) (by kernel_rfl) (fun _ _ _ h => h) (Or.inl ⟨by rfl, ?ya4⟩) hS ?ra4
        case ya4 => intro W hW; go_simp; first | done | with_reducible rfl
        simp only [Act.put, List.setIfInBounds_toArray, List.set_cons_zero, List.set_cons_succ]
        refine wpAnyH_take (i := 5) (oi := ⟨some 75, _, _, _, _, _⟩) (v := ?va5) rfl (by kernel_rfl) (by kernel_rfl) (by kernel_rfl) (fun _ _ _ h => h) (Or.inl ⟨by rfl, ?ya5⟩) hS ?ra5
        case ya5 => intro W hW; go_simp; first | done | with_reducible rfl
        simp only [Act.put, List.setIfInBounds_toArray, List.set_cons_zero, List.set_cons_succ]
        refine wpAnyH_take (i := 6) (oi := ⟨some 76, _, _, _, _, _⟩) (v := ?va6) rfl (by kernel_rfl) (by kernel_rfl) (by kernel_rfl) (fun _ _ _ h => h) (Or.inl ⟨by rfl, ?ya6⟩) hS ?ra6
        case ya6 => intro W hW; go_simp; first | done | with_reducible rfl
        simp only [Act.put, List.setIfInBounds_toArray, List.set_cons_zero, List.set_cons_succ]
        refine wpAnyH_take (i := 7) (oi := ⟨some 77, _, _, _, _, _⟩) (v := ?va7) rfl (by kernel_rfl) (by kernel_rfl) (by kernel_rfl) (fun _ _ _ h => h) (Or.inl ⟨by rfl, ?ya7⟩) hS ?ra7
        case ya7 => intro W hW; have hc : W.cell? ⟨g1, 2, none⟩ = some (.int .i64 u.port) := (hW.at (x := (g1, uC u.sch u.host u.port u.path u.q u.f)) (by simp)).cell rfl; go_simp; first | done | with_reducible rfl
        simp only [Act.put, List.setIfInBounds_toArray, List.set_cons_zero, List.set_cons_succ]
        refine wpAnyH_take (i := 8) (oi := ⟨some 78, _, _, _, _, _⟩) (v := ?va8) rfl (by kernel_rfl) (by kernel_rfl) (by kernel_rfl) (fun _ _ _ h => h) (Or.inl ⟨by rfl, ?ya8⟩) hS ?ra8
        case ya8 => intro W hW; go_simp; first | done | with_reducible rfl
        simp only [Act.put, List.setIfInBounds_toArray, List.set_cons_zero, List.set_cons_succ]
        refine wpAnyH_take (i := 9) (oi := ⟨some 79, _, _, _, _, _⟩) (v := ?va9) rfl (by kernel_rfl) (by kernel_rfl) (by kernel_rfl) (fun _ _ _ h => h) (Or.inl ⟨by rfl, ?ya9⟩) hS ?ra9
        case ya9 => intro W hW; go_simp; first | done | with_reducible rfl
        simp only [Act.put, List.setIfInBounds_toArray, List.set_cons_zero, List.set_cons_succ]
        refine wpAnyH_take (i := 10) (oi := ⟨some 80, _, _, _, _, _⟩) (v := ?va10) rfl (by kernel_rfl) (by kernel_rfl) (by kernel_rfl) (fun _ _ _ h => h) (Or.inl ⟨by rfl, ?ya10⟩) hS ?ra10
        case ya10 => intro W hW; go_simp; first | done | with_reducible rfl
        simp only [Act.put, List.setIfInBounds_toArray, List.set_cons_zero, List.set_cons_succ]
        refine wpAnyH_take (i := 11) (oi := ⟨some 81, _, _, _, _, _⟩) (v := ?va11) rfl (by kernel_rfl) (by kernel_rfl) (by kernel_rfl) (fun _ _ _ h => h) (Or.inl ⟨by rfl, ?ya11⟩) hS ?ra11
        case ya11 => intro W hW; go_simp; first | done | with_reducible rfl
        simp only [Act.put, List.setIfInBounds_toArray, List.set_cons_zero, List.set_cons_succ]
        refine wpAnyH_take (i := 12) (oi := ⟨some 82, _, _, _, _, _⟩) (v := ?va12) rfl (by kernel_rfl) (by kernel_rfl) (by kernel_rfl) (fun _ _ _ h => h) (Or.inl ⟨by rfl, ?ya12⟩) hS ?ra12
        case ya12 => intro W hW; go_simp; first | done | with_reducible rfl
        simp only [Act.put, List.setIfInBounds_toArray, List.set_cons_zero, List.set_cons_succ]
        refine wpAnyH_take (i := 13) (oi := ⟨some 83, _, _, _, _, _⟩) (v := ?va13) rfl (by kernel_rfl) (by kernel_rfl) (by kernel_rfl) (fun _ _ _ h => h) (Or.inl ⟨by rfl, ?ya13⟩) hS ?ra13
        case ya13 => intro W hW; have hc : W.cell? ⟨g1, 3, none⟩ = some (.string (str u.path)) := (hW.at (x := (g1, uC u.sch u.host u.port u.path u.q u.f)) (by simp)).cell rfl; go_simp; first | done | with_reducible rfl
        simp only [Act.put, List.setIfInBounds_toArray, List.set_cons_zero, List.set_cons_succ]
        refine wpAnyH_take (i := 14) (oi := ⟨some 84, _, _, _, _, _⟩) (v := ?va14) rfl (by kernel_rfl) (by kernel_rfl) (by kernel_rfl) (fun _ _ _ h => h) (Or.inl ⟨by rfl, ?ya14⟩) hS ?ra14
        case ya14 => intro W hW; go_simp; first | done | with_reducible rfl
        simp only [Act.put, List.setIfInBounds_toArray, List.set_cons_zero, List.set_cons_succ]
        refine wpAnyH_take (i := 15) (oi := ⟨some 85, _, _, _, _, _⟩) (v := ?va15) rfl (by kernel_rfl) (by kernel_rfl) (by kernel_rfl) (fun _ _ _ h => h) (Or.inl ⟨by rfl, ?ya15⟩) hS ?ra15
        case ya15 => intro W hW; go_simp; first | done | with_reducible rfl
        simp only [Act.put, List.setIfInBounds_toArray, List.set_cons_zero, List.set_cons_succ]
        refine wpAnyH_take (i := 16) (oi := ⟨some 86, _, _, _, _, _⟩) (v := ?va16) rfl (by kernel_rfl) (by kernel_rfl) (by kernel_rfl) (fun _ _ _ h => h) (Or.inl ⟨by rfl, ?ya16⟩) hS ?ra16
        case ya16 => intro W hW; go_simp; first | done | with_reducible rfl
        simp only [Act.put, List.setIfInBounds_toArray, List.set_cons_zero, List.set_cons_succ]
        refine wpAnyH_take (i := 17) (oi := ⟨some 87, _, _, _, _, _⟩) (v := _) rfl (by kernel_rfl) (by kernel_rfl) (by kernel_rfl) (fun _ _ _ h => h) (yieldsIf_load_mid (by rfl) 24 (.tmp 11) rfl g1 0 rfl (uC u.sch u.host u.port u.path u.q u.f) _ (fun W hW => (hW.at (x := (g1, uC u.sch u.host u.port u.path u.q u.f)) (by simp)).whole) Tryz.underlying24 rfl n24) hS ?_
        simp only [Act.put, List.setIfInBounds_toArray, List.set_cons_zero, List.set_cons_succ]
        refine wpAnyH_take (i := 18) (oi := ⟨some 88, _, _, _, _, _⟩) (v := _) rfl (by kernel_rfl) (by kernel_rfl) (by kernel_rfl) (fun _ _ _ h => h) (yieldsIf_load_mid (by rfl) 24 (.tmp 13) rfl g2 0 rfl (uC v.sch v.host v.port v.path v.q v.f) _ (fun W hW => (hW.at (x := (g2, uC v.sch v.host v.port v.path v.q v.f)) (by simp)).whole) Tryz.underlying24 rfl n24) hS ?_
        simp only [Act.put, List.setIfInBounds_toArray, List.set_cons_zero, List.set_cons_succ]
        refine wpAnyH_take (i := 20) (oi := ⟨some 90, _, _, _, _, _⟩) (v := ?va20) rfl (by kernel_rfl) (by kernel_rfl) (by kernel_rfl) (fun _ _ _ h => h) (Or.inl ⟨by rfl, ?ya20⟩) hS ?ra20
        case ya20 => intro W hW; go_simp; first | done | with_reducible rfl
        simp only [Act.put, List.setIfInBounds_toArray, List.set_cons_zero, List.set_cons_succ]
        refine wpAnyH_ready (rs := [19]) (by kernel_rfl) (by simp) ?_
        refine (AllReadyH.cons (o := ⟨some 89, _, _, _, _, _⟩) rfl (fun K hK => ?_) AllReadyH.nil)
        try go_simp
        (with_reducible refine (HA.out _).mono ?_)
        rintro e wx1 ⟨rfl, hb⟩
        have hS1 := hS.step hb
        clear hb hS
        have hS := hS1
        clear hS1
        refine hK.out _ _ hS (fun _ => ?_)
        clear hK K
        try simp only [Act.put, List.setIfInBounds_toArray, List.set_cons_zero, List.set_cons_succ]
        refine wpAnyH_take (i := 21) (oi := ⟨some 91, _, _, _, _, _⟩) (v := ?va21) rfl (by kernel_rfl) (by kernel_rfl) (by kernel_rfl) (fun _ _ _ h => h) (Or.inl ⟨by rfl, ?ya21⟩) hS ?ra21
        case ya21 => intro W hW; go_simp; first | done | with_reducible rfl
        simp only [Act.put, List.setIfInBounds_toArray, List.set_cons_zero, List.set_cons_succ]
        refine wpAnyH_take (i := 22) (oi := ⟨some 92, _, _, _, _, _⟩) (v := ?va22) rfl (by kernel_rfl) (by kernel_rfl) (by kernel_rfl) (fun _ _ _ h => h) (Or.inl ⟨by rfl, ?ya22⟩) hS ?ra22
        case ya22 => intro W hW; go_simp; first | done | with_reducible rfl
        simp only [Act.put, List.setIfInBounds_toArray, List.set_cons_zero, List.set_cons_succ]
        refine wpAnyH_take (i := 23) (oi := ⟨some 93, _, _, _, _, _⟩) (v := ?va23) rfl (by kernel_rfl) (by kernel_rfl) (by kernel_rfl) (fun _ _ _ h => h) (Or.inl ⟨by rfl, ?ya23⟩) hS ?ra23
        case ya23 => intro W hW; go_simp; first | done | with_reducible rfl
        simp only [Act.put, List.setIfInBounds_toArray, List.set_cons_zero, List.set_cons_succ]
        refine wpAnyH_take (i := 24) (oi := ⟨some 94, _, _, _, _, _⟩) (v := _) rfl (by kernel_rfl) (by kernel_rfl) (by kernel_rfl) (fun _ _ _ h => h) (yieldsIf_load_mid (by rfl) 24 (.tmp 11) rfl g1 0 rfl (uC u.sch u.host u.port u.path u.q u.f) _ (fun W hW => (hW.at (x := (g1, uC u.sch u.host u.port u.path u.q u.f)) (by simp)).whole) Tryz.underlying24 rfl n24) hS ?_
        simp only [Act.put, List.setIfInBounds_toArray, List.set_cons_zero, List.set_cons_succ]
        refine wpAnyH_take (i := 26) (oi := ⟨some 96, _, _, _, _, _⟩) (v := _) rfl (by kernel_rfl) (by kernel_rfl) (by kernel_rfl) (fun _ _ _ h => h) (yieldsIf_load_mid (by rfl) 24 (.tmp 13) rfl g2 0 rfl (uC v.sch v.host v.port v.path v.q v.f) _ (fun W hW => (hW.at (x := (g2, uC v.sch v.host v.port v.path v.q v.f)) (by simp)).whole) Tryz.underlying24 rfl n24) hS ?_
        simp only [Act.put, List.setIfInBounds_toArray, List.set_cons_zero, List.set_cons_succ]
        refine wpAnyH_take (i := 29) (oi := ⟨some 99, _, _, _, _, _⟩) (v := ?va29) rfl (by kernel_rfl) (by kernel_rfl) (by kernel_rfl) (fun _ _ _ h => h) (Or.inl ⟨by rfl, ?ya29⟩) hS ?ra29
        case ya29 => intro W hW; go_simp; first | done | with_reducible rfl
        simp only [Act.put, List.setIfInBounds_toArray, List.set_cons_zero, List.set_cons_succ]
        refine wpAnyH_ready (rs := [25]) (by kernel_rfl) (by simp) ?_
        refine (AllReadyH.cons (o := ⟨some 95, _, _, _, _, _⟩) rfl (fun K hK => ?_) AllReadyH.nil)
        try go_simp
        (with_reducible refine (HO1.out _ hS.kp).mono ?_)
        rintro e wx2 ⟨rfl, hb⟩
        have hS2 := hS.step hb
        clear hb hS
        have hS := hS2
        clear hS2
        refine hK.out _ _ hS (fun _ => ?_)
        clear hK K
        try simp only [Act.put, List.setIfInBounds_toArray, List.set_cons_zero, List.set_cons_succ]
        refine wpAnyH_ready (rs := [27]) (by kernel_rfl) (by simp) ?_
        refine (AllReadyH.cons (o := ⟨some 97, _, _, _, _, _⟩) rfl (fun K hK => ?_) AllReadyH.nil)
        try go_simp
        (with_reducible refine (HO2.out _ hS.kp).mono ?_)
        rintro e wx3 ⟨rfl, hb⟩
        have hS3 := hS.step hb
        clear hb hS
        have hS := hS3
        clear hS3
        refine hK.out _ _ hS (fun _ => ?_)
        clear hK K
        try simp only [Act.put, List.setIfInBounds_toArray, List.set_cons_zero, List.set_cons_succ]
        refine wpAnyH_take (i := 28) (oi := ⟨some 98, _, _, _, _, _⟩) (v := ?va28) rfl (by kernel_rfl) (by kernel_rfl) (by kernel_rfl) (fun _ _ _ h => h) (Or.inl ⟨by rfl, ?ya28⟩) hS ?ra28
        case ya28 => intro W hW; go_simp; first | done | with_reducible rfl
        simp only [Act.put, List.setIfInBounds_toArray, List.set_cons_zero, List.set_cons_succ]
        refine wpAnyH_take (i := 30) (oi := ⟨some 100, _, _, _, _, _⟩) (v := ?va30) rfl (by kernel_rfl) (by kernel_rfl) (by kernel_rfl) (fun _ _ _ h => h) (Or.inl ⟨by rfl, ?ya30⟩) hS ?ra30
        case ya30 => intro W hW; go_simp; first | done | with_reducible rfl
        simp only [Act.put, List.setIfInBounds_toArray, List.set_cons_zero, List.set_cons_succ]
        refine wpAnyH_take (i := 31) (oi := ⟨some 101, _, _, _, _, _⟩) (v := ?va31) rfl (by kernel_rfl) (by kernel_rfl) (by kernel_rfl) (fun _ _ _ h => h) (Or.inl ⟨by rfl, ?ya31⟩) hS ?ra31
        case ya31 => intro W hW; go_simp; first | done | with_reducible rfl
        simp only [Act.put, List.setIfInBounds_toArray, List.set_cons_zero, List.set_cons_succ]
        refine wpAnyH_take (i := 32) (oi := ⟨some 6, _, _, _, _, _⟩) (v := ?va32) rfl (by kernel_rfl) (by kernel_rfl) (by kernel_rfl) (fun _ _ _ h => h) (Or.inl ⟨by rfl, ?ya32⟩) hS ?ra32
        case ya32 => intro W hW; go_simp; first | done | with_reducible rfl
        simp only [Act.put, List.setIfInBounds_toArray, List.set_cons_zero, List.set_cons_succ]
        refine wpAnyH_done (by kernel_rfl) ?_ _
        go_wp2_with fail
        go_ret
        exact ⟨by simp, hS.kp⟩
set_option maxHeartbeats 8000000 in
set_option maxRecDepth 100000 in
theorem po_0_not (u v : U) (n k q : Int) (N K : Nat) (Z D A X1 X O1 O2 : List UInt8) (w : World) (hN : bits .and .i64 n 131071 = (N : Int)) (hK : bits .and .i64 k 7 = (K : Int)) (hK7 : K ≤ 7) (hz : bits .and .i64 q 3 = 0) (HS : Hid (∀ w', Kept w w' → Calls Tryz.prog 13 #[] w' fun e w2 => e = .returned (.bool true) ∧ Below w'.heap.size w' w2)) (HD : Hid (∀ w', Kept w w' → Calls Tryz.prog 27 #[.int .i64 (N : Int)] w' fun e w2 => e = .returned (.string (str D)) ∧ Below w'.heap.size w' w2)) (HU : Hid (∀ w', Kept w w' → Calls Tryz.prog 14 #[.string (str X)] w' fun e w2 => e = .returned (.tuple #[.agg (uC u.sch u.host u.port u.path u.q u.f).toArray, .int .i64 0]) ∧ Below w'.heap.size w' w2)) (HV : Hid (∀ w', Kept w w' → Calls Tryz.prog 14 #[.string (str A)] w' fun e w2 => e = .returned (.tuple #[.agg (uC v.sch v.host v.port v.path v.q v.f).toArray, .int .i64 0]) ∧ Below w'.heap.size w' w2)) (b1 : (⟨#[104, 116, 116, 112]⟩ : ByteArray) ++ ⟨#[58, 47, 47, 97, 58]⟩ = str A) (b2 : str A ++ str Z = str X1) (b3 : str X1 ++ str D = str X) (r2 : ¬ (9223372036854775807 : Nat) < (str A).size + (str Z).size) (r3 : ¬ (9223372036854775807 : Nat) < (str X1).size + (str D).size) (hZ : Hid (List.replicate K 48 = Z)) (hv : (v.port != -1) = false) (hb : ¬ (65535 : Int) < (N : Int)) (HDf : Hid (∀ w', Calls Tryz.prog 28 #[.string ⟨#[104, 116, 116, 112]⟩] w' fun e w2 => e = .returned (.int .i64 80) ∧ w2 = w')) (ho : ((N : Int) == 80) = false) (hp : (u.port == (N : Int)) = true) (hpa : ((str u.path).toList == [47]) = true) (HA : Hid (∀ w', Calls Tryz.prog 23 #[.agg (uC u.sch u.host u.port u.path u.q u.f).toArray, .agg (uC v.sch v.host v.port v.path v.q v.f).toArray] w' fun e w2 => e = .returned (.bool false) ∧ Below w'.heap.size w' w2)) (HO1 : Hid (∀ w', Kept w w' → Calls Tryz.prog 21 #[.agg (uC u.sch u.host u.port u.path u.q u.f).toArray] w' fun e w2 => e = .returned (.string (str O1)) ∧ Below w'.heap.size w' w2)) (HO2 : Hid (∀ w', Kept w w' → Calls Tryz.prog 21 #[.agg (uC v.sch v.host v.port v.path v.q v.f).toArray] w' fun e w2 => e = .returned (.string (str O2)) ∧ Below w'.heap.size w' w2)) (he : ((str O1).toList == (str O2).toList) = false) : Calls Tryz.prog 8 #[.int .i64 n, .int .i64 k, .int .i64 q] w fun e w' => e = .returned (.bool true) ∧ Below w.heap.size w w' := by
    go_enter Tryz.func8, Tryz.ntmps8
    go_wp2_with (first
      | (go_at_call 13; (with_reducible refine (HS.out _ (Hl.nil w).kp).mono ?_); (rintro e w1 ⟨rfl, hb⟩; have H0 := (Hl.nil w).step hb; clear hb)))
    go_loop [10, 9] (fun i z => ∃ j : Nat, j ≤ K ∧ i = .int .i64 (j : Int) ∧ z = .string (str (List.replicate j 48))) (fun i _ => K - (intOf i).toNat)
    case atStart => exact ⟨0, by omega, rfl, rfl⟩
    case round =>
      obtain ⟨j, hj, rfl, rfl⟩ := hrel
      by_cases hlt : j < K
      · have hjK : (j : Int) < (K : Int) := by omega
        obtain ⟨Y, hY⟩ : ∃ Y, Y = List.replicate (j + 1) (48 : UInt8) := ⟨_, rfl⟩
        obtain ⟨Y0, hY0⟩ : ∃ Y, Y = List.replicate j (48 : UInt8) := ⟨_, rfl⟩
        have hs : str Y0 ++ ⟨#[48]⟩ = str Y := by rw [hY, hY0, List.replicate_succ']; exact str_add _ _
        have hr : ¬ (9223372036854775807 : Nat) < (str Y0).size + 1 := by rw [str_size, hY0, List.length_replicate]; omega
        rw [← hY0]
        have HY := Lib.hid hY
        clear hY hY0
        go_wp2_with fail
        go_round
        case rel => exact ⟨j + 1, by omega, by go_num, by rw [HY.out]⟩
        case measure => simp [intOf]; omega
      · have hjK : ¬ (j : Int) < (K : Int) := by omega
        obtain rfl : j = K := by omega
        rw [hZ.out]
        clear hlt hZ hj
        go_wp2_with (first
          | (go_at_call 27; (with_reducible refine (HD.out _ (H0.kp.alloc _)).mono ?_); (rintro e w2 ⟨rfl, hb2⟩; have H1 : Hl w w2 [] := ⟨(H0.kp.alloc _).step hb2, by simp⟩; clear hb2 H0))
          | (go_at_call 14; (with_reducible refine (HU.out _ H1.kp).mono ?_); (rintro e wa1 ⟨rfl, hb⟩; have G1 := H1.step hb; clear hb))
          | ((with_reducible show wpList _ _ _ (⟨some 11, .alloc _, _, _, _, _⟩ :: _) _ _); refine wp_new _ rfl 24 rfl _ z24 ?_; intro wb1 g1 B1 F1; simp only [Act.put, List.setIfInBounds_toArray, List.set_cons_zero, List.set_cons_succ])
          | ((with_reducible show wpList _ _ _ (⟨none, .store 24 (.tmp 11) (.tmp 42), _, _, _, _⟩ :: _) _ _); refine wp_putAll _ rfl 24 (.tmp 11) (.tmp 42) rfl g1 24 _ (uC u.sch u.host u.port u.path u.q u.f) rfl rfl B1 rfl n24 (uC_one _ _ _ _ _ _) ?_; intro wc1 B U; simp only [Act.put]; have H2 := G1.new F1 U B; clear B U F1 B1 G1)
          | (go_at_call 14; (with_reducible refine (HV.out _ H2.kp).mono ?_); (rintro e wa2 ⟨rfl, hb⟩; have G2 := H2.step hb; clear hb))
          | ((with_reducible show wpList _ _ _ (⟨some 13, .alloc _, _, _, _, _⟩ :: _) _ _); refine wp_new _ rfl 24 rfl _ z24 ?_; intro wb2 g2 B2 F2; simp only [Act.put, List.setIfInBounds_toArray, List.set_cons_zero, List.set_cons_succ])
          | ((with_reducible show wpList _ _ _ (⟨none, .store 24 (.tmp 13) (.tmp 48), _, _, _, _⟩ :: _) _ _); refine wp_putAll _ rfl 24 (.tmp 13) (.tmp 48) rfl g2 24 _ (uC v.sch v.host v.port v.path v.q v.f) rfl rfl B2 rfl n24 (uC_one _ _ _ _ _ _) ?_; intro wc2 B U; simp only [Act.put]; have H3 := G2.new F2 U B; clear B U F2 B2 G2; have d2 : wc2.cell? ⟨g2, 2, none⟩ = some (.int .i64 v.port) := (H3.at (x := (g2, uC v.sch v.host v.port v.path v.q v.f)) (by simp)).cell rfl)
          | (go_at_call 28; (with_reducible refine (HDf.out _).mono ?_); (rintro e w5 ⟨rfl, rfl⟩)))
        refine wp_region_held_drew (S := fun W => Hl w W [(g2, uC v.sch v.host v.port v.path v.q v.f), (g1, uC u.sch u.host u.port u.path u.q u.f)]) (by kernel_rfl) (H3.step (Below.refl _ _).drew) (fun hS => ?_)
        refine wpAnyH_take (i := 0) (oi := ⟨some 70, _, _, _, _, _⟩) (v := ?va0) rfl (by kernel_rfl) (by kernel_rfl) (by kernel_rfl) (fun _ _ _ h => h) (Or.inl ⟨by rfl, ?ya0⟩) hS ?ra0
        case ya0 => intro W hW; go_simp; first | done | with_reducible rfl
        simp only [Act.put, List.setIfInBounds_toArray, List.set_cons_zero, List.set_cons_succ]
        refine wpAnyH_take (i := 1) (oi := ⟨some 71, _, _, _, _, _⟩) (v := ?va1) rfl (by kernel_rfl) (by kernel_rfl) (by kernel_rfl) (fun _ _ _ h => h) (Or.inl ⟨by rfl, ?ya1⟩) hS ?ra1
        case ya1 => intro W hW; go_simp; first | done | with_reducible rfl
        simp only [Act.put, List.setIfInBounds_toArray, List.set_cons_zero, List.set_cons_succ]
        refine wpAnyH_take (i := 2) (oi := ⟨some 72, _, _, _, _, _⟩) (v := ?va2) rfl (by kernel_rfl) (by kernel_rfl) (by kernel_rfl) (fun _ _ _ h => h) (Or.inl ⟨by rfl, ?ya2⟩) hS ?ra2
        case ya2 => intro W hW; go_simp; first | done | with_reducible rfl
        simp only [Act.put, List.setIfInBounds_toArray, List.set_cons_zero, List.set_cons_succ]
        refine wpAnyH_take (i := 3) (oi := ⟨some 73, _, _, _, _, _⟩) (v := ?va3) rfl (by kernel_rfl) (by kernel_rfl) (by kernel_rfl) (fun _ _ _ h => h) (Or.inl ⟨by rfl, ?ya3⟩) hS ?ra3
        case ya3 => intro W hW; go_simp; first | done | with_reducible rfl
        simp only [Act.put, List.setIfInBounds_toArray, List.set_cons_zero, List.set_cons_succ]
        refine wpAnyH_take (i := 4) (oi := ⟨some 74, _, _, _, _, _⟩) (v := ?va4) rfl (by kernel_rfl) (by kernel_rfl) (by kernel_rfl) (fun _ _ _ h => h) (Or.inl ⟨by rfl, ?ya4⟩) hS ?ra4
        case ya4 => intro W hW; go_simp; first | done | with_reducible rfl
        simp only [Act.put, List.setIfInBounds_toArray, List.set_cons_zero, List.set_cons_succ]
        refine wpAnyH_take (i := 5) (oi := ⟨some 75, _, _, _, _, _⟩) (v := ?va5) rfl (by kernel_rfl) (by kernel_rfl) (by kernel_rfl) (fun _ _ _ h => h) (Or.inl ⟨by rfl, ?ya5⟩) hS ?ra5
        case ya5 => intro W hW; go_simp; first | done | with_reducible rfl
        simp only [Act.put, List.setIfInBounds_toArray, List.set_cons_zero, List.set_cons_succ]
        refine wpAnyH_take (i := 6) (oi := ⟨some 76, _, _, _, _, _⟩) (v := ?va6) rfl (by kernel_rfl) (by kernel_rfl) (by kernel_rfl) (fun _ _ _ h => h) (Or.inl ⟨by rfl, ?ya6⟩) hS ?ra6
        case ya6 => intro W hW; go_simp; first | done | with_reducible rfl
        simp only [Act.put, List.setIfInBounds_toArray, List.set_cons_zero, List.set_cons_succ]
        refine wpAnyH_take (i := 7) (oi := ⟨some 77, _, _, _, _, _⟩) (v := ?va7) rfl (by kernel_rfl) (by kernel_rfl) (by kernel_rfl) (fun _ _ _ h => h) (Or.inl ⟨by rfl, ?ya7⟩) hS ?ra7
        case ya7 => intro W hW; have hc : W.cell? ⟨g1, 2, none⟩ = some (.int .i64 u.port) := (hW.at (x := (g1, uC u.sch u.host u.port u.path u.q u.f)) (by simp)).cell rfl; go_simp; first | done | with_reducible rfl
        simp only [Act.put, List.setIfInBounds_toArray, List.set_cons_zero, List.set_cons_succ]
        refine wpAnyH_take (i := 8) (oi := ⟨some 78, _, _, _, _, _⟩) (v := ?va8) rfl (by kernel_rfl) (by kernel_rfl) (by kernel_rfl) (fun _ _ _ h => h) (Or.inl ⟨by rfl, ?ya8⟩) hS ?ra8
        case ya8 => intro W hW; go_simp; first | done | with_reducible rfl
        simp only [Act.put, List.setIfInBounds_toArray, List.set_cons_zero, List.set_cons_succ]
        refine wpAnyH_take (i := 9) (oi := ⟨some 79, _, _, _, _, _⟩) (v := ?va9) rfl (by kernel_rfl) (by kernel_rfl) (by kernel_rfl) (fun _ _ _ h => h) (Or.inl ⟨by rfl, ?ya9⟩) hS ?ra9
        case ya9 => intro W hW; go_simp; first | done | with_reducible rfl
        simp only [Act.put, List.setIfInBounds_toArray, List.set_cons_zero, List.set_cons_succ]
        refine wpAnyH_take (i := 10) (oi := ⟨some 80, _, _, _, _, _⟩) (v := ?va10) rfl (by kernel_rfl) (by kernel_rfl) (by kernel_rfl) (fun _ _ _ h => h) (Or.inl ⟨by rfl, ?ya10⟩) hS ?ra10
        case ya10 => intro W hW; go_simp; first | done | with_reducible rfl
        simp only [Act.put, List.setIfInBounds_toArray, List.set_cons_zero, List.set_cons_succ]
        refine wpAnyH_take (i := 11) (oi := ⟨some 81, _, _, _, _, _⟩) (v := ?va11) rfl (by kernel_rfl) (by kernel_rfl) (by kernel_rfl) (fun _ _ _ h => h) (Or.inl ⟨by rfl, ?ya11⟩) hS ?ra11
        case ya11 => intro W hW; go_simp; first | done | with_reducible rfl
        simp only [Act.put, List.setIfInBounds_toArray, List.set_cons_zero, List.set_cons_succ]
        refine wpAnyH_take (i := 12) (oi := ⟨some 82, _, _, _, _, _⟩) (v := ?va12) rfl (by kernel_rfl) (by kernel_rfl) (by kernel_rfl) (fun _ _ _ h => h) (Or.inl ⟨by rfl, ?ya12⟩) hS ?ra12
        case ya12 => intro W hW; go_simp; first | done | with_reducible rfl
        simp only [Act.put, List.setIfInBounds_toArray, List.set_cons_zero, List.set_cons_succ]
        refine wpAnyH_take (i := 13) (oi := ⟨some 83, _, _, _, _, _⟩) (v := ?va13) rfl (by kernel_rfl) (by kernel_rfl) (by kernel_rfl) (fun _ _ _ h => h) (Or.inl ⟨by rfl, ?ya13⟩) hS ?ra13
        case ya13 => intro W hW; have hc : W.cell? ⟨g1, 3, none⟩ = some (.string (str u.path)) := (hW.at (x := (g1, uC u.sch u.host u.port u.path u.q u.f)) (by simp)).cell rfl; go_simp; first | done | with_reducible rfl
        simp only [Act.put, List.setIfInBounds_toArray, List.set_cons_zero, List.set_cons_succ]
        refine wpAnyH_take (i := 14) (oi := ⟨some 84, _, _, _, _, _⟩) (v := ?va14) rfl (by kernel_rfl) (by kernel_rfl) (by kernel_rfl) (fun _ _ _ h => h) (Or.inl ⟨by rfl, ?ya14⟩) hS ?ra14
        case ya14 => intro W hW; go_simp; first | done | with_reducible rfl
        simp only [Act.put, List.setIfInBounds_toArray, List.set_cons_zero, List.set_cons_succ]
        refine wpAnyH_take (i := 15) (oi := ⟨some 85, _, _, _, _, _⟩) (v := ?va15) rfl (by kernel_rfl) (by kernel_rfl) (by kernel_rfl) (fun _ _ _ h => h) (Or.inl ⟨by rfl, ?ya15⟩) hS ?ra15
        case ya15 => intro W hW; go_simp; first | done | with_reducible rfl
        simp only [Act.put, List.setIfInBounds_toArray, List.set_cons_zero, List.set_cons_succ]
        refine wpAnyH_take (i := 16) (oi := ⟨some 86, _, _, _, _, _⟩) (v := ?va16) rfl (by kernel_rfl) (by kernel_rfl) (by kernel_rfl) (fun _ _ _ h => h) (Or.inl ⟨by rfl, ?ya16⟩) hS ?ra16
        case ya16 => intro W hW; go_simp; first | done | with_reducible rfl
        simp only [Act.put, List.setIfInBounds_toArray, List.set_cons_zero, List.set_cons_succ]
        refine wpAnyH_take (i := 17) (oi := ⟨some 87, _, _, _, _, _⟩) (v := _) rfl (by kernel_rfl) (by kernel_rfl) (by kernel_rfl) (fun _ _ _ h => h) (yieldsIf_load_mid (by rfl) 24 (.tmp 11) rfl g1 0 rfl (uC u.sch u.host u.port u.path u.q u.f) _ (fun W hW => (hW.at (x := (g1, uC u.sch u.host u.port u.path u.q u.f)) (by simp)).whole) Tryz.underlying24 rfl n24) hS ?_
        simp only [Act.put, List.setIfInBounds_toArray, List.set_cons_zero, List.set_cons_succ]
        refine wpAnyH_take (i := 18) (oi := ⟨some 88, _, _, _, _, _⟩) (v := _) rfl (by kernel_rfl) (by kernel_rfl) (by kernel_rfl) (fun _ _ _ h => h) (yieldsIf_load_mid (by rfl) 24 (.tmp 13) rfl g2 0 rfl (uC v.sch v.host v.port v.path v.q v.f) _ (fun W hW => (hW.at (x := (g2, uC v.sch v.host v.port v.path v.q v.f)) (by simp)).whole) Tryz.underlying24 rfl n24) hS ?_
        simp only [Act.put, List.setIfInBounds_toArray, List.set_cons_zero, List.set_cons_succ]
        refine wpAnyH_take (i := 20) (oi := ⟨some 90, _, _, _, _, _⟩) (v := ?va20) rfl (by kernel_rfl) (by kernel_rfl) (by kernel_rfl) (fun _ _ _ h => h) (Or.inl ⟨by rfl, ?ya20⟩) hS ?ra20
        case ya20 => intro W hW; go_simp; first | done | with_reducible rfl
        simp only [Act.put, List.setIfInBounds_toArray, List.set_cons_zero, List.set_cons_succ]
        refine wpAnyH_ready (rs := [19]) (by kernel_rfl) (by simp) ?_
        refine (AllReadyH.cons (o := ⟨some 89, _, _, _, _, _⟩) rfl (fun K hK => ?_) AllReadyH.nil)
        try go_simp
        (with_reducible refine (HA.out _).mono ?_)
        rintro e wx1 ⟨rfl, hb⟩
        have hS1 := hS.step hb
        clear hb hS
        have hS := hS1
        clear hS1
        refine hK.out _ _ hS (fun _ => ?_)
        clear hK K
        try simp only [Act.put, List.setIfInBounds_toArray, List.set_cons_zero, List.set_cons_succ]
        refine wpAnyH_take (i := 21) (oi := ⟨some 91, _, _, _, _, _⟩) (v := ?va21) rfl (by kernel_rfl) (by kernel_rfl) (by kernel_rfl) (fun _ _ _ h => h) (Or.inl ⟨by rfl, ?ya21⟩) hS ?ra21
        case ya21 => intro W hW; go_simp; first | done | with_reducible rfl
        simp only [Act.put, List.setIfInBounds_toArray, List.set_cons_zero, List.set_cons_succ]
        refine wpAnyH_take (i := 22) (oi := ⟨some 92, _, _, _, _, _⟩) (v := ?va22) rfl (by kernel_rfl) (by kernel_rfl) (by kernel_rfl) (fun _ _ _ h => h) (Or.inl ⟨by rfl, ?ya22⟩) hS ?ra22
        case ya22 => intro W hW; go_simp; first | done | with_reducible rfl
        simp only [Act.put, List.setIfInBounds_toArray, List.set_cons_zero, List.set_cons_succ]
        refine wpAnyH_take (i := 23) (oi := ⟨some 93, _, _, _, _, _⟩) (v := ?va23) rfl (by kernel_rfl) (by kernel_rfl) (by kernel_rfl) (fun _ _ _ h => h) (Or.inl ⟨by rfl, ?ya23⟩) hS ?ra23
        case ya23 => intro W hW; go_simp; first | done | with_reducible rfl
        simp only [Act.put, List.setIfInBounds_toArray, List.set_cons_zero, List.set_cons_succ]
        refine wpAnyH_take (i := 24) (oi := ⟨some 94, _, _, _, _, _⟩) (v := _) rfl (by kernel_rfl) (by kernel_rfl) (by kernel_rfl) (fun _ _ _ h => h) (yieldsIf_load_mid (by rfl) 24 (.tmp 11) rfl g1 0 rfl (uC u.sch u.host u.port u.path u.q u.f) _ (fun W hW => (hW.at (x := (g1, uC u.sch u.host u.port u.path u.q u.f)) (by simp)).whole) Tryz.underlying24 rfl n24) hS ?_
        simp only [Act.put, List.setIfInBounds_toArray, List.set_cons_zero, List.set_cons_succ]
        refine wpAnyH_take (i := 26) (oi := ⟨some 96, _, _, _, _, _⟩) (v := _) rfl (by kernel_rfl) (by kernel_rfl) (by kernel_rfl) (fun _ _ _ h => h) (yieldsIf_load_mid (by rfl) 24 (.tmp 13) rfl g2 0 rfl (uC v.sch v.host v.port v.path v.q v.f) _ (fun W hW => (hW.at (x := (g2, uC v.sch v.host v.port v.path v.q v.f)) (by simp)).whole) Tryz.underlying24 rfl n24) hS ?_
        simp only [Act.put, List.setIfInBounds_toArray, List.set_cons_zero, List.set_cons_succ]
        refine wpAnyH_take (i := 29) (oi := ⟨some 99, _, _, _, _, _⟩) (v := ?va29) rfl (by kernel_rfl) (by kernel_rfl) (by kernel_rfl) (fun _ _ _ h => h) (Or.inl ⟨by rfl, ?ya29⟩) hS ?ra29
        case ya29 => intro W hW; go_simp; first | done | with_reducible rfl
        simp only [Act.put, List.setIfInBounds_toArray, List.set_cons_zero, List.set_cons_succ]
        refine wpAnyH_ready (rs := [25]) (by kernel_rfl) (by simp) ?_
        refine (AllReadyH.cons (o := ⟨some 95, _, _, _, _, _⟩) rfl (fun K hK => ?_) AllReadyH.nil)
        try go_simp
        (with_reducible refine (HO1.out _ hS.kp).mono ?_)
        rintro e wx2 ⟨rfl, hb⟩
        have hS2 := hS.step hb
        clear hb hS
        have hS := hS2
        clear hS2
        refine hK.out _ _ hS (fun _ => ?_)
        clear hK K
        try simp only [Act.put, List.setIfInBounds_toArray, List.set_cons_zero, List.set_cons_succ]
        refine wpAnyH_ready (rs := [27]) (by kernel_rfl) (by simp) ?_
        refine (AllReadyH.cons (o := ⟨some 97, _, _, _, _, _⟩) rfl (fun K hK => ?_) AllReadyH.nil)
        try go_simp
        (with_reducible refine (HO2.out _ hS.kp).mono ?_)
        rintro e wx3 ⟨rfl, hb⟩
        have hS3 := hS.step hb
        clear hb hS
        have hS := hS3
        clear hS3
        refine hK.out _ _ hS (fun _ => ?_)
        clear hK K
        try simp only [Act.put, List.setIfInBounds_toArray, List.set_cons_zero, List.set_cons_succ]
        refine wpAnyH_take (i := 28) (oi := ⟨some 98, _, _, _, _, _⟩) (v := ?va28) rfl (by kernel_rfl) (by kernel_rfl) (by kernel_rfl) (fun _ _ _ h => h) (Or.inl ⟨by rfl, ?ya28⟩) hS ?ra28
        case ya28 => intro W hW; go_simp; first | done | with_reducible rfl
        simp only [Act.put, List.setIfInBounds_toArray, List.set_cons_zero, List.set_cons_succ]
        refine wpAnyH_take (i := 30) (oi := ⟨some 100, _, _, _, _, _⟩) (v := ?va30) rfl (by kernel_rfl) (by kernel_rfl) (by kernel_rfl) (fun _ _ _ h => h) (Or.inl ⟨by rfl, ?ya30⟩) hS ?ra30
        case ya30 => intro W hW; go_simp; first | done | with_reducible rfl
        simp only [Act.put, List.setIfInBounds_toArray, List.set_cons_zero, List.set_cons_succ]
        refine wpAnyH_take (i := 31) (oi := ⟨some 101, _, _, _, _, _⟩) (v := ?va31) rfl (by kernel_rfl) (by kernel_rfl) (by kernel_rfl) (fun _ _ _ h => h) (Or.inl ⟨by rfl, ?ya31⟩) hS ?ra31
        case ya31 => intro W hW; go_simp; first | done | with_reducible rfl
        simp only [Act.put, List.setIfInBounds_toArray, List.set_cons_zero, List.set_cons_succ]
        refine wpAnyH_take (i := 32) (oi := ⟨some 6, _, _, _, _, _⟩) (v := ?va32) rfl (by kernel_rfl) (by kernel_rfl) (by kernel_rfl) (fun _ _ _ h => h) (Or.inl ⟨by rfl, ?ya32⟩) hS ?ra32
        case ya32 => intro W hW; go_simp; first | done | with_reducible rfl
        simp only [Act.put, List.setIfInBounds_toArray, List.set_cons_zero, List.set_cons_succ]
        refine wpAnyH_done (by kernel_rfl) ?_ _
        go_wp2_with fail
        go_ret
        exact ⟨by simp, hS.kp⟩
set_option maxHeartbeats 8000000 in
set_option maxRecDepth 100000 in
theorem po_1_big (u v : U) (n k q : Int) (N K : Nat) (Z D A X1 X : List UInt8) (w : World) (hN : bits .and .i64 n 131071 = (N : Int)) (hK : bits .and .i64 k 7 = (K : Int)) (hK7 : K ≤ 7) (hz : bits .and .i64 q 3 = 1) (HS : Hid (∀ w', Kept w w' → Calls Tryz.prog 13 #[] w' fun e w2 => e = .returned (.bool true) ∧ Below w'.heap.size w' w2)) (HD : Hid (∀ w', Kept w w' → Calls Tryz.prog 27 #[.int .i64 (N : Int)] w' fun e w2 => e = .returned (.string (str D)) ∧ Below w'.heap.size w' w2)) (HU : Hid (∀ w', Kept w w' → Calls Tryz.prog 14 #[.string (str X)] w' fun e w2 => e = .returned (.tuple #[.agg (uC u.sch u.host u.port u.path u.q u.f).toArray, .int .i64 7]) ∧ Below w'.heap.size w' w2)) (HV : Hid (∀ w', Kept w w' → Calls Tryz.prog 14 #[.string (str A)] w' fun e w2 => e = .returned (.tuple #[.agg (uC v.sch v.host v.port v.path v.q v.f).toArray, .int .i64 0]) ∧ Below w'.heap.size w' w2)) (b1 : (⟨#[104, 116, 116, 112, 115]⟩ : ByteArray) ++ ⟨#[58, 47, 47, 97, 58]⟩ = str A) (b2 : str A ++ str Z = str X1) (b3 : str X1 ++ str D = str X) (r2 : ¬ (9223372036854775807 : Nat) < (str A).size + (str Z).size) (r3 : ¬ (9223372036854775807 : Nat) < (str X1).size + (str D).size) (hZ : Hid (List.replicate K 48 = Z)) (hv : (v.port != -1) = false) (hb : (65535 : Int) < (N : Int)) : Calls Tryz.prog 8 #[.int .i64 n, .int .i64 k, .int .i64 q] w fun e w' => e = .returned (.bool true) ∧ Below w.heap.size w w' := by
    go_enter Tryz.func8, Tryz.ntmps8
    go_wp2_with (first
      | (go_at_call 13; (with_reducible refine (HS.out _ (Hl.nil w).kp).mono ?_); (rintro e w1 ⟨rfl, hb⟩; have H0 := (Hl.nil w).step hb; clear hb)))
    go_loop [10, 9] (fun i z => ∃ j : Nat, j ≤ K ∧ i = .int .i64 (j : Int) ∧ z = .string (str (List.replicate j 48))) (fun i _ => K - (intOf i).toNat)
    case atStart => exact ⟨0, by omega, rfl, rfl⟩
    case round =>
      obtain ⟨j, hj, rfl, rfl⟩ := hrel
      by_cases hlt : j < K
      · have hjK : (j : Int) < (K : Int) := by omega
        obtain ⟨Y, hY⟩ : ∃ Y, Y = List.replicate (j + 1) (48 : UInt8) := ⟨_, rfl⟩
        obtain ⟨Y0, hY0⟩ : ∃ Y, Y = List.replicate j (48 : UInt8) := ⟨_, rfl⟩
        have hs : str Y0 ++ ⟨#[48]⟩ = str Y := by rw [hY, hY0, List.replicate_succ']; exact str_add _ _
        have hr : ¬ (9223372036854775807 : Nat) < (str Y0).size + 1 := by rw [str_size, hY0, List.length_replicate]; omega
        rw [← hY0]
        have HY := Lib.hid hY
        clear hY hY0
        go_wp2_with fail
        go_round
        case rel => exact ⟨j + 1, by omega, by go_num, by rw [HY.out]⟩
        case measure => simp [intOf]; omega
      · have hjK : ¬ (j : Int) < (K : Int) := by omega
        obtain rfl : j = K := by omega
        rw [hZ.out]
        clear hlt hZ hj
        go_wp2_with (first
          | (go_at_call 27; (with_reducible refine (HD.out _ (H0.kp.alloc _)).mono ?_); (rintro e w2 ⟨rfl, hb2⟩; have H1 : Hl w w2 [] := ⟨(H0.kp.alloc _).step hb2, by simp⟩; clear hb2 H0))
          | (go_at_call 14; (with_reducible refine (HU.out _ H1.kp).mono ?_); (rintro e wa1 ⟨rfl, hb⟩; have G1 := H1.step hb; clear hb))
          | ((with_reducible show wpList _ _ _ (⟨some 11, .alloc _, _, _, _, _⟩ :: _) _ _); refine wp_new _ rfl 24 rfl _ z24 ?_; intro wb1 g1 B1 F1; simp only [Act.put, List.setIfInBounds_toArray, List.set_cons_zero, List.set_cons_succ])
          | ((with_reducible show wpList _ _ _ (⟨none, .store 24 (.tmp 11) (.tmp 42), _, _, _, _⟩ :: _) _ _); refine wp_putAll _ rfl 24 (.tmp 11) (.tmp 42) rfl g1 24 _ (uC u.sch u.host u.port u.path u.q u.f) rfl rfl B1 rfl n24 (uC_one _ _ _ _ _ _) ?_; intro wc1 B U; simp only [Act.put]; have H2 := G1.new F1 U B; clear B U F1 B1 G1)
          | (go_at_call 14; (with_reducible refine (HV.out _ H2.kp).mono ?_); (rintro e wa2 ⟨rfl, hb⟩; have G2 := H2.step hb; clear hb))
          | ((with_reducible show wpList _ _ _ (⟨some 13, .alloc _, _, _, _, _⟩ :: _) _ _); refine wp_new _ rfl 24 rfl _ z24 ?_; intro wb2 g2 B2 F2; simp only [Act.put, List.setIfInBounds_toArray, List.set_cons_zero, List.set_cons_succ])
          | ((with_reducible show wpList _ _ _ (⟨none, .store 24 (.tmp 13) (.tmp 48), _, _, _, _⟩ :: _) _ _); refine wp_putAll _ rfl 24 (.tmp 13) (.tmp 48) rfl g2 24 _ (uC v.sch v.host v.port v.path v.q v.f) rfl rfl B2 rfl n24 (uC_one _ _ _ _ _ _) ?_; intro wc2 B U; simp only [Act.put]; have H3 := G2.new F2 U B; clear B U F2 B2 G2; have d2 : wc2.cell? ⟨g2, 2, none⟩ = some (.int .i64 v.port) := (H3.at (x := (g2, uC v.sch v.host v.port v.path v.q v.f)) (by simp)).cell rfl))
        go_ret
        exact ⟨by simp, H3.kp⟩
set_option maxHeartbeats 8000000 in
set_option maxRecDepth 100000 in
theorem po_1_own (u v : U) (n k q : Int) (N K : Nat) (Z D A X1 X O1 O2 : List UInt8) (w : World) (hN : bits .and .i64 n 131071 = (N : Int)) (hK : bits .and .i64 k 7 = (K : Int)) (hK7 : K ≤ 7) (hz : bits .and .i64 q 3 = 1) (HS : Hid (∀ w', Kept w w' → Calls Tryz.prog 13 #[] w' fun e w2 => e = .returned (.bool true) ∧ Below w'.heap.size w' w2)) (HD : Hid (∀ w', Kept w w' → Calls Tryz.prog 27 #[.int .i64 (N : Int)] w' fun e w2 => e = .returned (.string (str D)) ∧ Below w'.heap.size w' w2)) (HU : Hid (∀ w', Kept w w' → Calls Tryz.prog 14 #[.string (str X)] w' fun e w2 => e = .returned (.tuple #[.agg (uC u.sch u.host u.port u.path u.q u.f).toArray, .int .i64 0]) ∧ Below w'.heap.size w' w2)) (HV : Hid (∀ w', Kept w w' → Calls Tryz.prog 14 #[.string (str A)] w' fun e w2 => e = .returned (.tuple #[.agg (uC v.sch v.host v.port v.path v.q v.f).toArray, .int .i64 0]) ∧ Below w'.heap.size w' w2)) (b1 : (⟨#[104, 116, 116, 112, 115]⟩ : ByteArray) ++ ⟨#[58, 47, 47, 97, 58]⟩ = str A) (b2 : str A ++ str Z = str X1) (b3 : str X1 ++ str D = str X) (r2 : ¬ (9223372036854775807 : Nat) < (str A).size + (str Z).size) (r3 : ¬ (9223372036854775807 : Nat) < (str X1).size + (str D).size) (hZ : Hid (List.replicate K 48 = Z)) (hv : (v.port != -1) = false) (hb : ¬ (65535 : Int) < (N : Int)) (HDf : Hid (∀ w', Calls Tryz.prog 28 #[.string ⟨#[104, 116, 116, 112, 115]⟩] w' fun e w2 => e = .returned (.int .i64 443) ∧ w2 = w')) (ho : ((N : Int) == 443) = true) (hp : (u.port == -1) = true) (hpa : ((str u.path).toList == [47]) = true) (HA : Hid (∀ w', Calls Tryz.prog 23 #[.agg (uC u.sch u.host u.port u.path u.q u.f).toArray, .agg (uC v.sch v.host v.port v.path v.q v.f).toArray] w' fun e w2 => e = .returned (.bool true) ∧ Below w'.heap.size w' w2)) (HO1 : Hid (∀ w', Kept w w' → Calls Tryz.prog 21 #[.agg (uC u.sch u.host u.port u.path u.q u.f).toArray] w' fun e w2 => e = .returned (.string (str O1)) ∧ Below w'.heap.size w' w2)) (HO2 : Hid (∀ w', Kept w w' → Calls Tryz.prog 21 #[.agg (uC v.sch v.host v.port v.path v.q v.f).toArray] w' fun e w2 => e = .returned (.string (str O2)) ∧ Below w'.heap.size w' w2)) (he : ((str O1).toList == (str O2).toList) = true) : Calls Tryz.prog 8 #[.int .i64 n, .int .i64 k, .int .i64 q] w fun e w' => e = .returned (.bool true) ∧ Below w.heap.size w w' := by
    go_enter Tryz.func8, Tryz.ntmps8
    go_wp2_with (first
      | (go_at_call 13; (with_reducible refine (HS.out _ (Hl.nil w).kp).mono ?_); (rintro e w1 ⟨rfl, hb⟩; have H0 := (Hl.nil w).step hb; clear hb)))
    go_loop [10, 9] (fun i z => ∃ j : Nat, j ≤ K ∧ i = .int .i64 (j : Int) ∧ z = .string (str (List.replicate j 48))) (fun i _ => K - (intOf i).toNat)
    case atStart => exact ⟨0, by omega, rfl, rfl⟩
    case round =>
      obtain ⟨j, hj, rfl, rfl⟩ := hrel
      by_cases hlt : j < K
      · have hjK : (j : Int) < (K : Int) := by omega
        obtain ⟨Y, hY⟩ : ∃ Y, Y = List.replicate (j + 1) (48 : UInt8) := ⟨_, rfl⟩
        obtain ⟨Y0, hY0⟩ : ∃ Y, Y = List.replicate j (48 : UInt8) := ⟨_, rfl⟩
        have hs : str Y0 ++ ⟨#[48]⟩ = str Y := by rw [hY, hY0, List.replicate_succ']; exact str_add _ _
        have hr : ¬ (9223372036854775807 : Nat) < (str Y0).size + 1 := by rw [str_size, hY0, List.length_replicate]; omega
        rw [← hY0]
        have HY := Lib.hid hY
        clear hY hY0
        go_wp2_with fail
        go_round
        case rel => exact ⟨j + 1, by omega, by go_num, by rw [HY.out]⟩
        case measure => simp [intOf]; omega
      · have hjK : ¬ (j : Int) < (K : Int) := by omega
        obtain rfl : j = K := by omega
        rw [hZ.out]
        clear hlt hZ hj
        go_wp2_with (first
          | (go_at_call 27; (with_reducible refine (HD.out _ (H0.kp.alloc _)).mono ?_); (rintro e w2 ⟨rfl, hb2⟩; have H1 : Hl w w2 [] := ⟨(H0.kp.alloc _).step hb2, by simp⟩; clear hb2 H0))
          | (go_at_call 14; (with_reducible refine (HU.out _ H1.kp).mono ?_); (rintro e wa1 ⟨rfl, hb⟩; have G1 := H1.step hb; clear hb))
          | ((with_reducible show wpList _ _ _ (⟨some 11, .alloc _, _, _, _, _⟩ :: _) _ _); refine wp_new _ rfl 24 rfl _ z24 ?_; intro wb1 g1 B1 F1; simp only [Act.put, List.setIfInBounds_toArray, List.set_cons_zero, List.set_cons_succ])
          | ((with_reducible show wpList _ _ _ (⟨none, .store 24 (.tmp 11) (.tmp 42), _, _, _, _⟩ :: _) _ _); refine wp_putAll _ rfl 24 (.tmp 11) (.tmp 42) rfl g1 24 _ (uC u.sch u.host u.port u.path u.q u.f) rfl rfl B1 rfl n24 (uC_one _ _ _ _ _ _) ?_; intro wc1 B U; simp only [Act.put]; have H2 := G1.new F1 U B; clear B U F1 B1 G1)
          | (go_at_call 14; (with_reducible refine (HV.out _ H2.kp).mono ?_); (rintro e wa2 ⟨rfl, hb⟩; have G2 := H2.step hb; clear hb))
          | ((with_reducible show wpList _ _ _ (⟨some 13, .alloc _, _, _, _, _⟩ :: _) _ _); refine wp_new _ rfl 24 rfl _ z24 ?_; intro wb2 g2 B2 F2; simp only [Act.put, List.setIfInBounds_toArray, List.set_cons_zero, List.set_cons_succ])
          | ((with_reducible show wpList _ _ _ (⟨none, .store 24 (.tmp 13) (.tmp 48), _, _, _, _⟩ :: _) _ _); refine wp_putAll _ rfl 24 (.tmp 13) (.tmp 48) rfl g2 24 _ (uC v.sch v.host v.port v.path v.q v.f) rfl rfl B2 rfl n24 (uC_one _ _ _ _ _ _) ?_; intro wc2 B U; simp only [Act.put]; have H3 := G2.new F2 U B; clear B U F2 B2 G2; have d2 : wc2.cell? ⟨g2, 2, none⟩ = some (.int .i64 v.port) := (H3.at (x := (g2, uC v.sch v.host v.port v.path v.q v.f)) (by simp)).cell rfl)
          | (go_at_call 28; (with_reducible refine (HDf.out _).mono ?_); (rintro e w5 ⟨rfl, rfl⟩)))
        refine wp_region_held_drew (S := fun W => Hl w W [(g2, uC v.sch v.host v.port v.path v.q v.f), (g1, uC u.sch u.host u.port u.path u.q u.f)]) (by kernel_rfl) (H3.step (Below.refl _ _).drew) (fun hS => ?_)
        refine wpAnyH_take (i := 0) (oi := ⟨some 70, _, _, _, _, _⟩) (v := ?va0) rfl (by kernel_rfl) (by kernel_rfl) (by kernel_rfl) (fun _ _ _ h => h) (Or.inl ⟨by rfl, ?ya0⟩) hS ?ra0
        case ya0 => intro W hW; go_simp; first | done | with_reducible rfl
        simp only [Act.put, List.setIfInBounds_toArray, List.set_cons_zero, List.set_cons_succ]
        refine wpAnyH_take (i := 1) (oi := ⟨some 71, _, _, _, _, _⟩) (v := ?va1) rfl (by kernel_rfl) (by kernel_rfl) (by kernel_rfl) (fun _ _ _ h => h) (Or.inl ⟨by rfl, ?ya1⟩) hS ?ra1
        case ya1 => intro W hW; go_simp; first | done | with_reducible rfl
        simp only [Act.put, List.setIfInBounds_toArray, List.set_cons_zero, List.set_cons_succ]
        refine wpAnyH_take (i := 2) (oi := ⟨some 72, _, _, _, _, _⟩) (v := ?va2) rfl (by kernel_rfl) (by kernel_rfl) (by kernel_rfl) (fun _ _ _ h => h) (Or.inl ⟨by rfl, ?ya2⟩) hS ?ra2
        case ya2 => intro W hW; go_simp; first | done | with_reducible rfl
        simp only [Act.put, List.setIfInBounds_toArray, List.set_cons_zero, List.set_cons_succ]
        refine wpAnyH_take (i := 3) (oi := ⟨some 73, _, _, _, _, _⟩) (v := ?va3) rfl (by kernel_rfl) (by kernel_rfl) (by kernel_rfl) (fun _ _ _ h => h) (Or.inl ⟨by rfl, ?ya3⟩) hS ?ra3
        case ya3 => intro W hW; go_simp; first | done | with_reducible rfl
        simp only [Act.put, List.setIfInBounds_toArray, List.set_cons_zero, List.set_cons_succ]
        refine wpAnyH_take (i := 4) (oi := ⟨some 74, _, _, _, _, _⟩) (v := ?va4) rfl (by kernel_rfl) (by kernel_rfl) (by kernel_rfl) (fun _ _ _ h => h) (Or.inl ⟨by rfl, ?ya4⟩) hS ?ra4
        case ya4 => intro W hW; go_simp; first | done | with_reducible rfl
        simp only [Act.put, List.setIfInBounds_toArray, List.set_cons_zero, List.set_cons_succ]
        refine wpAnyH_take (i := 5) (oi := ⟨some 75, _, _, _, _, _⟩) (v := ?va5) rfl (by kernel_rfl) (by kernel_rfl) (by kernel_rfl) (fun _ _ _ h => h) (Or.inl ⟨by rfl, ?ya5⟩) hS ?ra5
        case ya5 => intro W hW; go_simp; first | done | with_reducible rfl
        simp only [Act.put, List.setIfInBounds_toArray, List.set_cons_zero, List.set_cons_succ]
        refine wpAnyH_take (i := 6) (oi := ⟨some 76, _, _, _, _, _⟩) (v := ?va6) rfl (by kernel_rfl) (by kernel_rfl) (by kernel_rfl) (fun _ _ _ h => h) (Or.inl ⟨by rfl, ?ya6⟩) hS ?ra6
        case ya6 => intro W hW; go_simp; first | done | with_reducible rfl
        simp only [Act.put, List.setIfInBounds_toArray, List.set_cons_zero, List.set_cons_succ]
        refine wpAnyH_take (i := 7) (oi := ⟨some 77, _, _, _, _, _⟩) (v := ?va7) rfl (by kernel_rfl) (by kernel_rfl) (by kernel_rfl) (fun _ _ _ h => h) (Or.inl ⟨by rfl, ?ya7⟩) hS ?ra7
        case ya7 => intro W hW; have hc : W.cell? ⟨g1, 2, none⟩ = some (.int .i64 u.port) := (hW.at (x := (g1, uC u.sch u.host u.port u.path u.q u.f)) (by simp)).cell rfl; go_simp; first | done | with_reducible rfl
        simp only [Act.put, List.setIfInBounds_toArray, List.set_cons_zero, List.set_cons_succ]
        refine wpAnyH_take (i := 8) (oi := ⟨some 78, _, _, _, _, _⟩) (v := ?va8) rfl (by kernel_rfl) (by kernel_rfl) (by kernel_rfl) (fun _ _ _ h => h) (Or.inl ⟨by rfl, ?ya8⟩) hS ?ra8
        case ya8 => intro W hW; go_simp; first | done | with_reducible rfl
        simp only [Act.put, List.setIfInBounds_toArray, List.set_cons_zero, List.set_cons_succ]
        refine wpAnyH_take (i := 9) (oi := ⟨some 79, _, _, _, _, _⟩) (v := ?va9) rfl (by kernel_rfl) (by kernel_rfl) (by kernel_rfl) (fun _ _ _ h => h) (Or.inl ⟨by rfl, ?ya9⟩) hS ?ra9
        case ya9 => intro W hW; go_simp; first | done | with_reducible rfl
        simp only [Act.put, List.setIfInBounds_toArray, List.set_cons_zero, List.set_cons_succ]
        refine wpAnyH_take (i := 10) (oi := ⟨some 80, _, _, _, _, _⟩) (v := ?va10) rfl (by kernel_rfl) (by kernel_rfl) (by kernel_rfl) (fun _ _ _ h => h) (Or.inl ⟨by rfl, ?ya10⟩) hS ?ra10
        case ya10 => intro W hW; go_simp; first | done | with_reducible rfl
        simp only [Act.put, List.setIfInBounds_toArray, List.set_cons_zero, List.set_cons_succ]
        refine wpAnyH_take (i := 11) (oi := ⟨some 81, _, _, _, _, _⟩) (v := ?va11) rfl (by kernel_rfl) (by kernel_rfl) (by kernel_rfl) (fun _ _ _ h => h) (Or.inl ⟨by rfl, ?ya11⟩) hS ?ra11
        case ya11 => intro W hW; go_simp; first | done | with_reducible rfl
        simp only [Act.put, List.setIfInBounds_toArray, List.set_cons_zero, List.set_cons_succ]
        refine wpAnyH_take (i := 12) (oi := ⟨some 82, _, _, _, _, _⟩) (v := ?va12) rfl (by kernel_rfl) (by kernel_rfl) (by kernel_rfl) (fun _ _ _ h => h) (Or.inl ⟨by rfl, ?ya12⟩) hS ?ra12
        case ya12 => intro W hW; go_simp; first | done | with_reducible rfl
        simp only [Act.put, List.setIfInBounds_toArray, List.set_cons_zero, List.set_cons_succ]
        refine wpAnyH_take (i := 13) (oi := ⟨some 83, _, _, _, _, _⟩) (v := ?va13) rfl (by kernel_rfl) (by kernel_rfl) (by kernel_rfl) (fun _ _ _ h => h) (Or.inl ⟨by rfl, ?ya13⟩) hS ?ra13
        case ya13 => intro W hW; have hc : W.cell? ⟨g1, 3, none⟩ = some (.string (str u.path)) := (hW.at (x := (g1, uC u.sch u.host u.port u.path u.q u.f)) (by simp)).cell rfl; go_simp; first | done | with_reducible rfl
        simp only [Act.put, List.setIfInBounds_toArray, List.set_cons_zero, List.set_cons_succ]
        refine wpAnyH_take (i := 14) (oi := ⟨some 84, _, _, _, _, _⟩) (v := ?va14) rfl (by kernel_rfl) (by kernel_rfl) (by kernel_rfl) (fun _ _ _ h => h) (Or.inl ⟨by rfl, ?ya14⟩) hS ?ra14
        case ya14 => intro W hW; go_simp; first | done | with_reducible rfl
        simp only [Act.put, List.setIfInBounds_toArray, List.set_cons_zero, List.set_cons_succ]
        refine wpAnyH_take (i := 15) (oi := ⟨some 85, _, _, _, _, _⟩) (v := ?va15) rfl (by kernel_rfl) (by kernel_rfl) (by kernel_rfl) (fun _ _ _ h => h) (Or.inl ⟨by rfl, ?ya15⟩) hS ?ra15
        case ya15 => intro W hW; go_simp; first | done | with_reducible rfl
        simp only [Act.put, List.setIfInBounds_toArray, List.set_cons_zero, List.set_cons_succ]
        refine wpAnyH_take (i := 16) (oi := ⟨some 86, _, _, _, _, _⟩) (v := ?va16) rfl (by kernel_rfl) (by kernel_rfl) (by kernel_rfl) (fun _ _ _ h => h) (Or.inl ⟨by rfl, ?ya16⟩) hS ?ra16
        case ya16 => intro W hW; go_simp; first | done | with_reducible rfl
        simp only [Act.put, List.setIfInBounds_toArray, List.set_cons_zero, List.set_cons_succ]
        refine wpAnyH_take (i := 17) (oi := ⟨some 87, _, _, _, _, _⟩) (v := _) rfl (by kernel_rfl) (by kernel_rfl) (by kernel_rfl) (fun _ _ _ h => h) (yieldsIf_load_mid (by rfl) 24 (.tmp 11) rfl g1 0 rfl (uC u.sch u.host u.port u.path u.q u.f) _ (fun W hW => (hW.at (x := (g1, uC u.sch u.host u.port u.path u.q u.f)) (by simp)).whole) Tryz.underlying24 rfl n24) hS ?_
        simp only [Act.put, List.setIfInBounds_toArray, List.set_cons_zero, List.set_cons_succ]
        refine wpAnyH_take (i := 18) (oi := ⟨some 88, _, _, _, _, _⟩) (v := _) rfl (by kernel_rfl) (by kernel_rfl) (by kernel_rfl) (fun _ _ _ h => h) (yieldsIf_load_mid (by rfl) 24 (.tmp 13) rfl g2 0 rfl (uC v.sch v.host v.port v.path v.q v.f) _ (fun W hW => (hW.at (x := (g2, uC v.sch v.host v.port v.path v.q v.f)) (by simp)).whole) Tryz.underlying24 rfl n24) hS ?_
        simp only [Act.put, List.setIfInBounds_toArray, List.set_cons_zero, List.set_cons_succ]
        refine wpAnyH_take (i := 20) (oi := ⟨some 90, _, _, _, _, _⟩) (v := ?va20) rfl (by kernel_rfl) (by kernel_rfl) (by kernel_rfl) (fun _ _ _ h => h) (Or.inl ⟨by rfl, ?ya20⟩) hS ?ra20
        case ya20 => intro W hW; go_simp; first | done | with_reducible rfl
        simp only [Act.put, List.setIfInBounds_toArray, List.set_cons_zero, List.set_cons_succ]
        refine wpAnyH_ready (rs := [19]) (by kernel_rfl) (by simp) ?_
        refine (AllReadyH.cons (o := ⟨some 89, _, _, _, _, _⟩) rfl (fun K hK => ?_) AllReadyH.nil)
        try go_simp
        (with_reducible refine (HA.out _).mono ?_)
        rintro e wx1 ⟨rfl, hb⟩
        have hS1 := hS.step hb
        clear hb hS
        have hS := hS1
        clear hS1
        refine hK.out _ _ hS (fun _ => ?_)
        clear hK K
        try simp only [Act.put, List.setIfInBounds_toArray, List.set_cons_zero, List.set_cons_succ]
        refine wpAnyH_take (i := 21) (oi := ⟨some 91, _, _, _, _, _⟩) (v := ?va21) rfl (by kernel_rfl) (by kernel_rfl) (by kernel_rfl) (fun _ _ _ h => h) (Or.inl ⟨by rfl, ?ya21⟩) hS ?ra21
        case ya21 => intro W hW; go_simp; first | done | with_reducible rfl
        simp only [Act.put, List.setIfInBounds_toArray, List.set_cons_zero, List.set_cons_succ]
        refine wpAnyH_take (i := 22) (oi := ⟨some 92, _, _, _, _, _⟩) (v := ?va22) rfl (by kernel_rfl) (by kernel_rfl) (by kernel_rfl) (fun _ _ _ h => h) (Or.inl ⟨by rfl, ?ya22⟩) hS ?ra22
        case ya22 => intro W hW; go_simp; first | done | with_reducible rfl
        simp only [Act.put, List.setIfInBounds_toArray, List.set_cons_zero, List.set_cons_succ]
        refine wpAnyH_take (i := 23) (oi := ⟨some 93, _, _, _, _, _⟩) (v := ?va23) rfl (by kernel_rfl) (by kernel_rfl) (by kernel_rfl) (fun _ _ _ h => h) (Or.inl ⟨by rfl, ?ya23⟩) hS ?ra23
        case ya23 => intro W hW; go_simp; first | done | with_reducible rfl
        simp only [Act.put, List.setIfInBounds_toArray, List.set_cons_zero, List.set_cons_succ]
        refine wpAnyH_take (i := 24) (oi := ⟨some 94, _, _, _, _, _⟩) (v := _) rfl (by kernel_rfl) (by kernel_rfl) (by kernel_rfl) (fun _ _ _ h => h) (yieldsIf_load_mid (by rfl) 24 (.tmp 11) rfl g1 0 rfl (uC u.sch u.host u.port u.path u.q u.f) _ (fun W hW => (hW.at (x := (g1, uC u.sch u.host u.port u.path u.q u.f)) (by simp)).whole) Tryz.underlying24 rfl n24) hS ?_
        simp only [Act.put, List.setIfInBounds_toArray, List.set_cons_zero, List.set_cons_succ]
        refine wpAnyH_take (i := 26) (oi := ⟨some 96, _, _, _, _, _⟩) (v := _) rfl (by kernel_rfl) (by kernel_rfl) (by kernel_rfl) (fun _ _ _ h => h) (yieldsIf_load_mid (by rfl) 24 (.tmp 13) rfl g2 0 rfl (uC v.sch v.host v.port v.path v.q v.f) _ (fun W hW => (hW.at (x := (g2, uC v.sch v.host v.port v.path v.q v.f)) (by simp)).whole) Tryz.underlying24 rfl n24) hS ?_
        simp only [Act.put, List.setIfInBounds_toArray, List.set_cons_zero, List.set_cons_succ]
        refine wpAnyH_take (i := 29) (oi := ⟨some 99, _, _, _, _, _⟩) (v := ?va29) rfl (by kernel_rfl) (by kernel_rfl) (by kernel_rfl) (fun _ _ _ h => h) (Or.inl ⟨by rfl, ?ya29⟩) hS ?ra29
        case ya29 => intro W hW; go_simp; first | done | with_reducible rfl
        simp only [Act.put, List.setIfInBounds_toArray, List.set_cons_zero, List.set_cons_succ]
        refine wpAnyH_ready (rs := [25]) (by kernel_rfl) (by simp) ?_
        refine (AllReadyH.cons (o := ⟨some 95, _, _, _, _, _⟩) rfl (fun K hK => ?_) AllReadyH.nil)
        try go_simp
        (with_reducible refine (HO1.out _ hS.kp).mono ?_)
        rintro e wx2 ⟨rfl, hb⟩
        have hS2 := hS.step hb
        clear hb hS
        have hS := hS2
        clear hS2
        refine hK.out _ _ hS (fun _ => ?_)
        clear hK K
        try simp only [Act.put, List.setIfInBounds_toArray, List.set_cons_zero, List.set_cons_succ]
        refine wpAnyH_ready (rs := [27]) (by kernel_rfl) (by simp) ?_
        refine (AllReadyH.cons (o := ⟨some 97, _, _, _, _, _⟩) rfl (fun K hK => ?_) AllReadyH.nil)
        try go_simp
        (with_reducible refine (HO2.out _ hS.kp).mono ?_)
        rintro e wx3 ⟨rfl, hb⟩
        have hS3 := hS.step hb
        clear hb hS
        have hS := hS3
        clear hS3
        refine hK.out _ _ hS (fun _ => ?_)
        clear hK K
        try simp only [Act.put, List.setIfInBounds_toArray, List.set_cons_zero, List.set_cons_succ]
        refine wpAnyH_take (i := 28) (oi := ⟨some 98, _, _, _, _, _⟩) (v := ?va28) rfl (by kernel_rfl) (by kernel_rfl) (by kernel_rfl) (fun _ _ _ h => h) (Or.inl ⟨by rfl, ?ya28⟩) hS ?ra28
        case ya28 => intro W hW; go_simp; first | done | with_reducible rfl
        simp only [Act.put, List.setIfInBounds_toArray, List.set_cons_zero, List.set_cons_succ]
        refine wpAnyH_take (i := 30) (oi := ⟨some 100, _, _, _, _, _⟩) (v := ?va30) rfl (by kernel_rfl) (by kernel_rfl) (by kernel_rfl) (fun _ _ _ h => h) (Or.inl ⟨by rfl, ?ya30⟩) hS ?ra30
        case ya30 => intro W hW; go_simp; first | done | with_reducible rfl
        simp only [Act.put, List.setIfInBounds_toArray, List.set_cons_zero, List.set_cons_succ]
        refine wpAnyH_take (i := 31) (oi := ⟨some 101, _, _, _, _, _⟩) (v := ?va31) rfl (by kernel_rfl) (by kernel_rfl) (by kernel_rfl) (fun _ _ _ h => h) (Or.inl ⟨by rfl, ?ya31⟩) hS ?ra31
        case ya31 => intro W hW; go_simp; first | done | with_reducible rfl
        simp only [Act.put, List.setIfInBounds_toArray, List.set_cons_zero, List.set_cons_succ]
        refine wpAnyH_take (i := 32) (oi := ⟨some 6, _, _, _, _, _⟩) (v := ?va32) rfl (by kernel_rfl) (by kernel_rfl) (by kernel_rfl) (fun _ _ _ h => h) (Or.inl ⟨by rfl, ?ya32⟩) hS ?ra32
        case ya32 => intro W hW; go_simp; first | done | with_reducible rfl
        simp only [Act.put, List.setIfInBounds_toArray, List.set_cons_zero, List.set_cons_succ]
        refine wpAnyH_done (by kernel_rfl) ?_ _
        go_wp2_with fail
        go_ret
        exact ⟨by simp, hS.kp⟩
set_option maxHeartbeats 8000000 in
set_option maxRecDepth 100000 in
theorem po_1_not (u v : U) (n k q : Int) (N K : Nat) (Z D A X1 X O1 O2 : List UInt8) (w : World) (hN : bits .and .i64 n 131071 = (N : Int)) (hK : bits .and .i64 k 7 = (K : Int)) (hK7 : K ≤ 7) (hz : bits .and .i64 q 3 = 1) (HS : Hid (∀ w', Kept w w' → Calls Tryz.prog 13 #[] w' fun e w2 => e = .returned (.bool true) ∧ Below w'.heap.size w' w2)) (HD : Hid (∀ w', Kept w w' → Calls Tryz.prog 27 #[.int .i64 (N : Int)] w' fun e w2 => e = .returned (.string (str D)) ∧ Below w'.heap.size w' w2)) (HU : Hid (∀ w', Kept w w' → Calls Tryz.prog 14 #[.string (str X)] w' fun e w2 => e = .returned (.tuple #[.agg (uC u.sch u.host u.port u.path u.q u.f).toArray, .int .i64 0]) ∧ Below w'.heap.size w' w2)) (HV : Hid (∀ w', Kept w w' → Calls Tryz.prog 14 #[.string (str A)] w' fun e w2 => e = .returned (.tuple #[.agg (uC v.sch v.host v.port v.path v.q v.f).toArray, .int .i64 0]) ∧ Below w'.heap.size w' w2)) (b1 : (⟨#[104, 116, 116, 112, 115]⟩ : ByteArray) ++ ⟨#[58, 47, 47, 97, 58]⟩ = str A) (b2 : str A ++ str Z = str X1) (b3 : str X1 ++ str D = str X) (r2 : ¬ (9223372036854775807 : Nat) < (str A).size + (str Z).size) (r3 : ¬ (9223372036854775807 : Nat) < (str X1).size + (str D).size) (hZ : Hid (List.replicate K 48 = Z)) (hv : (v.port != -1) = false) (hb : ¬ (65535 : Int) < (N : Int)) (HDf : Hid (∀ w', Calls Tryz.prog 28 #[.string ⟨#[104, 116, 116, 112, 115]⟩] w' fun e w2 => e = .returned (.int .i64 443) ∧ w2 = w')) (ho : ((N : Int) == 443) = false) (hp : (u.port == (N : Int)) = true) (hpa : ((str u.path).toList == [47]) = true) (HA : Hid (∀ w', Calls Tryz.prog 23 #[.agg (uC u.sch u.host u.port u.path u.q u.f).toArray, .agg (uC v.sch v.host v.port v.path v.q v.f).toArray] w' fun e w2 => e = .returned (.bool false) ∧ Below w'.heap.size w' w2)) (HO1 : Hid (∀ w', Kept w w' → Calls Tryz.prog 21 #[.agg (uC u.sch u.host u.port u.path u.q u.f).toArray] w' fun e w2 => e = .returned (.string (str O1)) ∧ Below w'.heap.size w' w2)) (HO2 : Hid (∀ w', Kept w w' → Calls Tryz.prog 21 #[.agg (uC v.sch v.host v.port v.path v.q v.f).toArray] w' fun e w2 => e = .returned (.string (str O2)) ∧ Below w'.heap.size w' w2)) (he : ((str O1).toList == (str O2).toList) = false) : Calls Tryz.prog 8 #[.int .i64 n, .int .i64 k, .int .i64 q] w fun e w' => e = .returned (.bool true) ∧ Below w.heap.size w w' := by
    go_enter Tryz.func8, Tryz.ntmps8
    go_wp2_with (first
      | (go_at_call 13; (with_reducible refine (HS.out _ (Hl.nil w).kp).mono ?_); (rintro e w1 ⟨rfl, hb⟩; have H0 := (Hl.nil w).step hb; clear hb)))
    go_loop [10, 9] (fun i z => ∃ j : Nat, j ≤ K ∧ i = .int .i64 (j : Int) ∧ z = .string (str (List.replicate j 48))) (fun i _ => K - (intOf i).toNat)
    case atStart => exact ⟨0, by omega, rfl, rfl⟩
    case round =>
      obtain ⟨j, hj, rfl, rfl⟩ := hrel
      by_cases hlt : j < K
      · have hjK : (j : Int) < (K : Int) := by omega
        obtain ⟨Y, hY⟩ : ∃ Y, Y = List.replicate (j + 1) (48 : UInt8) := ⟨_, rfl⟩
        obtain ⟨Y0, hY0⟩ : ∃ Y, Y = List.replicate j (48 : UInt8) := ⟨_, rfl⟩
        have hs : str Y0 ++ ⟨#[48]⟩ = str Y := by rw [hY, hY0, List.replicate_succ']; exact str_add _ _
        have hr : ¬ (9223372036854775807 : Nat) < (str Y0).size + 1 := by rw [str_size, hY0, List.length_replicate]; omega
        rw [← hY0]
        have HY := Lib.hid hY
        clear hY hY0
        go_wp2_with fail
        go_round
        case rel => exact ⟨j + 1, by omega, by go_num, by rw [HY.out]⟩
        case measure => simp [intOf]; omega
      · have hjK : ¬ (j : Int) < (K : Int) := by omega
        obtain rfl : j = K := by omega
        rw [hZ.out]
        clear hlt hZ hj
        go_wp2_with (first
          | (go_at_call 27; (with_reducible refine (HD.out _ (H0.kp.alloc _)).mono ?_); (rintro e w2 ⟨rfl, hb2⟩; have H1 : Hl w w2 [] := ⟨(H0.kp.alloc _).step hb2, by simp⟩; clear hb2 H0))
          | (go_at_call 14; (with_reducible refine (HU.out _ H1.kp).mono ?_); (rintro e wa1 ⟨rfl, hb⟩; have G1 := H1.step hb; clear hb))
          | ((with_reducible show wpList _ _ _ (⟨some 11, .alloc _, _, _, _, _⟩ :: _) _ _); refine wp_new _ rfl 24 rfl _ z24 ?_; intro wb1 g1 B1 F1; simp only [Act.put, List.setIfInBounds_toArray, List.set_cons_zero, List.set_cons_succ])
          | ((with_reducible show wpList _ _ _ (⟨none, .store 24 (.tmp 11) (.tmp 42), _, _, _, _⟩ :: _) _ _); refine wp_putAll _ rfl 24 (.tmp 11) (.tmp 42) rfl g1 24 _ (uC u.sch u.host u.port u.path u.q u.f) rfl rfl B1 rfl n24 (uC_one _ _ _ _ _ _) ?_; intro wc1 B U; simp only [Act.put]; have H2 := G1.new F1 U B; clear B U F1 B1 G1)
          | (go_at_call 14; (with_reducible refine (HV.out _ H2.kp).mono ?_); (rintro e wa2 ⟨rfl, hb⟩; have G2 := H2.step hb; clear hb))
          | ((with_reducible show wpList _ _ _ (⟨some 13, .alloc _, _, _, _, _⟩ :: _) _ _); refine wp_new _ rfl 24 rfl _ z24 ?_; intro wb2 g2 B2 F2; simp only [Act.put, List.setIfInBounds_toArray, List.set_cons_zero, List.set_cons_succ])
          | ((with_reducible show wpList _ _ _ (⟨none, .store 24 (.tmp 13) (.tmp 48), _, _, _, _⟩ :: _) _ _); refine wp_putAll _ rfl 24 (.tmp 13) (.tmp 48) rfl g2 24 _ (uC v.sch v.host v.port v.path v.q v.f) rfl rfl B2 rfl n24 (uC_one _ _ _ _ _ _) ?_; intro wc2 B U; simp only [Act.put]; have H3 := G2.new F2 U B; clear B U F2 B2 G2; have d2 : wc2.cell? ⟨g2, 2, none⟩ = some (.int .i64 v.port) := (H3.at (x := (g2, uC v.sch v.host v.port v.path v.q v.f)) (by simp)).cell rfl)
          | (go_at_call 28; (with_reducible refine (HDf.out _).mono ?_); (rintro e w5 ⟨rfl, rfl⟩)))
        refine wp_region_held_drew (S := fun W => Hl w W [(g2, uC v.sch v.host v.port v.path v.q v.f), (g1, uC u.sch u.host u.port u.path u.q u.f)]) (by kernel_rfl) (H3.step (Below.refl _ _).drew) (fun hS => ?_)
        refine wpAnyH_take (i := 0) (oi := ⟨some 70, _, _, _, _, _⟩) (v := ?va0) rfl (by kernel_rfl) (by kernel_rfl) (by kernel_rfl) (fun _ _ _ h => h) (Or.inl ⟨by rfl, ?ya0⟩) hS ?ra0
        case ya0 => intro W hW; go_simp; first | done | with_reducible rfl
        simp only [Act.put, List.setIfInBounds_toArray, List.set_cons_zero, List.set_cons_succ]
        refine wpAnyH_take (i := 1) (oi := ⟨some 71, _, _, _, _, _⟩) (v := ?va1) rfl (by kernel_rfl) (by kernel_rfl) (by kernel_rfl) (fun _ _ _ h => h) (Or.inl ⟨by rfl, ?ya1⟩) hS ?ra1
        case ya1 => intro W hW; go_simp; first | done | with_reducible rfl
        simp only [Act.put, List.setIfInBounds_toArray, List.set_cons_zero, List.set_cons_succ]
        refine wpAnyH_take (i := 2) (oi := ⟨some 72, _, _, _, _, _⟩) (v := ?va2) rfl (by kernel_rfl) (by kernel_rfl) (by kernel_rfl) (fun _ _ _ h => h) (Or.inl ⟨by rfl, ?ya2⟩) hS ?ra2
        case ya2 => intro W hW; go_simp; first | done | with_reducible rfl
        simp only [Act.put, List.setIfInBounds_toArray, List.set_cons_zero, List.set_cons_succ]
        refine wpAnyH_take (i := 3) (oi := ⟨some 73, _, _, _, _, _⟩) (v := ?va3) rfl (by kernel_rfl) (by kernel_rfl) (by kernel_rfl) (fun _ _ _ h => h) (Or.inl ⟨by rfl, ?ya3⟩) hS ?ra3
        case ya3 => intro W hW; go_simp; first | done | with_reducible rfl
        simp only [Act.put, List.setIfInBounds_toArray, List.set_cons_zero, List.set_cons_succ]
        refine wpAnyH_take (i := 4) (oi := ⟨some 74, _, _, _, _, _⟩) (v := ?va4) rfl (by kernel_rfl) (by kernel_rfl) (by kernel_rfl) (fun _ _ _ h => h) (Or.inl ⟨by rfl, ?ya4⟩) hS ?ra4
        case ya4 => intro W hW; go_simp; first | done | with_reducible rfl
        simp only [Act.put, List.setIfInBounds_toArray, List.set_cons_zero, List.set_cons_succ]
        refine wpAnyH_take (i := 5) (oi := ⟨some 75, _, _, _, _, _⟩) (v := ?va5) rfl (by kernel_rfl) (by kernel_rfl) (by kernel_rfl) (fun _ _ _ h => h) (Or.inl ⟨by rfl, ?ya5⟩) hS ?ra5
        case ya5 => intro W hW; go_simp; first | done | with_reducible rfl
        simp only [Act.put, List.setIfInBounds_toArray, List.set_cons_zero, List.set_cons_succ]
        refine wpAnyH_take (i := 6) (oi := ⟨some 76, _, _, _, _, _⟩) (v := ?va6) rfl (by kernel_rfl) (by kernel_rfl) (by kernel_rfl) (fun _ _ _ h => h) (Or.inl ⟨by rfl, ?ya6⟩) hS ?ra6
        case ya6 => intro W hW; go_simp; first | done | with_reducible rfl
        simp only [Act.put, List.setIfInBounds_toArray, List.set_cons_zero, List.set_cons_succ]
        refine wpAnyH_take (i := 7) (oi := ⟨some 77, _, _, _, _, _⟩) (v := ?va7) rfl (by kernel_rfl) (by kernel_rfl) (by kernel_rfl) (fun _ _ _ h => h) (Or.inl ⟨by rfl, ?ya7⟩) hS ?ra7
        case ya7 => intro W hW; have hc : W.cell? ⟨g1, 2, none⟩ = some (.int .i64 u.port) := (hW.at (x := (g1, uC u.sch u.host u.port u.path u.q u.f)) (by simp)).cell rfl; go_simp; first | done | with_reducible rfl
        simp only [Act.put, List.setIfInBounds_toArray, List.set_cons_zero, List.set_cons_succ]
        refine wpAnyH_take (i := 8) (oi := ⟨some 78, _, _, _, _, _⟩) (v := ?va8) rfl (by kernel_rfl) (by kernel_rfl) (by kernel_rfl) (fun _ _ _ h => h) (Or.inl ⟨by rfl, ?ya8⟩) hS ?ra8
        case ya8 => intro W hW; go_simp; first | done | with_reducible rfl
        simp only [Act.put, List.setIfInBounds_toArray, List.set_cons_zero, List.set_cons_succ]
        refine wpAnyH_take (i := 9) (oi := ⟨some 79, _, _, _, _, _⟩) (v := ?va9) rfl (by kernel_rfl) (by kernel_rfl) (by kernel_rfl) (fun _ _ _ h => h) (Or.inl ⟨by rfl, ?ya9⟩) hS ?ra9
        case ya9 => intro W hW; go_simp; first | done | with_reducible rfl
        simp only [Act.put, List.setIfInBounds_toArray, List.set_cons_zero, List.set_cons_succ]
        refine wpAnyH_take (i := 10) (oi := ⟨some 80, _, _, _, _, _⟩) (v := ?va10) rfl (by kernel_rfl) (by kernel_rfl) (by kernel_rfl) (fun _ _ _ h => h) (Or.inl ⟨by rfl, ?ya10⟩) hS ?ra10
        case ya10 => intro W hW; go_simp; first | done | with_reducible rfl
        simp only [Act.put, List.setIfInBounds_toArray, List.set_cons_zero, List.set_cons_succ]
        refine wpAnyH_take (i := 11) (oi := ⟨some 81, _, _, _, _, _⟩) (v := ?va11) rfl (by kernel_rfl) (by kernel_rfl) (by kernel_rfl) (fun _ _ _ h => h) (Or.inl ⟨by rfl, ?ya11⟩) hS ?ra11
        case ya11 => intro W hW; go_simp; first | done | with_reducible rfl
        simp only [Act.put, List.setIfInBounds_toArray, List.set_cons_zero, List.set_cons_succ]
        refine wpAnyH_take (i := 12) (oi := ⟨some 82, _, _, _, _, _⟩) (v := ?va12) rfl (by kernel_rfl) (by kernel_rfl) (by kernel_rfl) (fun _ _ _ h => h) (Or.inl ⟨by rfl, ?ya12⟩) hS ?ra12
        case ya12 => intro W hW; go_simp; first | done | with_reducible rfl
        simp only [Act.put, List.setIfInBounds_toArray, List.set_cons_zero, List.set_cons_succ]
        refine wpAnyH_take (i := 13) (oi := ⟨some 83, _, _, _, _, _⟩) (v := ?va13) rfl (by kernel_rfl) (by kernel_rfl) (by kernel_rfl) (fun _ _ _ h => h) (Or.inl ⟨by rfl, ?ya13⟩) hS ?ra13
        case ya13 => intro W hW; have hc : W.cell? ⟨g1, 3, none⟩ = some (.string (str u.path)) := (hW.at (x := (g1, uC u.sch u.host u.port u.path u.q u.f)) (by simp)).cell rfl; go_simp; first | done | with_reducible rfl
        simp only [Act.put, List.setIfInBounds_toArray, List.set_cons_zero, List.set_cons_succ]
        refine wpAnyH_take (i := 14) (oi := ⟨some 84, _, _, _, _, _⟩) (v := ?va14) rfl (by kernel_rfl) (by kernel_rfl) (by kernel_rfl) (fun _ _ _ h => h) (Or.inl ⟨by rfl, ?ya14⟩) hS ?ra14
        case ya14 => intro W hW; go_simp; first | done | with_reducible rfl
        simp only [Act.put, List.setIfInBounds_toArray, List.set_cons_zero, List.set_cons_succ]
        refine wpAnyH_take (i := 15) (oi := ⟨some 85, _, _, _, _, _⟩) (v := ?va15) rfl (by kernel_rfl) (by kernel_rfl) (by kernel_rfl) (fun _ _ _ h => h) (Or.inl ⟨by rfl, ?ya15⟩) hS ?ra15
        case ya15 => intro W hW; go_simp; first | done | with_reducible rfl
        simp only [Act.put, List.setIfInBounds_toArray, List.set_cons_zero, List.set_cons_succ]
        refine wpAnyH_take (i := 16) (oi := ⟨some 86, _, _, _, _, _⟩) (v := ?va16) rfl (by kernel_rfl) (by kernel_rfl) (by kernel_rfl) (fun _ _ _ h => h) (Or.inl ⟨by rfl, ?ya16⟩) hS ?ra16
        case ya16 => intro W hW; go_simp; first | done | with_reducible rfl
        simp only [Act.put, List.setIfInBounds_toArray, List.set_cons_zero, List.set_cons_succ]
        refine wpAnyH_take (i := 17) (oi := ⟨some 87, _, _, _, _, _⟩) (v := _) rfl (by kernel_rfl) (by kernel_rfl) (by kernel_rfl) (fun _ _ _ h => h) (yieldsIf_load_mid (by rfl) 24 (.tmp 11) rfl g1 0 rfl (uC u.sch u.host u.port u.path u.q u.f) _ (fun W hW => (hW.at (x := (g1, uC u.sch u.host u.port u.path u.q u.f)) (by simp)).whole) Tryz.underlying24 rfl n24) hS ?_
        simp only [Act.put, List.setIfInBounds_toArray, List.set_cons_zero, List.set_cons_succ]
        refine wpAnyH_take (i := 18) (oi := ⟨some 88, _, _, _, _, _⟩) (v := _) rfl (by kernel_rfl) (by kernel_rfl) (by kernel_rfl) (fun _ _ _ h => h) (yieldsIf_load_mid (by rfl) 24 (.tmp 13) rfl g2 0 rfl (uC v.sch v.host v.port v.path v.q v.f) _ (fun W hW => (hW.at (x := (g2, uC v.sch v.host v.port v.path v.q v.f)) (by simp)).whole) Tryz.underlying24 rfl n24) hS ?_
        simp only [Act.put, List.setIfInBounds_toArray, List.set_cons_zero, List.set_cons_succ]
        refine wpAnyH_take (i := 20) (oi := ⟨some 90, _, _, _, _, _⟩) (v := ?va20) rfl (by kernel_rfl) (by kernel_rfl) (by kernel_rfl) (fun _ _ _ h => h) (Or.inl ⟨by rfl, ?ya20⟩) hS ?ra20
        case ya20 => intro W hW; go_simp; first | done | with_reducible rfl
        simp only [Act.put, List.setIfInBounds_toArray, List.set_cons_zero, List.set_cons_succ]
        refine wpAnyH_ready (rs := [19]) (by kernel_rfl) (by simp) ?_
        refine (AllReadyH.cons (o := ⟨some 89, _, _, _, _, _⟩) rfl (fun K hK => ?_) AllReadyH.nil)
        try go_simp
        (with_reducible refine (HA.out _).mono ?_)
        rintro e wx1 ⟨rfl, hb⟩
        have hS1 := hS.step hb
        clear hb hS
        have hS := hS1
        clear hS1
        refine hK.out _ _ hS (fun _ => ?_)
        clear hK K
        try simp only [Act.put, List.setIfInBounds_toArray, List.set_cons_zero, List.set_cons_succ]
        refine wpAnyH_take (i := 21) (oi := ⟨some 91, _, _, _, _, _⟩) (v := ?va21) rfl (by kernel_rfl) (by kernel_rfl) (by kernel_rfl) (fun _ _ _ h => h) (Or.inl ⟨by rfl, ?ya21⟩) hS ?ra21
        case ya21 => intro W hW; go_simp; first | done | with_reducible rfl
        simp only [Act.put, List.setIfInBounds_toArray, List.set_cons_zero, List.set_cons_succ]
        refine wpAnyH_take (i := 22) (oi := ⟨some 92, _, _, _, _, _⟩) (v := ?va22) rfl (by kernel_rfl) (by kernel_rfl) (by kernel_rfl) (fun _ _ _ h => h) (Or.inl ⟨by rfl, ?ya22⟩) hS ?ra22
        case ya22 => intro W hW; go_simp; first | done | with_reducible rfl
        simp only [Act.put, List.setIfInBounds_toArray, List.set_cons_zero, List.set_cons_succ]
        refine wpAnyH_take (i := 23) (oi := ⟨some 93, _, _, _, _, _⟩) (v := ?va23) rfl (by kernel_rfl) (by kernel_rfl) (by kernel_rfl) (fun _ _ _ h => h) (Or.inl ⟨by rfl, ?ya23⟩) hS ?ra23
        case ya23 => intro W hW; go_simp; first | done | with_reducible rfl
        simp only [Act.put, List.setIfInBounds_toArray, List.set_cons_zero, List.set_cons_succ]
        refine wpAnyH_take (i := 24) (oi := ⟨some 94, _, _, _, _, _⟩) (v := _) rfl (by kernel_rfl) (by kernel_rfl) (by kernel_rfl) (fun _ _ _ h => h) (yieldsIf_load_mid (by rfl) 24 (.tmp 11) rfl g1 0 rfl (uC u.sch u.host u.port u.path u.q u.f) _ (fun W hW => (hW.at (x := (g1, uC u.sch u.host u.port u.path u.q u.f)) (by simp)).whole) Tryz.underlying24 rfl n24) hS ?_
        simp only [Act.put, List.setIfInBounds_toArray, List.set_cons_zero, List.set_cons_succ]
        refine wpAnyH_take (i := 26) (oi := ⟨some 96, _, _, _, _, _⟩) (v := _) rfl (by kernel_rfl) (by kernel_rfl) (by kernel_rfl) (fun _ _ _ h => h) (yieldsIf_load_mid (by rfl) 24 (.tmp 13) rfl g2 0 rfl (uC v.sch v.host v.port v.path v.q v.f) _ (fun W hW => (hW.at (x := (g2, uC v.sch v.host v.port v.path v.q v.f)) (by simp)).whole) Tryz.underlying24 rfl n24) hS ?_
        simp only [Act.put, List.setIfInBounds_toArray, List.set_cons_zero, List.set_cons_succ]
        refine wpAnyH_take (i := 29) (oi := ⟨some 99, _, _, _, _, _⟩) (v := ?va29) rfl (by kernel_rfl) (by kernel_rfl) (by kernel_rfl) (fun _ _ _ h => h) (Or.inl ⟨by rfl, ?ya29⟩) hS ?ra29
        case ya29 => intro W hW; go_simp; first | done | with_reducible rfl
        simp only [Act.put, List.setIfInBounds_toArray, List.set_cons_zero, List.set_cons_succ]
        refine wpAnyH_ready (rs := [25]) (by kernel_rfl) (by simp) ?_
        refine (AllReadyH.cons (o := ⟨some 95, _, _, _, _, _⟩) rfl (fun K hK => ?_) AllReadyH.nil)
        try go_simp
        (with_reducible refine (HO1.out _ hS.kp).mono ?_)
        rintro e wx2 ⟨rfl, hb⟩
        have hS2 := hS.step hb
        clear hb hS
        have hS := hS2
        clear hS2
        refine hK.out _ _ hS (fun _ => ?_)
        clear hK K
        try simp only [Act.put, List.setIfInBounds_toArray, List.set_cons_zero, List.set_cons_succ]
        refine wpAnyH_ready (rs := [27]) (by kernel_rfl) (by simp) ?_
        refine (AllReadyH.cons (o := ⟨some 97, _, _, _, _, _⟩) rfl (fun K hK => ?_) AllReadyH.nil)
        try go_simp
        (with_reducible refine (HO2.out _ hS.kp).mono ?_)
        rintro e wx3 ⟨rfl, hb⟩
        have hS3 := hS.step hb
        clear hb hS
        have hS := hS3
        clear hS3
        refine hK.out _ _ hS (fun _ => ?_)
        clear hK K
        try simp only [Act.put, List.setIfInBounds_toArray, List.set_cons_zero, List.set_cons_succ]
        refine wpAnyH_take (i := 28) (oi := ⟨some 98, _, _, _, _, _⟩) (v := ?va28) rfl (by kernel_rfl) (by kernel_rfl) (by kernel_rfl) (fun _ _ _ h => h) (Or.inl ⟨by rfl, ?ya28⟩) hS ?ra28
        case ya28 => intro W hW; go_simp; first | done | with_reducible rfl
        simp only [Act.put, List.setIfInBounds_toArray, List.set_cons_zero, List.set_cons_succ]
        refine wpAnyH_take (i := 30) (oi := ⟨some 100, _, _, _, _, _⟩) (v := ?va30) rfl (by kernel_rfl) (by kernel_rfl) (by kernel_rfl) (fun _ _ _ h => h) (Or.inl ⟨by rfl, ?ya30⟩) hS ?ra30
        case ya30 => intro W hW; go_simp; first | done | with_reducible rfl
        simp only [Act.put, List.setIfInBounds_toArray, List.set_cons_zero, List.set_cons_succ]
        refine wpAnyH_take (i := 31) (oi := ⟨some 101, _, _, _, _, _⟩) (v := ?va31) rfl (by kernel_rfl) (by kernel_rfl) (by kernel_rfl) (fun _ _ _ h => h) (Or.inl ⟨by rfl, ?ya31⟩) hS ?ra31
        case ya31 => intro W hW; go_simp; first | done | with_reducible rfl
        simp only [Act.put, List.setIfInBounds_toArray, List.set_cons_zero, List.set_cons_succ]
        refine wpAnyH_take (i := 32) (oi := ⟨some 6, _, _, _, _, _⟩) (v := ?va32) rfl (by kernel_rfl) (by kernel_rfl) (by kernel_rfl) (fun _ _ _ h => h) (Or.inl ⟨by rfl, ?ya32⟩) hS ?ra32
        case ya32 => intro W hW; go_simp; first | done | with_reducible rfl
        simp only [Act.put, List.setIfInBounds_toArray, List.set_cons_zero, List.set_cons_succ]
        refine wpAnyH_done (by kernel_rfl) ?_ _
        go_wp2_with fail
        go_ret
        exact ⟨by simp, hS.kp⟩
set_option maxHeartbeats 8000000 in
set_option maxRecDepth 100000 in
theorem po_2_big (u v : U) (n k q : Int) (N K : Nat) (Z D A X1 X : List UInt8) (w : World) (hN : bits .and .i64 n 131071 = (N : Int)) (hK : bits .and .i64 k 7 = (K : Int)) (hK7 : K ≤ 7) (hz : bits .and .i64 q 3 = 2) (HS : Hid (∀ w', Kept w w' → Calls Tryz.prog 13 #[] w' fun e w2 => e = .returned (.bool true) ∧ Below w'.heap.size w' w2)) (HD : Hid (∀ w', Kept w w' → Calls Tryz.prog 27 #[.int .i64 (N : Int)] w' fun e w2 => e = .returned (.string (str D)) ∧ Below w'.heap.size w' w2)) (HU : Hid (∀ w', Kept w w' → Calls Tryz.prog 14 #[.string (str X)] w' fun e w2 => e = .returned (.tuple #[.agg (uC u.sch u.host u.port u.path u.q u.f).toArray, .int .i64 7]) ∧ Below w'.heap.size w' w2)) (HV : Hid (∀ w', Kept w w' → Calls Tryz.prog 14 #[.string (str A)] w' fun e w2 => e = .returned (.tuple #[.agg (uC v.sch v.host v.port v.path v.q v.f).toArray, .int .i64 0]) ∧ Below w'.heap.size w' w2)) (b1 : (⟨#[119, 115]⟩ : ByteArray) ++ ⟨#[58, 47, 47, 97, 58]⟩ = str A) (b2 : str A ++ str Z = str X1) (b3 : str X1 ++ str D = str X) (r2 : ¬ (9223372036854775807 : Nat) < (str A).size + (str Z).size) (r3 : ¬ (9223372036854775807 : Nat) < (str X1).size + (str D).size) (hZ : Hid (List.replicate K 48 = Z)) (hv : (v.port != -1) = false) (hb : (65535 : Int) < (N : Int)) : Calls Tryz.prog 8 #[.int .i64 n, .int .i64 k, .int .i64 q] w fun e w' => e = .returned (.bool true) ∧ Below w.heap.size w w' := by
    go_enter Tryz.func8, Tryz.ntmps8
    go_wp2_with (first
      | (go_at_call 13; (with_reducible refine (HS.out _ (Hl.nil w).kp).mono ?_); (rintro e w1 ⟨rfl, hb⟩; have H0 := (Hl.nil w).step hb; clear hb)))
    go_loop [10, 9] (fun i z => ∃ j : Nat, j ≤ K ∧ i = .int .i64 (j : Int) ∧ z = .string (str (List.replicate j 48))) (fun i _ => K - (intOf i).toNat)
    case atStart => exact ⟨0, by omega, rfl, rfl⟩
    case round =>
      obtain ⟨j, hj, rfl, rfl⟩ := hrel
      by_cases hlt : j < K
      · have hjK : (j : Int) < (K : Int) := by omega
        obtain ⟨Y, hY⟩ : ∃ Y, Y = List.replicate (j + 1) (48 : UInt8) := ⟨_, rfl⟩
        obtain ⟨Y0, hY0⟩ : ∃ Y, Y = List.replicate j (48 : UInt8) := ⟨_, rfl⟩
        have hs : str Y0 ++ ⟨#[48]⟩ = str Y := by rw [hY, hY0, List.replicate_succ']; exact str_add _ _
        have hr : ¬ (9223372036854775807 : Nat) < (str Y0).size + 1 := by rw [str_size, hY0, List.length_replicate]; omega
        rw [← hY0]
        have HY := Lib.hid hY
        clear hY hY0
        go_wp2_with fail
        go_round
        case rel => exact ⟨j + 1, by omega, by go_num, by rw [HY.out]⟩
        case measure => simp [intOf]; omega
      · have hjK : ¬ (j : Int) < (K : Int) := by omega
        obtain rfl : j = K := by omega
        rw [hZ.out]
        clear hlt hZ hj
        go_wp2_with (first
          | (go_at_call 27; (with_reducible refine (HD.out _ (H0.kp.alloc _)).mono ?_); (rintro e w2 ⟨rfl, hb2⟩; have H1 : Hl w w2 [] := ⟨(H0.kp.alloc _).step hb2, by simp⟩; clear hb2 H0))
          | (go_at_call 14; (with_reducible refine (HU.out _ H1.kp).mono ?_); (rintro e wa1 ⟨rfl, hb⟩; have G1 := H1.step hb; clear hb))
          | ((with_reducible show wpList _ _ _ (⟨some 11, .alloc _, _, _, _, _⟩ :: _) _ _); refine wp_new _ rfl 24 rfl _ z24 ?_; intro wb1 g1 B1 F1; simp only [Act.put, List.setIfInBounds_toArray, List.set_cons_zero, List.set_cons_succ])
          | ((with_reducible show wpList _ _ _ (⟨none, .store 24 (.tmp 11) (.tmp 42), _, _, _, _⟩ :: _) _ _); refine wp_putAll _ rfl 24 (.tmp 11) (.tmp 42) rfl g1 24 _ (uC u.sch u.host u.port u.path u.q u.f) rfl rfl B1 rfl n24 (uC_one _ _ _ _ _ _) ?_; intro wc1 B U; simp only [Act.put]; have H2 := G1.new F1 U B; clear B U F1 B1 G1)
          | (go_at_call 14; (with_reducible refine (HV.out _ H2.kp).mono ?_); (rintro e wa2 ⟨rfl, hb⟩; have G2 := H2.step hb; clear hb))
          | ((with_reducible show wpList _ _ _ (⟨some 13, .alloc _, _, _, _, _⟩ :: _) _ _); refine wp_new _ rfl 24 rfl _ z24 ?_; intro wb2 g2 B2 F2; simp only [Act.put, List.setIfInBounds_toArray, List.set_cons_zero, List.set_cons_succ])
          | ((with_reducible show wpList _ _ _ (⟨none, .store 24 (.tmp 13) (.tmp 48), _, _, _, _⟩ :: _) _ _); refine wp_putAll _ rfl 24 (.tmp 13) (.tmp 48) rfl g2 24 _ (uC v.sch v.host v.port v.path v.q v.f) rfl rfl B2 rfl n24 (uC_one _ _ _ _ _ _) ?_; intro wc2 B U; simp only [Act.put]; have H3 := G2.new F2 U B; clear B U F2 B2 G2; have d2 : wc2.cell? ⟨g2, 2, none⟩ = some (.int .i64 v.port) := (H3.at (x := (g2, uC v.sch v.host v.port v.path v.q v.f)) (by simp)).cell rfl))
        go_ret
        exact ⟨by simp, H3.kp⟩
set_option maxHeartbeats 8000000 in
set_option maxRecDepth 100000 in
theorem po_2_own (u v : U) (n k q : Int) (N K : Nat) (Z D A X1 X O1 O2 : List UInt8) (w : World) (hN : bits .and .i64 n 131071 = (N : Int)) (hK : bits .and .i64 k 7 = (K : Int)) (hK7 : K ≤ 7) (hz : bits .and .i64 q 3 = 2) (HS : Hid (∀ w', Kept w w' → Calls Tryz.prog 13 #[] w' fun e w2 => e = .returned (.bool true) ∧ Below w'.heap.size w' w2)) (HD : Hid (∀ w', Kept w w' → Calls Tryz.prog 27 #[.int .i64 (N : Int)] w' fun e w2 => e = .returned (.string (str D)) ∧ Below w'.heap.size w' w2)) (HU : Hid (∀ w', Kept w w' → Calls Tryz.prog 14 #[.string (str X)] w' fun e w2 => e = .returned (.tuple #[.agg (uC u.sch u.host u.port u.path u.q u.f).toArray, .int .i64 0]) ∧ Below w'.heap.size w' w2)) (HV : Hid (∀ w', Kept w w' → Calls Tryz.prog 14 #[.string (str A)] w' fun e w2 => e = .returned (.tuple #[.agg (uC v.sch v.host v.port v.path v.q v.f).toArray, .int .i64 0]) ∧ Below w'.heap.size w' w2)) (b1 : (⟨#[119, 115]⟩ : ByteArray) ++ ⟨#[58, 47, 47, 97, 58]⟩ = str A) (b2 : str A ++ str Z = str X1) (b3 : str X1 ++ str D = str X) (r2 : ¬ (9223372036854775807 : Nat) < (str A).size + (str Z).size) (r3 : ¬ (9223372036854775807 : Nat) < (str X1).size + (str D).size) (hZ : Hid (List.replicate K 48 = Z)) (hv : (v.port != -1) = false) (hb : ¬ (65535 : Int) < (N : Int)) (HDf : Hid (∀ w', Calls Tryz.prog 28 #[.string ⟨#[119, 115]⟩] w' fun e w2 => e = .returned (.int .i64 80) ∧ w2 = w')) (ho : ((N : Int) == 80) = true) (hp : (u.port == -1) = true) (hpa : ((str u.path).toList == [47]) = true) (HA : Hid (∀ w', Calls Tryz.prog 23 #[.agg (uC u.sch u.host u.port u.path u.q u.f).toArray, .agg (uC v.sch v.host v.port v.path v.q v.f).toArray] w' fun e w2 => e = .returned (.bool true) ∧ Below w'.heap.size w' w2)) (HO1 : Hid (∀ w', Kept w w' → Calls Tryz.prog 21 #[.agg (uC u.sch u.host u.port u.path u.q u.f).toArray] w' fun e w2 => e = .returned (.string (str O1)) ∧ Below w'.heap.size w' w2)) (HO2 : Hid (∀ w', Kept w w' → Calls Tryz.prog 21 #[.agg (uC v.sch v.host v.port v.path v.q v.f).toArray] w' fun e w2 => e = .returned (.string (str O2)) ∧ Below w'.heap.size w' w2)) (he : ((str O1).toList == (str O2).toList) = true) : Calls Tryz.prog 8 #[.int .i64 n, .int .i64 k, .int .i64 q] w fun e w' => e = .returned (.bool true) ∧ Below w.heap.size w w' := by
    go_enter Tryz.func8, Tryz.ntmps8
    go_wp2_with (first
      | (go_at_call 13; (with_reducible refine (HS.out _ (Hl.nil w).kp).mono ?_); (rintro e w1 ⟨rfl, hb⟩; have H0 := (Hl.nil w).step hb; clear hb)))
    go_loop [10, 9] (fun i z => ∃ j : Nat, j ≤ K ∧ i = .int .i64 (j : Int) ∧ z = .string (str (List.replicate j 48))) (fun i _ => K - (intOf i).toNat)
    case atStart => exact ⟨0, by omega, rfl, rfl⟩
    case round =>
      obtain ⟨j, hj, rfl, rfl⟩ := hrel
      by_cases hlt : j < K
      · have hjK : (j : Int) < (K : Int) := by omega
        obtain ⟨Y, hY⟩ : ∃ Y, Y = List.replicate (j + 1) (48 : UInt8) := ⟨_, rfl⟩
        obtain ⟨Y0, hY0⟩ : ∃ Y, Y = List.replicate j (48 : UInt8) := ⟨_, rfl⟩
        have hs : str Y0 ++ ⟨#[48]⟩ = str Y := by rw [hY, hY0, List.replicate_succ']; exact str_add _ _
        have hr : ¬ (9223372036854775807 : Nat) < (str Y0).size + 1 := by rw [str_size, hY0, List.length_replicate]; omega
        rw [← hY0]
        have HY := Lib.hid hY
        clear hY hY0
        go_wp2_with fail
        go_round
        case rel => exact ⟨j + 1, by omega, by go_num, by rw [HY.out]⟩
        case measure => simp [intOf]; omega
      · have hjK : ¬ (j : Int) < (K : Int) := by omega
        obtain rfl : j = K := by omega
        rw [hZ.out]
        clear hlt hZ hj
        go_wp2_with (first
          | (go_at_call 27; (with_reducible refine (HD.out _ (H0.kp.alloc _)).mono ?_); (rintro e w2 ⟨rfl, hb2⟩; have H1 : Hl w w2 [] := ⟨(H0.kp.alloc _).step hb2, by simp⟩; clear hb2 H0))
          | (go_at_call 14; (with_reducible refine (HU.out _ H1.kp).mono ?_); (rintro e wa1 ⟨rfl, hb⟩; have G1 := H1.step hb; clear hb))
          | ((with_reducible show wpList _ _ _ (⟨some 11, .alloc _, _, _, _, _⟩ :: _) _ _); refine wp_new _ rfl 24 rfl _ z24 ?_; intro wb1 g1 B1 F1; simp only [Act.put, List.setIfInBounds_toArray, List.set_cons_zero, List.set_cons_succ])
          | ((with_reducible show wpList _ _ _ (⟨none, .store 24 (.tmp 11) (.tmp 42), _, _, _, _⟩ :: _) _ _); refine wp_putAll _ rfl 24 (.tmp 11) (.tmp 42) rfl g1 24 _ (uC u.sch u.host u.port u.path u.q u.f) rfl rfl B1 rfl n24 (uC_one _ _ _ _ _ _) ?_; intro wc1 B U; simp only [Act.put]; have H2 := G1.new F1 U B; clear B U F1 B1 G1)
          | (go_at_call 14; (with_reducible refine (HV.out _ H2.kp).mono ?_); (rintro e wa2 ⟨rfl, hb⟩; have G2 := H2.step hb; clear hb))
          | ((with_reducible show wpList _ _ _ (⟨some 13, .alloc _, _, _, _, _⟩ :: _) _ _); refine wp_new _ rfl 24 rfl _ z24 ?_; intro wb2 g2 B2 F2; simp only [Act.put, List.setIfInBounds_toArray, List.set_cons_zero, List.set_cons_succ])
          | ((with_reducible show wpList _ _ _ (⟨none, .store 24 (.tmp 13) (.tmp 48), _, _, _, _⟩ :: _) _ _); refine wp_putAll _ rfl 24 (.tmp 13) (.tmp 48) rfl g2 24 _ (uC v.sch v.host v.port v.path v.q v.f) rfl rfl B2 rfl n24 (uC_one _ _ _ _ _ _) ?_; intro wc2 B U; simp only [Act.put]; have H3 := G2.new F2 U B; clear B U F2 B2 G2; have d2 : wc2.cell? ⟨g2, 2, none⟩ = some (.int .i64 v.port) := (H3.at (x := (g2, uC v.sch v.host v.port v.path v.q v.f)) (by simp)).cell rfl)
          | (go_at_call 28; (with_reducible refine (HDf.out _).mono ?_); (rintro e w5 ⟨rfl, rfl⟩)))
        refine wp_region_held_drew (S := fun W => Hl w W [(g2, uC v.sch v.host v.port v.path v.q v.f), (g1, uC u.sch u.host u.port u.path u.q u.f)]) (by kernel_rfl) (H3.step (Below.refl _ _).drew) (fun hS => ?_)
        refine wpAnyH_take (i := 0) (oi := ⟨some 70, _, _, _, _, _⟩) (v := ?va0) rfl (by kernel_rfl) (by kernel_rfl) (by kernel_rfl) (fun _ _ _ h => h) (Or.inl ⟨by rfl, ?ya0⟩) hS ?ra0
        case ya0 => intro W hW; go_simp; first | done | with_reducible rfl
        simp only [Act.put, List.setIfInBounds_toArray, List.set_cons_zero, List.set_cons_succ]
        refine wpAnyH_take (i := 1) (oi := ⟨some 71, _, _, _, _, _⟩) (v := ?va1) rfl (by kernel_rfl) (by kernel_rfl) (by kernel_rfl) (fun _ _ _ h => h) (Or.inl ⟨by rfl, ?ya1⟩) hS ?ra1
        case ya1 => intro W hW; go_simp; first | done | with_reducible rfl
        simp only [Act.put, List.setIfInBounds_toArray, List.set_cons_zero, List.set_cons_succ]
        refine wpAnyH_take (i := 2) (oi := ⟨some 72, _, _, _, _, _⟩) (v := ?va2) rfl (by kernel_rfl) (by kernel_rfl) (by kernel_rfl) (fun _ _ _ h => h) (Or.inl ⟨by rfl, ?ya2⟩) hS ?ra2
        case ya2 => intro W hW; go_simp; first | done | with_reducible rfl
        simp only [Act.put, List.setIfInBounds_toArray, List.set_cons_zero, List.set_cons_succ]
        refine wpAnyH_take (i := 3) (oi := ⟨some 73, _, _, _, _, _⟩) (v := ?va3) rfl (by kernel_rfl) (by kernel_rfl) (by kernel_rfl) (fun _ _ _ h => h) (Or.inl ⟨by rfl, ?ya3⟩) hS ?ra3
        case ya3 => intro W hW; go_simp; first | done | with_reducible rfl
        simp only [Act.put, List.setIfInBounds_toArray, List.set_cons_zero, List.set_cons_succ]
        refine wpAnyH_take (i := 4) (oi := ⟨some 74, _, _, _, _, _⟩) (v := ?va4) rfl (by kernel_rfl) (by kernel_rfl) (by kernel_rfl) (fun _ _ _ h => h) (Or.inl ⟨by rfl, ?ya4⟩) hS ?ra4
        case ya4 => intro W hW; go_simp; first | done | with_reducible rfl
        simp only [Act.put, List.setIfInBounds_toArray, List.set_cons_zero, List.set_cons_succ]
        refine wpAnyH_take (i := 5) (oi := ⟨some 75, _, _, _, _, _⟩) (v := ?va5) rfl (by kernel_rfl) (by kernel_rfl) (by kernel_rfl) (fun _ _ _ h => h) (Or.inl ⟨by rfl, ?ya5⟩) hS ?ra5
        case ya5 => intro W hW; go_simp; first | done | with_reducible rfl
        simp only [Act.put, List.setIfInBounds_toArray, List.set_cons_zero, List.set_cons_succ]
        refine wpAnyH_take (i := 6) (oi := ⟨some 76, _, _, _, _, _⟩) (v := ?va6) rfl (by kernel_rfl) (by kernel_rfl) (by kernel_rfl) (fun _ _ _ h => h) (Or.inl ⟨by rfl, ?ya6⟩) hS ?ra6
        case ya6 => intro W hW; go_simp; first | done | with_reducible rfl
        simp only [Act.put, List.setIfInBounds_toArray, List.set_cons_zero, List.set_cons_succ]
        refine wpAnyH_take (i := 7) (oi := ⟨some 77, _, _, _, _, _⟩) (v := ?va7) rfl (by kernel_rfl) (by kernel_rfl) (by kernel_rfl) (fun _ _ _ h => h) (Or.inl ⟨by rfl, ?ya7⟩) hS ?ra7
        case ya7 => intro W hW; have hc : W.cell? ⟨g1, 2, none⟩ = some (.int .i64 u.port) := (hW.at (x := (g1, uC u.sch u.host u.port u.path u.q u.f)) (by simp)).cell rfl; go_simp; first | done | with_reducible rfl
        simp only [Act.put, List.setIfInBounds_toArray, List.set_cons_zero, List.set_cons_succ]
        refine wpAnyH_take (i := 8) (oi := ⟨some 78, _, _, _, _, _⟩) (v := ?va8) rfl (by kernel_rfl) (by kernel_rfl) (by kernel_rfl) (fun _ _ _ h => h) (Or.inl ⟨by rfl, ?ya8⟩) hS ?ra8
        case ya8 => intro W hW; go_simp; first | done | with_reducible rfl
        simp only [Act.put, List.setIfInBounds_toArray, List.set_cons_zero, List.set_cons_succ]
        refine wpAnyH_take (i := 9) (oi := ⟨some 79, _, _, _, _, _⟩) (v := ?va9) rfl (by kernel_rfl) (by kernel_rfl) (by kernel_rfl) (fun _ _ _ h => h) (Or.inl ⟨by rfl, ?ya9⟩) hS ?ra9
        case ya9 => intro W hW; go_simp; first | done | with_reducible rfl
        simp only [Act.put, List.setIfInBounds_toArray, List.set_cons_zero, List.set_cons_succ]
        refine wpAnyH_take (i := 10) (oi := ⟨some 80, _, _, _, _, _⟩) (v := ?va10) rfl (by kernel_rfl) (by kernel_rfl) (by kernel_rfl) (fun _ _ _ h => h) (Or.inl ⟨by rfl, ?ya10⟩) hS ?ra10
        case ya10 => intro W hW; go_simp; first | done | with_reducible rfl
        simp only [Act.put, List.setIfInBounds_toArray, List.set_cons_zero, List.set_cons_succ]
        refine wpAnyH_take (i := 11) (oi := ⟨some 81, _, _, _, _, _⟩) (v := ?va11) rfl (by kernel_rfl) (by kernel_rfl) (by kernel_rfl) (fun _ _ _ h => h) (Or.inl ⟨by rfl, ?ya11⟩) hS ?ra11
        case ya11 => intro W hW; go_simp; first | done | with_reducible rfl
        simp only [Act.put, List.setIfInBounds_toArray, List.set_cons_zero, List.set_cons_succ]
        refine wpAnyH_take (i := 12) (oi := ⟨some 82, _, _, _, _, _⟩) (v := ?va12) rfl (by kernel_rfl) (by kernel_rfl) (by kernel_rfl) (fun _ _ _ h => h) (Or.inl ⟨by rfl, ?ya12⟩) hS ?ra12
        case ya12 => intro W hW; go_simp; first | done | with_reducible rfl
        simp only [Act.put, List.setIfInBounds_toArray, List.set_cons_zero, List.set_cons_succ]
        refine wpAnyH_take (i := 13) (oi := ⟨some 83, _, _, _, _, _⟩) (v := ?va13) rfl (by kernel_rfl) (by kernel_rfl) (by kernel_rfl) (fun _ _ _ h => h) (Or.inl ⟨by rfl, ?ya13⟩) hS ?ra13
        case ya13 => intro W hW; have hc : W.cell? ⟨g1, 3, none⟩ = some (.string (str u.path)) := (hW.at (x := (g1, uC u.sch u.host u.port u.path u.q u.f)) (by simp)).cell rfl; go_simp; first | done | with_reducible rfl
        simp only [Act.put, List.setIfInBounds_toArray, List.set_cons_zero, List.set_cons_succ]
        refine wpAnyH_take (i := 14) (oi := ⟨some 84, _, _, _, _, _⟩) (v := ?va14) rfl (by kernel_rfl) (by kernel_rfl) (by kernel_rfl) (fun _ _ _ h => h) (Or.inl ⟨by rfl, ?ya14⟩) hS ?ra14
        case ya14 => intro W hW; go_simp; first | done | with_reducible rfl
        simp only [Act.put, List.setIfInBounds_toArray, List.set_cons_zero, List.set_cons_succ]
        refine wpAnyH_take (i := 15) (oi := ⟨some 85, _, _, _, _, _⟩) (v := ?va15) rfl (by kernel_rfl) (by kernel_rfl) (by kernel_rfl) (fun _ _ _ h => h) (Or.inl ⟨by rfl, ?ya15⟩) hS ?ra15
        case ya15 => intro W hW; go_simp; first | done | with_reducible rfl
        simp only [Act.put, List.setIfInBounds_toArray, List.set_cons_zero, List.set_cons_succ]
        refine wpAnyH_take (i := 16) (oi := ⟨some 86, _, _, _, _, _⟩) (v := ?va16) rfl (by kernel_rfl) (by kernel_rfl) (by kernel_rfl) (fun _ _ _ h => h) (Or.inl ⟨by rfl, ?ya16⟩) hS ?ra16
        case ya16 => intro W hW; go_simp; first | done | with_reducible rfl
        simp only [Act.put, List.setIfInBounds_toArray, List.set_cons_zero, List.set_cons_succ]
        refine wpAnyH_take (i := 17) (oi := ⟨some 87, _, _, _, _, _⟩) (v := _) rfl (by kernel_rfl) (by kernel_rfl) (by kernel_rfl) (fun _ _ _ h => h) (yieldsIf_load_mid (by rfl) 24 (.tmp 11) rfl g1 0 rfl (uC u.sch u.host u.port u.path u.q u.f) _ (fun W hW => (hW.at (x := (g1, uC u.sch u.host u.port u.path u.q u.f)) (by simp)).whole) Tryz.underlying24 rfl n24) hS ?_
        simp only [Act.put, List.setIfInBounds_toArray, List.set_cons_zero, List.set_cons_succ]
        refine wpAnyH_take (i := 18) (oi := ⟨some 88, _, _, _, _, _⟩) (v := _) rfl (by kernel_rfl) (by kernel_rfl) (by kernel_rfl) (fun _ _ _ h => h) (yieldsIf_load_mid (by rfl) 24 (.tmp 13) rfl g2 0 rfl (uC v.sch v.host v.port v.path v.q v.f) _ (fun W hW => (hW.at (x := (g2, uC v.sch v.host v.port v.path v.q v.f)) (by simp)).whole) Tryz.underlying24 rfl n24) hS ?_
        simp only [Act.put, List.setIfInBounds_toArray, List.set_cons_zero, List.set_cons_succ]
        refine wpAnyH_take (i := 20) (oi := ⟨some 90, _, _, _, _, _⟩) (v := ?va20) rfl (by kernel_rfl) (by kernel_rfl) (by kernel_rfl) (fun _ _ _ h => h) (Or.inl ⟨by rfl, ?ya20⟩) hS ?ra20
        case ya20 => intro W hW; go_simp; first | done | with_reducible rfl
        simp only [Act.put, List.setIfInBounds_toArray, List.set_cons_zero, List.set_cons_succ]
        refine wpAnyH_ready (rs := [19]) (by kernel_rfl) (by simp) ?_
        refine (AllReadyH.cons (o := ⟨some 89, _, _, _, _, _⟩) rfl (fun K hK => ?_) AllReadyH.nil)
        try go_simp
        (with_reducible refine (HA.out _).mono ?_)
        rintro e wx1 ⟨rfl, hb⟩
        have hS1 := hS.step hb
        clear hb hS
        have hS := hS1
        clear hS1
        refine hK.out _ _ hS (fun _ => ?_)
        clear hK K
        try simp only [Act.put, List.setIfInBounds_toArray, List.set_cons_zero, List.set_cons_succ]
        refine wpAnyH_take (i := 21) (oi := ⟨some 91, _, _, _, _, _⟩) (v := ?va21) rfl (by kernel_rfl) (by kernel_rfl) (by kernel_rfl) (fun _ _ _ h => h) (Or.inl ⟨by rfl, ?ya21⟩) hS ?ra21
        case ya21 => intro W hW; go_simp; first | done | with_reducible rfl
        simp only [Act.put, List.setIfInBounds_toArray, List.set_cons_zero, List.set_cons_succ]
        refine wpAnyH_take (i := 22) (oi := ⟨some 92, _, _, _, _, _⟩) (v := ?va22) rfl (by kernel_rfl) (by kernel_rfl) (by kernel_rfl) (fun _ _ _ h => h) (Or.inl ⟨by rfl, ?ya22⟩) hS ?ra22
        case ya22 => intro W hW; go_simp; first | done | with_reducible rfl
        simp only [Act.put, List.setIfInBounds_toArray, List.set_cons_zero, List.set_cons_succ]
        refine wpAnyH_take (i := 23) (oi := ⟨some 93, _, _, _, _, _⟩) (v := ?va23) rfl (by kernel_rfl) (by kernel_rfl) (by kernel_rfl) (fun _ _ _ h => h) (Or.inl ⟨by rfl, ?ya23⟩) hS ?ra23
        case ya23 => intro W hW; go_simp; first | done | with_reducible rfl
        simp only [Act.put, List.setIfInBounds_toArray, List.set_cons_zero, List.set_cons_succ]
        refine wpAnyH_take (i := 24) (oi := ⟨some 94, _, _, _, _, _⟩) (v := _) rfl (by kernel_rfl) (by kernel_rfl) (by kernel_rfl) (fun _ _ _ h => h) (yieldsIf_load_mid (by rfl) 24 (.tmp 11) rfl g1 0 rfl (uC u.sch u.host u.port u.path u.q u.f) _ (fun W hW => (hW.at (x := (g1, uC u.sch u.host u.port u.path u.q u.f)) (by simp)).whole) Tryz.underlying24 rfl n24) hS ?_
        simp only [Act.put, List.setIfInBounds_toArray, List.set_cons_zero, List.set_cons_succ]
        refine wpAnyH_take (i := 26) (oi := ⟨some 96, _, _, _, _, _⟩) (v := _) rfl (by kernel_rfl) (by kernel_rfl) (by kernel_rfl) (fun _ _ _ h => h) (yieldsIf_load_mid (by rfl) 24 (.tmp 13) rfl g2 0 rfl (uC v.sch v.host v.port v.path v.q v.f) _ (fun W hW => (hW.at (x := (g2, uC v.sch v.host v.port v.path v.q v.f)) (by simp)).whole) Tryz.underlying24 rfl n24) hS ?_
        simp only [Act.put, List.setIfInBounds_toArray, List.set_cons_zero, List.set_cons_succ]
        refine wpAnyH_take (i := 29) (oi := ⟨some 99, _, _, _, _, _⟩) (v := ?va29) rfl (by kernel_rfl) (by kernel_rfl) (by kernel_rfl) (fun _ _ _ h => h) (Or.inl ⟨by rfl, ?ya29⟩) hS ?ra29
        case ya29 => intro W hW; go_simp; first | done | with_reducible rfl
        simp only [Act.put, List.setIfInBounds_toArray, List.set_cons_zero, List.set_cons_succ]
        refine wpAnyH_ready (rs := [25]) (by kernel_rfl) (by simp) ?_
        refine (AllReadyH.cons (o := ⟨some 95, _, _, _, _, _⟩) rfl (fun K hK => ?_) AllReadyH.nil)
        try go_simp
        (with_reducible refine (HO1.out _ hS.kp).mono ?_)
        rintro e wx2 ⟨rfl, hb⟩
        have hS2 := hS.step hb
        clear hb hS
        have hS := hS2
        clear hS2
        refine hK.out _ _ hS (fun _ => ?_)
        clear hK K
        try simp only [Act.put, List.setIfInBounds_toArray, List.set_cons_zero, List.set_cons_succ]
        refine wpAnyH_ready (rs := [27]) (by kernel_rfl) (by simp) ?_
        refine (AllReadyH.cons (o := ⟨some 97, _, _, _, _, _⟩) rfl (fun K hK => ?_) AllReadyH.nil)
        try go_simp
        (with_reducible refine (HO2.out _ hS.kp).mono ?_)
        rintro e wx3 ⟨rfl, hb⟩
        have hS3 := hS.step hb
        clear hb hS
        have hS := hS3
        clear hS3
        refine hK.out _ _ hS (fun _ => ?_)
        clear hK K
        try simp only [Act.put, List.setIfInBounds_toArray, List.set_cons_zero, List.set_cons_succ]
        refine wpAnyH_take (i := 28) (oi := ⟨some 98, _, _, _, _, _⟩) (v := ?va28) rfl (by kernel_rfl) (by kernel_rfl) (by kernel_rfl) (fun _ _ _ h => h) (Or.inl ⟨by rfl, ?ya28⟩) hS ?ra28
        case ya28 => intro W hW; go_simp; first | done | with_reducible rfl
        simp only [Act.put, List.setIfInBounds_toArray, List.set_cons_zero, List.set_cons_succ]
        refine wpAnyH_take (i := 30) (oi := ⟨some 100, _, _, _, _, _⟩) (v := ?va30) rfl (by kernel_rfl) (by kernel_rfl) (by kernel_rfl) (fun _ _ _ h => h) (Or.inl ⟨by rfl, ?ya30⟩) hS ?ra30
        case ya30 => intro W hW; go_simp; first | done | with_reducible rfl
        simp only [Act.put, List.setIfInBounds_toArray, List.set_cons_zero, List.set_cons_succ]
        refine wpAnyH_take (i := 31) (oi := ⟨some 101, _, _, _, _, _⟩) (v := ?va31) rfl (by kernel_rfl) (by kernel_rfl) (by kernel_rfl) (fun _ _ _ h => h) (Or.inl ⟨by rfl, ?ya31⟩) hS ?ra31
        case ya31 => intro W hW; go_simp; first | done | with_reducible rfl
        simp only [Act.put, List.setIfInBounds_toArray, List.set_cons_zero, List.set_cons_succ]
        refine wpAnyH_take (i := 32) (oi := ⟨some 6, _, _, _, _, _⟩) (v := ?va32) rfl (by kernel_rfl) (by kernel_rfl) (by kernel_rfl) (fun _ _ _ h => h) (Or.inl ⟨by rfl, ?ya32⟩) hS ?ra32
        case ya32 => intro W hW; go_simp; first | done | with_reducible rfl
        simp only [Act.put, List.setIfInBounds_toArray, List.set_cons_zero, List.set_cons_succ]
        refine wpAnyH_done (by kernel_rfl) ?_ _
        go_wp2_with fail
        go_ret
        exact ⟨by simp, hS.kp⟩
set_option maxHeartbeats 8000000 in
set_option maxRecDepth 100000 in
theorem po_2_not (u v : U) (n k q : Int) (N K : Nat) (Z D A X1 X O1 O2 : List UInt8) (w : World) (hN : bits .and .i64 n 131071 = (N : Int)) (hK : bits .and .i64 k 7 = (K : Int)) (hK7 : K ≤ 7) (hz : bits .and .i64 q 3 = 2) (HS : Hid (∀ w', Kept w w' → Calls Tryz.prog 13 #[] w' fun e w2 => e = .returned (.bool true) ∧ Below w'.heap.size w' w2)) (HD : Hid (∀ w', Kept w w' → Calls Tryz.prog 27 #[.int .i64 (N : Int)] w' fun e w2 => e = .returned (.string (str D)) ∧ Below w'.heap.size w' w2)) (HU : Hid (∀ w', Kept w w' → Calls Tryz.prog 14 #[.string (str X)] w' fun e w2 => e = .returned (.tuple #[.agg (uC u.sch u.host u.port u.path u.q u.f).toArray, .int .i64 0]) ∧ Below w'.heap.size w' w2)) (HV : Hid (∀ w', Kept w w' → Calls Tryz.prog 14 #[.string (str A)] w' fun e w2 => e = .returned (.tuple #[.agg (uC v.sch v.host v.port v.path v.q v.f).toArray, .int .i64 0]) ∧ Below w'.heap.size w' w2)) (b1 : (⟨#[119, 115]⟩ : ByteArray) ++ ⟨#[58, 47, 47, 97, 58]⟩ = str A) (b2 : str A ++ str Z = str X1) (b3 : str X1 ++ str D = str X) (r2 : ¬ (9223372036854775807 : Nat) < (str A).size + (str Z).size) (r3 : ¬ (9223372036854775807 : Nat) < (str X1).size + (str D).size) (hZ : Hid (List.replicate K 48 = Z)) (hv : (v.port != -1) = false) (hb : ¬ (65535 : Int) < (N : Int)) (HDf : Hid (∀ w', Calls Tryz.prog 28 #[.string ⟨#[119, 115]⟩] w' fun e w2 => e = .returned (.int .i64 80) ∧ w2 = w')) (ho : ((N : Int) == 80) = false) (hp : (u.port == (N : Int)) = true) (hpa : ((str u.path).toList == [47]) = true) (HA : Hid (∀ w', Calls Tryz.prog 23 #[.agg (uC u.sch u.host u.port u.path u.q u.f).toArray, .agg (uC v.sch v.host v.port v.path v.q v.f).toArray] w' fun e w2 => e = .returned (.bool false) ∧ Below w'.heap.size w' w2)) (HO1 : Hid (∀ w', Kept w w' → Calls Tryz.prog 21 #[.agg (uC u.sch u.host u.port u.path u.q u.f).toArray] w' fun e w2 => e = .returned (.string (str O1)) ∧ Below w'.heap.size w' w2)) (HO2 : Hid (∀ w', Kept w w' → Calls Tryz.prog 21 #[.agg (uC v.sch v.host v.port v.path v.q v.f).toArray] w' fun e w2 => e = .returned (.string (str O2)) ∧ Below w'.heap.size w' w2)) (he : ((str O1).toList == (str O2).toList) = false) : Calls Tryz.prog 8 #[.int .i64 n, .int .i64 k, .int .i64 q] w fun e w' => e = .returned (.bool true) ∧ Below w.heap.size w w' := by
    go_enter Tryz.func8, Tryz.ntmps8
    go_wp2_with (first
      | (go_at_call 13; (with_reducible refine (HS.out _ (Hl.nil w).kp).mono ?_); (rintro e w1 ⟨rfl, hb⟩; have H0 := (Hl.nil w).step hb; clear hb)))
    go_loop [10, 9] (fun i z => ∃ j : Nat, j ≤ K ∧ i = .int .i64 (j : Int) ∧ z = .string (str (List.replicate j 48))) (fun i _ => K - (intOf i).toNat)
    case atStart => exact ⟨0, by omega, rfl, rfl⟩
    case round =>
      obtain ⟨j, hj, rfl, rfl⟩ := hrel
      by_cases hlt : j < K
      · have hjK : (j : Int) < (K : Int) := by omega
        obtain ⟨Y, hY⟩ : ∃ Y, Y = List.replicate (j + 1) (48 : UInt8) := ⟨_, rfl⟩
        obtain ⟨Y0, hY0⟩ : ∃ Y, Y = List.replicate j (48 : UInt8) := ⟨_, rfl⟩
        have hs : str Y0 ++ ⟨#[48]⟩ = str Y := by rw [hY, hY0, List.replicate_succ']; exact str_add _ _
        have hr : ¬ (9223372036854775807 : Nat) < (str Y0).size + 1 := by rw [str_size, hY0, List.length_replicate]; omega
        rw [← hY0]
        have HY := Lib.hid hY
        clear hY hY0
        go_wp2_with fail
        go_round
        case rel => exact ⟨j + 1, by omega, by go_num, by rw [HY.out]⟩
        case measure => simp [intOf]; omega
      · have hjK : ¬ (j : Int) < (K : Int) := by omega
        obtain rfl : j = K := by omega
        rw [hZ.out]
        clear hlt hZ hj
        go_wp2_with (first
          | (go_at_call 27; (with_reducible refine (HD.out _ (H0.kp.alloc _)).mono ?_); (rintro e w2 ⟨rfl, hb2⟩; have H1 : Hl w w2 [] := ⟨(H0.kp.alloc _).step hb2, by simp⟩; clear hb2 H0))
          | (go_at_call 14; (with_reducible refine (HU.out _ H1.kp).mono ?_); (rintro e wa1 ⟨rfl, hb⟩; have G1 := H1.step hb; clear hb))
          | ((with_reducible show wpList _ _ _ (⟨some 11, .alloc _, _, _, _, _⟩ :: _) _ _); refine wp_new _ rfl 24 rfl _ z24 ?_; intro wb1 g1 B1 F1; simp only [Act.put, List.setIfInBounds_toArray, List.set_cons_zero, List.set_cons_succ])
          | ((with_reducible show wpList _ _ _ (⟨none, .store 24 (.tmp 11) (.tmp 42), _, _, _, _⟩ :: _) _ _); refine wp_putAll _ rfl 24 (.tmp 11) (.tmp 42) rfl g1 24 _ (uC u.sch u.host u.port u.path u.q u.f) rfl rfl B1 rfl n24 (uC_one _ _ _ _ _ _) ?_; intro wc1 B U; simp only [Act.put]; have H2 := G1.new F1 U B; clear B U F1 B1 G1)
          | (go_at_call 14; (with_reducible refine (HV.out _ H2.kp).mono ?_); (rintro e wa2 ⟨rfl, hb⟩; have G2 := H2.step hb; clear hb))
          | ((with_reducible show wpList _ _ _ (⟨some 13, .alloc _, _, _, _, _⟩ :: _) _ _); refine wp_new _ rfl 24 rfl _ z24 ?_; intro wb2 g2 B2 F2; simp only [Act.put, List.setIfInBounds_toArray, List.set_cons_zero, List.set_cons_succ])
          | ((with_reducible show wpList _ _ _ (⟨none, .store 24 (.tmp 13) (.tmp 48), _, _, _, _⟩ :: _) _ _); refine wp_putAll _ rfl 24 (.tmp 13) (.tmp 48) rfl g2 24 _ (uC v.sch v.host v.port v.path v.q v.f) rfl rfl B2 rfl n24 (uC_one _ _ _ _ _ _) ?_; intro wc2 B U; simp only [Act.put]; have H3 := G2.new F2 U B; clear B U F2 B2 G2; have d2 : wc2.cell? ⟨g2, 2, none⟩ = some (.int .i64 v.port) := (H3.at (x := (g2, uC v.sch v.host v.port v.path v.q v.f)) (by simp)).cell rfl)
          | (go_at_call 28; (with_reducible refine (HDf.out _).mono ?_); (rintro e w5 ⟨rfl, rfl⟩)))
        refine wp_region_held_drew (S := fun W => Hl w W [(g2, uC v.sch v.host v.port v.path v.q v.f), (g1, uC u.sch u.host u.port u.path u.q u.f)]) (by kernel_rfl) (H3.step (Below.refl _ _).drew) (fun hS => ?_)
        refine wpAnyH_take (i := 0) (oi := ⟨some 70, _, _, _, _, _⟩) (v := ?va0) rfl (by kernel_rfl) (by kernel_rfl) (by kernel_rfl) (fun _ _ _ h => h) (Or.inl ⟨by rfl, ?ya0⟩) hS ?ra0
        case ya0 => intro W hW; go_simp; first | done | with_reducible rfl
        simp only [Act.put, List.setIfInBounds_toArray, List.set_cons_zero, List.set_cons_succ]
        refine wpAnyH_take (i := 1) (oi := ⟨some 71, _, _, _, _, _⟩) (v := ?va1) rfl (by kernel_rfl) (by kernel_rfl) (by kernel_rfl) (fun _ _ _ h => h) (Or.inl ⟨by rfl, ?ya1⟩) hS ?ra1
        case ya1 => intro W hW; go_simp; first | done | with_reducible rfl
        simp only [Act.put, List.setIfInBounds_toArray, List.set_cons_zero, List.set_cons_succ]
        refine wpAnyH_take (i := 2) (oi := ⟨some 72, _, _, _, _, _⟩) (v := ?va2) rfl (by kernel_rfl) (by kernel_rfl) (by kernel_rfl) (fun _ _ _ h => h) (Or.inl ⟨by rfl, ?ya2⟩) hS ?ra2
        case ya2 => intro W hW; go_simp; first | done | with_reducible rfl
        simp only [Act.put, List.setIfInBounds_toArray, List.set_cons_zero, List.set_cons_succ]
        refine wpAnyH_take (i := 3) (oi := ⟨some 73, _, _, _, _, _⟩) (v := ?va3) rfl (by kernel_rfl) (by kernel_rfl) (by kernel_rfl) (fun _ _ _ h => h) (Or.inl ⟨by rfl, ?ya3⟩) hS ?ra3
        case ya3 => intro W hW; go_simp; first | done | with_reducible rfl
        simp only [Act.put, List.setIfInBounds_toArray, List.set_cons_zero, List.set_cons_succ]
        refine wpAnyH_take (i := 4) (oi := ⟨some 74, _, _, _, _, _⟩) (v := ?va4) rfl (by kernel_rfl) (by kernel_rfl) (by kernel_rfl) (fun _ _ _ h => h) (Or.inl ⟨by rfl, ?ya4⟩) hS ?ra4
        case ya4 => intro W hW; go_simp; first | done | with_reducible rfl
        simp only [Act.put, List.setIfInBounds_toArray, List.set_cons_zero, List.set_cons_succ]
        refine wpAnyH_take (i := 5) (oi := ⟨some 75, _, _, _, _, _⟩) (v := ?va5) rfl (by kernel_rfl) (by kernel_rfl) (by kernel_rfl) (fun _ _ _ h => h) (Or.inl ⟨by rfl, ?ya5⟩) hS ?ra5
        case ya5 => intro W hW; go_simp; first | done | with_reducible rfl
        simp only [Act.put, List.setIfInBounds_toArray, List.set_cons_zero, List.set_cons_succ]
        refine wpAnyH_take (i := 6) (oi := ⟨some 76, _, _, _, _, _⟩) (v := ?va6) rfl (by kernel_rfl) (by kernel_rfl) (by kernel_rfl) (fun _ _ _ h => h) (Or.inl ⟨by rfl, ?ya6⟩) hS ?ra6
        case ya6 => intro W hW; go_simp; first | done | with_reducible rfl
        simp only [Act.put, List.setIfInBounds_toArray, List.set_cons_zero, List.set_cons_succ]
        refine wpAnyH_take (i := 7) (oi := ⟨some 77, _, _, _, _, _⟩) (v := ?va7) rfl (by kernel_rfl) (by kernel_rfl) (by kernel_rfl) (fun _ _ _ h => h) (Or.inl ⟨by rfl, ?ya7⟩) hS ?ra7
        case ya7 => intro W hW; have hc : W.cell? ⟨g1, 2, none⟩ = some (.int .i64 u.port) := (hW.at (x := (g1, uC u.sch u.host u.port u.path u.q u.f)) (by simp)).cell rfl; go_simp; first | done | with_reducible rfl
        simp only [Act.put, List.setIfInBounds_toArray, List.set_cons_zero, List.set_cons_succ]
        refine wpAnyH_take (i := 8) (oi := ⟨some 78, _, _, _, _, _⟩) (v := ?va8) rfl (by kernel_rfl) (by kernel_rfl) (by kernel_rfl) (fun _ _ _ h => h) (Or.inl ⟨by rfl, ?ya8⟩) hS ?ra8
        case ya8 => intro W hW; go_simp; first | done | with_reducible rfl
        simp only [Act.put, List.setIfInBounds_toArray, List.set_cons_zero, List.set_cons_succ]
        refine wpAnyH_take (i := 9) (oi := ⟨some 79, _, _, _, _, _⟩) (v := ?va9) rfl (by kernel_rfl) (by kernel_rfl) (by kernel_rfl) (fun _ _ _ h => h) (Or.inl ⟨by rfl, ?ya9⟩) hS ?ra9
        case ya9 => intro W hW; go_simp; first | done | with_reducible rfl
        simp only [Act.put, List.setIfInBounds_toArray, List.set_cons_zero, List.set_cons_succ]
        refine wpAnyH_take (i := 10) (oi := ⟨some 80, _, _, _, _, _⟩) (v := ?va10) rfl (by kernel_rfl) (by kernel_rfl) (by kernel_rfl) (fun _ _ _ h => h) (Or.inl ⟨by rfl, ?ya10⟩) hS ?ra10
        case ya10 => intro W hW; go_simp; first | done | with_reducible rfl
        simp only [Act.put, List.setIfInBounds_toArray, List.set_cons_zero, List.set_cons_succ]
        refine wpAnyH_take (i := 11) (oi := ⟨some 81, _, _, _, _, _⟩) (v := ?va11) rfl (by kernel_rfl) (by kernel_rfl) (by kernel_rfl) (fun _ _ _ h => h) (Or.inl ⟨by rfl, ?ya11⟩) hS ?ra11
        case ya11 => intro W hW; go_simp; first | done | with_reducible rfl
        simp only [Act.put, List.setIfInBounds_toArray, List.set_cons_zero, List.set_cons_succ]
        refine wpAnyH_take (i := 12) (oi := ⟨some 82, _, _, _, _, _⟩) (v := ?va12) rfl (by kernel_rfl) (by kernel_rfl) (by kernel_rfl) (fun _ _ _ h => h) (Or.inl ⟨by rfl, ?ya12⟩) hS ?ra12
        case ya12 => intro W hW; go_simp; first | done | with_reducible rfl
        simp only [Act.put, List.setIfInBounds_toArray, List.set_cons_zero, List.set_cons_succ]
        refine wpAnyH_take (i := 13) (oi := ⟨some 83, _, _, _, _, _⟩) (v := ?va13) rfl (by kernel_rfl) (by kernel_rfl) (by kernel_rfl) (fun _ _ _ h => h) (Or.inl ⟨by rfl, ?ya13⟩) hS ?ra13
        case ya13 => intro W hW; have hc : W.cell? ⟨g1, 3, none⟩ = some (.string (str u.path)) := (hW.at (x := (g1, uC u.sch u.host u.port u.path u.q u.f)) (by simp)).cell rfl; go_simp; first | done | with_reducible rfl
        simp only [Act.put, List.setIfInBounds_toArray, List.set_cons_zero, List.set_cons_succ]
        refine wpAnyH_take (i := 14) (oi := ⟨some 84, _, _, _, _, _⟩) (v := ?va14) rfl (by kernel_rfl) (by kernel_rfl) (by kernel_rfl) (fun _ _ _ h => h) (Or.inl ⟨by rfl, ?ya14⟩) hS ?ra14
        case ya14 => intro W hW; go_simp; first | done | with_reducible rfl
        simp only [Act.put, List.setIfInBounds_toArray, List.set_cons_zero, List.set_cons_succ]
        refine wpAnyH_take (i := 15) (oi := ⟨some 85, _, _, _, _, _⟩) (v := ?va15) rfl (by kernel_rfl) (by kernel_rfl) (by kernel_rfl) (fun _ _ _ h => h) (Or.inl ⟨by rfl, ?ya15⟩) hS ?ra15
        case ya15 => intro W hW; go_simp; first | done | with_reducible rfl
        simp only [Act.put, List.setIfInBounds_toArray, List.set_cons_zero, List.set_cons_succ]
        refine wpAnyH_take (i := 16) (oi := ⟨some 86, _, _, _, _, _⟩) (v := ?va16) rfl (by kernel_rfl) (by kernel_rfl) (by kernel_rfl) (fun _ _ _ h => h) (Or.inl ⟨by rfl, ?ya16⟩) hS ?ra16
        case ya16 => intro W hW; go_simp; first | done | with_reducible rfl
        simp only [Act.put, List.setIfInBounds_toArray, List.set_cons_zero, List.set_cons_succ]
        refine wpAnyH_take (i := 17) (oi := ⟨some 87, _, _, _, _, _⟩) (v := _) rfl (by kernel_rfl) (by kernel_rfl) (by kernel_rfl) (fun _ _ _ h => h) (yieldsIf_load_mid (by rfl) 24 (.tmp 11) rfl g1 0 rfl (uC u.sch u.host u.port u.path u.q u.f) _ (fun W hW => (hW.at (x := (g1, uC u.sch u.host u.port u.path u.q u.f)) (by simp)).whole) Tryz.underlying24 rfl n24) hS ?_
        simp only [Act.put, List.setIfInBounds_toArray, List.set_cons_zero, List.set_cons_succ]
        refine wpAnyH_take (i := 18) (oi := ⟨some 88, _, _, _, _, _⟩) (v := _) rfl (by kernel_rfl) (by kernel_rfl) (by kernel_rfl) (fun _ _ _ h => h) (yieldsIf_load_mid (by rfl) 24 (.tmp 13) rfl g2 0 rfl (uC v.sch v.host v.port v.path v.q v.f) _ (fun W hW => (hW.at (x := (g2, uC v.sch v.host v.port v.path v.q v.f)) (by simp)).whole) Tryz.underlying24 rfl n24) hS ?_
        simp only [Act.put, List.setIfInBounds_toArray, List.set_cons_zero, List.set_cons_succ]
        refine wpAnyH_take (i := 20) (oi := ⟨some 90, _, _, _, _, _⟩) (v := ?va20) rfl (by kernel_rfl) (by kernel_rfl) (by kernel_rfl) (fun _ _ _ h => h) (Or.inl ⟨by rfl, ?ya20⟩) hS ?ra20
        case ya20 => intro W hW; go_simp; first | done | with_reducible rfl
        simp only [Act.put, List.setIfInBounds_toArray, List.set_cons_zero, List.set_cons_succ]
        refine wpAnyH_ready (rs := [19]) (by kernel_rfl) (by simp) ?_
        refine (AllReadyH.cons (o := ⟨some 89, _, _, _, _, _⟩) rfl (fun K hK => ?_) AllReadyH.nil)
        try go_simp
        (with_reducible refine (HA.out _).mono ?_)
        rintro e wx1 ⟨rfl, hb⟩
        have hS1 := hS.step hb
        clear hb hS
        have hS := hS1
        clear hS1
        refine hK.out _ _ hS (fun _ => ?_)
        clear hK K
        try simp only [Act.put, List.setIfInBounds_toArray, List.set_cons_zero, List.set_cons_succ]
        refine wpAnyH_take (i := 21) (oi := ⟨some 91, _, _, _, _, _⟩) (v := ?va21) rfl (by kernel_rfl) (by kernel_rfl) (by kernel_rfl) (fun _ _ _ h => h) (Or.inl ⟨by rfl, ?ya21⟩) hS ?ra21
        case ya21 => intro W hW; go_simp; first | done | with_reducible rfl
        simp only [Act.put, List.setIfInBounds_toArray, List.set_cons_zero, List.set_cons_succ]
        refine wpAnyH_take (i := 22) (oi := ⟨some 92, _, _, _, _, _⟩) (v := ?va22) rfl (by kernel_rfl) (by kernel_rfl) (by kernel_rfl) (fun _ _ _ h => h) (Or.inl ⟨by rfl, ?ya22⟩) hS ?ra22
        case ya22 => intro W hW; go_simp; first | done | with_reducible rfl
        simp only [Act.put, List.setIfInBounds_toArray, List.set_cons_zero, List.set_cons_succ]
        refine wpAnyH_take (i := 23) (oi := ⟨some 93, _, _, _, _, _⟩) (v := ?va23) rfl (by kernel_rfl) (by kernel_rfl) (by kernel_rfl) (fun _ _ _ h => h) (Or.inl ⟨by rfl, ?ya23⟩) hS ?ra23
        case ya23 => intro W hW; go_simp; first | done | with_reducible rfl
        simp only [Act.put, List.setIfInBounds_toArray, List.set_cons_zero, List.set_cons_succ]
        refine wpAnyH_take (i := 24) (oi := ⟨some 94, _, _, _, _, _⟩) (v := _) rfl (by kernel_rfl) (by kernel_rfl) (by kernel_rfl) (fun _ _ _ h => h) (yieldsIf_load_mid (by rfl) 24 (.tmp 11) rfl g1 0 rfl (uC u.sch u.host u.port u.path u.q u.f) _ (fun W hW => (hW.at (x := (g1, uC u.sch u.host u.port u.path u.q u.f)) (by simp)).whole) Tryz.underlying24 rfl n24) hS ?_
        simp only [Act.put, List.setIfInBounds_toArray, List.set_cons_zero, List.set_cons_succ]
        refine wpAnyH_take (i := 26) (oi := ⟨some 96, _, _, _, _, _⟩) (v := _) rfl (by kernel_rfl) (by kernel_rfl) (by kernel_rfl) (fun _ _ _ h => h) (yieldsIf_load_mid (by rfl) 24 (.tmp 13) rfl g2 0 rfl (uC v.sch v.host v.port v.path v.q v.f) _ (fun W hW => (hW.at (x := (g2, uC v.sch v.host v.port v.path v.q v.f)) (by simp)).whole) Tryz.underlying24 rfl n24) hS ?_
        simp only [Act.put, List.setIfInBounds_toArray, List.set_cons_zero, List.set_cons_succ]
        refine wpAnyH_take (i := 29) (oi := ⟨some 99, _, _, _, _, _⟩) (v := ?va29) rfl (by kernel_rfl) (by kernel_rfl) (by kernel_rfl) (fun _ _ _ h => h) (Or.inl ⟨by rfl, ?ya29⟩) hS ?ra29
        case ya29 => intro W hW; go_simp; first | done | with_reducible rfl
        simp only [Act.put, List.setIfInBounds_toArray, List.set_cons_zero, List.set_cons_succ]
        refine wpAnyH_ready (rs := [25]) (by kernel_rfl) (by simp) ?_
        refine (AllReadyH.cons (o := ⟨some 95, _, _, _, _, _⟩) rfl (fun K hK => ?_) AllReadyH.nil)
        try go_simp
        (with_reducible refine (HO1.out _ hS.kp).mono ?_)
        rintro e wx2 ⟨rfl, hb⟩
        have hS2 := hS.step hb
        clear hb hS
        have hS := hS2
        clear hS2
        refine hK.out _ _ hS (fun _ => ?_)
        clear hK K
        try simp only [Act.put, List.setIfInBounds_toArray, List.set_cons_zero, List.set_cons_succ]
        refine wpAnyH_ready (rs := [27]) (by kernel_rfl) (by simp) ?_
        refine (AllReadyH.cons (o := ⟨some 97, _, _, _, _, _⟩) rfl (fun K hK => ?_) AllReadyH.nil)
        try go_simp
        (with_reducible refine (HO2.out _ hS.kp).mono ?_)
        rintro e wx3 ⟨rfl, hb⟩
        have hS3 := hS.step hb
        clear hb hS
        have hS := hS3
        clear hS3
        refine hK.out _ _ hS (fun _ => ?_)
        clear hK K
        try simp only [Act.put, List.setIfInBounds_toArray, List.set_cons_zero, List.set_cons_succ]
        refine wpAnyH_take (i := 28) (oi := ⟨some 98, _, _, _, _, _⟩) (v := ?va28) rfl (by kernel_rfl) (by kernel_rfl) (by kernel_rfl) (fun _ _ _ h => h) (Or.inl ⟨by rfl, ?ya28⟩) hS ?ra28
        case ya28 => intro W hW; go_simp; first | done | with_reducible rfl
        simp only [Act.put, List.setIfInBounds_toArray, List.set_cons_zero, List.set_cons_succ]
        refine wpAnyH_take (i := 30) (oi := ⟨some 100, _, _, _, _, _⟩) (v := ?va30) rfl (by kernel_rfl) (by kernel_rfl) (by kernel_rfl) (fun _ _ _ h => h) (Or.inl ⟨by rfl, ?ya30⟩) hS ?ra30
        case ya30 => intro W hW; go_simp; first | done | with_reducible rfl
        simp only [Act.put, List.setIfInBounds_toArray, List.set_cons_zero, List.set_cons_succ]
        refine wpAnyH_take (i := 31) (oi := ⟨some 101, _, _, _, _, _⟩) (v := ?va31) rfl (by kernel_rfl) (by kernel_rfl) (by kernel_rfl) (fun _ _ _ h => h) (Or.inl ⟨by rfl, ?ya31⟩) hS ?ra31
        case ya31 => intro W hW; go_simp; first | done | with_reducible rfl
        simp only [Act.put, List.setIfInBounds_toArray, List.set_cons_zero, List.set_cons_succ]
        refine wpAnyH_take (i := 32) (oi := ⟨some 6, _, _, _, _, _⟩) (v := ?va32) rfl (by kernel_rfl) (by kernel_rfl) (by kernel_rfl) (fun _ _ _ h => h) (Or.inl ⟨by rfl, ?ya32⟩) hS ?ra32
        case ya32 => intro W hW; go_simp; first | done | with_reducible rfl
        simp only [Act.put, List.setIfInBounds_toArray, List.set_cons_zero, List.set_cons_succ]
        refine wpAnyH_done (by kernel_rfl) ?_ _
        go_wp2_with fail
        go_ret
        exact ⟨by simp, hS.kp⟩
set_option maxHeartbeats 8000000 in
set_option maxRecDepth 100000 in
theorem po_3_big (u v : U) (n k q : Int) (N K : Nat) (Z D A X1 X : List UInt8) (w : World) (hN : bits .and .i64 n 131071 = (N : Int)) (hK : bits .and .i64 k 7 = (K : Int)) (hK7 : K ≤ 7) (hz : bits .and .i64 q 3 = 3) (HS : Hid (∀ w', Kept w w' → Calls Tryz.prog 13 #[] w' fun e w2 => e = .returned (.bool true) ∧ Below w'.heap.size w' w2)) (HD : Hid (∀ w', Kept w w' → Calls Tryz.prog 27 #[.int .i64 (N : Int)] w' fun e w2 => e = .returned (.string (str D)) ∧ Below w'.heap.size w' w2)) (HU : Hid (∀ w', Kept w w' → Calls Tryz.prog 14 #[.string (str X)] w' fun e w2 => e = .returned (.tuple #[.agg (uC u.sch u.host u.port u.path u.q u.f).toArray, .int .i64 7]) ∧ Below w'.heap.size w' w2)) (HV : Hid (∀ w', Kept w w' → Calls Tryz.prog 14 #[.string (str A)] w' fun e w2 => e = .returned (.tuple #[.agg (uC v.sch v.host v.port v.path v.q v.f).toArray, .int .i64 0]) ∧ Below w'.heap.size w' w2)) (b1 : (⟨#[119, 115, 115]⟩ : ByteArray) ++ ⟨#[58, 47, 47, 97, 58]⟩ = str A) (b2 : str A ++ str Z = str X1) (b3 : str X1 ++ str D = str X) (r2 : ¬ (9223372036854775807 : Nat) < (str A).size + (str Z).size) (r3 : ¬ (9223372036854775807 : Nat) < (str X1).size + (str D).size) (hZ : Hid (List.replicate K 48 = Z)) (hv : (v.port != -1) = false) (hb : (65535 : Int) < (N : Int)) : Calls Tryz.prog 8 #[.int .i64 n, .int .i64 k, .int .i64 q] w fun e w' => e = .returned (.bool true) ∧ Below w.heap.size w w' := by
    go_enter Tryz.func8, Tryz.ntmps8
    go_wp2_with (first
      | (go_at_call 13; (with_reducible refine (HS.out _ (Hl.nil w).kp).mono ?_); (rintro e w1 ⟨rfl, hb⟩; have H0 := (Hl.nil w).step hb; clear hb)))
    go_loop [10, 9] (fun i z => ∃ j : Nat, j ≤ K ∧ i = .int .i64 (j : Int) ∧ z = .string (str (List.replicate j 48))) (fun i _ => K - (intOf i).toNat)
    case atStart => exact ⟨0, by omega, rfl, rfl⟩
    case round =>
      obtain ⟨j, hj, rfl, rfl⟩ := hrel
      by_cases hlt : j < K
      · have hjK : (j : Int) < (K : Int) := by omega
        obtain ⟨Y, hY⟩ : ∃ Y, Y = List.replicate (j + 1) (48 : UInt8) := ⟨_, rfl⟩
        obtain ⟨Y0, hY0⟩ : ∃ Y, Y = List.replicate j (48 : UInt8) := ⟨_, rfl⟩
        have hs : str Y0 ++ ⟨#[48]⟩ = str Y := by rw [hY, hY0, List.replicate_succ']; exact str_add _ _
        have hr : ¬ (9223372036854775807 : Nat) < (str Y0).size + 1 := by rw [str_size, hY0, List.length_replicate]; omega
        rw [← hY0]
        have HY := Lib.hid hY
        clear hY hY0
        go_wp2_with fail
        go_round
        case rel => exact ⟨j + 1, by omega, by go_num, by rw [HY.out]⟩
        case measure => simp [intOf]; omega
      · have hjK : ¬ (j : Int) < (K : Int) := by omega
        obtain rfl : j = K := by omega
        rw [hZ.out]
        clear hlt hZ hj
        go_wp2_with (first
          | (go_at_call 27; (with_reducible refine (HD.out _ (H0.kp.alloc _)).mono ?_); (rintro e w2 ⟨rfl, hb2⟩; have H1 : Hl w w2 [] := ⟨(H0.kp.alloc _).step hb2, by simp⟩; clear hb2 H0))
          | (go_at_call 14; (with_reducible refine (HU.out _ H1.kp).mono ?_); (rintro e wa1 ⟨rfl, hb⟩; have G1 := H1.step hb; clear hb))
          | ((with_reducible show wpList _ _ _ (⟨some 11, .alloc _, _, _, _, _⟩ :: _) _ _); refine wp_new _ rfl 24 rfl _ z24 ?_; intro wb1 g1 B1 F1; simp only [Act.put, List.setIfInBounds_toArray, List.set_cons_zero, List.set_cons_succ])
          | ((with_reducible show wpList _ _ _ (⟨none, .store 24 (.tmp 11) (.tmp 42), _, _, _, _⟩ :: _) _ _); refine wp_putAll _ rfl 24 (.tmp 11) (.tmp 42) rfl g1 24 _ (uC u.sch u.host u.port u.path u.q u.f) rfl rfl B1 rfl n24 (uC_one _ _ _ _ _ _) ?_; intro wc1 B U; simp only [Act.put]; have H2 := G1.new F1 U B; clear B U F1 B1 G1)
          | (go_at_call 14; (with_reducible refine (HV.out _ H2.kp).mono ?_); (rintro e wa2 ⟨rfl, hb⟩; have G2 := H2.step hb; clear hb))
          | ((with_reducible show wpList _ _ _ (⟨some 13, .alloc _, _, _, _, _⟩ :: _) _ _); refine wp_new _ rfl 24 rfl _ z24 ?_; intro wb2 g2 B2 F2; simp only [Act.put, List.setIfInBounds_toArray, List.set_cons_zero, List.set_cons_succ])
          | ((with_reducible show wpList _ _ _ (⟨none, .store 24 (.tmp 13) (.tmp 48), _, _, _, _⟩ :: _) _ _); refine wp_putAll _ rfl 24 (.tmp 13) (.tmp 48) rfl g2 24 _ (uC v.sch v.host v.port v.path v.q v.f) rfl rfl B2 rfl n24 (uC_one _ _ _ _ _ _) ?_; intro wc2 B U; simp only [Act.put]; have H3 := G2.new F2 U B; clear B U F2 B2 G2; have d2 : wc2.cell? ⟨g2, 2, none⟩ = some (.int .i64 v.port) := (H3.at (x := (g2, uC v.sch v.host v.port v.path v.q v.f)) (by simp)).cell rfl))
        go_ret
        exact ⟨by simp, H3.kp⟩
set_option maxHeartbeats 8000000 in
set_option maxRecDepth 100000 in
theorem po_3_own (u v : U) (n k q : Int) (N K : Nat) (Z D A X1 X O1 O2 : List UInt8) (w : World) (hN : bits .and .i64 n 131071 = (N : Int)) (hK : bits .and .i64 k 7 = (K : Int)) (hK7 : K ≤ 7) (hz : bits .and .i64 q 3 = 3) (HS : Hid (∀ w', Kept w w' → Calls Tryz.prog 13 #[] w' fun e w2 => e = .returned (.bool true) ∧ Below w'.heap.size w' w2)) (HD : Hid (∀ w', Kept w w' → Calls Tryz.prog 27 #[.int .i64 (N : Int)] w' fun e w2 => e = .returned (.string (str D)) ∧ Below w'.heap.size w' w2)) (HU : Hid (∀ w', Kept w w' → Calls Tryz.prog 14 #[.string (str X)] w' fun e w2 => e = .returned (.tuple #[.agg (uC u.sch u.host u.port u.path u.q u.f).toArray, .int .i64 0]) ∧ Below w'.heap.size w' w2)) (HV : Hid (∀ w', Kept w w' → Calls Tryz.prog 14 #[.string (str A)] w' fun e w2 => e = .returned (.tuple #[.agg (uC v.sch v.host v.port v.path v.q v.f).toArray, .int .i64 0]) ∧ Below w'.heap.size w' w2)) (b1 : (⟨#[119, 115, 115]⟩ : ByteArray) ++ ⟨#[58, 47, 47, 97, 58]⟩ = str A) (b2 : str A ++ str Z = str X1) (b3 : str X1 ++ str D = str X) (r2 : ¬ (9223372036854775807 : Nat) < (str A).size + (str Z).size) (r3 : ¬ (9223372036854775807 : Nat) < (str X1).size + (str D).size) (hZ : Hid (List.replicate K 48 = Z)) (hv : (v.port != -1) = false) (hb : ¬ (65535 : Int) < (N : Int)) (HDf : Hid (∀ w', Calls Tryz.prog 28 #[.string ⟨#[119, 115, 115]⟩] w' fun e w2 => e = .returned (.int .i64 443) ∧ w2 = w')) (ho : ((N : Int) == 443) = true) (hp : (u.port == -1) = true) (hpa : ((str u.path).toList == [47]) = true) (HA : Hid (∀ w', Calls Tryz.prog 23 #[.agg (uC u.sch u.host u.port u.path u.q u.f).toArray, .agg (uC v.sch v.host v.port v.path v.q v.f).toArray] w' fun e w2 => e = .returned (.bool true) ∧ Below w'.heap.size w' w2)) (HO1 : Hid (∀ w', Kept w w' → Calls Tryz.prog 21 #[.agg (uC u.sch u.host u.port u.path u.q u.f).toArray] w' fun e w2 => e = .returned (.string (str O1)) ∧ Below w'.heap.size w' w2)) (HO2 : Hid (∀ w', Kept w w' → Calls Tryz.prog 21 #[.agg (uC v.sch v.host v.port v.path v.q v.f).toArray] w' fun e w2 => e = .returned (.string (str O2)) ∧ Below w'.heap.size w' w2)) (he : ((str O1).toList == (str O2).toList) = true) : Calls Tryz.prog 8 #[.int .i64 n, .int .i64 k, .int .i64 q] w fun e w' => e = .returned (.bool true) ∧ Below w.heap.size w w' := by
    go_enter Tryz.func8, Tryz.ntmps8
    go_wp2_with (first
      | (go_at_call 13; (with_reducible refine (HS.out _ (Hl.nil w).kp).mono ?_); (rintro e w1 ⟨rfl, hb⟩; have H0 := (Hl.nil w).step hb; clear hb)))
    go_loop [10, 9] (fun i z => ∃ j : Nat, j ≤ K ∧ i = .int .i64 (j : Int) ∧ z = .string (str (List.replicate j 48))) (fun i _ => K - (intOf i).toNat)
    case atStart => exact ⟨0, by omega, rfl, rfl⟩
    case round =>
      obtain ⟨j, hj, rfl, rfl⟩ := hrel
      by_cases hlt : j < K
      · have hjK : (j : Int) < (K : Int) := by omega
        obtain ⟨Y, hY⟩ : ∃ Y, Y = List.replicate (j + 1) (48 : UInt8) := ⟨_, rfl⟩
        obtain ⟨Y0, hY0⟩ : ∃ Y, Y = List.replicate j (48 : UInt8) := ⟨_, rfl⟩
        have hs : str Y0 ++ ⟨#[48]⟩ = str Y := by rw [hY, hY0, List.replicate_succ']; exact str_add _ _
        have hr : ¬ (9223372036854775807 : Nat) < (str Y0).size + 1 := by rw [str_size, hY0, List.length_replicate]; omega
        rw [← hY0]
        have HY := Lib.hid hY
        clear hY hY0
        go_wp2_with fail
        go_round
        case rel => exact ⟨j + 1, by omega, by go_num, by rw [HY.out]⟩
        case measure => simp [intOf]; omega
      · have hjK : ¬ (j : Int) < (K : Int) := by omega
        obtain rfl : j = K := by omega
        rw [hZ.out]
        clear hlt hZ hj
        go_wp2_with (first
          | (go_at_call 27; (with_reducible refine (HD.out _ (H0.kp.alloc _)).mono ?_); (rintro e w2 ⟨rfl, hb2⟩; have H1 : Hl w w2 [] := ⟨(H0.kp.alloc _).step hb2, by simp⟩; clear hb2 H0))
          | (go_at_call 14; (with_reducible refine (HU.out _ H1.kp).mono ?_); (rintro e wa1 ⟨rfl, hb⟩; have G1 := H1.step hb; clear hb))
          | ((with_reducible show wpList _ _ _ (⟨some 11, .alloc _, _, _, _, _⟩ :: _) _ _); refine wp_new _ rfl 24 rfl _ z24 ?_; intro wb1 g1 B1 F1; simp only [Act.put, List.setIfInBounds_toArray, List.set_cons_zero, List.set_cons_succ])
          | ((with_reducible show wpList _ _ _ (⟨none, .store 24 (.tmp 11) (.tmp 42), _, _, _, _⟩ :: _) _ _); refine wp_putAll _ rfl 24 (.tmp 11) (.tmp 42) rfl g1 24 _ (uC u.sch u.host u.port u.path u.q u.f) rfl rfl B1 rfl n24 (uC_one _ _ _ _ _ _) ?_; intro wc1 B U; simp only [Act.put]; have H2 := G1.new F1 U B; clear B U F1 B1 G1)
          | (go_at_call 14; (with_reducible refine (HV.out _ H2.kp).mono ?_); (rintro e wa2 ⟨rfl, hb⟩; have G2 := H2.step hb; clear hb))
          | ((with_reducible show wpList _ _ _ (⟨some 13, .alloc _, _, _, _, _⟩ :: _) _ _); refine wp_new _ rfl 24 rfl _ z24 ?_; intro wb2 g2 B2 F2; simp only [Act.put, List.setIfInBounds_toArray, List.set_cons_zero, List.set_cons_succ])
          | ((with_reducible show wpList _ _ _ (⟨none, .store 24 (.tmp 13) (.tmp 48), _, _, _, _⟩ :: _) _ _); refine wp_putAll _ rfl 24 (.tmp 13) (.tmp 48) rfl g2 24 _ (uC v.sch v.host v.port v.path v.q v.f) rfl rfl B2 rfl n24 (uC_one _ _ _ _ _ _) ?_; intro wc2 B U; simp only [Act.put]; have H3 := G2.new F2 U B; clear B U F2 B2 G2; have d2 : wc2.cell? ⟨g2, 2, none⟩ = some (.int .i64 v.port) := (H3.at (x := (g2, uC v.sch v.host v.port v.path v.q v.f)) (by simp)).cell rfl)
          | (go_at_call 28; (with_reducible refine (HDf.out _).mono ?_); (rintro e w5 ⟨rfl, rfl⟩)))
        refine wp_region_held_drew (S := fun W => Hl w W [(g2, uC v.sch v.host v.port v.path v.q v.f), (g1, uC u.sch u.host u.port u.path u.q u.f)]) (by kernel_rfl) (H3.step (Below.refl _ _).drew) (fun hS => ?_)
        refine wpAnyH_take (i := 0) (oi := ⟨some 70, _, _, _, _, _⟩) (v := ?va0) rfl (by kernel_rfl) (by kernel_rfl) (by kernel_rfl) (fun _ _ _ h => h) (Or.inl ⟨by rfl, ?ya0⟩) hS ?ra0
        case ya0 => intro W hW; go_simp; first | done | with_reducible rfl
        simp only [Act.put, List.setIfInBounds_toArray, List.set_cons_zero, List.set_cons_succ]
        refine wpAnyH_take (i := 1) (oi := ⟨some 71, _, _, _, _, _⟩) (v := ?va1) rfl (by kernel_rfl) (by kernel_rfl) (by kernel_rfl) (fun _ _ _ h => h) (Or.inl ⟨by rfl, ?ya1⟩) hS ?ra1
        case ya1 => intro W hW; go_simp; first | done | with_reducible rfl
        simp only [Act.put, List.setIfInBounds_toArray, List.set_cons_zero, List.set_cons_succ]
        refine wpAnyH_take (i := 2) (oi := ⟨some 72, _, _, _, _, _⟩) (v := ?va2) rfl (by kernel_rfl) (by kernel_rfl) (by kernel_rfl) (fun _ _ _ h => h) (Or.inl ⟨by rfl, ?ya2⟩) hS ?ra2
        case ya2 => intro W hW; go_simp; first | done | with_reducible rfl
        simp only [Act.put, List.setIfInBounds_toArray, List.set_cons_zero, List.set_cons_succ]
        refine wpAnyH_take (i := 3) (oi := ⟨some 73, _, _, _, _, _⟩) (v := ?va3) rfl (by kernel_rfl) (by kernel_rfl) (by kernel_rfl) (fun _ _ _ h => h) (Or.inl ⟨by rfl, ?ya3⟩) hS ?ra3
        case ya3 => intro W hW; go_simp; first | done | with_reducible rfl
        simp only [Act.put, List.setIfInBounds_toArray, List.set_cons_zero, List.set_cons_succ]
        refine wpAnyH_take (i := 4) (oi := ⟨some 74, _, _, _, _, _⟩) (v := ?va4) rfl (by kernel_rfl) (by kernel_rfl) (by kernel_rfl) (fun _ _ _ h => h) (Or.inl ⟨by rfl, ?ya4⟩) hS ?ra4
        case ya4 => intro W hW; go_simp; first | done | with_reducible rfl
        simp only [Act.put, List.setIfInBounds_toArray, List.set_cons_zero, List.set_cons_succ]
        refine wpAnyH_take (i := 5) (oi := ⟨some 75, _, _, _, _, _⟩) (v := ?va5) rfl (by kernel_rfl) (by kernel_rfl) (by kernel_rfl) (fun _ _ _ h => h) (Or.inl ⟨by rfl, ?ya5⟩) hS ?ra5
        case ya5 => intro W hW; go_simp; first | done | with_reducible rfl
        simp only [Act.put, List.setIfInBounds_toArray, List.set_cons_zero, List.set_cons_succ]
        refine wpAnyH_take (i := 6) (oi := ⟨some 76, _, _, _, _, _⟩) (v := ?va6) rfl (by kernel_rfl) (by kernel_rfl) (by kernel_rfl) (fun _ _ _ h => h) (Or.inl ⟨by rfl, ?ya6⟩) hS ?ra6
        case ya6 => intro W hW; go_simp; first | done | with_reducible rfl
        simp only [Act.put, List.setIfInBounds_toArray, List.set_cons_zero, List.set_cons_succ]
        refine wpAnyH_take (i := 7) (oi := ⟨some 77, _, _, _, _, _⟩) (v := ?va7) rfl (by kernel_rfl) (by kernel_rfl) (by kernel_rfl) (fun _ _ _ h => h) (Or.inl ⟨by rfl, ?ya7⟩) hS ?ra7
        case ya7 => intro W hW; have hc : W.cell? ⟨g1, 2, none⟩ = some (.int .i64 u.port) := (hW.at (x := (g1, uC u.sch u.host u.port u.path u.q u.f)) (by simp)).cell rfl; go_simp; first | done | with_reducible rfl
        simp only [Act.put, List.setIfInBounds_toArray, List.set_cons_zero, List.set_cons_succ]
        refine wpAnyH_take (i := 8) (oi := ⟨some 78, _, _, _, _, _⟩) (v := ?va8) rfl (by kernel_rfl) (by kernel_rfl) (by kernel_rfl) (fun _ _ _ h => h) (Or.inl ⟨by rfl, ?ya8⟩) hS ?ra8
        case ya8 => intro W hW; go_simp; first | done | with_reducible rfl
        simp only [Act.put, List.setIfInBounds_toArray, List.set_cons_zero, List.set_cons_succ]
        refine wpAnyH_take (i := 9) (oi := ⟨some 79, _, _, _, _, _⟩) (v := ?va9) rfl (by kernel_rfl) (by kernel_rfl) (by kernel_rfl) (fun _ _ _ h => h) (Or.inl ⟨by rfl, ?ya9⟩) hS ?ra9
        case ya9 => intro W hW; go_simp; first | done | with_reducible rfl
        simp only [Act.put, List.setIfInBounds_toArray, List.set_cons_zero, List.set_cons_succ]
        refine wpAnyH_take (i := 10) (oi := ⟨some 80, _, _, _, _, _⟩) (v := ?va10) rfl (by kernel_rfl) (by kernel_rfl) (by kernel_rfl) (fun _ _ _ h => h) (Or.inl ⟨by rfl, ?ya10⟩) hS ?ra10
        case ya10 => intro W hW; go_simp; first | done | with_reducible rfl
        simp only [Act.put, List.setIfInBounds_toArray, List.set_cons_zero, List.set_cons_succ]
        refine wpAnyH_take (i := 11) (oi := ⟨some 81, _, _, _, _, _⟩) (v := ?va11) rfl (by kernel_rfl) (by kernel_rfl) (by kernel_rfl) (fun _ _ _ h => h) (Or.inl ⟨by rfl, ?ya11⟩) hS ?ra11
        case ya11 => intro W hW; go_simp; first | done | with_reducible rfl
        simp only [Act.put, List.setIfInBounds_toArray, List.set_cons_zero, List.set_cons_succ]
        refine wpAnyH_take (i := 12) (oi := ⟨some 82, _, _, _, _, _⟩) (v := ?va12) rfl (by kernel_rfl) (by kernel_rfl) (by kernel_rfl) (fun _ _ _ h => h) (Or.inl ⟨by rfl, ?ya12⟩) hS ?ra12
        case ya12 => intro W hW; go_simp; first | done | with_reducible rfl
        simp only [Act.put, List.setIfInBounds_toArray, List.set_cons_zero, List.set_cons_succ]
        refine wpAnyH_take (i := 13) (oi := ⟨some 83, _, _, _, _, _⟩) (v := ?va13) rfl (by kernel_rfl) (by kernel_rfl) (by kernel_rfl) (fun _ _ _ h => h) (Or.inl ⟨by rfl, ?ya13⟩) hS ?ra13
        case ya13 => intro W hW; have hc : W.cell? ⟨g1, 3, none⟩ = some (.string (str u.path)) := (hW.at (x := (g1, uC u.sch u.host u.port u.path u.q u.f)) (by simp)).cell rfl; go_simp; first | done | with_reducible rfl
        simp only [Act.put, List.setIfInBounds_toArray, List.set_cons_zero, List.set_cons_succ]
        refine wpAnyH_take (i := 14) (oi := ⟨some 84, _, _, _, _, _⟩) (v := ?va14) rfl (by kernel_rfl) (by kernel_rfl) (by kernel_rfl) (fun _ _ _ h => h) (Or.inl ⟨by rfl, ?ya14⟩) hS ?ra14
        case ya14 => intro W hW; go_simp; first | done | with_reducible rfl
        simp only [Act.put, List.setIfInBounds_toArray, List.set_cons_zero, List.set_cons_succ]
        refine wpAnyH_take (i := 15) (oi := ⟨some 85, _, _, _, _, _⟩) (v := ?va15) rfl (by kernel_rfl) (by kernel_rfl) (by kernel_rfl) (fun _ _ _ h => h) (Or.inl ⟨by rfl, ?ya15⟩) hS ?ra15
        case ya15 => intro W hW; go_simp; first | done | with_reducible rfl
        simp only [Act.put, List.setIfInBounds_toArray, List.set_cons_zero, List.set_cons_succ]
        refine wpAnyH_take (i := 16) (oi := ⟨some 86, _, _, _, _, _⟩) (v := ?va16) rfl (by kernel_rfl) (by kernel_rfl) (by kernel_rfl) (fun _ _ _ h => h) (Or.inl ⟨by rfl, ?ya16⟩) hS ?ra16
        case ya16 => intro W hW; go_simp; first | done | with_reducible rfl
        simp only [Act.put, List.setIfInBounds_toArray, List.set_cons_zero, List.set_cons_succ]
        refine wpAnyH_take (i := 17) (oi := ⟨some 87, _, _, _, _, _⟩) (v := _) rfl (by kernel_rfl) (by kernel_rfl) (by kernel_rfl) (fun _ _ _ h => h) (yieldsIf_load_mid (by rfl) 24 (.tmp 11) rfl g1 0 rfl (uC u.sch u.host u.port u.path u.q u.f) _ (fun W hW => (hW.at (x := (g1, uC u.sch u.host u.port u.path u.q u.f)) (by simp)).whole) Tryz.underlying24 rfl n24) hS ?_
        simp only [Act.put, List.setIfInBounds_toArray, List.set_cons_zero, List.set_cons_succ]
        refine wpAnyH_take (i := 18) (oi := ⟨some 88, _, _, _, _, _⟩) (v := _) rfl (by kernel_rfl) (by kernel_rfl) (by kernel_rfl) (fun _ _ _ h => h) (yieldsIf_load_mid (by rfl) 24 (.tmp 13) rfl g2 0 rfl (uC v.sch v.host v.port v.path v.q v.f) _ (fun W hW => (hW.at (x := (g2, uC v.sch v.host v.port v.path v.q v.f)) (by simp)).whole) Tryz.underlying24 rfl n24) hS ?_
        simp only [Act.put, List.setIfInBounds_toArray, List.set_cons_zero, List.set_cons_succ]
        refine wpAnyH_take (i := 20) (oi := ⟨some 90, _, _, _, _, _⟩) (v := ?va20) rfl (by kernel_rfl) (by kernel_rfl) (by kernel_rfl) (fun _ _ _ h => h) (Or.inl ⟨by rfl, ?ya20⟩) hS ?ra20
        case ya20 => intro W hW; go_simp; first | done | with_reducible rfl
        simp only [Act.put, List.setIfInBounds_toArray, List.set_cons_zero, List.set_cons_succ]
        refine wpAnyH_ready (rs := [19]) (by kernel_rfl) (by simp) ?_
        refine (AllReadyH.cons (o := ⟨some 89, _, _, _, _, _⟩) rfl (fun K hK => ?_) AllReadyH.nil)
        try go_simp
        (with_reducible refine (HA.out _).mono ?_)
        rintro e wx1 ⟨rfl, hb⟩
        have hS1 := hS.step hb
        clear hb hS
        have hS := hS1
        clear hS1
        refine hK.out _ _ hS (fun _ => ?_)
        clear hK K
        try simp only [Act.put, List.setIfInBounds_toArray, List.set_cons_zero, List.set_cons_succ]
        refine wpAnyH_take (i := 21) (oi := ⟨some 91, _, _, _, _, _⟩) (v := ?va21) rfl (by kernel_rfl) (by kernel_rfl) (by kernel_rfl) (fun _ _ _ h => h) (Or.inl ⟨by rfl, ?ya21⟩) hS ?ra21
        case ya21 => intro W hW; go_simp; first | done | with_reducible rfl
        simp only [Act.put, List.setIfInBounds_toArray, List.set_cons_zero, List.set_cons_succ]
        refine wpAnyH_take (i := 22) (oi := ⟨some 92, _, _, _, _, _⟩) (v := ?va22) rfl (by kernel_rfl) (by kernel_rfl) (by kernel_rfl) (fun _ _ _ h => h) (Or.inl ⟨by rfl, ?ya22⟩) hS ?ra22
        case ya22 => intro W hW; go_simp; first | done | with_reducible rfl
        simp only [Act.put, List.setIfInBounds_toArray, List.set_cons_zero, List.set_cons_succ]
        refine wpAnyH_take (i := 23) (oi := ⟨some 93, _, _, _, _, _⟩) (v := ?va23) rfl (by kernel_rfl) (by kernel_rfl) (by kernel_rfl) (fun _ _ _ h => h) (Or.inl ⟨by rfl, ?ya23⟩) hS ?ra23
        case ya23 => intro W hW; go_simp; first | done | with_reducible rfl
        simp only [Act.put, List.setIfInBounds_toArray, List.set_cons_zero, List.set_cons_succ]
        refine wpAnyH_take (i := 24) (oi := ⟨some 94, _, _, _, _, _⟩) (v := _) rfl (by kernel_rfl) (by kernel_rfl) (by kernel_rfl) (fun _ _ _ h => h) (yieldsIf_load_mid (by rfl) 24 (.tmp 11) rfl g1 0 rfl (uC u.sch u.host u.port u.path u.q u.f) _ (fun W hW => (hW.at (x := (g1, uC u.sch u.host u.port u.path u.q u.f)) (by simp)).whole) Tryz.underlying24 rfl n24) hS ?_
        simp only [Act.put, List.setIfInBounds_toArray, List.set_cons_zero, List.set_cons_succ]
        refine wpAnyH_take (i := 26) (oi := ⟨some 96, _, _, _, _, _⟩) (v := _) rfl (by kernel_rfl) (by kernel_rfl) (by kernel_rfl) (fun _ _ _ h => h) (yieldsIf_load_mid (by rfl) 24 (.tmp 13) rfl g2 0 rfl (uC v.sch v.host v.port v.path v.q v.f) _ (fun W hW => (hW.at (x := (g2, uC v.sch v.host v.port v.path v.q v.f)) (by simp)).whole) Tryz.underlying24 rfl n24) hS ?_
        simp only [Act.put, List.setIfInBounds_toArray, List.set_cons_zero, List.set_cons_succ]
        refine wpAnyH_take (i := 29) (oi := ⟨some 99, _, _, _, _, _⟩) (v := ?va29) rfl (by kernel_rfl) (by kernel_rfl) (by kernel_rfl) (fun _ _ _ h => h) (Or.inl ⟨by rfl, ?ya29⟩) hS ?ra29
        case ya29 => intro W hW; go_simp; first | done | with_reducible rfl
        simp only [Act.put, List.setIfInBounds_toArray, List.set_cons_zero, List.set_cons_succ]
        refine wpAnyH_ready (rs := [25]) (by kernel_rfl) (by simp) ?_
        refine (AllReadyH.cons (o := ⟨some 95, _, _, _, _, _⟩) rfl (fun K hK => ?_) AllReadyH.nil)
        try go_simp
        (with_reducible refine (HO1.out _ hS.kp).mono ?_)
        rintro e wx2 ⟨rfl, hb⟩
        have hS2 := hS.step hb
        clear hb hS
        have hS := hS2
        clear hS2
        refine hK.out _ _ hS (fun _ => ?_)
        clear hK K
        try simp only [Act.put, List.setIfInBounds_toArray, List.set_cons_zero, List.set_cons_succ]
        refine wpAnyH_ready (rs := [27]) (by kernel_rfl) (by simp) ?_
        refine (AllReadyH.cons (o := ⟨some 97, _, _, _, _, _⟩) rfl (fun K hK => ?_) AllReadyH.nil)
        try go_simp
        (with_reducible refine (HO2.out _ hS.kp).mono ?_)
        rintro e wx3 ⟨rfl, hb⟩
        have hS3 := hS.step hb
        clear hb hS
        have hS := hS3
        clear hS3
        refine hK.out _ _ hS (fun _ => ?_)
        clear hK K
        try simp only [Act.put, List.setIfInBounds_toArray, List.set_cons_zero, List.set_cons_succ]
        refine wpAnyH_take (i := 28) (oi := ⟨some 98, _, _, _, _, _⟩) (v := ?va28) rfl (by kernel_rfl) (by kernel_rfl) (by kernel_rfl) (fun _ _ _ h => h) (Or.inl ⟨by rfl, ?ya28⟩) hS ?ra28
        case ya28 => intro W hW; go_simp; first | done | with_reducible rfl
        simp only [Act.put, List.setIfInBounds_toArray, List.set_cons_zero, List.set_cons_succ]
        refine wpAnyH_take (i := 30) (oi := ⟨some 100, _, _, _, _, _⟩) (v := ?va30) rfl (by kernel_rfl) (by kernel_rfl) (by kernel_rfl) (fun _ _ _ h => h) (Or.inl ⟨by rfl, ?ya30⟩) hS ?ra30
        case ya30 => intro W hW; go_simp; first | done | with_reducible rfl
        simp only [Act.put, List.setIfInBounds_toArray, List.set_cons_zero, List.set_cons_succ]
        refine wpAnyH_take (i := 31) (oi := ⟨some 101, _, _, _, _, _⟩) (v := ?va31) rfl (by kernel_rfl) (by kernel_rfl) (by kernel_rfl) (fun _ _ _ h => h) (Or.inl ⟨by rfl, ?ya31⟩) hS ?ra31
        case ya31 => intro W hW; go_simp; first | done | with_reducible rfl
        simp only [Act.put, List.setIfInBounds_toArray, List.set_cons_zero, List.set_cons_succ]
        refine wpAnyH_take (i := 32) (oi := ⟨some 6, _, _, _, _, _⟩) (v := ?va32) rfl (by kernel_rfl) (by kernel_rfl) (by kernel_rfl) (fun _ _ _ h => h) (Or.inl ⟨by rfl, ?ya32⟩) hS ?ra32
        case ya32 => intro W hW; go_simp; first | done | with_reducible rfl
        simp only [Act.put, List.setIfInBounds_toArray, List.set_cons_zero, List.set_cons_succ]
        refine wpAnyH_done (by kernel_rfl) ?_ _
        go_wp2_with fail
        go_ret
        exact ⟨by simp, hS.kp⟩
set_option maxHeartbeats 8000000 in
set_option maxRecDepth 100000 in
theorem po_3_not (u v : U) (n k q : Int) (N K : Nat) (Z D A X1 X O1 O2 : List UInt8) (w : World) (hN : bits .and .i64 n 131071 = (N : Int)) (hK : bits .and .i64 k 7 = (K : Int)) (hK7 : K ≤ 7) (hz : bits .and .i64 q 3 = 3) (HS : Hid (∀ w', Kept w w' → Calls Tryz.prog 13 #[] w' fun e w2 => e = .returned (.bool true) ∧ Below w'.heap.size w' w2)) (HD : Hid (∀ w', Kept w w' → Calls Tryz.prog 27 #[.int .i64 (N : Int)] w' fun e w2 => e = .returned (.string (str D)) ∧ Below w'.heap.size w' w2)) (HU : Hid (∀ w', Kept w w' → Calls Tryz.prog 14 #[.string (str X)] w' fun e w2 => e = .returned (.tuple #[.agg (uC u.sch u.host u.port u.path u.q u.f).toArray, .int .i64 0]) ∧ Below w'.heap.size w' w2)) (HV : Hid (∀ w', Kept w w' → Calls Tryz.prog 14 #[.string (str A)] w' fun e w2 => e = .returned (.tuple #[.agg (uC v.sch v.host v.port v.path v.q v.f).toArray, .int .i64 0]) ∧ Below w'.heap.size w' w2)) (b1 : (⟨#[119, 115, 115]⟩ : ByteArray) ++ ⟨#[58, 47, 47, 97, 58]⟩ = str A) (b2 : str A ++ str Z = str X1) (b3 : str X1 ++ str D = str X) (r2 : ¬ (9223372036854775807 : Nat) < (str A).size + (str Z).size) (r3 : ¬ (9223372036854775807 : Nat) < (str X1).size + (str D).size) (hZ : Hid (List.replicate K 48 = Z)) (hv : (v.port != -1) = false) (hb : ¬ (65535 : Int) < (N : Int)) (HDf : Hid (∀ w', Calls Tryz.prog 28 #[.string ⟨#[119, 115, 115]⟩] w' fun e w2 => e = .returned (.int .i64 443) ∧ w2 = w')) (ho : ((N : Int) == 443) = false) (hp : (u.port == (N : Int)) = true) (hpa : ((str u.path).toList == [47]) = true) (HA : Hid (∀ w', Calls Tryz.prog 23 #[.agg (uC u.sch u.host u.port u.path u.q u.f).toArray, .agg (uC v.sch v.host v.port v.path v.q v.f).toArray] w' fun e w2 => e = .returned (.bool false) ∧ Below w'.heap.size w' w2)) (HO1 : Hid (∀ w', Kept w w' → Calls Tryz.prog 21 #[.agg (uC u.sch u.host u.port u.path u.q u.f).toArray] w' fun e w2 => e = .returned (.string (str O1)) ∧ Below w'.heap.size w' w2)) (HO2 : Hid (∀ w', Kept w w' → Calls Tryz.prog 21 #[.agg (uC v.sch v.host v.port v.path v.q v.f).toArray] w' fun e w2 => e = .returned (.string (str O2)) ∧ Below w'.heap.size w' w2)) (he : ((str O1).toList == (str O2).toList) = false) : Calls Tryz.prog 8 #[.int .i64 n, .int .i64 k, .int .i64 q] w fun e w' => e = .returned (.bool true) ∧ Below w.heap.size w w' := by
    go_enter Tryz.func8, Tryz.ntmps8
    go_wp2_with (first
      | (go_at_call 13; (with_reducible refine (HS.out _ (Hl.nil w).kp).mono ?_); (rintro e w1 ⟨rfl, hb⟩; have H0 := (Hl.nil w).step hb; clear hb)))
    go_loop [10, 9] (fun i z => ∃ j : Nat, j ≤ K ∧ i = .int .i64 (j : Int) ∧ z = .string (str (List.replicate j 48))) (fun i _ => K - (intOf i).toNat)
    case atStart => exact ⟨0, by omega, rfl, rfl⟩
    case round =>
      obtain ⟨j, hj, rfl, rfl⟩ := hrel
      by_cases hlt : j < K
      · have hjK : (j : Int) < (K : Int) := by omega
        obtain ⟨Y, hY⟩ : ∃ Y, Y = List.replicate (j + 1) (48 : UInt8) := ⟨_, rfl⟩
        obtain ⟨Y0, hY0⟩ : ∃ Y, Y = List.replicate j (48 : UInt8) := ⟨_, rfl⟩
        have hs : str Y0 ++ ⟨#[48]⟩ = str Y := by rw [hY, hY0, List.replicate_succ']; exact str_add _ _
        have hr : ¬ (9223372036854775807 : Nat) < (str Y0).size + 1 := by rw [str_size, hY0, List.length_replicate]; omega
        rw [← hY0]
        have HY := Lib.hid hY
        clear hY hY0
        go_wp2_with fail
        go_round
        case rel => exact ⟨j + 1, by omega, by go_num, by rw [HY.out]⟩
        case measure => simp [intOf]; omega
      · have hjK : ¬ (j : Int) < (K : Int) := by omega
        obtain rfl : j = K := by omega
        rw [hZ.out]
        clear hlt hZ hj
        go_wp2_with (first
          | (go_at_call 27; (with_reducible refine (HD.out _ (H0.kp.alloc _)).mono ?_); (rintro e w2 ⟨rfl, hb2⟩; have H1 : Hl w w2 [] := ⟨(H0.kp.alloc _).step hb2, by simp⟩; clear hb2 H0))
          | (go_at_call 14; (with_reducible refine (HU.out _ H1.kp).mono ?_); (rintro e wa1 ⟨rfl, hb⟩; have G1 := H1.step hb; clear hb))
          | ((with_reducible show wpList _ _ _ (⟨some 11, .alloc _, _, _, _, _⟩ :: _) _ _); refine wp_new _ rfl 24 rfl _ z24 ?_; intro wb1 g1 B1 F1; simp only [Act.put, List.setIfInBounds_toArray, List.set_cons_zero, List.set_cons_succ])
          | ((with_reducible show wpList _ _ _ (⟨none, .store 24 (.tmp 11) (.tmp 42), _, _, _, _⟩ :: _) _ _); refine wp_putAll _ rfl 24 (.tmp 11) (.tmp 42) rfl g1 24 _ (uC u.sch u.host u.port u.path u.q u.f) rfl rfl B1 rfl n24 (uC_one _ _ _ _ _ _) ?_; intro wc1 B U; simp only [Act.put]; have H2 := G1.new F1 U B; clear B U F1 B1 G1)
          | (go_at_call 14; (with_reducible refine (HV.out _ H2.kp).mono ?_); (rintro e wa2 ⟨rfl, hb⟩; have G2 := H2.step hb; clear hb))
          | ((with_reducible show wpList _ _ _ (⟨some 13, .alloc _, _, _, _, _⟩ :: _) _ _); refine wp_new _ rfl 24 rfl _ z24 ?_; intro wb2 g2 B2 F2; simp only [Act.put, List.setIfInBounds_toArray, List.set_cons_zero, List.set_cons_succ])
          | ((with_reducible show wpList _ _ _ (⟨none, .store 24 (.tmp 13) (.tmp 48), _, _, _, _⟩ :: _) _ _); refine wp_putAll _ rfl 24 (.tmp 13) (.tmp 48) rfl g2 24 _ (uC v.sch v.host v.port v.path v.q v.f) rfl rfl B2 rfl n24 (uC_one _ _ _ _ _ _) ?_; intro wc2 B U; simp only [Act.put]; have H3 := G2.new F2 U B; clear B U F2 B2 G2; have d2 : wc2.cell? ⟨g2, 2, none⟩ = some (.int .i64 v.port) := (H3.at (x := (g2, uC v.sch v.host v.port v.path v.q v.f)) (by simp)).cell rfl)
          | (go_at_call 28; (with_reducible refine (HDf.out _).mono ?_); (rintro e w5 ⟨rfl, rfl⟩)))
        refine wp_region_held_drew (S := fun W => Hl w W [(g2, uC v.sch v.host v.port v.path v.q v.f), (g1, uC u.sch u.host u.port u.path u.q u.f)]) (by kernel_rfl) (H3.step (Below.refl _ _).drew) (fun hS => ?_)
        refine wpAnyH_take (i := 0) (oi := ⟨some 70, _, _, _, _, _⟩) (v := ?va0) rfl (by kernel_rfl) (by kernel_rfl) (by kernel_rfl) (fun _ _ _ h => h) (Or.inl ⟨by rfl, ?ya0⟩) hS ?ra0
        case ya0 => intro W hW; go_simp; first | done | with_reducible rfl
        simp only [Act.put, List.setIfInBounds_toArray, List.set_cons_zero, List.set_cons_succ]
        refine wpAnyH_take (i := 1) (oi := ⟨some 71, _, _, _, _, _⟩) (v := ?va1) rfl (by kernel_rfl) (by kernel_rfl) (by kernel_rfl) (fun _ _ _ h => h) (Or.inl ⟨by rfl, ?ya1⟩) hS ?ra1
        case ya1 => intro W hW; go_simp; first | done | with_reducible rfl
        simp only [Act.put, List.setIfInBounds_toArray, List.set_cons_zero, List.set_cons_succ]
        refine wpAnyH_take (i := 2) (oi := ⟨some 72, _, _, _, _, _⟩) (v := ?va2) rfl (by kernel_rfl) (by kernel_rfl) (by kernel_rfl) (fun _ _ _ h => h) (Or.inl ⟨by rfl, ?ya2⟩) hS ?ra2
        case ya2 => intro W hW; go_simp; first | done | with_reducible rfl
        simp only [Act.put, List.setIfInBounds_toArray, List.set_cons_zero, List.set_cons_succ]
        refine wpAnyH_take (i := 3) (oi := ⟨some 73, _, _, _, _, _⟩) (v := ?va3) rfl (by kernel_rfl) (by kernel_rfl) (by kernel_rfl) (fun _ _ _ h => h) (Or.inl ⟨by rfl, ?ya3⟩) hS ?ra3
        case ya3 => intro W hW; go_simp; first | done | with_reducible rfl
        simp only [Act.put, List.setIfInBounds_toArray, List.set_cons_zero, List.set_cons_succ]
        refine wpAnyH_take (i := 4) (oi := ⟨some 74, _, _, _, _, _⟩) (v := ?va4) rfl (by kernel_rfl) (by kernel_rfl) (by kernel_rfl) (fun _ _ _ h => h) (Or.inl ⟨by rfl, ?ya4⟩) hS ?ra4
        case ya4 => intro W hW; go_simp; first | done | with_reducible rfl
        simp only [Act.put, List.setIfInBounds_toArray, List.set_cons_zero, List.set_cons_succ]
        refine wpAnyH_take (i := 5) (oi := ⟨some 75, _, _, _, _, _⟩) (v := ?va5) rfl (by kernel_rfl) (by kernel_rfl) (by kernel_rfl) (fun _ _ _ h => h) (Or.inl ⟨by rfl, ?ya5⟩) hS ?ra5
        case ya5 => intro W hW; go_simp; first | done | with_reducible rfl
        simp only [Act.put, List.setIfInBounds_toArray, List.set_cons_zero, List.set_cons_succ]
        refine wpAnyH_take (i := 6) (oi := ⟨some 76, _, _, _, _, _⟩) (v := ?va6) rfl (by kernel_rfl) (by kernel_rfl) (by kernel_rfl) (fun _ _ _ h => h) (Or.inl ⟨by rfl, ?ya6⟩) hS ?ra6
        case ya6 => intro W hW; go_simp; first | done | with_reducible rfl
        simp only [Act.put, List.setIfInBounds_toArray, List.set_cons_zero, List.set_cons_succ]
        refine wpAnyH_take (i := 7) (oi := ⟨some 77, _, _, _, _, _⟩) (v := ?va7) rfl (by kernel_rfl) (by kernel_rfl) (by kernel_rfl) (fun _ _ _ h => h) (Or.inl ⟨by rfl, ?ya7⟩) hS ?ra7
        case ya7 => intro W hW; have hc : W.cell? ⟨g1, 2, none⟩ = some (.int .i64 u.port) := (hW.at (x := (g1, uC u.sch u.host u.port u.path u.q u.f)) (by simp)).cell rfl; go_simp; first | done | with_reducible rfl
        simp only [Act.put, List.setIfInBounds_toArray, List.set_cons_zero, List.set_cons_succ]
        refine wpAnyH_take (i := 8) (oi := ⟨some 78, _, _, _, _, _⟩) (v := ?va8) rfl (by kernel_rfl) (by kernel_rfl) (by kernel_rfl) (fun _ _ _ h => h) (Or.inl ⟨by rfl, ?ya8⟩) hS ?ra8
        case ya8 => intro W hW; go_simp; first | done | with_reducible rfl
        simp only [Act.put, List.setIfInBounds_toArray, List.set_cons_zero, List.set_cons_succ]
        refine wpAnyH_take (i := 9) (oi := ⟨some 79, _, _, _, _, _⟩) (v := ?va9) rfl (by kernel_rfl) (by kernel_rfl) (by kernel_rfl) (fun _ _ _ h => h) (Or.inl ⟨by rfl, ?ya9⟩) hS ?ra9
        case ya9 => intro W hW; go_simp; first | done | with_reducible rfl
        simp only [Act.put, List.setIfInBounds_toArray, List.set_cons_zero, List.set_cons_succ]
        refine wpAnyH_take (i := 10) (oi := ⟨some 80, _, _, _, _, _⟩) (v := ?va10) rfl (by kernel_rfl) (by kernel_rfl) (by kernel_rfl) (fun _ _ _ h => h) (Or.inl ⟨by rfl, ?ya10⟩) hS ?ra10
        case ya10 => intro W hW; go_simp; first | done | with_reducible rfl
        simp only [Act.put, List.setIfInBounds_toArray, List.set_cons_zero, List.set_cons_succ]
        refine wpAnyH_take (i := 11) (oi := ⟨some 81, _, _, _, _, _⟩) (v := ?va11) rfl (by kernel_rfl) (by kernel_rfl) (by kernel_rfl) (fun _ _ _ h => h) (Or.inl ⟨by rfl, ?ya11⟩) hS ?ra11
        case ya11 => intro W hW; go_simp; first | done | with_reducible rfl
        simp only [Act.put, List.setIfInBounds_toArray, List.set_cons_zero, List.set_cons_succ]
        refine wpAnyH_take (i := 12) (oi := ⟨some 82, _, _, _, _, _⟩) (v := ?va12) rfl (by kernel_rfl) (by kernel_rfl) (by kernel_rfl) (fun _ _ _ h => h) (Or.inl ⟨by rfl, ?ya12⟩) hS ?ra12
        case ya12 => intro W hW; go_simp; first | done | with_reducible rfl
        simp only [Act.put, List.setIfInBounds_toArray, List.set_cons_zero, List.set_cons_succ]
        refine wpAnyH_take (i := 13) (oi := ⟨some 83, _, _, _, _, _⟩) (v := ?va13) rfl (by kernel_rfl) (by kernel_rfl) (by kernel_rfl) (fun _ _ _ h => h) (Or.inl ⟨by rfl, ?ya13⟩) hS ?ra13
        case ya13 => intro W hW; have hc : W.cell? ⟨g1, 3, none⟩ = some (.string (str u.path)) := (hW.at (x := (g1, uC u.sch u.host u.port u.path u.q u.f)) (by simp)).cell rfl; go_simp; first | done | with_reducible rfl
        simp only [Act.put, List.setIfInBounds_toArray, List.set_cons_zero, List.set_cons_succ]
        refine wpAnyH_take (i := 14) (oi := ⟨some 84, _, _, _, _, _⟩) (v := ?va14) rfl (by kernel_rfl) (by kernel_rfl) (by kernel_rfl) (fun _ _ _ h => h) (Or.inl ⟨by rfl, ?ya14⟩) hS ?ra14
        case ya14 => intro W hW; go_simp; first | done | with_reducible rfl
        simp only [Act.put, List.setIfInBounds_toArray, List.set_cons_zero, List.set_cons_succ]
        refine wpAnyH_take (i := 15) (oi := ⟨some 85, _, _, _, _, _⟩) (v := ?va15) rfl (by kernel_rfl) (by kernel_rfl) (by kernel_rfl) (fun _ _ _ h => h) (Or.inl ⟨by rfl, ?ya15⟩) hS ?ra15
        case ya15 => intro W hW; go_simp; first | done | with_reducible rfl
        simp only [Act.put, List.setIfInBounds_toArray, List.set_cons_zero, List.set_cons_succ]
        refine wpAnyH_take (i := 16) (oi := ⟨some 86, _, _, _, _, _⟩) (v := ?va16) rfl (by kernel_rfl) (by kernel_rfl) (by kernel_rfl) (fun _ _ _ h => h) (Or.inl ⟨by rfl, ?ya16⟩) hS ?ra16
        case ya16 => intro W hW; go_simp; first | done | with_reducible rfl
        simp only [Act.put, List.setIfInBounds_toArray, List.set_cons_zero, List.set_cons_succ]
        refine wpAnyH_take (i := 17) (oi := ⟨some 87, _, _, _, _, _⟩) (v := _) rfl (by kernel_rfl) (by kernel_rfl) (by kernel_rfl) (fun _ _ _ h => h) (yieldsIf_load_mid (by rfl) 24 (.tmp 11) rfl g1 0 rfl (uC u.sch u.host u.port u.path u.q u.f) _ (fun W hW => (hW.at (x := (g1, uC u.sch u.host u.port u.path u.q u.f)) (by simp)).whole) Tryz.underlying24 rfl n24) hS ?_
        simp only [Act.put, List.setIfInBounds_toArray, List.set_cons_zero, List.set_cons_succ]
        refine wpAnyH_take (i := 18) (oi := ⟨some 88, _, _, _, _, _⟩) (v := _) rfl (by kernel_rfl) (by kernel_rfl) (by kernel_rfl) (fun _ _ _ h => h) (yieldsIf_load_mid (by rfl) 24 (.tmp 13) rfl g2 0 rfl (uC v.sch v.host v.port v.path v.q v.f) _ (fun W hW => (hW.at (x := (g2, uC v.sch v.host v.port v.path v.q v.f)) (by simp)).whole) Tryz.underlying24 rfl n24) hS ?_
        simp only [Act.put, List.setIfInBounds_toArray, List.set_cons_zero, List.set_cons_succ]
        refine wpAnyH_take (i := 20) (oi := ⟨some 90, _, _, _, _, _⟩) (v := ?va20) rfl (by kernel_rfl) (by kernel_rfl) (by kernel_rfl) (fun _ _ _ h => h) (Or.inl ⟨by rfl, ?ya20⟩) hS ?ra20
        case ya20 => intro W hW; go_simp; first | done | with_reducible rfl
        simp only [Act.put, List.setIfInBounds_toArray, List.set_cons_zero, List.set_cons_succ]
        refine wpAnyH_ready (rs := [19]) (by kernel_rfl) (by simp) ?_
        refine (AllReadyH.cons (o := ⟨some 89, _, _, _, _, _⟩) rfl (fun K hK => ?_) AllReadyH.nil)
        try go_simp
        (with_reducible refine (HA.out _).mono ?_)
        rintro e wx1 ⟨rfl, hb⟩
        have hS1 := hS.step hb
        clear hb hS
        have hS := hS1
        clear hS1
        refine hK.out _ _ hS (fun _ => ?_)
        clear hK K
        try simp only [Act.put, List.setIfInBounds_toArray, List.set_cons_zero, List.set_cons_succ]
        refine wpAnyH_take (i := 21) (oi := ⟨some 91, _, _, _, _, _⟩) (v := ?va21) rfl (by kernel_rfl) (by kernel_rfl) (by kernel_rfl) (fun _ _ _ h => h) (Or.inl ⟨by rfl, ?ya21⟩) hS ?ra21
        case ya21 => intro W hW; go_simp; first | done | with_reducible rfl
        simp only [Act.put, List.setIfInBounds_toArray, List.set_cons_zero, List.set_cons_succ]
        refine wpAnyH_take (i := 22) (oi := ⟨some 92, _, _, _, _, _⟩) (v := ?va22) rfl (by kernel_rfl) (by kernel_rfl) (by kernel_rfl) (fun _ _ _ h => h) (Or.inl ⟨by rfl, ?ya22⟩) hS ?ra22
        case ya22 => intro W hW; go_simp; first | done | with_reducible rfl
        simp only [Act.put, List.setIfInBounds_toArray, List.set_cons_zero, List.set_cons_succ]
        refine wpAnyH_take (i := 23) (oi := ⟨some 93, _, _, _, _, _⟩) (v := ?va23) rfl (by kernel_rfl) (by kernel_rfl) (by kernel_rfl) (fun _ _ _ h => h) (Or.inl ⟨by rfl, ?ya23⟩) hS ?ra23
        case ya23 => intro W hW; go_simp; first | done | with_reducible rfl
        simp only [Act.put, List.setIfInBounds_toArray, List.set_cons_zero, List.set_cons_succ]
        refine wpAnyH_take (i := 24) (oi := ⟨some 94, _, _, _, _, _⟩) (v := _) rfl (by kernel_rfl) (by kernel_rfl) (by kernel_rfl) (fun _ _ _ h => h) (yieldsIf_load_mid (by rfl) 24 (.tmp 11) rfl g1 0 rfl (uC u.sch u.host u.port u.path u.q u.f) _ (fun W hW => (hW.at (x := (g1, uC u.sch u.host u.port u.path u.q u.f)) (by simp)).whole) Tryz.underlying24 rfl n24) hS ?_
        simp only [Act.put, List.setIfInBounds_toArray, List.set_cons_zero, List.set_cons_succ]
        refine wpAnyH_take (i := 26) (oi := ⟨some 96, _, _, _, _, _⟩) (v := _) rfl (by kernel_rfl) (by kernel_rfl) (by kernel_rfl) (fun _ _ _ h => h) (yieldsIf_load_mid (by rfl) 24 (.tmp 13) rfl g2 0 rfl (uC v.sch v.host v.port v.path v.q v.f) _ (fun W hW => (hW.at (x := (g2, uC v.sch v.host v.port v.path v.q v.f)) (by simp)).whole) Tryz.underlying24 rfl n24) hS ?_
        simp only [Act.put, List.setIfInBounds_toArray, List.set_cons_zero, List.set_cons_succ]
        refine wpAnyH_take (i := 29) (oi := ⟨some 99, _, _, _, _, _⟩) (v := ?va29) rfl (by kernel_rfl) (by kernel_rfl) (by kernel_rfl) (fun _ _ _ h => h) (Or.inl ⟨by rfl, ?ya29⟩) hS ?ra29
        case ya29 => intro W hW; go_simp; first | done | with_reducible rfl
        simp only [Act.put, List.setIfInBounds_toArray, List.set_cons_zero, List.set_cons_succ]
        refine wpAnyH_ready (rs := [25]) (by kernel_rfl) (by simp) ?_
        refine (AllReadyH.cons (o := ⟨some 95, _, _, _, _, _⟩) rfl (fun K hK => ?_) AllReadyH.nil)
        try go_simp
        (with_reducible refine (HO1.out _ hS.kp).mono ?_)
        rintro e wx2 ⟨rfl, hb⟩
        have hS2 := hS.step hb
        clear hb hS
        have hS := hS2
        clear hS2
        refine hK.out _ _ hS (fun _ => ?_)
        clear hK K
        try simp only [Act.put, List.setIfInBounds_toArray, List.set_cons_zero, List.set_cons_succ]
        refine wpAnyH_ready (rs := [27]) (by kernel_rfl) (by simp) ?_
        refine (AllReadyH.cons (o := ⟨some 97, _, _, _, _, _⟩) rfl (fun K hK => ?_) AllReadyH.nil)
        try go_simp
        (with_reducible refine (HO2.out _ hS.kp).mono ?_)
        rintro e wx3 ⟨rfl, hb⟩
        have hS3 := hS.step hb
        clear hb hS
        have hS := hS3
        clear hS3
        refine hK.out _ _ hS (fun _ => ?_)
        clear hK K
        try simp only [Act.put, List.setIfInBounds_toArray, List.set_cons_zero, List.set_cons_succ]
        refine wpAnyH_take (i := 28) (oi := ⟨some 98, _, _, _, _, _⟩) (v := ?va28) rfl (by kernel_rfl) (by kernel_rfl) (by kernel_rfl) (fun _ _ _ h => h) (Or.inl ⟨by rfl, ?ya28⟩) hS ?ra28
        case ya28 => intro W hW; go_simp; first | done | with_reducible rfl
        simp only [Act.put, List.setIfInBounds_toArray, List.set_cons_zero, List.set_cons_succ]
        refine wpAnyH_take (i := 30) (oi := ⟨some 100, _, _, _, _, _⟩) (v := ?va30) rfl (by kernel_rfl) (by kernel_rfl) (by kernel_rfl) (fun _ _ _ h => h) (Or.inl ⟨by rfl, ?ya30⟩) hS ?ra30
        case ya30 => intro W hW; go_simp; first | done | with_reducible rfl
        simp only [Act.put, List.setIfInBounds_toArray, List.set_cons_zero, List.set_cons_succ]
        refine wpAnyH_take (i := 31) (oi := ⟨some 101, _, _, _, _, _⟩) (v := ?va31) rfl (by kernel_rfl) (by kernel_rfl) (by kernel_rfl) (fun _ _ _ h => h) (Or.inl ⟨by rfl, ?ya31⟩) hS ?ra31
        case ya31 => intro W hW; go_simp; first | done | with_reducible rfl
        simp only [Act.put, List.setIfInBounds_toArray, List.set_cons_zero, List.set_cons_succ]
        refine wpAnyH_take (i := 32) (oi := ⟨some 6, _, _, _, _, _⟩) (v := ?va32) rfl (by kernel_rfl) (by kernel_rfl) (by kernel_rfl) (fun _ _ _ h => h) (Or.inl ⟨by rfl, ?ya32⟩) hS ?ra32
        case ya32 => intro W hW; go_simp; first | done | with_reducible rfl
        simp only [Act.put, List.setIfInBounds_toArray, List.set_cons_zero, List.set_cons_succ]
        refine wpAnyH_done (by kernel_rfl) ?_ _
        go_wp2_with fail
        go_ret
        exact ⟨by simp, hS.kp⟩
end Go.Proofs.YtcepigekibidfaaGreatDoor
