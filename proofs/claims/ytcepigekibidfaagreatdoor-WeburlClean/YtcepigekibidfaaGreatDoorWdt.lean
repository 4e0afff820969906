/-
  What transeptlaw08.WeburlDots answers: true; nothing that was there turns. Condition: the library's tables.
-/
import Derived.Test.YtcepigekibidfaaGreatDoorGr
import Derived.Test.YtcepigekibidfaaGreatDoorGn
import Derived.Test.YtcepigekibidfaaGreatDoorWpo
namespace Go.Proofs.YtcepigekibidfaaGreatDoor
open Go.RowKit

/-- Bytes of a path that count. -/
def fd (c : UInt8) : Bool := decide (c.toNat ≠ 63) && decide (c.toNat ≠ 35) && decide (32 < c.toNat)
theorem fd_succ (l : List UInt8) (k : Nat) (hk : k < l.length) (c : UInt8) (hc : c = l.getD k 0) : (l.take (k + 1)).filter fd = (l.take k).filter fd ++ (if fd c then [c] else []) := by
  rw [List.take_add_one, List.getElem?_eq_getElem hk, List.filter_append]
  have : l[k] = c := by rw [hc, List.getD_eq_getElem?_getD, List.getElem?_eq_getElem hk]; rfl
  simp only [this, Option.toList_some, List.filter_cons, List.filter_nil]
theorem Hl.alloc {w wi : World} {L : List (Nat × List Value)} (h : Hl w wi L) {o : Obj} : Hl w (wi.alloc o) L := h.step ((Below.refl _ _).alloc (Nat.le_refl _) o)
set_option maxHeartbeats 8000000 in
set_option maxRecDepth 100000 in
theorem dt_0 (u v : U) (l s P A U1 U2 U3 : List UInt8) (n : Int) (m S E E1 EU : Nat) (w : World) (hm : min (l.length : Int) 200 = (m : Int)) (hm2 : m ≤ l.length) (hts : (str l).extract 0 m = str s) (hsl : (str l).size = l.length) (hS : S = s.length) (hS2 : S ≤ 200) (hP : Hid (47 :: s.filter fd = P)) (hz : bits .and .i64 n 7 = 0) (HS : Hid (∀ w', Kept w w' → Calls Tryz.prog 13 #[] w' fun e w2 => e = .returned (.bool true) ∧ Below w'.heap.size w' w2)) (HU : Hid (∀ w', Kept w w' → Calls Tryz.prog 14 #[.string (str U1)] w' fun e w2 => e = .returned (.tuple #[.agg (uC u.sch u.host u.port u.path u.q u.f).toArray, .int .i64 0]) ∧ Below w'.heap.size w' w2)) (HV : Hid (∀ w', Kept w w' → Calls Tryz.prog 14 #[.string (str U2)] w' fun e w2 => e = .returned (.tuple #[.agg (uC u.sch u.host u.port u.path u.q u.f).toArray, .int .i64 0]) ∧ Below w'.heap.size w' w2)) (HW : Hid (∀ w', Kept w w' → Calls Tryz.prog 14 #[.string (str U3)] w' fun e w2 => e = .returned (.tuple #[.agg (uC v.sch v.host v.port v.path v.q v.f).toArray, .int .i64 0]) ∧ Below w'.heap.size w' w2)) (b1 : ⟨#[104, 116, 116, 112, 58, 47, 47, 97]⟩ ++ str P = str U1) (b2 : (⟨#[104, 116, 116, 112, 58, 47, 47, 97]⟩ : ByteArray) ++ ⟨#[47, 46]⟩ = str A) (b3 : str A ++ str P = str U2) (b4 : str U1 ++ ⟨#[47, 46, 46]⟩ = str U3) (r1 : ¬ (9223372036854775807 : Nat) < 8 + (str P).size) (r3 : ¬ (9223372036854775807 : Nat) < (str A).size + (str P).size) (r4 : ¬ (9223372036854775807 : Nat) < (str U1).size + 3) (hE : (str v.path).size = E) (hEU : (str u.path).size = EU) (h0 : 0 < EU) (hu0 : ∀ h, ((str u.path)[0]'h).toNat = 47) (hE1 : (E : Int) - 1 = (E1 : Int)) (hE2 : E1 < E) (hE3 : E ≤ EU + 1) (hEb : EU ≤ 1000000) (hv0 : ∀ h, ((str v.path)[E1]'h).toNat = 47) : Calls Tryz.prog 7 #[.string (str l), .int .i64 n] w fun e w' => e = .returned (.bool true) ∧ Below w.heap.size w w' := by
    have hsz := str_size s
    have hgb : Hid (∀ k, k < S → ∀ h, ((str s)[k]'h).toNat = (s.getD k 0).toNat) := fun k hk h => str_at s k (by omega) h
    have hon : Hid (∀ k, k < S → (str s).extract k (k + 1) = str [s.getD k 0]) := fun k hk => str_one s k (by omega)
    have hsu : Hid (∀ k, k < S → (s.take (k + 1)).filter fd = (s.take k).filter fd ++ (if fd (s.getD k 0) then [s.getD k 0] else [])) := fun k hk => fd_succ s k (by omega) _ rfl
    have hle : Hid (∀ k, ((s.take k).filter fd).length ≤ k) := fun k => Nat.le_trans (List.length_filter_le _ _) (by rw [List.length_take]; omega)
    have hall : Hid (47 :: (s.take S).filter fd = P) := by
      show _ = _
      rw [hS, List.take_length]
      exact hP.out
    rw [← hS] at hsz
    clear hS hP
    have hEU1 : (EU : Int) + 1 = ((EU + 1 : Nat) : Int) := by omega
    have h1E : (1 : Int) ≤ (E : Int) := by omega
    have hEE : (E : Int) ≤ (EU : Int) + 1 := by omega
    clear hEU1
    go_enter Tryz.func7, Tryz.ntmps7
    go_wp2_with (first
      | (go_at_call 13; (with_reducible refine (HS.out _ (Hl.nil w).kp).mono ?_); (rintro e w1 ⟨rfl, hb⟩; have H0 := (Hl.nil w).step hb; clear hb)))
    go_loop [7, 6] (fun i p => ∃ k : Nat, k ≤ S ∧ i = .int .i64 (k : Int) ∧ p = .string (str (47 :: (s.take k).filter fd))) (fun i _ => S - (intOf i).toNat)
    case atStart => exact ⟨0, by omega, rfl, rfl⟩
    case round =>
      obtain ⟨k, hk, rfl, rfl⟩ := hrel
      have hL := hle.out k
      by_cases hlt : k < S
      · have hkS : (k : Int) < (S : Int) := by omega
        have HG := hgb.out k hlt
        have HO := hon.out k hlt
        have HN := hsu.out k hlt
        obtain ⟨c, hc⟩ : ∃ c, c = s.getD k 0 := ⟨_, rfl⟩
        obtain ⟨b, hb⟩ : ∃ b, b = c.toNat := ⟨_, rfl⟩
        rw [← hc] at HG HO HN
        rw [← hb] at HG
        have hf : fd c = (decide (b ≠ 63) && decide (b ≠ 35) && decide (32 < b)) := by rw [hb]; rfl
        obtain ⟨X, hX⟩ : ∃ X, X = 47 :: (s.take k).filter fd := ⟨_, rfl⟩
        obtain ⟨Y, hY⟩ : ∃ X, X = 47 :: (s.take (k + 1)).filter fd := ⟨_, rfl⟩
        have hYX : Y = X ++ (if fd c then [c] else []) := by rw [hY, hX, HN, List.cons_append]
        have sX : (str X).size ≤ 201 := by rw [str_size, hX, List.length_cons]; omega
        have s1 : (str [c]).size = 1 := str_size _
        have aX : str X ++ str [c] = str (X ++ [c]) := str_add _ _
        rw [← hX]
        have HY := Lib.hid hY
        have hk1 : k + 1 ≤ S := hlt
        clear hc hb hX hY HN hL
        by_cases h1 : b = 63
        · have c1 : ((b : Int) != 63) = false := by simp [h1]
          have hYe : Hid (Y = X) := by show _ = _; rw [hYX, hf]; simp [h1]
          clear hYX hf h1 aX HO
          go_wp2_with fail
          go_round
          case rel => exact ⟨k + 1, by omega, by go_num, by rw [← HY.out, hYe.out]⟩
          case measure => simp [intOf]; omega
        · have c1 : ((b : Int) != 63) = true := by simp; omega
          by_cases h2 : b = 35
          · have c2 : ((b : Int) != 35) = false := by simp [h2]
            have hYe : Hid (Y = X) := by show _ = _; rw [hYX, hf]; simp [h2]
            clear hYX hf h1 h2 aX HO
            go_wp2_with fail
            go_round
            case rel => exact ⟨k + 1, by omega, by go_num, by rw [← HY.out, hYe.out]⟩
            case measure => simp [intOf]; omega
          · have c2 : ((b : Int) != 35) = true := by simp; omega
            by_cases h3 : 32 < b
            · have c3 : decide ((32 : Int) < (b : Int)) = true := by simp; omega
              have hYe : Hid (Y = X ++ [c]) := by show _ = _; rw [hYX, hf]; simp [h1, h2, h3]
              clear hYX hf h1 h2
              go_wp2_with fail
              go_round
              case rel => exact ⟨k + 1, by omega, by go_num, by rw [← HY.out, hYe.out]⟩
              case measure => simp [intOf]; omega
            · have c3 : decide ((32 : Int) < (b : Int)) = false := by simp; omega
              have hYe : Hid (Y = X) := by show _ = _; rw [hYX, hf]; simp [h3]
              clear hYX hf h1 h2 h3 aX HO
              go_wp2_with fail
              go_round
              case rel => exact ⟨k + 1, by omega, by go_num, by rw [← HY.out, hYe.out]⟩
              case measure => simp [intOf]; omega
      · have hkS : ¬ (k : Int) < (S : Int) := by omega
        obtain rfl : k = S := by omega
        rw [hall.out]
        clear hlt hall hk hL
        go_wp2_with (first
          | (go_at_call 14; (with_reducible refine (HU.out _ H0.kp).mono ?_); (rintro e wa1 ⟨rfl, hb⟩; have G1 := H0.step hb; clear hb))
          | ((with_reducible show wpList _ _ _ (⟨some 8, .alloc _, _, _, _, _⟩ :: _) _ _); refine wp_new _ rfl 24 rfl _ z24 ?_; intro wb1 g1 B1 F1; simp only [Act.put, List.setIfInBounds_toArray, List.set_cons_zero, List.set_cons_succ])
          | ((with_reducible show wpList _ _ _ (⟨none, .store 24 (.tmp 8) (.tmp 55), _, _, _, _⟩ :: _) _ _); refine wp_putAll _ rfl 24 (.tmp 8) (.tmp 55) rfl g1 24 _ (uC u.sch u.host u.port u.path u.q u.f) rfl rfl B1 rfl n24 (uC_one _ _ _ _ _ _) ?_; intro wc1 B U; simp only [Act.put]; have H1 := G1.new F1 U B; clear B U F1 B1 G1)
          | (go_at_call 14; (with_reducible refine (HV.out _ (H1.kp.alloc _)).mono ?_); (rintro e wa2 ⟨rfl, hb⟩; have G2 := H1.alloc.step hb; clear hb))
          | ((with_reducible show wpList _ _ _ (⟨some 11, .alloc _, _, _, _, _⟩ :: _) _ _); refine wp_new _ rfl 24 rfl _ z24 ?_; intro wb2 g2 B2 F2; simp only [Act.put, List.setIfInBounds_toArray, List.set_cons_zero, List.set_cons_succ])
          | ((with_reducible show wpList _ _ _ (⟨none, .store 24 (.tmp 11) (.tmp 68), _, _, _, _⟩ :: _) _ _); refine wp_putAll _ rfl 24 (.tmp 11) (.tmp 68) rfl g2 24 _ (uC u.sch u.host u.port u.path u.q u.f) rfl rfl B2 rfl n24 (uC_one _ _ _ _ _ _) ?_; intro wc2 B U; simp only [Act.put]; have H2 := G2.new F2 U B; clear B U F2 B2 G2)
          | (go_at_call 14; (with_reducible refine (HW.out _ H2.kp).mono ?_); (rintro e wa3 ⟨rfl, hb⟩; have G3 := H2.step hb; clear hb))
          | ((with_reducible show wpList _ _ _ (⟨some 13, .alloc _, _, _, _, _⟩ :: _) _ _); refine wp_new _ rfl 24 rfl _ z24 ?_; intro wb3 g3 B3 F3; simp only [Act.put, List.setIfInBounds_toArray, List.set_cons_zero, List.set_cons_succ])
          | ((with_reducible show wpList _ _ _ (⟨none, .store 24 (.tmp 13) (.tmp 75), _, _, _, _⟩ :: _) _ _); refine wp_putAll _ rfl 24 (.tmp 13) (.tmp 75) rfl g3 24 _ (uC v.sch v.host v.port v.path v.q v.f) rfl rfl B3 rfl n24 (uC_one _ _ _ _ _ _) ?_; intro wc3 B U; simp only [Act.put]; have H3 := G3.new F3 U B; clear B U F3 B3 G3; have d2 : wc3.cell? ⟨g3, 3, none⟩ = some (.string (str v.path)) := (H3.at (x := (g3, uC v.sch v.host v.port v.path v.q v.f)) (by simp)).cell rfl; have e2 : wc3.cell? ⟨g1, 3, none⟩ = some (.string (str u.path)) := (H3.at (x := (g1, uC u.sch u.host u.port u.path u.q u.f)) (by simp)).cell rfl)
          | ((with_reducible show wpList _ _ _ (⟨some 94, .load 24 (.tmp 8), _, _, _, _⟩ :: _) _ _); refine wp_getU _ (by rfl) (.tmp 8) rfl g1 u rfl (H3.at (x := (g1, uC u.sch u.host u.port u.path u.q u.f)) (by simp)) ?_; simp only [Act.put, List.setIfInBounds_toArray, List.set_cons_zero, List.set_cons_succ])
          | ((with_reducible show wpList _ _ _ (⟨some 95, .load 24 (.tmp 11), _, _, _, _⟩ :: _) _ _); refine wp_getU _ (by rfl) (.tmp 11) rfl g2 u rfl (H3.at (x := (g2, uC u.sch u.host u.port u.path u.q u.f)) (by simp)) ?_; simp only [Act.put, List.setIfInBounds_toArray, List.set_cons_zero, List.set_cons_succ])
          | ((with_reducible show wpList _ _ _ (⟨some 96, .binOp .eql 24 _ _ _, _, _, _, _⟩ :: _) _ _); refine wp_eqU _ (by rfl) (.tmp 94) (.tmp 95) rfl u u rfl rfl true ⟨fun _ => rfl, fun _ => rfl⟩ ?_; simp only [Act.put, List.setIfInBounds_toArray, List.set_cons_zero, List.set_cons_succ]))
        go_ret
        exact ⟨by simp, H3.kp⟩
set_option maxHeartbeats 8000000 in
set_option maxRecDepth 100000 in
theorem dt_1 (u v : U) (l s P A U1 U2 U3 : List UInt8) (n : Int) (m S E E1 EU : Nat) (w : World) (hm : min (l.length : Int) 200 = (m : Int)) (hm2 : m ≤ l.length) (hts : (str l).extract 0 m = str s) (hsl : (str l).size = l.length) (hS : S = s.length) (hS2 : S ≤ 200) (hP : Hid (47 :: s.filter fd = P)) (hz : bits .and .i64 n 7 = 1) (HS : Hid (∀ w', Kept w w' → Calls Tryz.prog 13 #[] w' fun e w2 => e = .returned (.bool true) ∧ Below w'.heap.size w' w2)) (HU : Hid (∀ w', Kept w w' → Calls Tryz.prog 14 #[.string (str U1)] w' fun e w2 => e = .returned (.tuple #[.agg (uC u.sch u.host u.port u.path u.q u.f).toArray, .int .i64 0]) ∧ Below w'.heap.size w' w2)) (HV : Hid (∀ w', Kept w w' → Calls Tryz.prog 14 #[.string (str U2)] w' fun e w2 => e = .returned (.tuple #[.agg (uC u.sch u.host u.port u.path u.q u.f).toArray, .int .i64 0]) ∧ Below w'.heap.size w' w2)) (HW : Hid (∀ w', Kept w w' → Calls Tryz.prog 14 #[.string (str U3)] w' fun e w2 => e = .returned (.tuple #[.agg (uC v.sch v.host v.port v.path v.q v.f).toArray, .int .i64 0]) ∧ Below w'.heap.size w' w2)) (b1 : ⟨#[104, 116, 116, 112, 58, 47, 47, 97]⟩ ++ str P = str U1) (b2 : (⟨#[104, 116, 116, 112, 58, 47, 47, 97]⟩ : ByteArray) ++ ⟨#[47, 37, 50, 101]⟩ = str A) (b3 : str A ++ str P = str U2) (b4 : str U1 ++ ⟨#[47, 46, 46]⟩ = str U3) (r1 : ¬ (9223372036854775807 : Nat) < 8 + (str P).size) (r3 : ¬ (9223372036854775807 : Nat) < (str A).size + (str P).size) (r4 : ¬ (9223372036854775807 : Nat) < (str U1).size + 3) (hE : (str v.path).size = E) (hEU : (str u.path).size = EU) (h0 : 0 < EU) (hu0 : ∀ h, ((str u.path)[0]'h).toNat = 47) (hE1 : (E : Int) - 1 = (E1 : Int)) (hE2 : E1 < E) (hE3 : E ≤ EU + 1) (hEb : EU ≤ 1000000) (hv0 : ∀ h, ((str v.path)[E1]'h).toNat = 47) : Calls Tryz.prog 7 #[.string (str l), .int .i64 n] w fun e w' => e = .returned (.bool true) ∧ Below w.heap.size w w' := by
    have hsz := str_size s
    have hgb : Hid (∀ k, k < S → ∀ h, ((str s)[k]'h).toNat = (s.getD k 0).toNat) := fun k hk h => str_at s k (by omega) h
    have hon : Hid (∀ k, k < S → (str s).extract k (k + 1) = str [s.getD k 0]) := fun k hk => str_one s k (by omega)
    have hsu : Hid (∀ k, k < S → (s.take (k + 1)).filter fd = (s.take k).filter fd ++ (if fd (s.getD k 0) then [s.getD k 0] else [])) := fun k hk => fd_succ s k (by omega) _ rfl
    have hle : Hid (∀ k, ((s.take k).filter fd).length ≤ k) := fun k => Nat.le_trans (List.length_filter_le _ _) (by rw [List.length_take]; omega)
    have hall : Hid (47 :: (s.take S).filter fd = P) := by
      show _ = _
      rw [hS, List.take_length]
      exact hP.out
    rw [← hS] at hsz
    clear hS hP
    have hEU1 : (EU : Int) + 1 = ((EU + 1 : Nat) : Int) := by omega
    have h1E : (1 : Int) ≤ (E : Int) := by omega
    have hEE : (E : Int) ≤ (EU : Int) + 1 := by omega
    clear hEU1
    go_enter Tryz.func7, Tryz.ntmps7
    go_wp2_with (first
      | (go_at_call 13; (with_reducible refine (HS.out _ (Hl.nil w).kp).mono ?_); (rintro e w1 ⟨rfl, hb⟩; have H0 := (Hl.nil w).step hb; clear hb)))
    go_loop [7, 6] (fun i p => ∃ k : Nat, k ≤ S ∧ i = .int .i64 (k : Int) ∧ p = .string (str (47 :: (s.take k).filter fd))) (fun i _ => S - (intOf i).toNat)
    case atStart => exact ⟨0, by omega, rfl, rfl⟩
    case round =>
      obtain ⟨k, hk, rfl, rfl⟩ := hrel
      have hL := hle.out k
      by_cases hlt : k < S
      · have hkS : (k : Int) < (S : Int) := by omega
        have HG := hgb.out k hlt
        have HO := hon.out k hlt
        have HN := hsu.out k hlt
        obtain ⟨c, hc⟩ : ∃ c, c = s.getD k 0 := ⟨_, rfl⟩
        obtain ⟨b, hb⟩ : ∃ b, b = c.toNat := ⟨_, rfl⟩
        rw [← hc] at HG HO HN
        rw [← hb] at HG
        have hf : fd c = (decide (b ≠ 63) && decide (b ≠ 35) && decide (32 < b)) := by rw [hb]; rfl
        obtain ⟨X, hX⟩ : ∃ X, X = 47 :: (s.take k).filter fd := ⟨_, rfl⟩
        obtain ⟨Y, hY⟩ : ∃ X, X = 47 :: (s.take (k + 1)).filter fd := ⟨_, rfl⟩
        have hYX : Y = X ++ (if fd c then [c] else []) := by rw [hY, hX, HN, List.cons_append]
        have sX : (str X).size ≤ 201 := by rw [str_size, hX, List.length_cons]; omega
        have s1 : (str [c]).size = 1 := str_size _
        have aX : str X ++ str [c] = str (X ++ [c]) := str_add _ _
        rw [← hX]
        have HY := Lib.hid hY
        have hk1 : k + 1 ≤ S := hlt
        clear hc hb hX hY HN hL
        by_cases h1 : b = 63
        · have c1 : ((b : Int) != 63) = false := by simp [h1]
          have hYe : Hid (Y = X) := by show _ = _; rw [hYX, hf]; simp [h1]
          clear hYX hf h1 aX HO
          go_wp2_with fail
          go_round
          case rel => exact ⟨k + 1, by omega, by go_num, by rw [← HY.out, hYe.out]⟩
          case measure => simp [intOf]; omega
        · have c1 : ((b : Int) != 63) = true := by simp; omega
          by_cases h2 : b = 35
          · have c2 : ((b : Int) != 35) = false := by simp [h2]
            have hYe : Hid (Y = X) := by show _ = _; rw [hYX, hf]; simp [h2]
            clear hYX hf h1 h2 aX HO
            go_wp2_with fail
            go_round
            case rel => exact ⟨k + 1, by omega, by go_num, by rw [← HY.out, hYe.out]⟩
            case measure => simp [intOf]; omega
          · have c2 : ((b : Int) != 35) = true := by simp; omega
            by_cases h3 : 32 < b
            · have c3 : decide ((32 : Int) < (b : Int)) = true := by simp; omega
              have hYe : Hid (Y = X ++ [c]) := by show _ = _; rw [hYX, hf]; simp [h1, h2, h3]
              clear hYX hf h1 h2
              go_wp2_with fail
              go_round
              case rel => exact ⟨k + 1, by omega, by go_num, by rw [← HY.out, hYe.out]⟩
              case measure => simp [intOf]; omega
            · have c3 : decide ((32 : Int) < (b : Int)) = false := by simp; omega
              have hYe : Hid (Y = X) := by show _ = _; rw [hYX, hf]; simp [h3]
              clear hYX hf h1 h2 h3 aX HO
              go_wp2_with fail
              go_round
              case rel => exact ⟨k + 1, by omega, by go_num, by rw [← HY.out, hYe.out]⟩
              case measure => simp [intOf]; omega
      · have hkS : ¬ (k : Int) < (S : Int) := by omega
        obtain rfl : k = S := by omega
        rw [hall.out]
        clear hlt hall hk hL
        go_wp2_with (first
          | (go_at_call 14; (with_reducible refine (HU.out _ H0.kp).mono ?_); (rintro e wa1 ⟨rfl, hb⟩; have G1 := H0.step hb; clear hb))
          | ((with_reducible show wpList _ _ _ (⟨some 8, .alloc _, _, _, _, _⟩ :: _) _ _); refine wp_new _ rfl 24 rfl _ z24 ?_; intro wb1 g1 B1 F1; simp only [Act.put, List.setIfInBounds_toArray, List.set_cons_zero, List.set_cons_succ])
          | ((with_reducible show wpList _ _ _ (⟨none, .store 24 (.tmp 8) (.tmp 55), _, _, _, _⟩ :: _) _ _); refine wp_putAll _ rfl 24 (.tmp 8) (.tmp 55) rfl g1 24 _ (uC u.sch u.host u.port u.path u.q u.f) rfl rfl B1 rfl n24 (uC_one _ _ _ _ _ _) ?_; intro wc1 B U; simp only [Act.put]; have H1 := G1.new F1 U B; clear B U F1 B1 G1)
          | (go_at_call 14; (with_reducible refine (HV.out _ (H1.kp.alloc _)).mono ?_); (rintro e wa2 ⟨rfl, hb⟩; have G2 := H1.alloc.step hb; clear hb))
          | ((with_reducible show wpList _ _ _ (⟨some 11, .alloc _, _, _, _, _⟩ :: _) _ _); refine wp_new _ rfl 24 rfl _ z24 ?_; intro wb2 g2 B2 F2; simp only [Act.put, List.setIfInBounds_toArray, List.set_cons_zero, List.set_cons_succ])
          | ((with_reducible show wpList _ _ _ (⟨none, .store 24 (.tmp 11) (.tmp 68), _, _, _, _⟩ :: _) _ _); refine wp_putAll _ rfl 24 (.tmp 11) (.tmp 68) rfl g2 24 _ (uC u.sch u.host u.port u.path u.q u.f) rfl rfl B2 rfl n24 (uC_one _ _ _ _ _ _) ?_; intro wc2 B U; simp only [Act.put]; have H2 := G2.new F2 U B; clear B U F2 B2 G2)
          | (go_at_call 14; (with_reducible refine (HW.out _ H2.kp).mono ?_); (rintro e wa3 ⟨rfl, hb⟩; have G3 := H2.step hb; clear hb))
          | ((with_reducible show wpList _ _ _ (⟨some 13, .alloc _, _, _, _, _⟩ :: _) _ _); refine wp_new _ rfl 24 rfl _ z24 ?_; intro wb3 g3 B3 F3; simp only [Act.put, List.setIfInBounds_toArray, List.set_cons_zero, List.set_cons_succ])
          | ((with_reducible show wpList _ _ _ (⟨none, .store 24 (.tmp 13) (.tmp 75), _, _, _, _⟩ :: _) _ _); refine wp_putAll _ rfl 24 (.tmp 13) (.tmp 75) rfl g3 24 _ (uC v.sch v.host v.port v.path v.q v.f) rfl rfl B3 rfl n24 (uC_one _ _ _ _ _ _) ?_; intro wc3 B U; simp only [Act.put]; have H3 := G3.new F3 U B; clear B U F3 B3 G3; have d2 : wc3.cell? ⟨g3, 3, none⟩ = some (.string (str v.path)) := (H3.at (x := (g3, uC v.sch v.host v.port v.path v.q v.f)) (by simp)).cell rfl; have e2 : wc3.cell? ⟨g1, 3, none⟩ = some (.string (str u.path)) := (H3.at (x := (g1, uC u.sch u.host u.port u.path u.q u.f)) (by simp)).cell rfl)
          | ((with_reducible show wpList _ _ _ (⟨some 94, .load 24 (.tmp 8), _, _, _, _⟩ :: _) _ _); refine wp_getU _ (by rfl) (.tmp 8) rfl g1 u rfl (H3.at (x := (g1, uC u.sch u.host u.port u.path u.q u.f)) (by simp)) ?_; simp only [Act.put, List.setIfInBounds_toArray, List.set_cons_zero, List.set_cons_succ])
          | ((with_reducible show wpList _ _ _ (⟨some 95, .load 24 (.tmp 11), _, _, _, _⟩ :: _) _ _); refine wp_getU _ (by rfl) (.tmp 11) rfl g2 u rfl (H3.at (x := (g2, uC u.sch u.host u.port u.path u.q u.f)) (by simp)) ?_; simp only [Act.put, List.setIfInBounds_toArray, List.set_cons_zero, List.set_cons_succ])
          | ((with_reducible show wpList _ _ _ (⟨some 96, .binOp .eql 24 _ _ _, _, _, _, _⟩ :: _) _ _); refine wp_eqU _ (by rfl) (.tmp 94) (.tmp 95) rfl u u rfl rfl true ⟨fun _ => rfl, fun _ => rfl⟩ ?_; simp only [Act.put, List.setIfInBounds_toArray, List.set_cons_zero, List.set_cons_succ]))
        go_ret
        exact ⟨by simp, H3.kp⟩
set_option maxHeartbeats 8000000 in
set_option maxRecDepth 100000 in
theorem dt_2 (u v : U) (l s P A U1 U2 U3 : List UInt8) (n : Int) (m S E E1 EU : Nat) (w : World) (hm : min (l.length : Int) 200 = (m : Int)) (hm2 : m ≤ l.length) (hts : (str l).extract 0 m = str s) (hsl : (str l).size = l.length) (hS : S = s.length) (hS2 : S ≤ 200) (hP : Hid (47 :: s.filter fd = P)) (hz : bits .and .i64 n 7 = 2) (HS : Hid (∀ w', Kept w w' → Calls Tryz.prog 13 #[] w' fun e w2 => e = .returned (.bool true) ∧ Below w'.heap.size w' w2)) (HU : Hid (∀ w', Kept w w' → Calls Tryz.prog 14 #[.string (str U1)] w' fun e w2 => e = .returned (.tuple #[.agg (uC u.sch u.host u.port u.path u.q u.f).toArray, .int .i64 0]) ∧ Below w'.heap.size w' w2)) (HV : Hid (∀ w', Kept w w' → Calls Tryz.prog 14 #[.string (str U2)] w' fun e w2 => e = .returned (.tuple #[.agg (uC u.sch u.host u.port u.path u.q u.f).toArray, .int .i64 0]) ∧ Below w'.heap.size w' w2)) (HW : Hid (∀ w', Kept w w' → Calls Tryz.prog 14 #[.string (str U3)] w' fun e w2 => e = .returned (.tuple #[.agg (uC v.sch v.host v.port v.path v.q v.f).toArray, .int .i64 0]) ∧ Below w'.heap.size w' w2)) (b1 : ⟨#[104, 116, 116, 112, 58, 47, 47, 97]⟩ ++ str P = str U1) (b2 : (⟨#[104, 116, 116, 112, 58, 47, 47, 97]⟩ : ByteArray) ++ ⟨#[47, 120, 47, 46, 46]⟩ = str A) (b3 : str A ++ str P = str U2) (b4 : str U1 ++ ⟨#[47, 46, 46]⟩ = str U3) (r1 : ¬ (9223372036854775807 : Nat) < 8 + (str P).size) (r3 : ¬ (9223372036854775807 : Nat) < (str A).size + (str P).size) (r4 : ¬ (9223372036854775807 : Nat) < (str U1).size + 3) (hE : (str v.path).size = E) (hEU : (str u.path).size = EU) (h0 : 0 < EU) (hu0 : ∀ h, ((str u.path)[0]'h).toNat = 47) (hE1 : (E : Int) - 1 = (E1 : Int)) (hE2 : E1 < E) (hE3 : E ≤ EU + 1) (hEb : EU ≤ 1000000) (hv0 : ∀ h, ((str v.path)[E1]'h).toNat = 47) : Calls Tryz.prog 7 #[.string (str l), .int .i64 n] w fun e w' => e = .returned (.bool true) ∧ Below w.heap.size w w' := by
    have hsz := str_size s
    have hgb : Hid (∀ k, k < S → ∀ h, ((str s)[k]'h).toNat = (s.getD k 0).toNat) := fun k hk h => str_at s k (by omega) h
    have hon : Hid (∀ k, k < S → (str s).extract k (k + 1) = str [s.getD k 0]) := fun k hk => str_one s k (by omega)
    have hsu : Hid (∀ k, k < S → (s.take (k + 1)).filter fd = (s.take k).filter fd ++ (if fd (s.getD k 0) then [s.getD k 0] else [])) := fun k hk => fd_succ s k (by omega) _ rfl
    have hle : Hid (∀ k, ((s.take k).filter fd).length ≤ k) := fun k => Nat.le_trans (List.length_filter_le _ _) (by rw [List.length_take]; omega)
    have hall : Hid (47 :: (s.take S).filter fd = P) := by
      show _ = _
      rw [hS, List.take_length]
      exact hP.out
    rw [← hS] at hsz
    clear hS hP
    have hEU1 : (EU : Int) + 1 = ((EU + 1 : Nat) : Int) := by omega
    have h1E : (1 : Int) ≤ (E : Int) := by omega
    have hEE : (E : Int) ≤ (EU : Int) + 1 := by omega
    clear hEU1
    go_enter Tryz.func7, Tryz.ntmps7
    go_wp2_with (first
      | (go_at_call 13; (with_reducible refine (HS.out _ (Hl.nil w).kp).mono ?_); (rintro e w1 ⟨rfl, hb⟩; have H0 := (Hl.nil w).step hb; clear hb)))
    go_loop [7, 6] (fun i p => ∃ k : Nat, k ≤ S ∧ i = .int .i64 (k : Int) ∧ p = .string (str (47 :: (s.take k).filter fd))) (fun i _ => S - (intOf i).toNat)
    case atStart => exact ⟨0, by omega, rfl, rfl⟩
    case round =>
      obtain ⟨k, hk, rfl, rfl⟩ := hrel
      have hL := hle.out k
      by_cases hlt : k < S
      · have hkS : (k : Int) < (S : Int) := by omega
        have HG := hgb.out k hlt
        have HO := hon.out k hlt
        have HN := hsu.out k hlt
        obtain ⟨c, hc⟩ : ∃ c, c = s.getD k 0 := ⟨_, rfl⟩
        obtain ⟨b, hb⟩ : ∃ b, b = c.toNat := ⟨_, rfl⟩
        rw [← hc] at HG HO HN
        rw [← hb] at HG
        have hf : fd c = (decide (b ≠ 63) && decide (b ≠ 35) && decide (32 < b)) := by rw [hb]; rfl
        obtain ⟨X, hX⟩ : ∃ X, X = 47 :: (s.take k).filter fd := ⟨_, rfl⟩
        obtain ⟨Y, hY⟩ : ∃ X, X = 47 :: (s.take (k + 1)).filter fd := ⟨_, rfl⟩
        have hYX : Y = X ++ (if fd c then [c] else []) := by rw [hY, hX, HN, List.cons_append]
        have sX : (str X).size ≤ 201 := by rw [str_size, hX, List.length_cons]; omega
        have s1 : (str [c]).size = 1 := str_size _
        have aX : str X ++ str [c] = str (X ++ [c]) := str_add _ _
        rw [← hX]
        have HY := Lib.hid hY
        have hk1 : k + 1 ≤ S := hlt
        clear hc hb hX hY HN hL
        by_cases h1 : b = 63
        · have c1 : ((b : Int) != 63) = false := by simp [h1]
          have hYe : Hid (Y = X) := by show _ = _; rw [hYX, hf]; simp [h1]
          clear hYX hf h1 aX HO
          go_wp2_with fail
          go_round
          case rel => exact ⟨k + 1, by omega, by go_num, by rw [← HY.out, hYe.out]⟩
          case measure => simp [intOf]; omega
        · have c1 : ((b : Int) != 63) = true := by simp; omega
          by_cases h2 : b = 35
          · have c2 : ((b : Int) != 35) = false := by simp [h2]
            have hYe : Hid (Y = X) := by show _ = _; rw [hYX, hf]; simp [h2]
            clear hYX hf h1 h2 aX HO
            go_wp2_with fail
            go_round
            case rel => exact ⟨k + 1, by omega, by go_num, by rw [← HY.out, hYe.out]⟩
            case measure => simp [intOf]; omega
          · have c2 : ((b : Int) != 35) = true := by simp; omega
            by_cases h3 : 32 < b
            · have c3 : decide ((32 : Int) < (b : Int)) = true := by simp; omega
              have hYe : Hid (Y = X ++ [c]) := by show _ = _; rw [hYX, hf]; simp [h1, h2, h3]
              clear hYX hf h1 h2
              go_wp2_with fail
              go_round
              case rel => exact ⟨k + 1, by omega, by go_num, by rw [← HY.out, hYe.out]⟩
              case measure => simp [intOf]; omega
            · have c3 : decide ((32 : Int) < (b : Int)) = false := by simp; omega
              have hYe : Hid (Y = X) := by show _ = _; rw [hYX, hf]; simp [h3]
              clear hYX hf h1 h2 h3 aX HO
              go_wp2_with fail
              go_round
              case rel => exact ⟨k + 1, by omega, by go_num, by rw [← HY.out, hYe.out]⟩
              case measure => simp [intOf]; omega
      · have hkS : ¬ (k : Int) < (S : Int) := by omega
        obtain rfl : k = S := by omega
        rw [hall.out]
        clear hlt hall hk hL
        go_wp2_with (first
          | (go_at_call 14; (with_reducible refine (HU.out _ H0.kp).mono ?_); (rintro e wa1 ⟨rfl, hb⟩; have G1 := H0.step hb; clear hb))
          | ((with_reducible show wpList _ _ _ (⟨some 8, .alloc _, _, _, _, _⟩ :: _) _ _); refine wp_new _ rfl 24 rfl _ z24 ?_; intro wb1 g1 B1 F1; simp only [Act.put, List.setIfInBounds_toArray, List.set_cons_zero, List.set_cons_succ])
          | ((with_reducible show wpList _ _ _ (⟨none, .store 24 (.tmp 8) (.tmp 55), _, _, _, _⟩ :: _) _ _); refine wp_putAll _ rfl 24 (.tmp 8) (.tmp 55) rfl g1 24 _ (uC u.sch u.host u.port u.path u.q u.f) rfl rfl B1 rfl n24 (uC_one _ _ _ _ _ _) ?_; intro wc1 B U; simp only [Act.put]; have H1 := G1.new F1 U B; clear B U F1 B1 G1)
          | (go_at_call 14; (with_reducible refine (HV.out _ (H1.kp.alloc _)).mono ?_); (rintro e wa2 ⟨rfl, hb⟩; have G2 := H1.alloc.step hb; clear hb))
          | ((with_reducible show wpList _ _ _ (⟨some 11, .alloc _, _, _, _, _⟩ :: _) _ _); refine wp_new _ rfl 24 rfl _ z24 ?_; intro wb2 g2 B2 F2; simp only [Act.put, List.setIfInBounds_toArray, List.set_cons_zero, List.set_cons_succ])
          | ((with_reducible show wpList _ _ _ (⟨none, .store 24 (.tmp 11) (.tmp 68), _, _, _, _⟩ :: _) _ _); refine wp_putAll _ rfl 24 (.tmp 11) (.tmp 68) rfl g2 24 _ (uC u.sch u.host u.port u.path u.q u.f) rfl rfl B2 rfl n24 (uC_one _ _ _ _ _ _) ?_; intro wc2 B U; simp only [Act.put]; have H2 := G2.new F2 U B; clear B U F2 B2 G2)
          | (go_at_call 14; (with_reducible refine (HW.out _ H2.kp).mono ?_); (rintro e wa3 ⟨rfl, hb⟩; have G3 := H2.step hb; clear hb))
          | ((with_reducible show wpList _ _ _ (⟨some 13, .alloc _, _, _, _, _⟩ :: _) _ _); refine wp_new _ rfl 24 rfl _ z24 ?_; intro wb3 g3 B3 F3; simp only [Act.put, List.setIfInBounds_toArray, List.set_cons_zero, List.set_cons_succ])
          | ((with_reducible show wpList _ _ _ (⟨none, .store 24 (.tmp 13) (.tmp 75), _, _, _, _⟩ :: _) _ _); refine wp_putAll _ rfl 24 (.tmp 13) (.tmp 75) rfl g3 24 _ (uC v.sch v.host v.port v.path v.q v.f) rfl rfl B3 rfl n24 (uC_one _ _ _ _ _ _) ?_; intro wc3 B U; simp only [Act.put]; have H3 := G3.new F3 U B; clear B U F3 B3 G3; have d2 : wc3.cell? ⟨g3, 3, none⟩ = some (.string (str v.path)) := (H3.at (x := (g3, uC v.sch v.host v.port v.path v.q v.f)) (by simp)).cell rfl; have e2 : wc3.cell? ⟨g1, 3, none⟩ = some (.string (str u.path)) := (H3.at (x := (g1, uC u.sch u.host u.port u.path u.q u.f)) (by simp)).cell rfl)
          | ((with_reducible show wpList _ _ _ (⟨some 94, .load 24 (.tmp 8), _, _, _, _⟩ :: _) _ _); refine wp_getU _ (by rfl) (.tmp 8) rfl g1 u rfl (H3.at (x := (g1, uC u.sch u.host u.port u.path u.q u.f)) (by simp)) ?_; simp only [Act.put, List.setIfInBounds_toArray, List.set_cons_zero, List.set_cons_succ])
          | ((with_reducible show wpList _ _ _ (⟨some 95, .load 24 (.tmp 11), _, _, _, _⟩ :: _) _ _); refine wp_getU _ (by rfl) (.tmp 11) rfl g2 u rfl (H3.at (x := (g2, uC u.sch u.host u.port u.path u.q u.f)) (by simp)) ?_; simp only [Act.put, List.setIfInBounds_toArray, List.set_cons_zero, List.set_cons_succ])
          | ((with_reducible show wpList _ _ _ (⟨some 96, .binOp .eql 24 _ _ _, _, _, _, _⟩ :: _) _ _); refine wp_eqU _ (by rfl) (.tmp 94) (.tmp 95) rfl u u rfl rfl true ⟨fun _ => rfl, fun _ => rfl⟩ ?_; simp only [Act.put, List.setIfInBounds_toArray, List.set_cons_zero, List.set_cons_succ]))
        go_ret
        exact ⟨by simp, H3.kp⟩
set_option maxHeartbeats 8000000 in
set_option maxRecDepth 100000 in
theorem dt_3 (u v : U) (l s P A U1 U2 U3 : List UInt8) (n : Int) (m S E E1 EU : Nat) (w : World) (hm : min (l.length : Int) 200 = (m : Int)) (hm2 : m ≤ l.length) (hts : (str l).extract 0 m = str s) (hsl : (str l).size = l.length) (hS : S = s.length) (hS2 : S ≤ 200) (hP : Hid (47 :: s.filter fd = P)) (hz : bits .and .i64 n 7 = 3) (HS : Hid (∀ w', Kept w w' → Calls Tryz.prog 13 #[] w' fun e w2 => e = .returned (.bool true) ∧ Below w'.heap.size w' w2)) (HU : Hid (∀ w', Kept w w' → Calls Tryz.prog 14 #[.string (str U1)] w' fun e w2 => e = .returned (.tuple #[.agg (uC u.sch u.host u.port u.path u.q u.f).toArray, .int .i64 0]) ∧ Below w'.heap.size w' w2)) (HV : Hid (∀ w', Kept w w' → Calls Tryz.prog 14 #[.string (str U2)] w' fun e w2 => e = .returned (.tuple #[.agg (uC u.sch u.host u.port u.path u.q u.f).toArray, .int .i64 0]) ∧ Below w'.heap.size w' w2)) (HW : Hid (∀ w', Kept w w' → Calls Tryz.prog 14 #[.string (str U3)] w' fun e w2 => e = .returned (.tuple #[.agg (uC v.sch v.host v.port v.path v.q v.f).toArray, .int .i64 0]) ∧ Below w'.heap.size w' w2)) (b1 : ⟨#[104, 116, 116, 112, 58, 47, 47, 97]⟩ ++ str P = str U1) (b2 : (⟨#[104, 116, 116, 112, 58, 47, 47, 97]⟩ : ByteArray) ++ ⟨#[47, 120, 47, 46, 37, 50, 69]⟩ = str A) (b3 : str A ++ str P = str U2) (b4 : str U1 ++ ⟨#[47, 46, 46]⟩ = str U3) (r1 : ¬ (9223372036854775807 : Nat) < 8 + (str P).size) (r3 : ¬ (9223372036854775807 : Nat) < (str A).size + (str P).size) (r4 : ¬ (9223372036854775807 : Nat) < (str U1).size + 3) (hE : (str v.path).size = E) (hEU : (str u.path).size = EU) (h0 : 0 < EU) (hu0 : ∀ h, ((str u.path)[0]'h).toNat = 47) (hE1 : (E : Int) - 1 = (E1 : Int)) (hE2 : E1 < E) (hE3 : E ≤ EU + 1) (hEb : EU ≤ 1000000) (hv0 : ∀ h, ((str v.path)[E1]'h).toNat = 47) : Calls Tryz.prog 7 #[.string (str l), .int .i64 n] w fun e w' => e = .returned (.bool true) ∧ Below w.heap.size w w' := by
    have hsz := str_size s
    have hgb : Hid (∀ k, k < S → ∀ h, ((str s)[k]'h).toNat = (s.getD k 0).toNat) := fun k hk h => str_at s k (by omega) h
    have hon : Hid (∀ k, k < S → (str s).extract k (k + 1) = str [s.getD k 0]) := fun k hk => str_one s k (by omega)
    have hsu : Hid (∀ k, k < S → (s.take (k + 1)).filter fd = (s.take k).filter fd ++ (if fd (s.getD k 0) then [s.getD k 0] else [])) := fun k hk => fd_succ s k (by omega) _ rfl
    have hle : Hid (∀ k, ((s.take k).filter fd).length ≤ k) := fun k => Nat.le_trans (List.length_filter_le _ _) (by rw [List.length_take]; omega)
    have hall : Hid (47 :: (s.take S).filter fd = P) := by
      show _ = _
      rw [hS, List.take_length]
      exact hP.out
    rw [← hS] at hsz
    clear hS hP
    have hEU1 : (EU : Int) + 1 = ((EU + 1 : Nat) : Int) := by omega
    have h1E : (1 : Int) ≤ (E : Int) := by omega
    have hEE : (E : Int) ≤ (EU : Int) + 1 := by omega
    clear hEU1
    go_enter Tryz.func7, Tryz.ntmps7
    go_wp2_with (first
      | (go_at_call 13; (with_reducible refine (HS.out _ (Hl.nil w).kp).mono ?_); (rintro e w1 ⟨rfl, hb⟩; have H0 := (Hl.nil w).step hb; clear hb)))
    go_loop [7, 6] (fun i p => ∃ k : Nat, k ≤ S ∧ i = .int .i64 (k : Int) ∧ p = .string (str (47 :: (s.take k).filter fd))) (fun i _ => S - (intOf i).toNat)
    case atStart => exact ⟨0, by omega, rfl, rfl⟩
    case round =>
      obtain ⟨k, hk, rfl, rfl⟩ := hrel
      have hL := hle.out k
      by_cases hlt : k < S
      · have hkS : (k : Int) < (S : Int) := by omega
        have HG := hgb.out k hlt
        have HO := hon.out k hlt
        have HN := hsu.out k hlt
        obtain ⟨c, hc⟩ : ∃ c, c = s.getD k 0 := ⟨_, rfl⟩
        obtain ⟨b, hb⟩ : ∃ b, b = c.toNat := ⟨_, rfl⟩
        rw [← hc] at HG HO HN
        rw [← hb] at HG
        have hf : fd c = (decide (b ≠ 63) && decide (b ≠ 35) && decide (32 < b)) := by rw [hb]; rfl
        obtain ⟨X, hX⟩ : ∃ X, X = 47 :: (s.take k).filter fd := ⟨_, rfl⟩
        obtain ⟨Y, hY⟩ : ∃ X, X = 47 :: (s.take (k + 1)).filter fd := ⟨_, rfl⟩
        have hYX : Y = X ++ (if fd c then [c] else []) := by rw [hY, hX, HN, List.cons_append]
        have sX : (str X).size ≤ 201 := by rw [str_size, hX, List.length_cons]; omega
        have s1 : (str [c]).size = 1 := str_size _
        have aX : str X ++ str [c] = str (X ++ [c]) := str_add _ _
        rw [← hX]
        have HY := Lib.hid hY
        have hk1 : k + 1 ≤ S := hlt
        clear hc hb hX hY HN hL
        by_cases h1 : b = 63
        · have c1 : ((b : Int) != 63) = false := by simp [h1]
          have hYe : Hid (Y = X) := by show _ = _; rw [hYX, hf]; simp [h1]
          clear hYX hf h1 aX HO
          go_wp2_with fail
          go_round
          case rel => exact ⟨k + 1, by omega, by go_num, by rw [← HY.out, hYe.out]⟩
          case measure => simp [intOf]; omega
        · have c1 : ((b : Int) != 63) = true := by simp; omega
          by_cases h2 : b = 35
          · have c2 : ((b : Int) != 35) = false := by simp [h2]
            have hYe : Hid (Y = X) := by show _ = _; rw [hYX, hf]; simp [h2]
            clear hYX hf h1 h2 aX HO
            go_wp2_with fail
            go_round
            case rel => exact ⟨k + 1, by omega, by go_num, by rw [← HY.out, hYe.out]⟩
            case measure => simp [intOf]; omega
          · have c2 : ((b : Int) != 35) = true := by simp; omega
            by_cases h3 : 32 < b
            · have c3 : decide ((32 : Int) < (b : Int)) = true := by simp; omega
              have hYe : Hid (Y = X ++ [c]) := by show _ = _; rw [hYX, hf]; simp [h1, h2, h3]
              clear hYX hf h1 h2
              go_wp2_with fail
              go_round
              case rel => exact ⟨k + 1, by omega, by go_num, by rw [← HY.out, hYe.out]⟩
              case measure => simp [intOf]; omega
            · have c3 : decide ((32 : Int) < (b : Int)) = false := by simp; omega
              have hYe : Hid (Y = X) := by show _ = _; rw [hYX, hf]; simp [h3]
              clear hYX hf h1 h2 h3 aX HO
              go_wp2_with fail
              go_round
              case rel => exact ⟨k + 1, by omega, by go_num, by rw [← HY.out, hYe.out]⟩
              case measure => simp [intOf]; omega
      · have hkS : ¬ (k : Int) < (S : Int) := by omega
        obtain rfl : k = S := by omega
        rw [hall.out]
        clear hlt hall hk hL
        go_wp2_with (first
          | (go_at_call 14; (with_reducible refine (HU.out _ H0.kp).mono ?_); (rintro e wa1 ⟨rfl, hb⟩; have G1 := H0.step hb; clear hb))
          | ((with_reducible show wpList _ _ _ (⟨some 8, .alloc _, _, _, _, _⟩ :: _) _ _); refine wp_new _ rfl 24 rfl _ z24 ?_; intro wb1 g1 B1 F1; simp only [Act.put, List.setIfInBounds_toArray, List.set_cons_zero, List.set_cons_succ])
          | ((with_reducible show wpList _ _ _ (⟨none, .store 24 (.tmp 8) (.tmp 55), _, _, _, _⟩ :: _) _ _); refine wp_putAll _ rfl 24 (.tmp 8) (.tmp 55) rfl g1 24 _ (uC u.sch u.host u.port u.path u.q u.f) rfl rfl B1 rfl n24 (uC_one _ _ _ _ _ _) ?_; intro wc1 B U; simp only [Act.put]; have H1 := G1.new F1 U B; clear B U F1 B1 G1)
          | (go_at_call 14; (with_reducible refine (HV.out _ (H1.kp.alloc _)).mono ?_); (rintro e wa2 ⟨rfl, hb⟩; have G2 := H1.alloc.step hb; clear hb))
          | ((with_reducible show wpList _ _ _ (⟨some 11, .alloc _, _, _, _, _⟩ :: _) _ _); refine wp_new _ rfl 24 rfl _ z24 ?_; intro wb2 g2 B2 F2; simp only [Act.put, List.setIfInBounds_toArray, List.set_cons_zero, List.set_cons_succ])
          | ((with_reducible show wpList _ _ _ (⟨none, .store 24 (.tmp 11) (.tmp 68), _, _, _, _⟩ :: _) _ _); refine wp_putAll _ rfl 24 (.tmp 11) (.tmp 68) rfl g2 24 _ (uC u.sch u.host u.port u.path u.q u.f) rfl rfl B2 rfl n24 (uC_one _ _ _ _ _ _) ?_; intro wc2 B U; simp only [Act.put]; have H2 := G2.new F2 U B; clear B U F2 B2 G2)
          | (go_at_call 14; (with_reducible refine (HW.out _ H2.kp).mono ?_); (rintro e wa3 ⟨rfl, hb⟩; have G3 := H2.step hb; clear hb))
          | ((with_reducible show wpList _ _ _ (⟨some 13, .alloc _, _, _, _, _⟩ :: _) _ _); refine wp_new _ rfl 24 rfl _ z24 ?_; intro wb3 g3 B3 F3; simp only [Act.put, List.setIfInBounds_toArray, List.set_cons_zero, List.set_cons_succ])
          | ((with_reducible show wpList _ _ _ (⟨none, .store 24 (.tmp 13) (.tmp 75), _, _, _, _⟩ :: _) _ _); refine wp_putAll _ rfl 24 (.tmp 13) (.tmp 75) rfl g3 24 _ (uC v.sch v.host v.port v.path v.q v.f) rfl rfl B3 rfl n24 (uC_one _ _ _ _ _ _) ?_; intro wc3 B U; simp only [Act.put]; have H3 := G3.new F3 U B; clear B U F3 B3 G3; have d2 : wc3.cell? ⟨g3, 3, none⟩ = some (.string (str v.path)) := (H3.at (x := (g3, uC v.sch v.host v.port v.path v.q v.f)) (by simp)).cell rfl; have e2 : wc3.cell? ⟨g1, 3, none⟩ = some (.string (str u.path)) := (H3.at (x := (g1, uC u.sch u.host u.port u.path u.q u.f)) (by simp)).cell rfl)
          | ((with_reducible show wpList _ _ _ (⟨some 94, .load 24 (.tmp 8), _, _, _, _⟩ :: _) _ _); refine wp_getU _ (by rfl) (.tmp 8) rfl g1 u rfl (H3.at (x := (g1, uC u.sch u.host u.port u.path u.q u.f)) (by simp)) ?_; simp only [Act.put, List.setIfInBounds_toArray, List.set_cons_zero, List.set_cons_succ])
          | ((with_reducible show wpList _ _ _ (⟨some 95, .load 24 (.tmp 11), _, _, _, _⟩ :: _) _ _); refine wp_getU _ (by rfl) (.tmp 11) rfl g2 u rfl (H3.at (x := (g2, uC u.sch u.host u.port u.path u.q u.f)) (by simp)) ?_; simp only [Act.put, List.setIfInBounds_toArray, List.set_cons_zero, List.set_cons_succ])
          | ((with_reducible show wpList _ _ _ (⟨some 96, .binOp .eql 24 _ _ _, _, _, _, _⟩ :: _) _ _); refine wp_eqU _ (by rfl) (.tmp 94) (.tmp 95) rfl u u rfl rfl true ⟨fun _ => rfl, fun _ => rfl⟩ ?_; simp only [Act.put, List.setIfInBounds_toArray, List.set_cons_zero, List.set_cons_succ]))
        go_ret
        exact ⟨by simp, H3.kp⟩
set_option maxHeartbeats 8000000 in
set_option maxRecDepth 100000 in
theorem dt_4 (u v : U) (l s P A U1 U2 U3 : List UInt8) (n : Int) (m S E E1 EU : Nat) (w : World) (hm : min (l.length : Int) 200 = (m : Int)) (hm2 : m ≤ l.length) (hts : (str l).extract 0 m = str s) (hsl : (str l).size = l.length) (hS : S = s.length) (hS2 : S ≤ 200) (hP : Hid (47 :: s.filter fd = P)) (hz : bits .and .i64 n 7 = 4) (HS : Hid (∀ w', Kept w w' → Calls Tryz.prog 13 #[] w' fun e w2 => e = .returned (.bool true) ∧ Below w'.heap.size w' w2)) (HU : Hid (∀ w', Kept w w' → Calls Tryz.prog 14 #[.string (str U1)] w' fun e w2 => e = .returned (.tuple #[.agg (uC u.sch u.host u.port u.path u.q u.f).toArray, .int .i64 0]) ∧ Below w'.heap.size w' w2)) (HV : Hid (∀ w', Kept w w' → Calls Tryz.prog 14 #[.string (str U2)] w' fun e w2 => e = .returned (.tuple #[.agg (uC u.sch u.host u.port u.path u.q u.f).toArray, .int .i64 0]) ∧ Below w'.heap.size w' w2)) (HW : Hid (∀ w', Kept w w' → Calls Tryz.prog 14 #[.string (str U3)] w' fun e w2 => e = .returned (.tuple #[.agg (uC v.sch v.host v.port v.path v.q v.f).toArray, .int .i64 0]) ∧ Below w'.heap.size w' w2)) (b1 : ⟨#[104, 116, 116, 112, 58, 47, 47, 97]⟩ ++ str P = str U1) (b2 : (⟨#[104, 116, 116, 112, 58, 47, 47, 97]⟩ : ByteArray) ++ ⟨#[47, 37, 50, 101, 37, 50, 101]⟩ = str A) (b3 : str A ++ str P = str U2) (b4 : str U1 ++ ⟨#[47, 46, 46]⟩ = str U3) (r1 : ¬ (9223372036854775807 : Nat) < 8 + (str P).size) (r3 : ¬ (9223372036854775807 : Nat) < (str A).size + (str P).size) (r4 : ¬ (9223372036854775807 : Nat) < (str U1).size + 3) (hE : (str v.path).size = E) (hEU : (str u.path).size = EU) (h0 : 0 < EU) (hu0 : ∀ h, ((str u.path)[0]'h).toNat = 47) (hE1 : (E : Int) - 1 = (E1 : Int)) (hE2 : E1 < E) (hE3 : E ≤ EU + 1) (hEb : EU ≤ 1000000) (hv0 : ∀ h, ((str v.path)[E1]'h).toNat = 47) : Calls Tryz.prog 7 #[.string (str l), .int .i64 n] w fun e w' => e = .returned (.bool true) ∧ Below w.heap.size w w' := by
    have hsz := str_size s
    have hgb : Hid (∀ k, k < S → ∀ h, ((str s)[k]'h).toNat = (s.getD k 0).toNat) := fun k hk h => str_at s k (by omega) h
    have hon : Hid (∀ k, k < S → (str s).extract k (k + 1) = str [s.getD k 0]) := fun k hk => str_one s k (by omega)
    have hsu : Hid (∀ k, k < S → (s.take (k + 1)).filter fd = (s.take k).filter fd ++ (if fd (s.getD k 0) then [s.getD k 0] else [])) := fun k hk => fd_succ s k (by omega) _ rfl
    have hle : Hid (∀ k, ((s.take k).filter fd).length ≤ k) := fun k => Nat.le_trans (List.length_filter_le _ _) (by rw [List.length_take]; omega)
    have hall : Hid (47 :: (s.take S).filter fd = P) := by
      show _ = _
      rw [hS, List.take_length]
      exact hP.out
    rw [← hS] at hsz
    clear hS hP
    have hEU1 : (EU : Int) + 1 = ((EU + 1 : Nat) : Int) := by omega
    have h1E : (1 : Int) ≤ (E : Int) := by omega
    have hEE : (E : Int) ≤ (EU : Int) + 1 := by omega
    clear hEU1
    go_enter Tryz.func7, Tryz.ntmps7
    go_wp2_with (first
      | (go_at_call 13; (with_reducible refine (HS.out _ (Hl.nil w).kp).mono ?_); (rintro e w1 ⟨rfl, hb⟩; have H0 := (Hl.nil w).step hb; clear hb)))
    go_loop [7, 6] (fun i p => ∃ k : Nat, k ≤ S ∧ i = .int .i64 (k : Int) ∧ p = .string (str (47 :: (s.take k).filter fd))) (fun i _ => S - (intOf i).toNat)
    case atStart => exact ⟨0, by omega, rfl, rfl⟩
    case round =>
      obtain ⟨k, hk, rfl, rfl⟩ := hrel
      have hL := hle.out k
      by_cases hlt : k < S
      · have hkS : (k : Int) < (S : Int) := by omega
        have HG := hgb.out k hlt
        have HO := hon.out k hlt
        have HN := hsu.out k hlt
        obtain ⟨c, hc⟩ : ∃ c, c = s.getD k 0 := ⟨_, rfl⟩
        obtain ⟨b, hb⟩ : ∃ b, b = c.toNat := ⟨_, rfl⟩
        rw [← hc] at HG HO HN
        rw [← hb] at HG
        have hf : fd c = (decide (b ≠ 63) && decide (b ≠ 35) && decide (32 < b)) := by rw [hb]; rfl
        obtain ⟨X, hX⟩ : ∃ X, X = 47 :: (s.take k).filter fd := ⟨_, rfl⟩
        obtain ⟨Y, hY⟩ : ∃ X, X = 47 :: (s.take (k + 1)).filter fd := ⟨_, rfl⟩
        have hYX : Y = X ++ (if fd c then [c] else []) := by rw [hY, hX, HN, List.cons_append]
        have sX : (str X).size ≤ 201 := by rw [str_size, hX, List.length_cons]; omega
        have s1 : (str [c]).size = 1 := str_size _
        have aX : str X ++ str [c] = str (X ++ [c]) := str_add _ _
        rw [← hX]
        have HY := Lib.hid hY
        have hk1 : k + 1 ≤ S := hlt
        clear hc hb hX hY HN hL
        by_cases h1 : b = 63
        · have c1 : ((b : Int) != 63) = false := by simp [h1]
          have hYe : Hid (Y = X) := by show _ = _; rw [hYX, hf]; simp [h1]
          clear hYX hf h1 aX HO
          go_wp2_with fail
          go_round
          case rel => exact ⟨k + 1, by omega, by go_num, by rw [← HY.out, hYe.out]⟩
          case measure => simp [intOf]; omega
        · have c1 : ((b : Int) != 63) = true := by simp; omega
          by_cases h2 : b = 35
          · have c2 : ((b : Int) != 35) = false := by simp [h2]
            have hYe : Hid (Y = X) := by show _ = _; rw [hYX, hf]; simp [h2]
            clear hYX hf h1 h2 aX HO
            go_wp2_with fail
            go_round
            case rel => exact ⟨k + 1, by omega, by go_num, by rw [← HY.out, hYe.out]⟩
            case measure => simp [intOf]; omega
          · have c2 : ((b : Int) != 35) = true := by simp; omega
            by_cases h3 : 32 < b
            · have c3 : decide ((32 : Int) < (b : Int)) = true := by simp; omega
              have hYe : Hid (Y = X ++ [c]) := by show _ = _; rw [hYX, hf]; simp [h1, h2, h3]
              clear hYX hf h1 h2
              go_wp2_with fail
              go_round
              case rel => exact ⟨k + 1, by omega, by go_num, by rw [← HY.out, hYe.out]⟩
              case measure => simp [intOf]; omega
            · have c3 : decide ((32 : Int) < (b : Int)) = false := by simp; omega
              have hYe : Hid (Y = X) := by show _ = _; rw [hYX, hf]; simp [h3]
              clear hYX hf h1 h2 h3 aX HO
              go_wp2_with fail
              go_round
              case rel => exact ⟨k + 1, by omega, by go_num, by rw [← HY.out, hYe.out]⟩
              case measure => simp [intOf]; omega
      · have hkS : ¬ (k : Int) < (S : Int) := by omega
        obtain rfl : k = S := by omega
        rw [hall.out]
        clear hlt hall hk hL
        go_wp2_with (first
          | (go_at_call 14; (with_reducible refine (HU.out _ H0.kp).mono ?_); (rintro e wa1 ⟨rfl, hb⟩; have G1 := H0.step hb; clear hb))
          | ((with_reducible show wpList _ _ _ (⟨some 8, .alloc _, _, _, _, _⟩ :: _) _ _); refine wp_new _ rfl 24 rfl _ z24 ?_; intro wb1 g1 B1 F1; simp only [Act.put, List.setIfInBounds_toArray, List.set_cons_zero, List.set_cons_succ])
          | ((with_reducible show wpList _ _ _ (⟨none, .store 24 (.tmp 8) (.tmp 55), _, _, _, _⟩ :: _) _ _); refine wp_putAll _ rfl 24 (.tmp 8) (.tmp 55) rfl g1 24 _ (uC u.sch u.host u.port u.path u.q u.f) rfl rfl B1 rfl n24 (uC_one _ _ _ _ _ _) ?_; intro wc1 B U; simp only [Act.put]; have H1 := G1.new F1 U B; clear B U F1 B1 G1)
          | (go_at_call 14; (with_reducible refine (HV.out _ (H1.kp.alloc _)).mono ?_); (rintro e wa2 ⟨rfl, hb⟩; have G2 := H1.alloc.step hb; clear hb))
          | ((with_reducible show wpList _ _ _ (⟨some 11, .alloc _, _, _, _, _⟩ :: _) _ _); refine wp_new _ rfl 24 rfl _ z24 ?_; intro wb2 g2 B2 F2; simp only [Act.put, List.setIfInBounds_toArray, List.set_cons_zero, List.set_cons_succ])
          | ((with_reducible show wpList _ _ _ (⟨none, .store 24 (.tmp 11) (.tmp 68), _, _, _, _⟩ :: _) _ _); refine wp_putAll _ rfl 24 (.tmp 11) (.tmp 68) rfl g2 24 _ (uC u.sch u.host u.port u.path u.q u.f) rfl rfl B2 rfl n24 (uC_one _ _ _ _ _ _) ?_; intro wc2 B U; simp only [Act.put]; have H2 := G2.new F2 U B; clear B U F2 B2 G2)
          | (go_at_call 14; (with_reducible refine (HW.out _ H2.kp).mono ?_); (rintro e wa3 ⟨rfl, hb⟩; have G3 := H2.step hb; clear hb))
          | ((with_reducible show wpList _ _ _ (⟨some 13, .alloc _, _, _, _, _⟩ :: _) _ _); refine wp_new _ rfl 24 rfl _ z24 ?_; intro wb3 g3 B3 F3; simp only [Act.put, List.setIfInBounds_toArray, List.set_cons_zero, List.set_cons_succ])
          | ((with_reducible show wpList _ _ _ (⟨none, .store 24 (.tmp 13) (.tmp 75), _, _, _, _⟩ :: _) _ _); refine wp_putAll _ rfl 24 (.tmp 13) (.tmp 75) rfl g3 24 _ (uC v.sch v.host v.port v.path v.q v.f) rfl rfl B3 rfl n24 (uC_one _ _ _ _ _ _) ?_; intro wc3 B U; simp only [Act.put]; have H3 := G3.new F3 U B; clear B U F3 B3 G3; have d2 : wc3.cell? ⟨g3, 3, none⟩ = some (.string (str v.path)) := (H3.at (x := (g3, uC v.sch v.host v.port v.path v.q v.f)) (by simp)).cell rfl; have e2 : wc3.cell? ⟨g1, 3, none⟩ = some (.string (str u.path)) := (H3.at (x := (g1, uC u.sch u.host u.port u.path u.q u.f)) (by simp)).cell rfl)
          | ((with_reducible show wpList _ _ _ (⟨some 94, .load 24 (.tmp 8), _, _, _, _⟩ :: _) _ _); refine wp_getU _ (by rfl) (.tmp 8) rfl g1 u rfl (H3.at (x := (g1, uC u.sch u.host u.port u.path u.q u.f)) (by simp)) ?_; simp only [Act.put, List.setIfInBounds_toArray, List.set_cons_zero, List.set_cons_succ])
          | ((with_reducible show wpList _ _ _ (⟨some 95, .load 24 (.tmp 11), _, _, _, _⟩ :: _) _ _); refine wp_getU _ (by rfl) (.tmp 11) rfl g2 u rfl (H3.at (x := (g2, uC u.sch u.host u.port u.path u.q u.f)) (by simp)) ?_; simp only [Act.put, List.setIfInBounds_toArray, List.set_cons_zero, List.set_cons_succ])
          | ((with_reducible show wpList _ _ _ (⟨some 96, .binOp .eql 24 _ _ _, _, _, _, _⟩ :: _) _ _); refine wp_eqU _ (by rfl) (.tmp 94) (.tmp 95) rfl u u rfl rfl true ⟨fun _ => rfl, fun _ => rfl⟩ ?_; simp only [Act.put, List.setIfInBounds_toArray, List.set_cons_zero, List.set_cons_succ]))
        go_ret
        exact ⟨by simp, H3.kp⟩
set_option maxHeartbeats 8000000 in
set_option maxRecDepth 100000 in
theorem dt_5 (u v : U) (l s P A U1 U2 U3 : List UInt8) (n : Int) (m S E E1 EU : Nat) (w : World) (hm : min (l.length : Int) 200 = (m : Int)) (hm2 : m ≤ l.length) (hts : (str l).extract 0 m = str s) (hsl : (str l).size = l.length) (hS : S = s.length) (hS2 : S ≤ 200) (hP : Hid (47 :: s.filter fd = P)) (hz : bits .and .i64 n 7 = 5) (HS : Hid (∀ w', Kept w w' → Calls Tryz.prog 13 #[] w' fun e w2 => e = .returned (.bool true) ∧ Below w'.heap.size w' w2)) (HU : Hid (∀ w', Kept w w' → Calls Tryz.prog 14 #[.string (str U1)] w' fun e w2 => e = .returned (.tuple #[.agg (uC u.sch u.host u.port u.path u.q u.f).toArray, .int .i64 0]) ∧ Below w'.heap.size w' w2)) (HV : Hid (∀ w', Kept w w' → Calls Tryz.prog 14 #[.string (str U2)] w' fun e w2 => e = .returned (.tuple #[.agg (uC u.sch u.host u.port u.path u.q u.f).toArray, .int .i64 0]) ∧ Below w'.heap.size w' w2)) (HW : Hid (∀ w', Kept w w' → Calls Tryz.prog 14 #[.string (str U3)] w' fun e w2 => e = .returned (.tuple #[.agg (uC v.sch v.host v.port v.path v.q v.f).toArray, .int .i64 0]) ∧ Below w'.heap.size w' w2)) (b1 : ⟨#[104, 116, 116, 112, 58, 47, 47, 97]⟩ ++ str P = str U1) (b2 : (⟨#[104, 116, 116, 112, 58, 47, 47, 97]⟩ : ByteArray) ++ ⟨#[47, 120, 47, 121, 47, 46, 46, 47, 46, 46]⟩ = str A) (b3 : str A ++ str P = str U2) (b4 : str U1 ++ ⟨#[47, 46, 46]⟩ = str U3) (r1 : ¬ (9223372036854775807 : Nat) < 8 + (str P).size) (r3 : ¬ (9223372036854775807 : Nat) < (str A).size + (str P).size) (r4 : ¬ (9223372036854775807 : Nat) < (str U1).size + 3) (hE : (str v.path).size = E) (hEU : (str u.path).size = EU) (h0 : 0 < EU) (hu0 : ∀ h, ((str u.path)[0]'h).toNat = 47) (hE1 : (E : Int) - 1 = (E1 : Int)) (hE2 : E1 < E) (hE3 : E ≤ EU + 1) (hEb : EU ≤ 1000000) (hv0 : ∀ h, ((str v.path)[E1]'h).toNat = 47) : Calls Tryz.prog 7 #[.string (str l), .int .i64 n] w fun e w' => e = .returned (.bool true) ∧ Below w.heap.size w w' := by
    have hsz := str_size s
    have hgb : Hid (∀ k, k < S → ∀ h, ((str s)[k]'h).toNat = (s.getD k 0).toNat) := fun k hk h => str_at s k (by omega) h
    have hon : Hid (∀ k, k < S → (str s).extract k (k + 1) = str [s.getD k 0]) := fun k hk => str_one s k (by omega)
    have hsu : Hid (∀ k, k < S → (s.take (k + 1)).filter fd = (s.take k).filter fd ++ (if fd (s.getD k 0) then [s.getD k 0] else [])) := fun k hk => fd_succ s k (by omega) _ rfl
    have hle : Hid (∀ k, ((s.take k).filter fd).length ≤ k) := fun k => Nat.le_trans (List.length_filter_le _ _) (by rw [List.length_take]; omega)
    have hall : Hid (47 :: (s.take S).filter fd = P) := by
      show _ = _
      rw [hS, List.take_length]
      exact hP.out
    rw [← hS] at hsz
    clear hS hP
    have hEU1 : (EU : Int) + 1 = ((EU + 1 : Nat) : Int) := by omega
    have h1E : (1 : Int) ≤ (E : Int) := by omega
    have hEE : (E : Int) ≤ (EU : Int) + 1 := by omega
    clear hEU1
    go_enter Tryz.func7, Tryz.ntmps7
    go_wp2_with (first
      | (go_at_call 13; (with_reducible refine (HS.out _ (Hl.nil w).kp).mono ?_); (rintro e w1 ⟨rfl, hb⟩; have H0 := (Hl.nil w).step hb; clear hb)))
    go_loop [7, 6] (fun i p => ∃ k : Nat, k ≤ S ∧ i = .int .i64 (k : Int) ∧ p = .string (str (47 :: (s.take k).filter fd))) (fun i _ => S - (intOf i).toNat)
    case atStart => exact ⟨0, by omega, rfl, rfl⟩
    case round =>
      obtain ⟨k, hk, rfl, rfl⟩ := hrel
      have hL := hle.out k
      by_cases hlt : k < S
      · have hkS : (k : Int) < (S : Int) := by omega
        have HG := hgb.out k hlt
        have HO := hon.out k hlt
        have HN := hsu.out k hlt
        obtain ⟨c, hc⟩ : ∃ c, c = s.getD k 0 := ⟨_, rfl⟩
        obtain ⟨b, hb⟩ : ∃ b, b = c.toNat := ⟨_, rfl⟩
        rw [← hc] at HG HO HN
        rw [← hb] at HG
        have hf : fd c = (decide (b ≠ 63) && decide (b ≠ 35) && decide (32 < b)) := by rw [hb]; rfl
        obtain ⟨X, hX⟩ : ∃ X, X = 47 :: (s.take k).filter fd := ⟨_, rfl⟩
        obtain ⟨Y, hY⟩ : ∃ X, X = 47 :: (s.take (k + 1)).filter fd := ⟨_, rfl⟩
        have hYX : Y = X ++ (if fd c then [c] else []) := by rw [hY, hX, HN, List.cons_append]
        have sX : (str X).size ≤ 201 := by rw [str_size, hX, List.length_cons]; omega
        have s1 : (str [c]).size = 1 := str_size _
        have aX : str X ++ str [c] = str (X ++ [c]) := str_add _ _
        rw [← hX]
        have HY := Lib.hid hY
        have hk1 : k + 1 ≤ S := hlt
        clear hc hb hX hY HN hL
        by_cases h1 : b = 63
        · have c1 : ((b : Int) != 63) = false := by simp [h1]
          have hYe : Hid (Y = X) := by show _ = _; rw [hYX, hf]; simp [h1]
          clear hYX hf h1 aX HO
          go_wp2_with fail
          go_round
          case rel => exact ⟨k + 1, by omega, by go_num, by rw [← HY.out, hYe.out]⟩
          case measure => simp [intOf]; omega
        · have c1 : ((b : Int) != 63) = true := by simp; omega
          by_cases h2 : b = 35
          · have c2 : ((b : Int) != 35) = false := by simp [h2]
            have hYe : Hid (Y = X) := by show _ = _; rw [hYX, hf]; simp [h2]
            clear hYX hf h1 h2 aX HO
            go_wp2_with fail
            go_round
            case rel => exact ⟨k + 1, by omega, by go_num, by rw [← HY.out, hYe.out]⟩
            case measure => simp [intOf]; omega
          · have c2 : ((b : Int) != 35) = true := by simp; omega
            by_cases h3 : 32 < b
            · have c3 : decide ((32 : Int) < (b : Int)) = true := by simp; omega
              have hYe : Hid (Y = X ++ [c]) := by show _ = _; rw [hYX, hf]; simp [h1, h2, h3]
              clear hYX hf h1 h2
              go_wp2_with fail
              go_round
              case rel => exact ⟨k + 1, by omega, by go_num, by rw [← HY.out, hYe.out]⟩
              case measure => simp [intOf]; omega
            · have c3 : decide ((32 : Int) < (b : Int)) = false := by simp; omega
              have hYe : Hid (Y = X) := by show _ = _; rw [hYX, hf]; simp [h3]
              clear hYX hf h1 h2 h3 aX HO
              go_wp2_with fail
              go_round
              case rel => exact ⟨k + 1, by omega, by go_num, by rw [← HY.out, hYe.out]⟩
              case measure => simp [intOf]; omega
      · have hkS : ¬ (k : Int) < (S : Int) := by omega
        obtain rfl : k = S := by omega
        rw [hall.out]
        clear hlt hall hk hL
        go_wp2_with (first
          | (go_at_call 14; (with_reducible refine (HU.out _ H0.kp).mono ?_); (rintro e wa1 ⟨rfl, hb⟩; have G1 := H0.step hb; clear hb))
          | ((with_reducible show wpList _ _ _ (⟨some 8, .alloc _, _, _, _, _⟩ :: _) _ _); refine wp_new _ rfl 24 rfl _ z24 ?_; intro wb1 g1 B1 F1; simp only [Act.put, List.setIfInBounds_toArray, List.set_cons_zero, List.set_cons_succ])
          | ((with_reducible show wpList _ _ _ (⟨none, .store 24 (.tmp 8) (.tmp 55), _, _, _, _⟩ :: _) _ _); refine wp_putAll _ rfl 24 (.tmp 8) (.tmp 55) rfl g1 24 _ (uC u.sch u.host u.port u.path u.q u.f) rfl rfl B1 rfl n24 (uC_one _ _ _ _ _ _) ?_; intro wc1 B U; simp only [Act.put]; have H1 := G1.new F1 U B; clear B U F1 B1 G1)
          | (go_at_call 14; (with_reducible refine (HV.out _ (H1.kp.alloc _)).mono ?_); (rintro e wa2 ⟨rfl, hb⟩; have G2 := H1.alloc.step hb; clear hb))
          | ((with_reducible show wpList _ _ _ (⟨some 11, .alloc _, _, _, _, _⟩ :: _) _ _); refine wp_new _ rfl 24 rfl _ z24 ?_; intro wb2 g2 B2 F2; simp only [Act.put, List.setIfInBounds_toArray, List.set_cons_zero, List.set_cons_succ])
          | ((with_reducible show wpList _ _ _ (⟨none, .store 24 (.tmp 11) (.tmp 68), _, _, _, _⟩ :: _) _ _); refine wp_putAll _ rfl 24 (.tmp 11) (.tmp 68) rfl g2 24 _ (uC u.sch u.host u.port u.path u.q u.f) rfl rfl B2 rfl n24 (uC_one _ _ _ _ _ _) ?_; intro wc2 B U; simp only [Act.put]; have H2 := G2.new F2 U B; clear B U F2 B2 G2)
          | (go_at_call 14; (with_reducible refine (HW.out _ H2.kp).mono ?_); (rintro e wa3 ⟨rfl, hb⟩; have G3 := H2.step hb; clear hb))
          | ((with_reducible show wpList _ _ _ (⟨some 13, .alloc _, _, _, _, _⟩ :: _) _ _); refine wp_new _ rfl 24 rfl _ z24 ?_; intro wb3 g3 B3 F3; simp only [Act.put, List.setIfInBounds_toArray, List.set_cons_zero, List.set_cons_succ])
          | ((with_reducible show wpList _ _ _ (⟨none, .store 24 (.tmp 13) (.tmp 75), _, _, _, _⟩ :: _) _ _); refine wp_putAll _ rfl 24 (.tmp 13) (.tmp 75) rfl g3 24 _ (uC v.sch v.host v.port v.path v.q v.f) rfl rfl B3 rfl n24 (uC_one _ _ _ _ _ _) ?_; intro wc3 B U; simp only [Act.put]; have H3 := G3.new F3 U B; clear B U F3 B3 G3; have d2 : wc3.cell? ⟨g3, 3, none⟩ = some (.string (str v.path)) := (H3.at (x := (g3, uC v.sch v.host v.port v.path v.q v.f)) (by simp)).cell rfl; have e2 : wc3.cell? ⟨g1, 3, none⟩ = some (.string (str u.path)) := (H3.at (x := (g1, uC u.sch u.host u.port u.path u.q u.f)) (by simp)).cell rfl)
          | ((with_reducible show wpList _ _ _ (⟨some 94, .load 24 (.tmp 8), _, _, _, _⟩ :: _) _ _); refine wp_getU _ (by rfl) (.tmp 8) rfl g1 u rfl (H3.at (x := (g1, uC u.sch u.host u.port u.path u.q u.f)) (by simp)) ?_; simp only [Act.put, List.setIfInBounds_toArray, List.set_cons_zero, List.set_cons_succ])
          | ((with_reducible show wpList _ _ _ (⟨some 95, .load 24 (.tmp 11), _, _, _, _⟩ :: _) _ _); refine wp_getU _ (by rfl) (.tmp 11) rfl g2 u rfl (H3.at (x := (g2, uC u.sch u.host u.port u.path u.q u.f)) (by simp)) ?_; simp only [Act.put, List.setIfInBounds_toArray, List.set_cons_zero, List.set_cons_succ])
          | ((with_reducible show wpList _ _ _ (⟨some 96, .binOp .eql 24 _ _ _, _, _, _, _⟩ :: _) _ _); refine wp_eqU _ (by rfl) (.tmp 94) (.tmp 95) rfl u u rfl rfl true ⟨fun _ => rfl, fun _ => rfl⟩ ?_; simp only [Act.put, List.setIfInBounds_toArray, List.set_cons_zero, List.set_cons_succ]))
        go_ret
        exact ⟨by simp, H3.kp⟩
set_option maxHeartbeats 8000000 in
set_option maxRecDepth 100000 in
theorem dt_6 (u v : U) (l s P A U1 U2 U3 : List UInt8) (n : Int) (m S E E1 EU : Nat) (w : World) (hm : min (l.length : Int) 200 = (m : Int)) (hm2 : m ≤ l.length) (hts : (str l).extract 0 m = str s) (hsl : (str l).size = l.length) (hS : S = s.length) (hS2 : S ≤ 200) (hP : Hid (47 :: s.filter fd = P)) (hz : bits .and .i64 n 7 = 6) (HS : Hid (∀ w', Kept w w' → Calls Tryz.prog 13 #[] w' fun e w2 => e = .returned (.bool true) ∧ Below w'.heap.size w' w2)) (HU : Hid (∀ w', Kept w w' → Calls Tryz.prog 14 #[.string (str U1)] w' fun e w2 => e = .returned (.tuple #[.agg (uC u.sch u.host u.port u.path u.q u.f).toArray, .int .i64 0]) ∧ Below w'.heap.size w' w2)) (HV : Hid (∀ w', Kept w w' → Calls Tryz.prog 14 #[.string (str U2)] w' fun e w2 => e = .returned (.tuple #[.agg (uC u.sch u.host u.port u.path u.q u.f).toArray, .int .i64 0]) ∧ Below w'.heap.size w' w2)) (HW : Hid (∀ w', Kept w w' → Calls Tryz.prog 14 #[.string (str U3)] w' fun e w2 => e = .returned (.tuple #[.agg (uC v.sch v.host v.port v.path v.q v.f).toArray, .int .i64 0]) ∧ Below w'.heap.size w' w2)) (b1 : ⟨#[104, 116, 116, 112, 58, 47, 47, 97]⟩ ++ str P = str U1) (b2 : (⟨#[104, 116, 116, 112, 58, 47, 47, 97]⟩ : ByteArray) ++ ⟨#[47, 46, 46]⟩ = str A) (b3 : str A ++ str P = str U2) (b4 : str U1 ++ ⟨#[47, 46, 46]⟩ = str U3) (r1 : ¬ (9223372036854775807 : Nat) < 8 + (str P).size) (r3 : ¬ (9223372036854775807 : Nat) < (str A).size + (str P).size) (r4 : ¬ (9223372036854775807 : Nat) < (str U1).size + 3) (hE : (str v.path).size = E) (hEU : (str u.path).size = EU) (h0 : 0 < EU) (hu0 : ∀ h, ((str u.path)[0]'h).toNat = 47) (hE1 : (E : Int) - 1 = (E1 : Int)) (hE2 : E1 < E) (hE3 : E ≤ EU + 1) (hEb : EU ≤ 1000000) (hv0 : ∀ h, ((str v.path)[E1]'h).toNat = 47) : Calls Tryz.prog 7 #[.string (str l), .int .i64 n] w fun e w' => e = .returned (.bool true) ∧ Below w.heap.size w w' := by
    have hsz := str_size s
    have hgb : Hid (∀ k, k < S → ∀ h, ((str s)[k]'h).toNat = (s.getD k 0).toNat) := fun k hk h => str_at s k (by omega) h
    have hon : Hid (∀ k, k < S → (str s).extract k (k + 1) = str [s.getD k 0]) := fun k hk => str_one s k (by omega)
    have hsu : Hid (∀ k, k < S → (s.take (k + 1)).filter fd = (s.take k).filter fd ++ (if fd (s.getD k 0) then [s.getD k 0] else [])) := fun k hk => fd_succ s k (by omega) _ rfl
    have hle : Hid (∀ k, ((s.take k).filter fd).length ≤ k) := fun k => Nat.le_trans (List.length_filter_le _ _) (by rw [List.length_take]; omega)
    have hall : Hid (47 :: (s.take S).filter fd = P) := by
      show _ = _
      rw [hS, List.take_length]
      exact hP.out
    rw [← hS] at hsz
    clear hS hP
    have hEU1 : (EU : Int) + 1 = ((EU + 1 : Nat) : Int) := by omega
    have h1E : (1 : Int) ≤ (E : Int) := by omega
    have hEE : (E : Int) ≤ (EU : Int) + 1 := by omega
    clear hEU1
    go_enter Tryz.func7, Tryz.ntmps7
    go_wp2_with (first
      | (go_at_call 13; (with_reducible refine (HS.out _ (Hl.nil w).kp).mono ?_); (rintro e w1 ⟨rfl, hb⟩; have H0 := (Hl.nil w).step hb; clear hb)))
    go_loop [7, 6] (fun i p => ∃ k : Nat, k ≤ S ∧ i = .int .i64 (k : Int) ∧ p = .string (str (47 :: (s.take k).filter fd))) (fun i _ => S - (intOf i).toNat)
    case atStart => exact ⟨0, by omega, rfl, rfl⟩
    case round =>
      obtain ⟨k, hk, rfl, rfl⟩ := hrel
      have hL := hle.out k
      by_cases hlt : k < S
      · have hkS : (k : Int) < (S : Int) := by omega
        have HG := hgb.out k hlt
        have HO := hon.out k hlt
        have HN := hsu.out k hlt
        obtain ⟨c, hc⟩ : ∃ c, c = s.getD k 0 := ⟨_, rfl⟩
        obtain ⟨b, hb⟩ : ∃ b, b = c.toNat := ⟨_, rfl⟩
        rw [← hc] at HG HO HN
        rw [← hb] at HG
        have hf : fd c = (decide (b ≠ 63) && decide (b ≠ 35) && decide (32 < b)) := by rw [hb]; rfl
        obtain ⟨X, hX⟩ : ∃ X, X = 47 :: (s.take k).filter fd := ⟨_, rfl⟩
        obtain ⟨Y, hY⟩ : ∃ X, X = 47 :: (s.take (k + 1)).filter fd := ⟨_, rfl⟩
        have hYX : Y = X ++ (if fd c then [c] else []) := by rw [hY, hX, HN, List.cons_append]
        have sX : (str X).size ≤ 201 := by rw [str_size, hX, List.length_cons]; omega
        have s1 : (str [c]).size = 1 := str_size _
        have aX : str X ++ str [c] = str (X ++ [c]) := str_add _ _
        rw [← hX]
        have HY := Lib.hid hY
        have hk1 : k + 1 ≤ S := hlt
        clear hc hb hX hY HN hL
        by_cases h1 : b = 63
        · have c1 : ((b : Int) != 63) = false := by simp [h1]
          have hYe : Hid (Y = X) := by show _ = _; rw [hYX, hf]; simp [h1]
          clear hYX hf h1 aX HO
          go_wp2_with fail
          go_round
          case rel => exact ⟨k + 1, by omega, by go_num, by rw [← HY.out, hYe.out]⟩
          case measure => simp [intOf]; omega
        · have c1 : ((b : Int) != 63) = true := by simp; omega
          by_cases h2 : b = 35
          · have c2 : ((b : Int) != 35) = false := by simp [h2]
            have hYe : Hid (Y = X) := by show _ = _; rw [hYX, hf]; simp [h2]
            clear hYX hf h1 h2 aX HO
            go_wp2_with fail
            go_round
            case rel => exact ⟨k + 1, by omega, by go_num, by rw [← HY.out, hYe.out]⟩
            case measure => simp [intOf]; omega
          · have c2 : ((b : Int) != 35) = true := by simp; omega
            by_cases h3 : 32 < b
            · have c3 : decide ((32 : Int) < (b : Int)) = true := by simp; omega
              have hYe : Hid (Y = X ++ [c]) := by show _ = _; rw [hYX, hf]; simp [h1, h2, h3]
              clear hYX hf h1 h2
              go_wp2_with fail
              go_round
              case rel => exact ⟨k + 1, by omega, by go_num, by rw [← HY.out, hYe.out]⟩
              case measure => simp [intOf]; omega
            · have c3 : decide ((32 : Int) < (b : Int)) = false := by simp; omega
              have hYe : Hid (Y = X) := by show _ = _; rw [hYX, hf]; simp [h3]
              clear hYX hf h1 h2 h3 aX HO
              go_wp2_with fail
              go_round
              case rel => exact ⟨k + 1, by omega, by go_num, by rw [← HY.out, hYe.out]⟩
              case measure => simp [intOf]; omega
      · have hkS : ¬ (k : Int) < (S : Int) := by omega
        obtain rfl : k = S := by omega
        rw [hall.out]
        clear hlt hall hk hL
        go_wp2_with (first
          | (go_at_call 14; (with_reducible refine (HU.out _ H0.kp).mono ?_); (rintro e wa1 ⟨rfl, hb⟩; have G1 := H0.step hb; clear hb))
          | ((with_reducible show wpList _ _ _ (⟨some 8, .alloc _, _, _, _, _⟩ :: _) _ _); refine wp_new _ rfl 24 rfl _ z24 ?_; intro wb1 g1 B1 F1; simp only [Act.put, List.setIfInBounds_toArray, List.set_cons_zero, List.set_cons_succ])
          | ((with_reducible show wpList _ _ _ (⟨none, .store 24 (.tmp 8) (.tmp 55), _, _, _, _⟩ :: _) _ _); refine wp_putAll _ rfl 24 (.tmp 8) (.tmp 55) rfl g1 24 _ (uC u.sch u.host u.port u.path u.q u.f) rfl rfl B1 rfl n24 (uC_one _ _ _ _ _ _) ?_; intro wc1 B U; simp only [Act.put]; have H1 := G1.new F1 U B; clear B U F1 B1 G1)
          | (go_at_call 14; (with_reducible refine (HV.out _ (H1.kp.alloc _)).mono ?_); (rintro e wa2 ⟨rfl, hb⟩; have G2 := H1.alloc.step hb; clear hb))
          | ((with_reducible show wpList _ _ _ (⟨some 11, .alloc _, _, _, _, _⟩ :: _) _ _); refine wp_new _ rfl 24 rfl _ z24 ?_; intro wb2 g2 B2 F2; simp only [Act.put, List.setIfInBounds_toArray, List.set_cons_zero, List.set_cons_succ])
          | ((with_reducible show wpList _ _ _ (⟨none, .store 24 (.tmp 11) (.tmp 68), _, _, _, _⟩ :: _) _ _); refine wp_putAll _ rfl 24 (.tmp 11) (.tmp 68) rfl g2 24 _ (uC u.sch u.host u.port u.path u.q u.f) rfl rfl B2 rfl n24 (uC_one _ _ _ _ _ _) ?_; intro wc2 B U; simp only [Act.put]; have H2 := G2.new F2 U B; clear B U F2 B2 G2)
          | (go_at_call 14; (with_reducible refine (HW.out _ H2.kp).mono ?_); (rintro e wa3 ⟨rfl, hb⟩; have G3 := H2.step hb; clear hb))
          | ((with_reducible show wpList _ _ _ (⟨some 13, .alloc _, _, _, _, _⟩ :: _) _ _); refine wp_new _ rfl 24 rfl _ z24 ?_; intro wb3 g3 B3 F3; simp only [Act.put, List.setIfInBounds_toArray, List.set_cons_zero, List.set_cons_succ])
          | ((with_reducible show wpList _ _ _ (⟨none, .store 24 (.tmp 13) (.tmp 75), _, _, _, _⟩ :: _) _ _); refine wp_putAll _ rfl 24 (.tmp 13) (.tmp 75) rfl g3 24 _ (uC v.sch v.host v.port v.path v.q v.f) rfl rfl B3 rfl n24 (uC_one _ _ _ _ _ _) ?_; intro wc3 B U; simp only [Act.put]; have H3 := G3.new F3 U B; clear B U F3 B3 G3; have d2 : wc3.cell? ⟨g3, 3, none⟩ = some (.string (str v.path)) := (H3.at (x := (g3, uC v.sch v.host v.port v.path v.q v.f)) (by simp)).cell rfl; have e2 : wc3.cell? ⟨g1, 3, none⟩ = some (.string (str u.path)) := (H3.at (x := (g1, uC u.sch u.host u.port u.path u.q u.f)) (by simp)).cell rfl)
          | ((with_reducible show wpList _ _ _ (⟨some 94, .load 24 (.tmp 8), _, _, _, _⟩ :: _) _ _); refine wp_getU _ (by rfl) (.tmp 8) rfl g1 u rfl (H3.at (x := (g1, uC u.sch u.host u.port u.path u.q u.f)) (by simp)) ?_; simp only [Act.put, List.setIfInBounds_toArray, List.set_cons_zero, List.set_cons_succ])
          | ((with_reducible show wpList _ _ _ (⟨some 95, .load 24 (.tmp 11), _, _, _, _⟩ :: _) _ _); refine wp_getU _ (by rfl) (.tmp 11) rfl g2 u rfl (H3.at (x := (g2, uC u.sch u.host u.port u.path u.q u.f)) (by simp)) ?_; simp only [Act.put, List.setIfInBounds_toArray, List.set_cons_zero, List.set_cons_succ])
          | ((with_reducible show wpList _ _ _ (⟨some 96, .binOp .eql 24 _ _ _, _, _, _, _⟩ :: _) _ _); refine wp_eqU _ (by rfl) (.tmp 94) (.tmp 95) rfl u u rfl rfl true ⟨fun _ => rfl, fun _ => rfl⟩ ?_; simp only [Act.put, List.setIfInBounds_toArray, List.set_cons_zero, List.set_cons_succ]))
        go_ret
        exact ⟨by simp, H3.kp⟩
set_option maxHeartbeats 8000000 in
set_option maxRecDepth 100000 in
theorem dt_7 (u v : U) (l s P A U1 U2 U3 : List UInt8) (n : Int) (m S E E1 EU : Nat) (w : World) (hm : min (l.length : Int) 200 = (m : Int)) (hm2 : m ≤ l.length) (hts : (str l).extract 0 m = str s) (hsl : (str l).size = l.length) (hS : S = s.length) (hS2 : S ≤ 200) (hP : Hid (47 :: s.filter fd = P)) (hz : bits .and .i64 n 7 = 7) (HS : Hid (∀ w', Kept w w' → Calls Tryz.prog 13 #[] w' fun e w2 => e = .returned (.bool true) ∧ Below w'.heap.size w' w2)) (HU : Hid (∀ w', Kept w w' → Calls Tryz.prog 14 #[.string (str U1)] w' fun e w2 => e = .returned (.tuple #[.agg (uC u.sch u.host u.port u.path u.q u.f).toArray, .int .i64 0]) ∧ Below w'.heap.size w' w2)) (HV : Hid (∀ w', Kept w w' → Calls Tryz.prog 14 #[.string (str U2)] w' fun e w2 => e = .returned (.tuple #[.agg (uC u.sch u.host u.port u.path u.q u.f).toArray, .int .i64 0]) ∧ Below w'.heap.size w' w2)) (HW : Hid (∀ w', Kept w w' → Calls Tryz.prog 14 #[.string (str U3)] w' fun e w2 => e = .returned (.tuple #[.agg (uC v.sch v.host v.port v.path v.q v.f).toArray, .int .i64 0]) ∧ Below w'.heap.size w' w2)) (b1 : ⟨#[104, 116, 116, 112, 58, 47, 47, 97]⟩ ++ str P = str U1) (b2 : (⟨#[104, 116, 116, 112, 58, 47, 47, 97]⟩ : ByteArray) ++ ⟨#[47, 46, 47, 120, 47, 37, 50, 69, 46, 47, 46]⟩ = str A) (b3 : str A ++ str P = str U2) (b4 : str U1 ++ ⟨#[47, 46, 46]⟩ = str U3) (r1 : ¬ (9223372036854775807 : Nat) < 8 + (str P).size) (r3 : ¬ (9223372036854775807 : Nat) < (str A).size + (str P).size) (r4 : ¬ (9223372036854775807 : Nat) < (str U1).size + 3) (hE : (str v.path).size = E) (hEU : (str u.path).size = EU) (h0 : 0 < EU) (hu0 : ∀ h, ((str u.path)[0]'h).toNat = 47) (hE1 : (E : Int) - 1 = (E1 : Int)) (hE2 : E1 < E) (hE3 : E ≤ EU + 1) (hEb : EU ≤ 1000000) (hv0 : ∀ h, ((str v.path)[E1]'h).toNat = 47) : Calls Tryz.prog 7 #[.string (str l), .int .i64 n] w fun e w' => e = .returned (.bool true) ∧ Below w.heap.size w w' := by
    have hsz := str_size s
    have hgb : Hid (∀ k, k < S → ∀ h, ((str s)[k]'h).toNat = (s.getD k 0).toNat) := fun k hk h => str_at s k (by omega) h
    have hon : Hid (∀ k, k < S → (str s).extract k (k + 1) = str [s.getD k 0]) := fun k hk => str_one s k (by omega)
    have hsu : Hid (∀ k, k < S → (s.take (k + 1)).filter fd = (s.take k).filter fd ++ (if fd (s.getD k 0) then [s.getD k 0] else [])) := fun k hk => fd_succ s k (by omega) _ rfl
    have hle : Hid (∀ k, ((s.take k).filter fd).length ≤ k) := fun k => Nat.le_trans (List.length_filter_le _ _) (by rw [List.length_take]; omega)
    have hall : Hid (47 :: (s.take S).filter fd = P) := by
      show _ = _
      rw [hS, List.take_length]
      exact hP.out
    rw [← hS] at hsz
    clear hS hP
    have hEU1 : (EU : Int) + 1 = ((EU + 1 : Nat) : Int) := by omega
    have h1E : (1 : Int) ≤ (E : Int) := by omega
    have hEE : (E : Int) ≤ (EU : Int) + 1 := by omega
    clear hEU1
    go_enter Tryz.func7, Tryz.ntmps7
    go_wp2_with (first
      | (go_at_call 13; (with_reducible refine (HS.out _ (Hl.nil w).kp).mono ?_); (rintro e w1 ⟨rfl, hb⟩; have H0 := (Hl.nil w).step hb; clear hb)))
    go_loop [7, 6] (fun i p => ∃ k : Nat, k ≤ S ∧ i = .int .i64 (k : Int) ∧ p = .string (str (47 :: (s.take k).filter fd))) (fun i _ => S - (intOf i).toNat)
    case atStart => exact ⟨0, by omega, rfl, rfl⟩
    case round =>
      obtain ⟨k, hk, rfl, rfl⟩ := hrel
      have hL := hle.out k
      by_cases hlt : k < S
      · have hkS : (k : Int) < (S : Int) := by omega
        have HG := hgb.out k hlt
        have HO := hon.out k hlt
        have HN := hsu.out k hlt
        obtain ⟨c, hc⟩ : ∃ c, c = s.getD k 0 := ⟨_, rfl⟩
        obtain ⟨b, hb⟩ : ∃ b, b = c.toNat := ⟨_, rfl⟩
        rw [← hc] at HG HO HN
        rw [← hb] at HG
        have hf : fd c = (decide (b ≠ 63) && decide (b ≠ 35) && decide (32 < b)) := by rw [hb]; rfl
        obtain ⟨X, hX⟩ : ∃ X, X = 47 :: (s.take k).filter fd := ⟨_, rfl⟩
        obtain ⟨Y, hY⟩ : ∃ X, X = 47 :: (s.take (k + 1)).filter fd := ⟨_, rfl⟩
        have hYX : Y = X ++ (if fd c then [c] else []) := by rw [hY, hX, HN, List.cons_append]
        have sX : (str X).size ≤ 201 := by rw [str_size, hX, List.length_cons]; omega
        have s1 : (str [c]).size = 1 := str_size _
        have aX : str X ++ str [c] = str (X ++ [c]) := str_add _ _
        rw [← hX]
        have HY := Lib.hid hY
        have hk1 : k + 1 ≤ S := hlt
        clear hc hb hX hY HN hL
        by_cases h1 : b = 63
        · have c1 : ((b : Int) != 63) = false := by simp [h1]
          have hYe : Hid (Y = X) := by show _ = _; rw [hYX, hf]; simp [h1]
          clear hYX hf h1 aX HO
          go_wp2_with fail
          go_round
          case rel => exact ⟨k + 1, by omega, by go_num, by rw [← HY.out, hYe.out]⟩
          case measure => simp [intOf]; omega
        · have c1 : ((b : Int) != 63) = true := by simp; omega
          by_cases h2 : b = 35
          · have c2 : ((b : Int) != 35) = false := by simp [h2]
            have hYe : Hid (Y = X) := by show _ = _; rw [hYX, hf]; simp [h2]
            clear hYX hf h1 h2 aX HO
            go_wp2_with fail
            go_round
            case rel => exact ⟨k + 1, by omega, by go_num, by rw [← HY.out, hYe.out]⟩
            case measure => simp [intOf]; omega
          · have c2 : ((b : Int) != 35) = true := by simp; omega
            by_cases h3 : 32 < b
            · have c3 : decide ((32 : Int) < (b : Int)) = true := by simp; omega
              have hYe : Hid (Y = X ++ [c]) := by show _ = _; rw [hYX, hf]; simp [h1, h2, h3]
              clear hYX hf h1 h2
              go_wp2_with fail
              go_round
              case rel => exact ⟨k + 1, by omega, by go_num, by rw [← HY.out, hYe.out]⟩
              case measure => simp [intOf]; omega
            · have c3 : decide ((32 : Int) < (b : Int)) = false := by simp; omega
              have hYe : Hid (Y = X) := by show _ = _; rw [hYX, hf]; simp [h3]
              clear hYX hf h1 h2 h3 aX HO
              go_wp2_with fail
              go_round
              case rel => exact ⟨k + 1, by omega, by go_num, by rw [← HY.out, hYe.out]⟩
              case measure => simp [intOf]; omega
      · have hkS : ¬ (k : Int) < (S : Int) := by omega
        obtain rfl : k = S := by omega
        rw [hall.out]
        clear hlt hall hk hL
        go_wp2_with (first
          | (go_at_call 14; (with_reducible refine (HU.out _ H0.kp).mono ?_); (rintro e wa1 ⟨rfl, hb⟩; have G1 := H0.step hb; clear hb))
          | ((with_reducible show wpList _ _ _ (⟨some 8, .alloc _, _, _, _, _⟩ :: _) _ _); refine wp_new _ rfl 24 rfl _ z24 ?_; intro wb1 g1 B1 F1; simp only [Act.put, List.setIfInBounds_toArray, List.set_cons_zero, List.set_cons_succ])
          | ((with_reducible show wpList _ _ _ (⟨none, .store 24 (.tmp 8) (.tmp 55), _, _, _, _⟩ :: _) _ _); refine wp_putAll _ rfl 24 (.tmp 8) (.tmp 55) rfl g1 24 _ (uC u.sch u.host u.port u.path u.q u.f) rfl rfl B1 rfl n24 (uC_one _ _ _ _ _ _) ?_; intro wc1 B U; simp only [Act.put]; have H1 := G1.new F1 U B; clear B U F1 B1 G1)
          | (go_at_call 14; (with_reducible refine (HV.out _ (H1.kp.alloc _)).mono ?_); (rintro e wa2 ⟨rfl, hb⟩; have G2 := H1.alloc.step hb; clear hb))
          | ((with_reducible show wpList _ _ _ (⟨some 11, .alloc _, _, _, _, _⟩ :: _) _ _); refine wp_new _ rfl 24 rfl _ z24 ?_; intro wb2 g2 B2 F2; simp only [Act.put, List.setIfInBounds_toArray, List.set_cons_zero, List.set_cons_succ])
          | ((with_reducible show wpList _ _ _ (⟨none, .store 24 (.tmp 11) (.tmp 68), _, _, _, _⟩ :: _) _ _); refine wp_putAll _ rfl 24 (.tmp 11) (.tmp 68) rfl g2 24 _ (uC u.sch u.host u.port u.path u.q u.f) rfl rfl B2 rfl n24 (uC_one _ _ _ _ _ _) ?_; intro wc2 B U; simp only [Act.put]; have H2 := G2.new F2 U B; clear B U F2 B2 G2)
          | (go_at_call 14; (with_reducible refine (HW.out _ H2.kp).mono ?_); (rintro e wa3 ⟨rfl, hb⟩; have G3 := H2.step hb; clear hb))
          | ((with_reducible show wpList _ _ _ (⟨some 13, .alloc _, _, _, _, _⟩ :: _) _ _); refine wp_new _ rfl 24 rfl _ z24 ?_; intro wb3 g3 B3 F3; simp only [Act.put, List.setIfInBounds_toArray, List.set_cons_zero, List.set_cons_succ])
          | ((with_reducible show wpList _ _ _ (⟨none, .store 24 (.tmp 13) (.tmp 75), _, _, _, _⟩ :: _) _ _); refine wp_putAll _ rfl 24 (.tmp 13) (.tmp 75) rfl g3 24 _ (uC v.sch v.host v.port v.path v.q v.f) rfl rfl B3 rfl n24 (uC_one _ _ _ _ _ _) ?_; intro wc3 B U; simp only [Act.put]; have H3 := G3.new F3 U B; clear B U F3 B3 G3; have d2 : wc3.cell? ⟨g3, 3, none⟩ = some (.string (str v.path)) := (H3.at (x := (g3, uC v.sch v.host v.port v.path v.q v.f)) (by simp)).cell rfl; have e2 : wc3.cell? ⟨g1, 3, none⟩ = some (.string (str u.path)) := (H3.at (x := (g1, uC u.sch u.host u.port u.path u.q u.f)) (by simp)).cell rfl)
          | ((with_reducible show wpList _ _ _ (⟨some 94, .load 24 (.tmp 8), _, _, _, _⟩ :: _) _ _); refine wp_getU _ (by rfl) (.tmp 8) rfl g1 u rfl (H3.at (x := (g1, uC u.sch u.host u.port u.path u.q u.f)) (by simp)) ?_; simp only [Act.put, List.setIfInBounds_toArray, List.set_cons_zero, List.set_cons_succ])
          | ((with_reducible show wpList _ _ _ (⟨some 95, .load 24 (.tmp 11), _, _, _, _⟩ :: _) _ _); refine wp_getU _ (by rfl) (.tmp 11) rfl g2 u rfl (H3.at (x := (g2, uC u.sch u.host u.port u.path u.q u.f)) (by simp)) ?_; simp only [Act.put, List.setIfInBounds_toArray, List.set_cons_zero, List.set_cons_succ])
          | ((with_reducible show wpList _ _ _ (⟨some 96, .binOp .eql 24 _ _ _, _, _, _, _⟩ :: _) _ _); refine wp_eqU _ (by rfl) (.tmp 94) (.tmp 95) rfl u u rfl rfl true ⟨fun _ => rfl, fun _ => rfl⟩ ?_; simp only [Act.put, List.setIfInBounds_toArray, List.set_cons_zero, List.set_cons_succ]))
        go_ret
        exact ⟨by simp, H3.kp⟩
theorem dots_any8 (l : List UInt8) (n : Int) (w : World) (ht : Tb w) : Calls Tryz.prog 7 #[.string (str l), .int .i64 n] w fun e w' => e = .returned (.bool true) ∧ Below w.heap.size w w' := by
  have HS : Hid (∀ w', Kept w w' → Calls Tryz.prog 13 #[] w' fun e w2 => e = .returned (.bool true) ∧ Below w'.heap.size w' w2) := fun w' hk => shown_any w' (ht.kp hk)
  obtain ⟨m, hm, hm1, hm2⟩ : ∃ m : Nat, min (l.length : Int) 200 = (m : Int) ∧ m ≤ 200 ∧ m ≤ l.length := ⟨min l.length 200, by omega, by omega, by omega⟩
  have hts := str_take l m
  have hls : (l.take m).length ≤ 200 := by rw [List.length_take]; omega
  generalize l.take m = s at hts hls
  have hsl := str_size l
  have ha : prs [97] = ([97], false) := by kernel_rfl
  have hx : ∀ c ∈ s.filter fd, lowc c = false ∧ c ≠ 35 ∧ c ≠ 63 := fun c hc => by
    have := (List.mem_filter.1 hc).2
    unfold fd at this
    simp only [Bool.and_eq_true, decide_eq_true_eq] at this
    refine ⟨?_, ?_, ?_⟩
    · unfold lowc
      rw [decide_eq_false_iff_not]
      omega
    · rintro rfl
      exact this.1.2 rfl
    · rintro rfl
      exact this.1.1 rfl
  have hxl : (s.filter fd).length ≤ 200 := Nat.le_trans (List.length_filter_le _ _) hls
  generalize hxg : s.filter fd = x at hx hxl
  have HZ : ∀ (X : List UInt8) (u : U), X.length ≤ 1000 → prsU X = some u → Hid (∀ w', Kept w w' → Calls Tryz.prog 14 #[.string (str X)] w' fun e w2 => e = .returned (.tuple #[.agg (uC u.sch u.host u.port u.path u.q u.f).toArray, .int .i64 0]) ∧ Below w'.heap.size w' w2) := fun X u hX hu w' hk => by
    have := url_any X w' (by omega) (ht.kp hk)
    rw [hu] at this
    exact this
  obtain ⟨t, htx⟩ : ∃ t, t = sub1 92 47 x := ⟨_, rfl⟩
  have htl : t.length ≤ 200 := by rw [htx, sub1_len']; exact hxl
  have hu1 : prsU (hta ++ 47 :: x) = some ⟨[104, 116, 116, 112], [97], -1, pth t, [], []⟩ := by rw [http_a ha x hx, htx]
  have hu3 : prsU (hta ++ 47 :: (x ++ 47 :: [46, 46])) = some ⟨[104, 116, 116, 112], [97], -1, pth (t ++ 47 :: [46, 46]), [], []⟩ := by
    rw [http_a ha _ (fun c hc => by
      rcases List.mem_append.1 hc with hc | hc
      · exact hx c hc
      · have : ∀ c ∈ (47 :: [46, 46] : List UInt8), lowc c = false ∧ c ≠ 35 ∧ c ≠ 63 := by decide
        exact this c hc), sub1_app, htx]
    rfl
  have hA : ∀ i, i < 8 → prsU (hta ++ 47 :: ((aheads.getD i []).drop 1 ++ 47 :: x)) = some ⟨[104, 116, 116, 112], [97], -1, pth t, [], []⟩ := fun i hi => by
    have h1 : ∀ j, j < 8 → (∀ c ∈ (aheads.getD j []).drop 1, lowc c = false ∧ c ≠ 35 ∧ c ≠ 63) ∧ sub1 92 47 ((aheads.getD j []).drop 1) = (aheads.getD j []).drop 1 := by decide
    rw [http_a ha _ (fun c hc => by
      rcases List.mem_append.1 hc with hc | hc
      · exact (h1 i hi).1 c hc
      · rcases List.mem_cons.1 hc with hc | hc
        · rw [hc]; decide
        · exact hx c hc), sub1_app, (h1 i hi).2, sub1_cons, if_neg (by decide), ← htx, pth_ahead t i hi]
  obtain ⟨⟨q, hq⟩, hup⟩ := pth_up t
  have hpl : (pth t).length ≤ 800000 := pth_small t (by omega)
  have hE1 : (q ++ [47] : List UInt8).length = q.length + 1 := by rw [List.length_append]; rfl
  rw [hq] at hu3 hup
  obtain ⟨p, hp⟩ : ∃ p, pth t = 47 :: p := ⟨_, rfl⟩
  rw [hp] at hu1 hA hup hpl
  have hn : bits .and .i64 n 7 = n % 8 := i64_mask n 7 3 (by decide) (by omega)
  have hv0 : ∀ h, ((str (q ++ [47]))[q.length]'h).toNat = 47 := fun h => by rw [str_at _ _ (by rw [hE1]; omega) h]; simp
  have hu0 : ∀ h, ((str (47 :: p))[0]'h).toNat = 47 := fun h => by rw [str_at _ _ (by simp) h]; rfl
  have hcs : n % 8 = 0 ∨ n % 8 = 1 ∨ n % 8 = 2 ∨ n % 8 = 3 ∨ n % 8 = 4 ∨ n % 8 = 5 ∨ n % 8 = 6 ∨ n % 8 = 7 := by omega
  rcases hcs with hz | hz | hz | hz | hz | hz | hz | hz
  · have hu2 : prsU ((hta ++ [47, 46]) ++ 47 :: x) = some ⟨[104, 116, 116, 112], [97], -1, 47 :: p, [], []⟩ := by
      rw [← hA 0 (by omega)]
      rfl
    exact dt_0 ⟨[104, 116, 116, 112], [97], -1, 47 :: p, [], []⟩ ⟨[104, 116, 116, 112], [97], -1, q ++ [47], [], []⟩ l s (47 :: x) (hta ++ [47, 46]) (hta ++ 47 :: x) ((hta ++ [47, 46]) ++ 47 :: x) (hta ++ 47 :: (x ++ 47 :: [46, 46])) n m s.length (q.length + 1) q.length (p.length + 1) w hm hm2 hts hsl rfl hls (by show _ = _; rw [hxg]) (by rw [hn]; exact hz) HS (HZ _ _ (by simp only [List.length_append, List.length_cons, hta, List.length_nil]; omega) hu1) (HZ _ _ (by simp only [List.length_append, List.length_cons, hta, List.length_nil]; omega) hu2) (HZ _ _ (by simp only [List.length_append, List.length_cons, hta, List.length_nil]; omega) hu3) (str_add hta _) (str_add hta _) (str_add _ _) (by rw [show hta ++ 47 :: (x ++ 47 :: [46, 46]) = (hta ++ 47 :: x) ++ [47, 46, 46] by simp]; exact str_add _ _) (szl (by rw [List.length_cons]; omega)) (sz2 (by simp only [List.length_append, List.length_cons, hta, List.length_nil]; omega)) (szr (by simp only [List.length_append, List.length_cons, hta, List.length_nil]; omega)) (by rw [str_size]; exact hE1) (by rw [str_size]; rfl) (by omega) hu0 (by omega) (by omega) (by rw [hE1] at hup; simp only [List.length_cons] at hup; omega) (by rw [List.length_cons] at hpl; omega) hv0
  · have hu2 : prsU ((hta ++ [47, 37, 50, 101]) ++ 47 :: x) = some ⟨[104, 116, 116, 112], [97], -1, 47 :: p, [], []⟩ := by
      rw [← hA 1 (by omega)]
      rfl
    exact dt_1 ⟨[104, 116, 116, 112], [97], -1, 47 :: p, [], []⟩ ⟨[104, 116, 116, 112], [97], -1, q ++ [47], [], []⟩ l s (47 :: x) (hta ++ [47, 37, 50, 101]) (hta ++ 47 :: x) ((hta ++ [47, 37, 50, 101]) ++ 47 :: x) (hta ++ 47 :: (x ++ 47 :: [46, 46])) n m s.length (q.length + 1) q.length (p.length + 1) w hm hm2 hts hsl rfl hls (by show _ = _; rw [hxg]) (by rw [hn]; exact hz) HS (HZ _ _ (by simp only [List.length_append, List.length_cons, hta, List.length_nil]; omega) hu1) (HZ _ _ (by simp only [List.length_append, List.length_cons, hta, List.length_nil]; omega) hu2) (HZ _ _ (by simp only [List.length_append, List.length_cons, hta, List.length_nil]; omega) hu3) (str_add hta _) (str_add hta _) (str_add _ _) (by rw [show hta ++ 47 :: (x ++ 47 :: [46, 46]) = (hta ++ 47 :: x) ++ [47, 46, 46] by simp]; exact str_add _ _) (szl (by rw [List.length_cons]; omega)) (sz2 (by simp only [List.length_append, List.length_cons, hta, List.length_nil]; omega)) (szr (by simp only [List.length_append, List.length_cons, hta, List.length_nil]; omega)) (by rw [str_size]; exact hE1) (by rw [str_size]; rfl) (by omega) hu0 (by omega) (by omega) (by rw [hE1] at hup; simp only [List.length_cons] at hup; omega) (by rw [List.length_cons] at hpl; omega) hv0
  · have hu2 : prsU ((hta ++ [47, 120, 47, 46, 46]) ++ 47 :: x) = some ⟨[104, 116, 116, 112], [97], -1, 47 :: p, [], []⟩ := by
      rw [← hA 2 (by omega)]
      rfl
    exact dt_2 ⟨[104, 116, 116, 112], [97], -1, 47 :: p, [], []⟩ ⟨[104, 116, 116, 112], [97], -1, q ++ [47], [], []⟩ l s (47 :: x) (hta ++ [47, 120, 47, 46, 46]) (hta ++ 47 :: x) ((hta ++ [47, 120, 47, 46, 46]) ++ 47 :: x) (hta ++ 47 :: (x ++ 47 :: [46, 46])) n m s.length (q.length + 1) q.length (p.length + 1) w hm hm2 hts hsl rfl hls (by show _ = _; rw [hxg]) (by rw [hn]; exact hz) HS (HZ _ _ (by simp only [List.length_append, List.length_cons, hta, List.length_nil]; omega) hu1) (HZ _ _ (by simp only [List.length_append, List.length_cons, hta, List.length_nil]; omega) hu2) (HZ _ _ (by simp only [List.length_append, List.length_cons, hta, List.length_nil]; omega) hu3) (str_add hta _) (str_add hta _) (str_add _ _) (by rw [show hta ++ 47 :: (x ++ 47 :: [46, 46]) = (hta ++ 47 :: x) ++ [47, 46, 46] by simp]; exact str_add _ _) (szl (by rw [List.length_cons]; omega)) (sz2 (by simp only [List.length_append, List.length_cons, hta, List.length_nil]; omega)) (szr (by simp only [List.length_append, List.length_cons, hta, List.length_nil]; omega)) (by rw [str_size]; exact hE1) (by rw [str_size]; rfl) (by omega) hu0 (by omega) (by omega) (by rw [hE1] at hup; simp only [List.length_cons] at hup; omega) (by rw [List.length_cons] at hpl; omega) hv0
  · have hu2 : prsU ((hta ++ [47, 120, 47, 46, 37, 50, 69]) ++ 47 :: x) = some ⟨[104, 116, 116, 112], [97], -1, 47 :: p, [], []⟩ := by
      rw [← hA 3 (by omega)]
      rfl
    exact dt_3 ⟨[104, 116, 116, 112], [97], -1, 47 :: p, [], []⟩ ⟨[104, 116, 116, 112], [97], -1, q ++ [47], [], []⟩ l s (47 :: x) (hta ++ [47, 120, 47, 46, 37, 50, 69]) (hta ++ 47 :: x) ((hta ++ [47, 120, 47, 46, 37, 50, 69]) ++ 47 :: x) (hta ++ 47 :: (x ++ 47 :: [46, 46])) n m s.length (q.length + 1) q.length (p.length + 1) w hm hm2 hts hsl rfl hls (by show _ = _; rw [hxg]) (by rw [hn]; exact hz) HS (HZ _ _ (by simp only [List.length_append, List.length_cons, hta, List.length_nil]; omega) hu1) (HZ _ _ (by simp only [List.length_append, List.length_cons, hta, List.length_nil]; omega) hu2) (HZ _ _ (by simp only [List.length_append, List.length_cons, hta, List.length_nil]; omega) hu3) (str_add hta _) (str_add hta _) (str_add _ _) (by rw [show hta ++ 47 :: (x ++ 47 :: [46, 46]) = (hta ++ 47 :: x) ++ [47, 46, 46] by simp]; exact str_add _ _) (szl (by rw [List.length_cons]; omega)) (sz2 (by simp only [List.length_append, List.length_cons, hta, List.length_nil]; omega)) (szr (by simp only [List.length_append, List.length_cons, hta, List.length_nil]; omega)) (by rw [str_size]; exact hE1) (by rw [str_size]; rfl) (by omega) hu0 (by omega) (by omega) (by rw [hE1] at hup; simp only [List.length_cons] at hup; omega) (by rw [List.length_cons] at hpl; omega) hv0
  · have hu2 : prsU ((hta ++ [47, 37, 50, 101, 37, 50, 101]) ++ 47 :: x) = some ⟨[104, 116, 116, 112], [97], -1, 47 :: p, [], []⟩ := by
      rw [← hA 4 (by omega)]
      rfl
    exact dt_4 ⟨[104, 116, 116, 112], [97], -1, 47 :: p, [], []⟩ ⟨[104, 116, 116, 112], [97], -1, q ++ [47], [], []⟩ l s (47 :: x) (hta ++ [47, 37, 50, 101, 37, 50, 101]) (hta ++ 47 :: x) ((hta ++ [47, 37, 50, 101, 37, 50, 101]) ++ 47 :: x) (hta ++ 47 :: (x ++ 47 :: [46, 46])) n m s.length (q.length + 1) q.length (p.length + 1) w hm hm2 hts hsl rfl hls (by show _ = _; rw [hxg]) (by rw [hn]; exact hz) HS (HZ _ _ (by simp only [List.length_append, List.length_cons, hta, List.length_nil]; omega) hu1) (HZ _ _ (by simp only [List.length_append, List.length_cons, hta, List.length_nil]; omega) hu2) (HZ _ _ (by simp only [List.length_append, List.length_cons, hta, List.length_nil]; omega) hu3) (str_add hta _) (str_add hta _) (str_add _ _) (by rw [show hta ++ 47 :: (x ++ 47 :: [46, 46]) = (hta ++ 47 :: x) ++ [47, 46, 46] by simp]; exact str_add _ _) (szl (by rw [List.length_cons]; omega)) (sz2 (by simp only [List.length_append, List.length_cons, hta, List.length_nil]; omega)) (szr (by simp only [List.length_append, List.length_cons, hta, List.length_nil]; omega)) (by rw [str_size]; exact hE1) (by rw [str_size]; rfl) (by omega) hu0 (by omega) (by omega) (by rw [hE1] at hup; simp only [List.length_cons] at hup; omega) (by rw [List.length_cons] at hpl; omega) hv0
  · have hu2 : prsU ((hta ++ [47, 120, 47, 121, 47, 46, 46, 47, 46, 46]) ++ 47 :: x) = some ⟨[104, 116, 116, 112], [97], -1, 47 :: p, [], []⟩ := by
      rw [← hA 5 (by omega)]
      rfl
    exact dt_5 ⟨[104, 116, 116, 112], [97], -1, 47 :: p, [], []⟩ ⟨[104, 116, 116, 112], [97], -1, q ++ [47], [], []⟩ l s (47 :: x) (hta ++ [47, 120, 47, 121, 47, 46, 46, 47, 46, 46]) (hta ++ 47 :: x) ((hta ++ [47, 120, 47, 121, 47, 46, 46, 47, 46, 46]) ++ 47 :: x) (hta ++ 47 :: (x ++ 47 :: [46, 46])) n m s.length (q.length + 1) q.length (p.length + 1) w hm hm2 hts hsl rfl hls (by show _ = _; rw [hxg]) (by rw [hn]; exact hz) HS (HZ _ _ (by simp only [List.length_append, List.length_cons, hta, List.length_nil]; omega) hu1) (HZ _ _ (by simp only [List.length_append, List.length_cons, hta, List.length_nil]; omega) hu2) (HZ _ _ (by simp only [List.length_append, List.length_cons, hta, List.length_nil]; omega) hu3) (str_add hta _) (str_add hta _) (str_add _ _) (by rw [show hta ++ 47 :: (x ++ 47 :: [46, 46]) = (hta ++ 47 :: x) ++ [47, 46, 46] by simp]; exact str_add _ _) (szl (by rw [List.length_cons]; omega)) (sz2 (by simp only [List.length_append, List.length_cons, hta, List.length_nil]; omega)) (szr (by simp only [List.length_append, List.length_cons, hta, List.length_nil]; omega)) (by rw [str_size]; exact hE1) (by rw [str_size]; rfl) (by omega) hu0 (by omega) (by omega) (by rw [hE1] at hup; simp only [List.length_cons] at hup; omega) (by rw [List.length_cons] at hpl; omega) hv0
  · have hu2 : prsU ((hta ++ [47, 46, 46]) ++ 47 :: x) = some ⟨[104, 116, 116, 112], [97], -1, 47 :: p, [], []⟩ := by
      rw [← hA 6 (by omega)]
      rfl
    exact dt_6 ⟨[104, 116, 116, 112], [97], -1, 47 :: p, [], []⟩ ⟨[104, 116, 116, 112], [97], -1, q ++ [47], [], []⟩ l s (47 :: x) (hta ++ [47, 46, 46]) (hta ++ 47 :: x) ((hta ++ [47, 46, 46]) ++ 47 :: x) (hta ++ 47 :: (x ++ 47 :: [46, 46])) n m s.length (q.length + 1) q.length (p.length + 1) w hm hm2 hts hsl rfl hls (by show _ = _; rw [hxg]) (by rw [hn]; exact hz) HS (HZ _ _ (by simp only [List.length_append, List.length_cons, hta, List.length_nil]; omega) hu1) (HZ _ _ (by simp only [List.length_append, List.length_cons, hta, List.length_nil]; omega) hu2) (HZ _ _ (by simp only [List.length_append, List.length_cons, hta, List.length_nil]; omega) hu3) (str_add hta _) (str_add hta _) (str_add _ _) (by rw [show hta ++ 47 :: (x ++ 47 :: [46, 46]) = (hta ++ 47 :: x) ++ [47, 46, 46] by simp]; exact str_add _ _) (szl (by rw [List.length_cons]; omega)) (sz2 (by simp only [List.length_append, List.length_cons, hta, List.length_nil]; omega)) (szr (by simp only [List.length_append, List.length_cons, hta, List.length_nil]; omega)) (by rw [str_size]; exact hE1) (by rw [str_size]; rfl) (by omega) hu0 (by omega) (by omega) (by rw [hE1] at hup; simp only [List.length_cons] at hup; omega) (by rw [List.length_cons] at hpl; omega) hv0
  · have hu2 : prsU ((hta ++ [47, 46, 47, 120, 47, 37, 50, 69, 46, 47, 46]) ++ 47 :: x) = some ⟨[104, 116, 116, 112], [97], -1, 47 :: p, [], []⟩ := by
      rw [← hA 7 (by omega)]
      rfl
    exact dt_7 ⟨[104, 116, 116, 112], [97], -1, 47 :: p, [], []⟩ ⟨[104, 116, 116, 112], [97], -1, q ++ [47], [], []⟩ l s (47 :: x) (hta ++ [47, 46, 47, 120, 47, 37, 50, 69, 46, 47, 46]) (hta ++ 47 :: x) ((hta ++ [47, 46, 47, 120, 47, 37, 50, 69, 46, 47, 46]) ++ 47 :: x) (hta ++ 47 :: (x ++ 47 :: [46, 46])) n m s.length (q.length + 1) q.length (p.length + 1) w hm hm2 hts hsl rfl hls (by show _ = _; rw [hxg]) (by rw [hn]; exact hz) HS (HZ _ _ (by simp only [List.length_append, List.length_cons, hta, List.length_nil]; omega) hu1) (HZ _ _ (by simp only [List.length_append, List.length_cons, hta, List.length_nil]; omega) hu2) (HZ _ _ (by simp only [List.length_append, List.length_cons, hta, List.length_nil]; omega) hu3) (str_add hta _) (str_add hta _) (str_add _ _) (by rw [show hta ++ 47 :: (x ++ 47 :: [46, 46]) = (hta ++ 47 :: x) ++ [47, 46, 46] by simp]; exact str_add _ _) (szl (by rw [List.length_cons]; omega)) (sz2 (by simp only [List.length_append, List.length_cons, hta, List.length_nil]; omega)) (szr (by simp only [List.length_append, List.length_cons, hta, List.length_nil]; omega)) (by rw [str_size]; exact hE1) (by rw [str_size]; rfl) (by omega) hu0 (by omega) (by omega) (by rw [hE1] at hup; simp only [List.length_cons] at hup; omega) (by rw [List.length_cons] at hpl; omega) hv0
end Go.Proofs.YtcepigekibidfaaGreatDoor
