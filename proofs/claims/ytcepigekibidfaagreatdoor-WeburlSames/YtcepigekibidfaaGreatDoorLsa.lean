/-
  What transeptlaw08.WeburlSames answers: true; nothing that was there turns. Condition: the library's tables.
-/
import Derived.Test.YtcepigekibidfaaGreatDoorGr
import Derived.Test.YtcepigekibidfaaGreatDoorGk
namespace Go.Proofs.YtcepigekibidfaaGreatDoor
open Go.RowKit

set_option maxHeartbeats 8000000 in
set_option maxRecDepth 100000 in
theorem sa_a (u v : U) (l r s t : List UInt8) (m k : Nat) (w : World) (hm : min (l.length : Int) 300 = (m : Int)) (hk : min (r.length : Int) 300 = (k : Int)) (hm2 : m ≤ l.length) (hk2 : k ≤ r.length) (hts : (str l).extract 0 m = str s) (htt : (str r).extract 0 k = str t) (hsl : (str l).size = l.length) (hsr : (str r).size = r.length) (HS : Hid (∀ w', Kept w w' → Calls Tryz.prog 13 #[] w' fun e w2 => e = .returned (.bool true) ∧ Below w'.heap.size w' w2)) (H1 : Hid (∀ w', Kept w w' → Calls Tryz.prog 14 #[.string (str s)] w' fun e w2 => e = .returned (.tuple #[.agg (uC u.sch u.host u.port u.path u.q u.f).toArray, .int .i64 7]) ∧ Below w'.heap.size w' w2)) (H2c : Hid (∀ w', Kept w w' → Calls Tryz.prog 14 #[.string (str t)] w' fun e w2 => e = .returned (.tuple #[.agg (uC v.sch v.host v.port v.path v.q v.f).toArray, .int .i64 0]) ∧ Below w'.heap.size w' w2)) : Calls Tryz.prog 11 #[.string (str l), .string (str r)] w fun e w' => e = .returned (.bool true) ∧ Below w.heap.size w w' := by
    go_enter Tryz.func11, Tryz.ntmps11
    go_wp2_with (first
      | (go_at_call 13; (with_reducible refine (HS.out _ (Hl.nil w).kp).mono ?_); (rintro e w1 ⟨rfl, hb⟩; have H0 := (Hl.nil w).step hb; clear hb))
      | (go_at_call 14; (with_reducible refine (H1.out _ H0.kp).mono ?_); (rintro e wa1 ⟨rfl, hb⟩; have G1 := H0.step hb; clear hb))
      | ((with_reducible show wpList _ _ _ (⟨some 6, .alloc _, _, _, _, _⟩ :: _) _ _); refine wp_new _ rfl 24 rfl _ z24 ?_; intro wb1 g1 B1 F1; simp only [Act.put, List.setIfInBounds_toArray, List.set_cons_zero, List.set_cons_succ])
      | ((with_reducible show wpList _ _ _ (⟨none, .store 24 (.tmp 6) (.tmp 20), _, _, _, _⟩ :: _) _ _); refine wp_putAll _ rfl 24 (.tmp 6) (.tmp 20) rfl g1 24 _ (uC u.sch u.host u.port u.path u.q u.f) rfl rfl B1 rfl n24 (uC_one _ _ _ _ _ _) ?_; intro wc1 B U; simp only [Act.put]; have H2 := G1.new F1 U B; clear B U F1 B1 G1)
      | (go_at_call 14; (with_reducible refine (H2c.out _ H2.kp).mono ?_); (rintro e wa2 ⟨rfl, hb⟩; have G2 := H2.step hb; clear hb))
      | ((with_reducible show wpList _ _ _ (⟨some 8, .alloc _, _, _, _, _⟩ :: _) _ _); refine wp_new _ rfl 24 rfl _ z24 ?_; intro wb2 g2 B2 F2; simp only [Act.put, List.setIfInBounds_toArray, List.set_cons_zero, List.set_cons_succ])
      | ((with_reducible show wpList _ _ _ (⟨none, .store 24 (.tmp 8) (.tmp 29), _, _, _, _⟩ :: _) _ _); refine wp_putAll _ rfl 24 (.tmp 8) (.tmp 29) rfl g2 24 _ (uC v.sch v.host v.port v.path v.q v.f) rfl rfl B2 rfl n24 (uC_one _ _ _ _ _ _) ?_; intro wc2 B U; simp only [Act.put]; have H4 := G2.new F2 U B; clear B U F2 B2 G2))
    go_ret
    exact ⟨rfl, H4.kp⟩
set_option maxHeartbeats 8000000 in
set_option maxRecDepth 100000 in
theorem sa_b (u v : U) (l r s t : List UInt8) (m k : Nat) (w : World) (hm : min (l.length : Int) 300 = (m : Int)) (hk : min (r.length : Int) 300 = (k : Int)) (hm2 : m ≤ l.length) (hk2 : k ≤ r.length) (hts : (str l).extract 0 m = str s) (htt : (str r).extract 0 k = str t) (hsl : (str l).size = l.length) (hsr : (str r).size = r.length) (HS : Hid (∀ w', Kept w w' → Calls Tryz.prog 13 #[] w' fun e w2 => e = .returned (.bool true) ∧ Below w'.heap.size w' w2)) (H1 : Hid (∀ w', Kept w w' → Calls Tryz.prog 14 #[.string (str s)] w' fun e w2 => e = .returned (.tuple #[.agg (uC u.sch u.host u.port u.path u.q u.f).toArray, .int .i64 7]) ∧ Below w'.heap.size w' w2)) (H2c : Hid (∀ w', Kept w w' → Calls Tryz.prog 14 #[.string (str t)] w' fun e w2 => e = .returned (.tuple #[.agg (uC v.sch v.host v.port v.path v.q v.f).toArray, .int .i64 7]) ∧ Below w'.heap.size w' w2)) : Calls Tryz.prog 11 #[.string (str l), .string (str r)] w fun e w' => e = .returned (.bool true) ∧ Below w.heap.size w w' := by
    go_enter Tryz.func11, Tryz.ntmps11
    go_wp2_with (first
      | (go_at_call 13; (with_reducible refine (HS.out _ (Hl.nil w).kp).mono ?_); (rintro e w1 ⟨rfl, hb⟩; have H0 := (Hl.nil w).step hb; clear hb))
      | (go_at_call 14; (with_reducible refine (H1.out _ H0.kp).mono ?_); (rintro e wa1 ⟨rfl, hb⟩; have G1 := H0.step hb; clear hb))
      | ((with_reducible show wpList _ _ _ (⟨some 6, .alloc _, _, _, _, _⟩ :: _) _ _); refine wp_new _ rfl 24 rfl _ z24 ?_; intro wb1 g1 B1 F1; simp only [Act.put, List.setIfInBounds_toArray, List.set_cons_zero, List.set_cons_succ])
      | ((with_reducible show wpList _ _ _ (⟨none, .store 24 (.tmp 6) (.tmp 20), _, _, _, _⟩ :: _) _ _); refine wp_putAll _ rfl 24 (.tmp 6) (.tmp 20) rfl g1 24 _ (uC u.sch u.host u.port u.path u.q u.f) rfl rfl B1 rfl n24 (uC_one _ _ _ _ _ _) ?_; intro wc1 B U; simp only [Act.put]; have H2 := G1.new F1 U B; clear B U F1 B1 G1)
      | (go_at_call 14; (with_reducible refine (H2c.out _ H2.kp).mono ?_); (rintro e wa2 ⟨rfl, hb⟩; have G2 := H2.step hb; clear hb))
      | ((with_reducible show wpList _ _ _ (⟨some 8, .alloc _, _, _, _, _⟩ :: _) _ _); refine wp_new _ rfl 24 rfl _ z24 ?_; intro wb2 g2 B2 F2; simp only [Act.put, List.setIfInBounds_toArray, List.set_cons_zero, List.set_cons_succ])
      | ((with_reducible show wpList _ _ _ (⟨none, .store 24 (.tmp 8) (.tmp 29), _, _, _, _⟩ :: _) _ _); refine wp_putAll _ rfl 24 (.tmp 8) (.tmp 29) rfl g2 24 _ (uC v.sch v.host v.port v.path v.q v.f) rfl rfl B2 rfl n24 (uC_one _ _ _ _ _ _) ?_; intro wc2 B U; simp only [Act.put]; have H4 := G2.new F2 U B; clear B U F2 B2 G2))
    go_ret
    exact ⟨rfl, H4.kp⟩
set_option maxHeartbeats 8000000 in
set_option maxRecDepth 100000 in
theorem sa_c (u v : U) (l r s t : List UInt8) (m k : Nat) (w : World) (hm : min (l.length : Int) 300 = (m : Int)) (hk : min (r.length : Int) 300 = (k : Int)) (hm2 : m ≤ l.length) (hk2 : k ≤ r.length) (hts : (str l).extract 0 m = str s) (htt : (str r).extract 0 k = str t) (hsl : (str l).size = l.length) (hsr : (str r).size = r.length) (HS : Hid (∀ w', Kept w w' → Calls Tryz.prog 13 #[] w' fun e w2 => e = .returned (.bool true) ∧ Below w'.heap.size w' w2)) (H1 : Hid (∀ w', Kept w w' → Calls Tryz.prog 14 #[.string (str s)] w' fun e w2 => e = .returned (.tuple #[.agg (uC u.sch u.host u.port u.path u.q u.f).toArray, .int .i64 0]) ∧ Below w'.heap.size w' w2)) (H2c : Hid (∀ w', Kept w w' → Calls Tryz.prog 14 #[.string (str t)] w' fun e w2 => e = .returned (.tuple #[.agg (uC v.sch v.host v.port v.path v.q v.f).toArray, .int .i64 7]) ∧ Below w'.heap.size w' w2)) : Calls Tryz.prog 11 #[.string (str l), .string (str r)] w fun e w' => e = .returned (.bool true) ∧ Below w.heap.size w w' := by
    go_enter Tryz.func11, Tryz.ntmps11
    go_wp2_with (first
      | (go_at_call 13; (with_reducible refine (HS.out _ (Hl.nil w).kp).mono ?_); (rintro e w1 ⟨rfl, hb⟩; have H0 := (Hl.nil w).step hb; clear hb))
      | (go_at_call 14; (with_reducible refine (H1.out _ H0.kp).mono ?_); (rintro e wa1 ⟨rfl, hb⟩; have G1 := H0.step hb; clear hb))
      | ((with_reducible show wpList _ _ _ (⟨some 6, .alloc _, _, _, _, _⟩ :: _) _ _); refine wp_new _ rfl 24 rfl _ z24 ?_; intro wb1 g1 B1 F1; simp only [Act.put, List.setIfInBounds_toArray, List.set_cons_zero, List.set_cons_succ])
      | ((with_reducible show wpList _ _ _ (⟨none, .store 24 (.tmp 6) (.tmp 20), _, _, _, _⟩ :: _) _ _); refine wp_putAll _ rfl 24 (.tmp 6) (.tmp 20) rfl g1 24 _ (uC u.sch u.host u.port u.path u.q u.f) rfl rfl B1 rfl n24 (uC_one _ _ _ _ _ _) ?_; intro wc1 B U; simp only [Act.put]; have H2 := G1.new F1 U B; clear B U F1 B1 G1)
      | (go_at_call 14; (with_reducible refine (H2c.out _ H2.kp).mono ?_); (rintro e wa2 ⟨rfl, hb⟩; have G2 := H2.step hb; clear hb))
      | ((with_reducible show wpList _ _ _ (⟨some 8, .alloc _, _, _, _, _⟩ :: _) _ _); refine wp_new _ rfl 24 rfl _ z24 ?_; intro wb2 g2 B2 F2; simp only [Act.put, List.setIfInBounds_toArray, List.set_cons_zero, List.set_cons_succ])
      | ((with_reducible show wpList _ _ _ (⟨none, .store 24 (.tmp 8) (.tmp 29), _, _, _, _⟩ :: _) _ _); refine wp_putAll _ rfl 24 (.tmp 8) (.tmp 29) rfl g2 24 _ (uC v.sch v.host v.port v.path v.q v.f) rfl rfl B2 rfl n24 (uC_one _ _ _ _ _ _) ?_; intro wc2 B U; simp only [Act.put]; have H4 := G2.new F2 U B; clear B U F2 B2 G2))
    go_ret
    exact ⟨rfl, H4.kp⟩
set_option maxHeartbeats 8000000 in
set_option maxRecDepth 100000 in
theorem sa_d (u v : U) (l r s t : List UInt8) (m k : Nat) (w : World) (hm : min (l.length : Int) 300 = (m : Int)) (hk : min (r.length : Int) 300 = (k : Int)) (hm2 : m ≤ l.length) (hk2 : k ≤ r.length) (hts : (str l).extract 0 m = str s) (htt : (str r).extract 0 k = str t) (hsl : (str l).size = l.length) (hsr : (str r).size = r.length) (HS : Hid (∀ w', Kept w w' → Calls Tryz.prog 13 #[] w' fun e w2 => e = .returned (.bool true) ∧ Below w'.heap.size w' w2)) (H1 : Hid (∀ w', Kept w w' → Calls Tryz.prog 14 #[.string (str s)] w' fun e w2 => e = .returned (.tuple #[.agg (uC u.sch u.host u.port u.path u.q u.f).toArray, .int .i64 0]) ∧ Below w'.heap.size w' w2)) (H2c : Hid (∀ w', Kept w w' → Calls Tryz.prog 14 #[.string (str t)] w' fun e w2 => e = .returned (.tuple #[.agg (uC v.sch v.host v.port v.path v.q v.f).toArray, .int .i64 0]) ∧ Below w'.heap.size w' w2)) (O1 O2 : List UInt8) (HO1 : Hid (∀ w', Kept w w' → Calls Tryz.prog 21 #[uV u] w' fun e w2 => e = .returned (.string (str O1)) ∧ Below w'.heap.size w' w2)) (HO2 : Hid (∀ w', Kept w w' → Calls Tryz.prog 21 #[uV v] w' fun e w2 => e = .returned (.string (str O2)) ∧ Below w'.heap.size w' w2)) (X : Bool) (he : ((str O1).toList == (str O2).toList) = true) (hn : ((str O1).toList == [110, 117, 108, 108]) = !X) (HA : Hid (∀ w', Calls Tryz.prog 23 #[.agg (uC u.sch u.host u.port u.path u.q u.f).toArray, .agg (uC v.sch v.host v.port v.path v.q v.f).toArray] w' fun e w2 => e = .returned (.bool X) ∧ Below w'.heap.size w' w2)) (HB : Hid (∀ w', Calls Tryz.prog 23 #[.agg (uC u.sch u.host u.port u.path u.q u.f).toArray, .agg (uC u.sch u.host u.port u.path u.q u.f).toArray] w' fun e w2 => e = .returned (.bool X) ∧ Below w'.heap.size w' w2)) (HC : Hid (∀ w', Calls Tryz.prog 23 #[.agg (uC v.sch v.host v.port v.path v.q v.f).toArray, .agg (uC u.sch u.host u.port u.path u.q u.f).toArray] w' fun e w2 => e = .returned (.bool X) ∧ Below w'.heap.size w' w2)) : Calls Tryz.prog 11 #[.string (str l), .string (str r)] w fun e w' => e = .returned (.bool true) ∧ Below w.heap.size w w' := by
    go_enter Tryz.func11, Tryz.ntmps11
    go_wp2_with (first
      | (go_at_call 13; (with_reducible refine (HS.out _ (Hl.nil w).kp).mono ?_); (rintro e w1 ⟨rfl, hb⟩; have H0 := (Hl.nil w).step hb; clear hb))
      | (go_at_call 14; (with_reducible refine (H1.out _ H0.kp).mono ?_); (rintro e wa1 ⟨rfl, hb⟩; have G1 := H0.step hb; clear hb))
      | ((with_reducible show wpList _ _ _ (⟨some 6, .alloc _, _, _, _, _⟩ :: _) _ _); refine wp_new _ rfl 24 rfl _ z24 ?_; intro wb1 g1 B1 F1; simp only [Act.put, List.setIfInBounds_toArray, List.set_cons_zero, List.set_cons_succ])
      | ((with_reducible show wpList _ _ _ (⟨none, .store 24 (.tmp 6) (.tmp 20), _, _, _, _⟩ :: _) _ _); refine wp_putAll _ rfl 24 (.tmp 6) (.tmp 20) rfl g1 24 _ (uC u.sch u.host u.port u.path u.q u.f) rfl rfl B1 rfl n24 (uC_one _ _ _ _ _ _) ?_; intro wc1 B U; simp only [Act.put]; have H2 := G1.new F1 U B; clear B U F1 B1 G1)
      | (go_at_call 14; (with_reducible refine (H2c.out _ H2.kp).mono ?_); (rintro e wa2 ⟨rfl, hb⟩; have G2 := H2.step hb; clear hb))
      | ((with_reducible show wpList _ _ _ (⟨some 8, .alloc _, _, _, _, _⟩ :: _) _ _); refine wp_new _ rfl 24 rfl _ z24 ?_; intro wb2 g2 B2 F2; simp only [Act.put, List.setIfInBounds_toArray, List.set_cons_zero, List.set_cons_succ])
      | ((with_reducible show wpList _ _ _ (⟨none, .store 24 (.tmp 8) (.tmp 29), _, _, _, _⟩ :: _) _ _); refine wp_putAll _ rfl 24 (.tmp 8) (.tmp 29) rfl g2 24 _ (uC v.sch v.host v.port v.path v.q v.f) rfl rfl B2 rfl n24 (uC_one _ _ _ _ _ _) ?_; intro wc2 B U; simp only [Act.put]; have H4 := G2.new F2 U B; clear B U F2 B2 G2)
      | ((with_reducible show wpList _ _ _ (⟨some 38, .load 24 (.tmp 6), _, _, _, _⟩ :: _) _ _); refine wp_getU _ (by rfl) (.tmp 6) rfl g1 u rfl (H4.at (x := (g1, uC u.sch u.host u.port u.path u.q u.f)) (by simp)) ?_; simp only [Act.put, List.setIfInBounds_toArray, List.set_cons_zero, List.set_cons_succ])
      | (go_at_call 21; (with_reducible refine (HO1.out _ H4.kp).mono ?_); (rintro e w5 ⟨rfl, hb⟩; have H5 := H4.step hb; clear hb))
      | ((with_reducible show wpList _ _ _ (⟨some 40, .load 24 (.tmp 8), _, _, _, _⟩ :: _) _ _); refine wp_getU _ (by rfl) (.tmp 8) rfl g2 v rfl (H5.at (x := (g2, uC v.sch v.host v.port v.path v.q v.f)) (by simp)) ?_; simp only [Act.put, List.setIfInBounds_toArray, List.set_cons_zero, List.set_cons_succ])
      | (go_at_call 21; (with_reducible refine (HO2.out _ H5.kp).mono ?_); (rintro e w6 ⟨rfl, hb⟩; have H6 := H5.step hb; clear hb)))
    refine wp_region_held_drew (S := fun W => Hl w W [(g2, uC v.sch v.host v.port v.path v.q v.f), (g1, uC u.sch u.host u.port u.path u.q u.f)]) (by kernel_rfl) (H6.step (Below.refl _ _).drew) (fun hS => ?_)
    refine wpAnyH_take (i := 0) (oi := ⟨some 42, _, _, _, _, _⟩) (v := ?va0) rfl (by kernel_rfl) (by kernel_rfl) (by kernel_rfl) (fun _ _ _ h => h) (Or.inl ⟨by rfl, ?ya0⟩) hS ?ra0
    case ya0 => intro W hW; go_simp; first | done | with_reducible rfl
    simp only [Act.put, List.setIfInBounds_toArray, List.set_cons_zero, List.set_cons_succ]
    refine wpAnyH_take (i := 1) (oi := ⟨some 43, _, _, _, _, _⟩) (v := ?va1) rfl (by kernel_rfl) (by kernel_rfl) (by kernel_rfl) (fun _ _ _ h => h) (Or.inl ⟨by rfl, ?ya1⟩) hS ?ra1
    case ya1 => intro W hW; go_simp; first | done | with_reducible rfl
    simp only [Act.put, List.setIfInBounds_toArray, List.set_cons_zero, List.set_cons_succ]
    refine wpAnyH_take (i := 2) (oi := ⟨some 44, _, _, _, _, _⟩) (v := _) rfl (by kernel_rfl) (by kernel_rfl) (by kernel_rfl) (fun _ _ _ h => h) (yieldsIf_load_mid (by rfl) 24 (.tmp 6) rfl g1 0 rfl (uC u.sch u.host u.port u.path u.q u.f) _ (fun W hW => (hW.at (x := (g1, uC u.sch u.host u.port u.path u.q u.f)) (by simp)).whole) Tryz.underlying24 rfl n24) hS ?_
    simp only [Act.put, List.setIfInBounds_toArray, List.set_cons_zero, List.set_cons_succ]
    refine wpAnyH_take (i := 3) (oi := ⟨some 45, _, _, _, _, _⟩) (v := _) rfl (by kernel_rfl) (by kernel_rfl) (by kernel_rfl) (fun _ _ _ h => h) (yieldsIf_load_mid (by rfl) 24 (.tmp 8) rfl g2 0 rfl (uC v.sch v.host v.port v.path v.q v.f) _ (fun W hW => (hW.at (x := (g2, uC v.sch v.host v.port v.path v.q v.f)) (by simp)).whole) Tryz.underlying24 rfl n24) hS ?_
    simp only [Act.put, List.setIfInBounds_toArray, List.set_cons_zero, List.set_cons_succ]
    refine wpAnyH_take (i := 5) (oi := ⟨some 47, _, _, _, _, _⟩) (v := ?va5) rfl (by kernel_rfl) (by kernel_rfl) (by kernel_rfl) (fun _ _ _ h => h) (Or.inl ⟨by rfl, ?ya5⟩) hS ?ra5
    case ya5 => intro W hW; go_simp; first | done | with_reducible rfl
    simp only [Act.put, List.setIfInBounds_toArray, List.set_cons_zero, List.set_cons_succ]
    refine wpAnyH_take (i := 6) (oi := ⟨some 48, _, _, _, _, _⟩) (v := ?va6) rfl (by kernel_rfl) (by kernel_rfl) (by kernel_rfl) (fun _ _ _ h => h) (Or.inl ⟨by rfl, ?ya6⟩) hS ?ra6
    case ya6 => intro W hW; go_simp; first | done | with_reducible rfl
    simp only [Act.put, List.setIfInBounds_toArray, List.set_cons_zero, List.set_cons_succ]
    refine wpAnyH_take (i := 7) (oi := ⟨some 49, _, _, _, _, _⟩) (v := ?va7) rfl (by kernel_rfl) (by kernel_rfl) (by kernel_rfl) (fun _ _ _ h => h) (Or.inl ⟨by rfl, ?ya7⟩) hS ?ra7
    case ya7 => intro W hW; go_simp; first | done | with_reducible rfl
    simp only [Act.put, List.setIfInBounds_toArray, List.set_cons_zero, List.set_cons_succ]
    refine wpAnyH_ready (rs := [4]) (by kernel_rfl) (by simp) ?_
    refine (AllReadyH.cons (o := ⟨some 46, _, _, _, _, _⟩) rfl (fun K hK => ?_) AllReadyH.nil)
    try go_simp
    (with_reducible refine (HA.out _).mono ?_)
    rintro e wx1 ⟨rfl, hb⟩
    have hS1 := hS.step hb
    clear hb hS
    have hS := hS1
    clear hS1
    refine hK.out _ _ hS (fun _ => ?_)
    clear hK K
    try simp only [Act.put, List.setIfInBounds_toArray, List.set_cons_zero, List.set_cons_succ]
    refine wpAnyH_take (i := 8) (oi := ⟨some 50, _, _, _, _, _⟩) (v := ?va8) rfl (by kernel_rfl) (by kernel_rfl) (by kernel_rfl) (fun _ _ _ h => h) (Or.inl ⟨by rfl, ?ya8⟩) hS ?ra8
    case ya8 => intro W hW; go_simp; first | done | with_reducible rfl
    simp only [Act.put, List.setIfInBounds_toArray, List.set_cons_zero, List.set_cons_succ]
    refine wpAnyH_take (i := 9) (oi := ⟨some 51, _, _, _, _, _⟩) (v := ?va9) rfl (by kernel_rfl) (by kernel_rfl) (by kernel_rfl) (fun _ _ _ h => h) (Or.inl ⟨by rfl, ?ya9⟩) hS ?ra9
    case ya9 => intro W hW; go_simp; first | done | with_reducible rfl
    simp only [Act.put, List.setIfInBounds_toArray, List.set_cons_zero, List.set_cons_succ]
    refine wpAnyH_take (i := 10) (oi := ⟨some 52, _, _, _, _, _⟩) (v := ?va10) rfl (by kernel_rfl) (by kernel_rfl) (by kernel_rfl) (fun _ _ _ h => h) (Or.inl ⟨by rfl, ?ya10⟩) hS ?ra10
    case ya10 => intro W hW; go_simp; first | done | with_reducible rfl
    simp only [Act.put, List.setIfInBounds_toArray, List.set_cons_zero, List.set_cons_succ]
    refine wpAnyH_take (i := 11) (oi := ⟨some 53, _, _, _, _, _⟩) (v := ?va11) rfl (by kernel_rfl) (by kernel_rfl) (by kernel_rfl) (fun _ _ _ h => h) (Or.inl ⟨by rfl, ?ya11⟩) hS ?ra11
    case ya11 => intro W hW; go_simp; first | done | with_reducible rfl
    simp only [Act.put, List.setIfInBounds_toArray, List.set_cons_zero, List.set_cons_succ]
    refine wpAnyH_take (i := 12) (oi := ⟨some 54, _, _, _, _, _⟩) (v := ?va12) rfl (by kernel_rfl) (by kernel_rfl) (by kernel_rfl) (fun _ _ _ h => h) (Or.inl ⟨by rfl, ?ya12⟩) hS ?ra12
    case ya12 => intro W hW; go_simp; first | done | with_reducible rfl
    simp only [Act.put, List.setIfInBounds_toArray, List.set_cons_zero, List.set_cons_succ]
    refine wpAnyH_take (i := 13) (oi := ⟨some 55, _, _, _, _, _⟩) (v := ?va13) rfl (by kernel_rfl) (by kernel_rfl) (by kernel_rfl) (fun _ _ _ h => h) (Or.inl ⟨by rfl, ?ya13⟩) hS ?ra13
    case ya13 => intro W hW; go_simp; first | done | with_reducible rfl
    simp only [Act.put, List.setIfInBounds_toArray, List.set_cons_zero, List.set_cons_succ]
    refine wpAnyH_take (i := 14) (oi := ⟨some 56, _, _, _, _, _⟩) (v := ?va14) rfl (by kernel_rfl) (by kernel_rfl) (by kernel_rfl) (fun _ _ _ h => h) (Or.inl ⟨by rfl, ?ya14⟩) hS ?ra14
    case ya14 => intro W hW; go_simp; first | done | with_reducible rfl
    simp only [Act.put, List.setIfInBounds_toArray, List.set_cons_zero, List.set_cons_succ]
    refine wpAnyH_take (i := 15) (oi := ⟨some 57, _, _, _, _, _⟩) (v := _) rfl (by kernel_rfl) (by kernel_rfl) (by kernel_rfl) (fun _ _ _ h => h) (yieldsIf_load_mid (by rfl) 24 (.tmp 6) rfl g1 0 rfl (uC u.sch u.host u.port u.path u.q u.f) _ (fun W hW => (hW.at (x := (g1, uC u.sch u.host u.port u.path u.q u.f)) (by simp)).whole) Tryz.underlying24 rfl n24) hS ?_
    simp only [Act.put, List.setIfInBounds_toArray, List.set_cons_zero, List.set_cons_succ]
    refine wpAnyH_take (i := 16) (oi := ⟨some 58, _, _, _, _, _⟩) (v := _) rfl (by kernel_rfl) (by kernel_rfl) (by kernel_rfl) (fun _ _ _ h => h) (yieldsIf_load_mid (by rfl) 24 (.tmp 6) rfl g1 0 rfl (uC u.sch u.host u.port u.path u.q u.f) _ (fun W hW => (hW.at (x := (g1, uC u.sch u.host u.port u.path u.q u.f)) (by simp)).whole) Tryz.underlying24 rfl n24) hS ?_
    simp only [Act.put, List.setIfInBounds_toArray, List.set_cons_zero, List.set_cons_succ]
    refine wpAnyH_take (i := 18) (oi := ⟨some 60, _, _, _, _, _⟩) (v := ?va18) rfl (by kernel_rfl) (by kernel_rfl) (by kernel_rfl) (fun _ _ _ h => h) (Or.inl ⟨by rfl, ?ya18⟩) hS ?ra18
    case ya18 => intro W hW; go_simp; first | done | with_reducible rfl
    simp only [Act.put, List.setIfInBounds_toArray, List.set_cons_zero, List.set_cons_succ]
    refine wpAnyH_take (i := 19) (oi := ⟨some 61, _, _, _, _, _⟩) (v := ?va19) rfl (by kernel_rfl) (by kernel_rfl) (by kernel_rfl) (fun _ _ _ h => h) (Or.inl ⟨by rfl, ?ya19⟩) hS ?ra19
    case ya19 => intro W hW; go_simp; first | done | with_reducible rfl
    simp only [Act.put, List.setIfInBounds_toArray, List.set_cons_zero, List.set_cons_succ]
    refine wpAnyH_ready (rs := [17]) (by kernel_rfl) (by simp) ?_
    refine (AllReadyH.cons (o := ⟨some 59, _, _, _, _, _⟩) rfl (fun K hK => ?_) AllReadyH.nil)
    try go_simp
    (with_reducible refine (HB.out _).mono ?_)
    rintro e wx2 ⟨rfl, hb⟩
    have hS2 := hS.step hb
    clear hb hS
    have hS := hS2
    clear hS2
    refine hK.out _ _ hS (fun _ => ?_)
    clear hK K
    try simp only [Act.put, List.setIfInBounds_toArray, List.set_cons_zero, List.set_cons_succ]
    refine wpAnyH_take (i := 20) (oi := ⟨some 62, _, _, _, _, _⟩) (v := ?va20) rfl (by kernel_rfl) (by kernel_rfl) (by kernel_rfl) (fun _ _ _ h => h) (Or.inl ⟨by rfl, ?ya20⟩) hS ?ra20
    case ya20 => intro W hW; go_simp; first | done | with_reducible rfl
    simp only [Act.put, List.setIfInBounds_toArray, List.set_cons_zero, List.set_cons_succ]
    refine wpAnyH_take (i := 21) (oi := ⟨some 63, _, _, _, _, _⟩) (v := ?va21) rfl (by kernel_rfl) (by kernel_rfl) (by kernel_rfl) (fun _ _ _ h => h) (Or.inl ⟨by rfl, ?ya21⟩) hS ?ra21
    case ya21 => intro W hW; go_simp; first | done | with_reducible rfl
    simp only [Act.put, List.setIfInBounds_toArray, List.set_cons_zero, List.set_cons_succ]
    refine wpAnyH_take (i := 22) (oi := ⟨some 64, _, _, _, _, _⟩) (v := ?va22) rfl (by kernel_rfl) (by kernel_rfl) (by kernel_rfl) (fun _ _ _ h => h) (Or.inl ⟨by rfl, ?ya22⟩) hS ?ra22
    case ya22 => intro W hW; go_simp; first | done | with_reducible rfl
    simp only [Act.put, List.setIfInBounds_toArray, List.set_cons_zero, List.set_cons_succ]
    refine wpAnyH_take (i := 23) (oi := ⟨some 65, _, _, _, _, _⟩) (v := _) rfl (by kernel_rfl) (by kernel_rfl) (by kernel_rfl) (fun _ _ _ h => h) (yieldsIf_load_mid (by rfl) 24 (.tmp 6) rfl g1 0 rfl (uC u.sch u.host u.port u.path u.q u.f) _ (fun W hW => (hW.at (x := (g1, uC u.sch u.host u.port u.path u.q u.f)) (by simp)).whole) Tryz.underlying24 rfl n24) hS ?_
    simp only [Act.put, List.setIfInBounds_toArray, List.set_cons_zero, List.set_cons_succ]
    refine wpAnyH_take (i := 24) (oi := ⟨some 66, _, _, _, _, _⟩) (v := _) rfl (by kernel_rfl) (by kernel_rfl) (by kernel_rfl) (fun _ _ _ h => h) (yieldsIf_load_mid (by rfl) 24 (.tmp 8) rfl g2 0 rfl (uC v.sch v.host v.port v.path v.q v.f) _ (fun W hW => (hW.at (x := (g2, uC v.sch v.host v.port v.path v.q v.f)) (by simp)).whole) Tryz.underlying24 rfl n24) hS ?_
    simp only [Act.put, List.setIfInBounds_toArray, List.set_cons_zero, List.set_cons_succ]
    refine wpAnyH_take (i := 26) (oi := ⟨some 68, _, _, _, _, _⟩) (v := _) rfl (by kernel_rfl) (by kernel_rfl) (by kernel_rfl) (fun _ _ _ h => h) (yieldsIf_load_mid (by rfl) 24 (.tmp 8) rfl g2 0 rfl (uC v.sch v.host v.port v.path v.q v.f) _ (fun W hW => (hW.at (x := (g2, uC v.sch v.host v.port v.path v.q v.f)) (by simp)).whole) Tryz.underlying24 rfl n24) hS ?_
    simp only [Act.put, List.setIfInBounds_toArray, List.set_cons_zero, List.set_cons_succ]
    refine wpAnyH_take (i := 27) (oi := ⟨some 69, _, _, _, _, _⟩) (v := _) rfl (by kernel_rfl) (by kernel_rfl) (by kernel_rfl) (fun _ _ _ h => h) (yieldsIf_load_mid (by rfl) 24 (.tmp 6) rfl g1 0 rfl (uC u.sch u.host u.port u.path u.q u.f) _ (fun W hW => (hW.at (x := (g1, uC u.sch u.host u.port u.path u.q u.f)) (by simp)).whole) Tryz.underlying24 rfl n24) hS ?_
    simp only [Act.put, List.setIfInBounds_toArray, List.set_cons_zero, List.set_cons_succ]
    refine wpAnyH_ready (rs := [25]) (by kernel_rfl) (by simp) ?_
    refine (AllReadyH.cons (o := ⟨some 67, _, _, _, _, _⟩) rfl (fun K hK => ?_) AllReadyH.nil)
    try go_simp
    (with_reducible refine (HA.out _).mono ?_)
    rintro e wx3 ⟨rfl, hb⟩
    have hS3 := hS.step hb
    clear hb hS
    have hS := hS3
    clear hS3
    refine hK.out _ _ hS (fun _ => ?_)
    clear hK K
    try simp only [Act.put, List.setIfInBounds_toArray, List.set_cons_zero, List.set_cons_succ]
    refine wpAnyH_ready (rs := [28]) (by kernel_rfl) (by simp) ?_
    refine (AllReadyH.cons (o := ⟨some 70, _, _, _, _, _⟩) rfl (fun K hK => ?_) AllReadyH.nil)
    try go_simp
    (with_reducible refine (HC.out _).mono ?_)
    rintro e wx4 ⟨rfl, hb⟩
    have hS4 := hS.step hb
    clear hb hS
    have hS := hS4
    clear hS4
    refine hK.out _ _ hS (fun _ => ?_)
    clear hK K
    try simp only [Act.put, List.setIfInBounds_toArray, List.set_cons_zero, List.set_cons_succ]
    refine wpAnyH_take (i := 29) (oi := ⟨some 71, _, _, _, _, _⟩) (v := ?va29) rfl (by kernel_rfl) (by kernel_rfl) (by kernel_rfl) (fun _ _ _ h => h) (Or.inl ⟨by rfl, ?ya29⟩) hS ?ra29
    case ya29 => intro W hW; go_simp; first | done | with_reducible rfl
    simp only [Act.put, List.setIfInBounds_toArray, List.set_cons_zero, List.set_cons_succ]
    refine wpAnyH_take (i := 30) (oi := ⟨some 72, _, _, _, _, _⟩) (v := ?va30) rfl (by kernel_rfl) (by kernel_rfl) (by kernel_rfl) (fun _ _ _ h => h) (Or.inl ⟨by rfl, ?ya30⟩) hS ?ra30
    case ya30 => intro W hW; go_simp; first | done | with_reducible rfl
    simp only [Act.put, List.setIfInBounds_toArray, List.set_cons_zero, List.set_cons_succ]
    refine wpAnyH_take (i := 31) (oi := ⟨some 4, _, _, _, _, _⟩) (v := ?va31) rfl (by kernel_rfl) (by kernel_rfl) (by kernel_rfl) (fun _ _ _ h => h) (Or.inl ⟨by rfl, ?ya31⟩) hS ?ra31
    case ya31 => intro W hW; go_simp; first | done | with_reducible rfl
    simp only [Act.put, List.setIfInBounds_toArray, List.set_cons_zero, List.set_cons_succ]
    refine wpAnyH_done (by kernel_rfl) ?_ _
    go_wp2_with fail
    go_ret
    exact ⟨by simp, hS.kp⟩
set_option maxHeartbeats 8000000 in
set_option maxRecDepth 100000 in
theorem sa_e (u v : U) (l r s t : List UInt8) (m k : Nat) (w : World) (hm : min (l.length : Int) 300 = (m : Int)) (hk : min (r.length : Int) 300 = (k : Int)) (hm2 : m ≤ l.length) (hk2 : k ≤ r.length) (hts : (str l).extract 0 m = str s) (htt : (str r).extract 0 k = str t) (hsl : (str l).size = l.length) (hsr : (str r).size = r.length) (HS : Hid (∀ w', Kept w w' → Calls Tryz.prog 13 #[] w' fun e w2 => e = .returned (.bool true) ∧ Below w'.heap.size w' w2)) (H1 : Hid (∀ w', Kept w w' → Calls Tryz.prog 14 #[.string (str s)] w' fun e w2 => e = .returned (.tuple #[.agg (uC u.sch u.host u.port u.path u.q u.f).toArray, .int .i64 0]) ∧ Below w'.heap.size w' w2)) (H2c : Hid (∀ w', Kept w w' → Calls Tryz.prog 14 #[.string (str t)] w' fun e w2 => e = .returned (.tuple #[.agg (uC v.sch v.host v.port v.path v.q v.f).toArray, .int .i64 0]) ∧ Below w'.heap.size w' w2)) (O1 O2 : List UInt8) (HO1 : Hid (∀ w', Kept w w' → Calls Tryz.prog 21 #[uV u] w' fun e w2 => e = .returned (.string (str O1)) ∧ Below w'.heap.size w' w2)) (HO2 : Hid (∀ w', Kept w w' → Calls Tryz.prog 21 #[uV v] w' fun e w2 => e = .returned (.string (str O2)) ∧ Below w'.heap.size w' w2)) (X : Bool) (he : ((str O1).toList == (str O2).toList) = false) (hn : ((str O1).toList == [110, 117, 108, 108]) = !X) (HA : Hid (∀ w', Calls Tryz.prog 23 #[.agg (uC u.sch u.host u.port u.path u.q u.f).toArray, .agg (uC v.sch v.host v.port v.path v.q v.f).toArray] w' fun e w2 => e = .returned (.bool false) ∧ Below w'.heap.size w' w2)) (HB : Hid (∀ w', Calls Tryz.prog 23 #[.agg (uC u.sch u.host u.port u.path u.q u.f).toArray, .agg (uC u.sch u.host u.port u.path u.q u.f).toArray] w' fun e w2 => e = .returned (.bool X) ∧ Below w'.heap.size w' w2)) (HC : Hid (∀ w', Calls Tryz.prog 23 #[.agg (uC v.sch v.host v.port v.path v.q v.f).toArray, .agg (uC u.sch u.host u.port u.path u.q u.f).toArray] w' fun e w2 => e = .returned (.bool false) ∧ Below w'.heap.size w' w2)) : Calls Tryz.prog 11 #[.string (str l), .string (str r)] w fun e w' => e = .returned (.bool true) ∧ Below w.heap.size w w' := by
    go_enter Tryz.func11, Tryz.ntmps11
    go_wp2_with (first
      | (go_at_call 13; (with_reducible refine (HS.out _ (Hl.nil w).kp).mono ?_); (rintro e w1 ⟨rfl, hb⟩; have H0 := (Hl.nil w).step hb; clear hb))
      | (go_at_call 14; (with_reducible refine (H1.out _ H0.kp).mono ?_); (rintro e wa1 ⟨rfl, hb⟩; have G1 := H0.step hb; clear hb))
      | ((with_reducible show wpList _ _ _ (⟨some 6, .alloc _, _, _, _, _⟩ :: _) _ _); refine wp_new _ rfl 24 rfl _ z24 ?_; intro wb1 g1 B1 F1; simp only [Act.put, List.setIfInBounds_toArray, List.set_cons_zero, List.set_cons_succ])
      | ((with_reducible show wpList _ _ _ (⟨none, .store 24 (.tmp 6) (.tmp 20), _, _, _, _⟩ :: _) _ _); refine wp_putAll _ rfl 24 (.tmp 6) (.tmp 20) rfl g1 24 _ (uC u.sch u.host u.port u.path u.q u.f) rfl rfl B1 rfl n24 (uC_one _ _ _ _ _ _) ?_; intro wc1 B U; simp only [Act.put]; have H2 := G1.new F1 U B; clear B U F1 B1 G1)
      | (go_at_call 14; (with_reducible refine (H2c.out _ H2.kp).mono ?_); (rintro e wa2 ⟨rfl, hb⟩; have G2 := H2.step hb; clear hb))
      | ((with_reducible show wpList _ _ _ (⟨some 8, .alloc _, _, _, _, _⟩ :: _) _ _); refine wp_new _ rfl 24 rfl _ z24 ?_; intro wb2 g2 B2 F2; simp only [Act.put, List.setIfInBounds_toArray, List.set_cons_zero, List.set_cons_succ])
      | ((with_reducible show wpList _ _ _ (⟨none, .store 24 (.tmp 8) (.tmp 29), _, _, _, _⟩ :: _) _ _); refine wp_putAll _ rfl 24 (.tmp 8) (.tmp 29) rfl g2 24 _ (uC v.sch v.host v.port v.path v.q v.f) rfl rfl B2 rfl n24 (uC_one _ _ _ _ _ _) ?_; intro wc2 B U; simp only [Act.put]; have H4 := G2.new F2 U B; clear B U F2 B2 G2)
      | ((with_reducible show wpList _ _ _ (⟨some 38, .load 24 (.tmp 6), _, _, _, _⟩ :: _) _ _); refine wp_getU _ (by rfl) (.tmp 6) rfl g1 u rfl (H4.at (x := (g1, uC u.sch u.host u.port u.path u.q u.f)) (by simp)) ?_; simp only [Act.put, List.setIfInBounds_toArray, List.set_cons_zero, List.set_cons_succ])
      | (go_at_call 21; (with_reducible refine (HO1.out _ H4.kp).mono ?_); (rintro e w5 ⟨rfl, hb⟩; have H5 := H4.step hb; clear hb))
      | ((with_reducible show wpList _ _ _ (⟨some 40, .load 24 (.tmp 8), _, _, _, _⟩ :: _) _ _); refine wp_getU _ (by rfl) (.tmp 8) rfl g2 v rfl (H5.at (x := (g2, uC v.sch v.host v.port v.path v.q v.f)) (by simp)) ?_; simp only [Act.put, List.setIfInBounds_toArray, List.set_cons_zero, List.set_cons_succ])
      | (go_at_call 21; (with_reducible refine (HO2.out _ H5.kp).mono ?_); (rintro e w6 ⟨rfl, hb⟩; have H6 := H5.step hb; clear hb)))
    refine wp_region_held_drew (S := fun W => Hl w W [(g2, uC v.sch v.host v.port v.path v.q v.f), (g1, uC u.sch u.host u.port u.path u.q u.f)]) (by kernel_rfl) (H6.step (Below.refl _ _).drew) (fun hS => ?_)
    refine wpAnyH_take (i := 0) (oi := ⟨some 42, _, _, _, _, _⟩) (v := ?vb0) rfl (by kernel_rfl) (by kernel_rfl) (by kernel_rfl) (fun _ _ _ h => h) (Or.inl ⟨by rfl, ?yb0⟩) hS ?rb0
    case yb0 => intro W hW; go_simp; first | done | with_reducible rfl
    simp only [Act.put, List.setIfInBounds_toArray, List.set_cons_zero, List.set_cons_succ]
    refine wpAnyH_take (i := 1) (oi := ⟨some 43, _, _, _, _, _⟩) (v := ?vb1) rfl (by kernel_rfl) (by kernel_rfl) (by kernel_rfl) (fun _ _ _ h => h) (Or.inl ⟨by rfl, ?yb1⟩) hS ?rb1
    case yb1 => intro W hW; go_simp; first | done | with_reducible rfl
    simp only [Act.put, List.setIfInBounds_toArray, List.set_cons_zero, List.set_cons_succ]
    refine wpAnyH_take (i := 2) (oi := ⟨some 44, _, _, _, _, _⟩) (v := _) rfl (by kernel_rfl) (by kernel_rfl) (by kernel_rfl) (fun _ _ _ h => h) (yieldsIf_load_mid (by rfl) 24 (.tmp 6) rfl g1 0 rfl (uC u.sch u.host u.port u.path u.q u.f) _ (fun W hW => (hW.at (x := (g1, uC u.sch u.host u.port u.path u.q u.f)) (by simp)).whole) Tryz.underlying24 rfl n24) hS ?_
    simp only [Act.put, List.setIfInBounds_toArray, List.set_cons_zero, List.set_cons_succ]
    refine wpAnyH_take (i := 3) (oi := ⟨some 45, _, _, _, _, _⟩) (v := _) rfl (by kernel_rfl) (by kernel_rfl) (by kernel_rfl) (fun _ _ _ h => h) (yieldsIf_load_mid (by rfl) 24 (.tmp 8) rfl g2 0 rfl (uC v.sch v.host v.port v.path v.q v.f) _ (fun W hW => (hW.at (x := (g2, uC v.sch v.host v.port v.path v.q v.f)) (by simp)).whole) Tryz.underlying24 rfl n24) hS ?_
    simp only [Act.put, List.setIfInBounds_toArray, List.set_cons_zero, List.set_cons_succ]
    refine wpAnyH_take (i := 5) (oi := ⟨some 47, _, _, _, _, _⟩) (v := ?vb5) rfl (by kernel_rfl) (by kernel_rfl) (by kernel_rfl) (fun _ _ _ h => h) (Or.inl ⟨by rfl, ?yb5⟩) hS ?rb5
    case yb5 => intro W hW; go_simp; first | done | with_reducible rfl
    simp only [Act.put, List.setIfInBounds_toArray, List.set_cons_zero, List.set_cons_succ]
    refine wpAnyH_take (i := 6) (oi := ⟨some 48, _, _, _, _, _⟩) (v := ?vb6) rfl (by kernel_rfl) (by kernel_rfl) (by kernel_rfl) (fun _ _ _ h => h) (Or.inl ⟨by rfl, ?yb6⟩) hS ?rb6
    case yb6 => intro W hW; go_simp; first | done | with_reducible rfl
    simp only [Act.put, List.setIfInBounds_toArray, List.set_cons_zero, List.set_cons_succ]
    refine wpAnyH_take (i := 7) (oi := ⟨some 49, _, _, _, _, _⟩) (v := ?vb7) rfl (by kernel_rfl) (by kernel_rfl) (by kernel_rfl) (fun _ _ _ h => h) (Or.inl ⟨by rfl, ?yb7⟩) hS ?rb7
    case yb7 => intro W hW; go_simp; first | done | with_reducible rfl
    simp only [Act.put, List.setIfInBounds_toArray, List.set_cons_zero, List.set_cons_succ]
    refine wpAnyH_ready (rs := [4]) (by kernel_rfl) (by simp) ?_
    refine (AllReadyH.cons (o := ⟨some 46, _, _, _, _, _⟩) rfl (fun K hK => ?_) AllReadyH.nil)
    try go_simp
    (with_reducible refine (HA.out _).mono ?_)
    rintro e wx1 ⟨rfl, hb⟩
    have hS1 := hS.step hb
    clear hb hS
    have hS := hS1
    clear hS1
    refine hK.out _ _ hS (fun _ => ?_)
    clear hK K
    try simp only [Act.put, List.setIfInBounds_toArray, List.set_cons_zero, List.set_cons_succ]
    refine wpAnyH_take (i := 8) (oi := ⟨some 50, _, _, _, _, _⟩) (v := ?vb8) rfl (by kernel_rfl) (by kernel_rfl) (by kernel_rfl) (fun _ _ _ h => h) (Or.inl ⟨by rfl, ?yb8⟩) hS ?rb8
    case yb8 => intro W hW; go_simp; first | done | with_reducible rfl
    simp only [Act.put, List.setIfInBounds_toArray, List.set_cons_zero, List.set_cons_succ]
    refine wpAnyH_take (i := 9) (oi := ⟨some 51, _, _, _, _, _⟩) (v := undef) rfl (by kernel_rfl) (by kernel_rfl) (by kernel_rfl) (fun _ _ _ h => h) (Or.inr ⟨by rfl, rfl⟩) hS ?_
    simp only [Act.put, List.setIfInBounds_toArray, List.set_cons_zero, List.set_cons_succ]
    refine wpAnyH_take (i := 10) (oi := ⟨some 52, _, _, _, _, _⟩) (v := undef) rfl (by kernel_rfl) (by kernel_rfl) (by kernel_rfl) (fun _ _ _ h => h) (Or.inr ⟨by rfl, rfl⟩) hS ?_
    simp only [Act.put, List.setIfInBounds_toArray, List.set_cons_zero, List.set_cons_succ]
    refine wpAnyH_take (i := 11) (oi := ⟨some 53, _, _, _, _, _⟩) (v := ?vb11) rfl (by kernel_rfl) (by kernel_rfl) (by kernel_rfl) (fun _ _ _ h => h) (Or.inl ⟨by rfl, ?yb11⟩) hS ?rb11
    case yb11 => intro W hW; go_simp; first | done | with_reducible rfl
    simp only [Act.put, List.setIfInBounds_toArray, List.set_cons_zero, List.set_cons_succ]
    refine wpAnyH_take (i := 12) (oi := ⟨some 54, _, _, _, _, _⟩) (v := ?vb12) rfl (by kernel_rfl) (by kernel_rfl) (by kernel_rfl) (fun _ _ _ h => h) (Or.inl ⟨by rfl, ?yb12⟩) hS ?rb12
    case yb12 => intro W hW; go_simp; first | done | with_reducible rfl
    simp only [Act.put, List.setIfInBounds_toArray, List.set_cons_zero, List.set_cons_succ]
    refine wpAnyH_take (i := 13) (oi := ⟨some 55, _, _, _, _, _⟩) (v := ?vb13) rfl (by kernel_rfl) (by kernel_rfl) (by kernel_rfl) (fun _ _ _ h => h) (Or.inl ⟨by rfl, ?yb13⟩) hS ?rb13
    case yb13 => intro W hW; go_simp; first | done | with_reducible rfl
    simp only [Act.put, List.setIfInBounds_toArray, List.set_cons_zero, List.set_cons_succ]
    refine wpAnyH_take (i := 14) (oi := ⟨some 56, _, _, _, _, _⟩) (v := ?vb14) rfl (by kernel_rfl) (by kernel_rfl) (by kernel_rfl) (fun _ _ _ h => h) (Or.inl ⟨by rfl, ?yb14⟩) hS ?rb14
    case yb14 => intro W hW; go_simp; first | done | with_reducible rfl
    simp only [Act.put, List.setIfInBounds_toArray, List.set_cons_zero, List.set_cons_succ]
    refine wpAnyH_take (i := 15) (oi := ⟨some 57, _, _, _, _, _⟩) (v := _) rfl (by kernel_rfl) (by kernel_rfl) (by kernel_rfl) (fun _ _ _ h => h) (yieldsIf_load_mid (by rfl) 24 (.tmp 6) rfl g1 0 rfl (uC u.sch u.host u.port u.path u.q u.f) _ (fun W hW => (hW.at (x := (g1, uC u.sch u.host u.port u.path u.q u.f)) (by simp)).whole) Tryz.underlying24 rfl n24) hS ?_
    simp only [Act.put, List.setIfInBounds_toArray, List.set_cons_zero, List.set_cons_succ]
    refine wpAnyH_take (i := 16) (oi := ⟨some 58, _, _, _, _, _⟩) (v := _) rfl (by kernel_rfl) (by kernel_rfl) (by kernel_rfl) (fun _ _ _ h => h) (yieldsIf_load_mid (by rfl) 24 (.tmp 6) rfl g1 0 rfl (uC u.sch u.host u.port u.path u.q u.f) _ (fun W hW => (hW.at (x := (g1, uC u.sch u.host u.port u.path u.q u.f)) (by simp)).whole) Tryz.underlying24 rfl n24) hS ?_
    simp only [Act.put, List.setIfInBounds_toArray, List.set_cons_zero, List.set_cons_succ]
    refine wpAnyH_take (i := 18) (oi := ⟨some 60, _, _, _, _, _⟩) (v := ?vb18) rfl (by kernel_rfl) (by kernel_rfl) (by kernel_rfl) (fun _ _ _ h => h) (Or.inl ⟨by rfl, ?yb18⟩) hS ?rb18
    case yb18 => intro W hW; go_simp; first | done | with_reducible rfl
    simp only [Act.put, List.setIfInBounds_toArray, List.set_cons_zero, List.set_cons_succ]
    refine wpAnyH_take (i := 19) (oi := ⟨some 61, _, _, _, _, _⟩) (v := ?vb19) rfl (by kernel_rfl) (by kernel_rfl) (by kernel_rfl) (fun _ _ _ h => h) (Or.inl ⟨by rfl, ?yb19⟩) hS ?rb19
    case yb19 => intro W hW; go_simp; first | done | with_reducible rfl
    simp only [Act.put, List.setIfInBounds_toArray, List.set_cons_zero, List.set_cons_succ]
    refine wpAnyH_ready (rs := [17]) (by kernel_rfl) (by simp) ?_
    refine (AllReadyH.cons (o := ⟨some 59, _, _, _, _, _⟩) rfl (fun K hK => ?_) AllReadyH.nil)
    try go_simp
    (with_reducible refine (HB.out _).mono ?_)
    rintro e wx2 ⟨rfl, hb⟩
    have hS2 := hS.step hb
    clear hb hS
    have hS := hS2
    clear hS2
    refine hK.out _ _ hS (fun _ => ?_)
    clear hK K
    try simp only [Act.put, List.setIfInBounds_toArray, List.set_cons_zero, List.set_cons_succ]
    refine wpAnyH_take (i := 20) (oi := ⟨some 62, _, _, _, _, _⟩) (v := ?vb20) rfl (by kernel_rfl) (by kernel_rfl) (by kernel_rfl) (fun _ _ _ h => h) (Or.inl ⟨by rfl, ?yb20⟩) hS ?rb20
    case yb20 => intro W hW; go_simp; first | done | with_reducible rfl
    simp only [Act.put, List.setIfInBounds_toArray, List.set_cons_zero, List.set_cons_succ]
    refine wpAnyH_take (i := 21) (oi := ⟨some 63, _, _, _, _, _⟩) (v := ?vb21) rfl (by kernel_rfl) (by kernel_rfl) (by kernel_rfl) (fun _ _ _ h => h) (Or.inl ⟨by rfl, ?yb21⟩) hS ?rb21
    case yb21 => intro W hW; go_simp; first | done | with_reducible rfl
    simp only [Act.put, List.setIfInBounds_toArray, List.set_cons_zero, List.set_cons_succ]
    refine wpAnyH_take (i := 22) (oi := ⟨some 64, _, _, _, _, _⟩) (v := ?vb22) rfl (by kernel_rfl) (by kernel_rfl) (by kernel_rfl) (fun _ _ _ h => h) (Or.inl ⟨by rfl, ?yb22⟩) hS ?rb22
    case yb22 => intro W hW; go_simp; first | done | with_reducible rfl
    simp only [Act.put, List.setIfInBounds_toArray, List.set_cons_zero, List.set_cons_succ]
    refine wpAnyH_take (i := 23) (oi := ⟨some 65, _, _, _, _, _⟩) (v := _) rfl (by kernel_rfl) (by kernel_rfl) (by kernel_rfl) (fun _ _ _ h => h) (yieldsIf_load_mid (by rfl) 24 (.tmp 6) rfl g1 0 rfl (uC u.sch u.host u.port u.path u.q u.f) _ (fun W hW => (hW.at (x := (g1, uC u.sch u.host u.port u.path u.q u.f)) (by simp)).whole) Tryz.underlying24 rfl n24) hS ?_
    simp only [Act.put, List.setIfInBounds_toArray, List.set_cons_zero, List.set_cons_succ]
    refine wpAnyH_take (i := 24) (oi := ⟨some 66, _, _, _, _, _⟩) (v := _) rfl (by kernel_rfl) (by kernel_rfl) (by kernel_rfl) (fun _ _ _ h => h) (yieldsIf_load_mid (by rfl) 24 (.tmp 8) rfl g2 0 rfl (uC v.sch v.host v.port v.path v.q v.f) _ (fun W hW => (hW.at (x := (g2, uC v.sch v.host v.port v.path v.q v.f)) (by simp)).whole) Tryz.underlying24 rfl n24) hS ?_
    simp only [Act.put, List.setIfInBounds_toArray, List.set_cons_zero, List.set_cons_succ]
    refine wpAnyH_take (i := 26) (oi := ⟨some 68, _, _, _, _, _⟩) (v := _) rfl (by kernel_rfl) (by kernel_rfl) (by kernel_rfl) (fun _ _ _ h => h) (yieldsIf_load_mid (by rfl) 24 (.tmp 8) rfl g2 0 rfl (uC v.sch v.host v.port v.path v.q v.f) _ (fun W hW => (hW.at (x := (g2, uC v.sch v.host v.port v.path v.q v.f)) (by simp)).whole) Tryz.underlying24 rfl n24) hS ?_
    simp only [Act.put, List.setIfInBounds_toArray, List.set_cons_zero, List.set_cons_succ]
    refine wpAnyH_take (i := 27) (oi := ⟨some 69, _, _, _, _, _⟩) (v := _) rfl (by kernel_rfl) (by kernel_rfl) (by kernel_rfl) (fun _ _ _ h => h) (yieldsIf_load_mid (by rfl) 24 (.tmp 6) rfl g1 0 rfl (uC u.sch u.host u.port u.path u.q u.f) _ (fun W hW => (hW.at (x := (g1, uC u.sch u.host u.port u.path u.q u.f)) (by simp)).whole) Tryz.underlying24 rfl n24) hS ?_
    simp only [Act.put, List.setIfInBounds_toArray, List.set_cons_zero, List.set_cons_succ]
    refine wpAnyH_ready (rs := [25]) (by kernel_rfl) (by simp) ?_
    refine (AllReadyH.cons (o := ⟨some 67, _, _, _, _, _⟩) rfl (fun K hK => ?_) AllReadyH.nil)
    try go_simp
    (with_reducible refine (HA.out _).mono ?_)
    rintro e wx3 ⟨rfl, hb⟩
    have hS3 := hS.step hb
    clear hb hS
    have hS := hS3
    clear hS3
    refine hK.out _ _ hS (fun _ => ?_)
    clear hK K
    try simp only [Act.put, List.setIfInBounds_toArray, List.set_cons_zero, List.set_cons_succ]
    refine wpAnyH_ready (rs := [28]) (by kernel_rfl) (by simp) ?_
    refine (AllReadyH.cons (o := ⟨some 70, _, _, _, _, _⟩) rfl (fun K hK => ?_) AllReadyH.nil)
    try go_simp
    (with_reducible refine (HC.out _).mono ?_)
    rintro e wx4 ⟨rfl, hb⟩
    have hS4 := hS.step hb
    clear hb hS
    have hS := hS4
    clear hS4
    refine hK.out _ _ hS (fun _ => ?_)
    clear hK K
    try simp only [Act.put, List.setIfInBounds_toArray, List.set_cons_zero, List.set_cons_succ]
    refine wpAnyH_take (i := 29) (oi := ⟨some 71, _, _, _, _, _⟩) (v := ?vb29) rfl (by kernel_rfl) (by kernel_rfl) (by kernel_rfl) (fun _ _ _ h => h) (Or.inl ⟨by rfl, ?yb29⟩) hS ?rb29
    case yb29 => intro W hW; go_simp; first | done | with_reducible rfl
    simp only [Act.put, List.setIfInBounds_toArray, List.set_cons_zero, List.set_cons_succ]
    refine wpAnyH_take (i := 30) (oi := ⟨some 72, _, _, _, _, _⟩) (v := ?vb30) rfl (by kernel_rfl) (by kernel_rfl) (by kernel_rfl) (fun _ _ _ h => h) (Or.inl ⟨by rfl, ?yb30⟩) hS ?rb30
    case yb30 => intro W hW; go_simp; first | done | with_reducible rfl
    simp only [Act.put, List.setIfInBounds_toArray, List.set_cons_zero, List.set_cons_succ]
    refine wpAnyH_take (i := 31) (oi := ⟨some 4, _, _, _, _, _⟩) (v := ?vb31) rfl (by kernel_rfl) (by kernel_rfl) (by kernel_rfl) (fun _ _ _ h => h) (Or.inl ⟨by rfl, ?yb31⟩) hS ?rb31
    case yb31 => intro W hW; go_simp; first | done | with_reducible rfl
    simp only [Act.put, List.setIfInBounds_toArray, List.set_cons_zero, List.set_cons_succ]
    refine wpAnyH_done (by kernel_rfl) ?_ _
    go_wp2_with fail
    go_ret
    exact ⟨by simp, hS.kp⟩
theorem sames_any (l r : List UInt8) (w : World) (ht : Tb w) : Calls Tryz.prog 11 #[.string (str l), .string (str r)] w fun e w' => e = .returned (.bool true) ∧ Below w.heap.size w w' := by
  have HS : Hid (∀ w', Kept w w' → Calls Tryz.prog 13 #[] w' fun e w2 => e = .returned (.bool true) ∧ Below w'.heap.size w' w2) := fun w' hk => shown_any w' (ht.kp hk)
  obtain ⟨m, hm, hm1, hm2⟩ : ∃ m : Nat, min (l.length : Int) 300 = (m : Int) ∧ m ≤ 300 ∧ m ≤ l.length := ⟨min l.length 300, by omega, by omega, by omega⟩
  obtain ⟨k, hk, hk1, hk2⟩ : ∃ k : Nat, min (r.length : Int) 300 = (k : Int) ∧ k ≤ 300 ∧ k ≤ r.length := ⟨min r.length 300, by omega, by omega, by omega⟩
  have hts := str_take l m
  have htt := str_take r k
  have hls : (l.take m).length ≤ 300 := by rw [List.length_take]; omega
  have hlt : (r.take k).length ≤ 300 := by rw [List.length_take]; omega
  generalize l.take m = s at hts hls
  generalize r.take k = t at htt hlt
  have hsl := str_size l
  have hsr := str_size r
  have H1 : ∀ w', Kept w w' → Calls Tryz.prog 14 #[.string (str s)] w' fun e w2 => e = .returned (rU (prsU s)) ∧ Below w'.heap.size w' w2 := fun w' hk => url_any s w' (by omega) (ht.kp hk)
  have H2 : ∀ w', Kept w w' → Calls Tryz.prog 14 #[.string (str t)] w' fun e w2 => e = .returned (rU (prsU t)) ∧ Below w'.heap.size w' w2 := fun w' hk => url_any t w' (by omega) (ht.kp hk)
  cases hu : prsU s with
  | none =>
    rw [hu] at H1
    cases hv : prsU t with
    | none =>
      rw [hv] at H2
      exact sa_b zU zU l r s t m k w hm hk hm2 hk2 hts htt hsl hsr HS H1 H2
    | some v =>
      rw [hv] at H2
      exact sa_a zU v l r s t m k w hm hk hm2 hk2 hts htt hsl hsr HS H1 H2
  | some u =>
    rw [hu] at H1
    cases hv : prsU t with
    | none =>
      rw [hv] at H2
      exact sa_c u zU l r s t m k w hm hk hm2 hk2 hts htt hsl hsr HS H1 H2
    | some v =>
      rw [hv] at H2
      have hub := ub_of s u hu (by omega)
      have hvb := ub_of t v hv (by omega)
      have HO1 : Hid (∀ w', Kept w w' → Calls Tryz.prog 21 #[uV u] w' fun e w2 => e = .returned (.string (str (org u))) ∧ Below w'.heap.size w' w2) := fun w' hk => origin_any u w' hub (ht.kp hk)
      have HO2 : Hid (∀ w', Kept w w' → Calls Tryz.prog 21 #[uV v] w' fun e w2 => e = .returned (.string (str (org v))) ∧ Below w'.heap.size w' w2) := fun w' hk => origin_any v w' hvb (ht.kp hk)
      have HA : Hid (∀ w', Calls Tryz.prog 23 #[uV u, uV v] w' fun e w2 => e = .returned (.bool (same u v)) ∧ Below w'.heap.size w' w2) := fun w' => same_any u v w' hub.s
      have HB : Hid (∀ w', Calls Tryz.prog 23 #[uV u, uV u] w' fun e w2 => e = .returned (.bool (same u u)) ∧ Below w'.heap.size w' w2) := fun w' => same_any u u w' hub.s
      have HC : Hid (∀ w', Calls Tryz.prog 23 #[uV v, uV u] w' fun e w2 => e = .returned (.bool (same v u)) ∧ Below w'.heap.size w' w2) := fun w' => same_any v u w' hvb.s
      have e1 := same_org s t u v hu hv
      have e2 := same_self u
      have e3 := same_comm v u
      have e4 := org_null u
      have hn : ((str (org u)).toList == [110, 117, 108, 108]) = !(spc u.sch) := by
        rw [toList_str, Bool.eq_iff_iff, beq_iff_eq, e4]
        cases spc u.sch <;> simp
      have hx : decide (org u ≠ [110, 117, 108, 108]) = spc u.sch := by
        rw [Bool.eq_iff_iff, decide_eq_true_eq, ne_eq, e4]
        cases spc u.sch <;> simp
      rw [hx] at e1
      rw [e2] at HB
      rw [e3, e1] at HC
      rw [e1] at HA
      by_cases ho : org u = org v
      · have he : ((str (org u)).toList == (str (org v)).toList) = true := by rw [toList_str, toList_str, beq_iff_eq, ho]
        rw [decide_eq_true ho, Bool.true_and] at HA HC
        exact sa_d u v l r s t m k w hm hk hm2 hk2 hts htt hsl hsr HS H1 H2 _ _ HO1 HO2 _ he hn HA HB HC
      · have he : ((str (org u)).toList == (str (org v)).toList) = false := by rw [toList_str, toList_str, beq_eq_false_iff_ne]; exact ho
        rw [decide_eq_false ho, Bool.false_and] at HA HC
        exact sa_e u v l r s t m k w hm hk hm2 hk2 hts htt hsl hsr HS H1 H2 _ _ HO1 HO2 _ he hn HA HB HC
end Go.Proofs.YtcepigekibidfaaGreatDoor
