/-
  What transeptlaw08.WeburlOrigins answers: true; nothing that was there turns. Condition: the library's tables.
-/
import Derived.Test.YtcepigekibidfaaGreatDoorGr
import Derived.Test.YtcepigekibidfaaGreatDoorGk
namespace Go.Proofs.YtcepigekibidfaaGreatDoor
open Go.RowKit

set_option maxHeartbeats 8000000 in
set_option maxRecDepth 100000 in
theorem or_a (u : U) (l s : List UInt8) (m : Nat) (w : World) (hm : min (l.length : Int) 300 = (m : Int)) (hm2 : m ≤ l.length) (hts : (str l).extract 0 m = str s) (hsl : (str l).size = l.length) (HS : Hid (∀ w', Kept w w' → Calls Tryz.prog 13 #[] w' fun e w2 => e = .returned (.bool true) ∧ Below w'.heap.size w' w2)) (H1 : Hid (∀ w', Kept w w' → Calls Tryz.prog 14 #[.string (str s)] w' fun e w2 => e = .returned (.tuple #[.agg (uC u.sch u.host u.port u.path u.q u.f).toArray, .int .i64 7]) ∧ Below w'.heap.size w' w2)) : Calls Tryz.prog 12 #[.string (str l)] w fun e w' => e = .returned (.bool true) ∧ Below w.heap.size w w' := by
    go_enter Tryz.func12, Tryz.ntmps12
    go_wp2_with (first
      | (go_at_call 13; (with_reducible refine (HS.out _ (Hl.nil w).kp).mono ?_); (rintro e w1 ⟨rfl, hb⟩; have H0 := (Hl.nil w).step hb; clear hb))
      | (go_at_call 14; (with_reducible refine (H1.out _ H0.kp).mono ?_); (rintro e wa1 ⟨rfl, hb⟩; have G1 := H0.step hb; clear hb))
      | ((with_reducible show wpList _ _ _ (⟨some 4, .alloc _, _, _, _, _⟩ :: _) _ _); refine wp_new _ rfl 24 rfl _ z24 ?_; intro wb1 g1 B1 F1; simp only [Act.put, List.setIfInBounds_toArray, List.set_cons_zero, List.set_cons_succ])
      | ((with_reducible show wpList _ _ _ (⟨none, .store 24 (.tmp 4) (.tmp 16), _, _, _, _⟩ :: _) _ _); refine wp_putAll _ rfl 24 (.tmp 4) (.tmp 16) rfl g1 24 _ (uC u.sch u.host u.port u.path u.q u.f) rfl rfl B1 rfl n24 (uC_one _ _ _ _ _ _) ?_; intro wc1 B U; simp only [Act.put]; have H2 := G1.new F1 U B; clear B U F1 B1 G1))
    go_ret
    exact ⟨rfl, H2.kp⟩
set_option maxHeartbeats 8000000 in
set_option maxRecDepth 100000 in
theorem or_b (u : U) (O : List UInt8) (l s : List UInt8) (m : Nat) (w : World) (hm : min (l.length : Int) 300 = (m : Int)) (hm2 : m ≤ l.length) (hts : (str l).extract 0 m = str s) (hsl : (str l).size = l.length) (HS : Hid (∀ w', Kept w w' → Calls Tryz.prog 13 #[] w' fun e w2 => e = .returned (.bool true) ∧ Below w'.heap.size w' w2)) (H1 : Hid (∀ w', Kept w w' → Calls Tryz.prog 14 #[.string (str s)] w' fun e w2 => e = .returned (.tuple #[.agg (uC u.sch u.host u.port u.path u.q u.f).toArray, .int .i64 0]) ∧ Below w'.heap.size w' w2)) (HO1 : Hid (∀ w', Kept w w' → Calls Tryz.prog 21 #[uV u] w' fun e w2 => e = .returned (.string (str O)) ∧ Below w'.heap.size w' w2)) (hn : ((str O).toList == [110, 117, 108, 108]) = true) : Calls Tryz.prog 12 #[.string (str l)] w fun e w' => e = .returned (.bool true) ∧ Below w.heap.size w w' := by
    go_enter Tryz.func12, Tryz.ntmps12
    go_wp2_with (first
      | (go_at_call 13; (with_reducible refine (HS.out _ (Hl.nil w).kp).mono ?_); (rintro e w1 ⟨rfl, hb⟩; have H0 := (Hl.nil w).step hb; clear hb))
      | (go_at_call 14; (with_reducible refine (H1.out _ H0.kp).mono ?_); (rintro e wa1 ⟨rfl, hb⟩; have G1 := H0.step hb; clear hb))
      | ((with_reducible show wpList _ _ _ (⟨some 4, .alloc _, _, _, _, _⟩ :: _) _ _); refine wp_new _ rfl 24 rfl _ z24 ?_; intro wb1 g1 B1 F1; simp only [Act.put, List.setIfInBounds_toArray, List.set_cons_zero, List.set_cons_succ])
      | ((with_reducible show wpList _ _ _ (⟨none, .store 24 (.tmp 4) (.tmp 16), _, _, _, _⟩ :: _) _ _); refine wp_putAll _ rfl 24 (.tmp 4) (.tmp 16) rfl g1 24 _ (uC u.sch u.host u.port u.path u.q u.f) rfl rfl B1 rfl n24 (uC_one _ _ _ _ _ _) ?_; intro wc1 B U; simp only [Act.put]; have H2 := G1.new F1 U B; clear B U F1 B1 G1)
      | ((with_reducible show wpList _ _ _ (⟨some 21, .load 24 (.tmp 4), _, _, _, _⟩ :: _) _ _); refine wp_getU _ (by rfl) (.tmp 4) rfl g1 u rfl (H2.at (x := (g1, uC u.sch u.host u.port u.path u.q u.f)) (by simp)) ?_; simp only [Act.put, List.setIfInBounds_toArray, List.set_cons_zero, List.set_cons_succ])
      | (go_at_call 21; (with_reducible refine (HO1.out _ H2.kp).mono ?_); (rintro e w5 ⟨rfl, hb⟩; have H5 := H2.step hb; clear hb)))
    go_ret
    exact ⟨by simp, H5.kp⟩
set_option maxHeartbeats 8000000 in
set_option maxRecDepth 100000 in
theorem or_c (u v : U) (O : List UInt8) (l s : List UInt8) (m : Nat) (w : World) (hm : min (l.length : Int) 300 = (m : Int)) (hm2 : m ≤ l.length) (hts : (str l).extract 0 m = str s) (hsl : (str l).size = l.length) (HS : Hid (∀ w', Kept w w' → Calls Tryz.prog 13 #[] w' fun e w2 => e = .returned (.bool true) ∧ Below w'.heap.size w' w2)) (H1 : Hid (∀ w', Kept w w' → Calls Tryz.prog 14 #[.string (str s)] w' fun e w2 => e = .returned (.tuple #[.agg (uC u.sch u.host u.port u.path u.q u.f).toArray, .int .i64 0]) ∧ Below w'.heap.size w' w2)) (HO1 : Hid (∀ w', Kept w w' → Calls Tryz.prog 21 #[uV u] w' fun e w2 => e = .returned (.string (str O)) ∧ Below w'.heap.size w' w2)) (hn : ((str O).toList == [110, 117, 108, 108]) = false) (H1c : Hid (∀ w', Kept w w' → Calls Tryz.prog 14 #[.string (str O)] w' fun e w2 => e = .returned (.tuple #[.agg (uC v.sch v.host v.port v.path v.q v.f).toArray, .int .i64 0]) ∧ Below w'.heap.size w' w2)) (HO2 : Hid (∀ w', Kept w w' → Calls Tryz.prog 21 #[uV v] w' fun e w2 => e = .returned (.string (str O)) ∧ Below w'.heap.size w' w2)) (HA : Hid (∀ w', Calls Tryz.prog 23 #[.agg (uC u.sch u.host u.port u.path u.q u.f).toArray, .agg (uC v.sch v.host v.port v.path v.q v.f).toArray] w' fun e w2 => e = .returned (.bool true) ∧ Below w'.heap.size w' w2)) (h3 : ((str v.path).toList == [47]) = true) (h4 : (str v.q).toList.isEmpty = true) (h5 : (str v.f).toList.isEmpty = true) : Calls Tryz.prog 12 #[.string (str l)] w fun e w' => e = .returned (.bool true) ∧ Below w.heap.size w w' := by
    go_enter Tryz.func12, Tryz.ntmps12
    go_wp2_with (first
      | (go_at_call 13; (with_reducible refine (HS.out _ (Hl.nil w).kp).mono ?_); (rintro e w1 ⟨rfl, hb⟩; have H0 := (Hl.nil w).step hb; clear hb))
      | (go_at_call 14; (with_reducible refine (H1.out _ H0.kp).mono ?_); (rintro e wa1 ⟨rfl, hb⟩; have G1 := H0.step hb; clear hb))
      | ((with_reducible show wpList _ _ _ (⟨some 4, .alloc _, _, _, _, _⟩ :: _) _ _); refine wp_new _ rfl 24 rfl _ z24 ?_; intro wb1 g1 B1 F1; simp only [Act.put, List.setIfInBounds_toArray, List.set_cons_zero, List.set_cons_succ])
      | ((with_reducible show wpList _ _ _ (⟨none, .store 24 (.tmp 4) (.tmp 16), _, _, _, _⟩ :: _) _ _); refine wp_putAll _ rfl 24 (.tmp 4) (.tmp 16) rfl g1 24 _ (uC u.sch u.host u.port u.path u.q u.f) rfl rfl B1 rfl n24 (uC_one _ _ _ _ _ _) ?_; intro wc1 B U; simp only [Act.put]; have H2 := G1.new F1 U B; clear B U F1 B1 G1)
      | ((with_reducible show wpList _ _ _ (⟨some 21, .load 24 (.tmp 4), _, _, _, _⟩ :: _) _ _); refine wp_getU _ (by rfl) (.tmp 4) rfl g1 u rfl (H2.at (x := (g1, uC u.sch u.host u.port u.path u.q u.f)) (by simp)) ?_; simp only [Act.put, List.setIfInBounds_toArray, List.set_cons_zero, List.set_cons_succ])
      | (go_at_call 21; (with_reducible refine (HO1.out _ H2.kp).mono ?_); (rintro e w5 ⟨rfl, hb⟩; have H5 := H2.step hb; clear hb))
      | ((with_reducible show wpList _ _ _ (⟨some 27, .load 24 (.tmp 4), _, _, _, _⟩ :: _) _ _); refine wp_getU _ (by rfl) (.tmp 4) rfl g1 u rfl (H5.at (x := (g1, uC u.sch u.host u.port u.path u.q u.f)) (by simp)) ?_; simp only [Act.put, List.setIfInBounds_toArray, List.set_cons_zero, List.set_cons_succ])
      | (go_at_call 21; (with_reducible refine (HO1.out _ H5.kp).mono ?_); (rintro e w6 ⟨rfl, hb⟩; have H6 := H5.step hb; clear hb))
      | (go_at_call 14; (with_reducible refine (H1c.out _ H6.kp).mono ?_); (rintro e wa2 ⟨rfl, hb⟩; have G2 := H6.step hb; clear hb))
      | ((with_reducible show wpList _ _ _ (⟨some 6, .alloc _, _, _, _, _⟩ :: _) _ _); refine wp_new _ rfl 24 rfl _ z24 ?_; intro wb2 g2 B2 F2; simp only [Act.put, List.setIfInBounds_toArray, List.set_cons_zero, List.set_cons_succ])
      | ((with_reducible show wpList _ _ _ (⟨none, .store 24 (.tmp 6) (.tmp 30), _, _, _, _⟩ :: _) _ _); refine wp_putAll _ rfl 24 (.tmp 6) (.tmp 30) rfl g2 24 _ (uC v.sch v.host v.port v.path v.q v.f) rfl rfl B2 rfl n24 (uC_one _ _ _ _ _ _) ?_; intro wc2 B U; simp only [Act.put]; have H7 := G2.new F2 U B; clear B U F2 B2 G2))
    have HO1r : Hid (∀ w', Kept w w' → Calls Tryz.prog 21 #[.agg (uC u.sch u.host u.port u.path u.q u.f).toArray] w' fun e w2 => e = .returned (.string (str O)) ∧ Below w'.heap.size w' w2) := HO1
    have HO2r : Hid (∀ w', Kept w w' → Calls Tryz.prog 21 #[.agg (uC v.sch v.host v.port v.path v.q v.f).toArray] w' fun e w2 => e = .returned (.string (str O)) ∧ Below w'.heap.size w' w2) := HO2
    refine wp_region_held_drew (S := fun W => Hl w W [(g2, uC v.sch v.host v.port v.path v.q v.f), (g1, uC u.sch u.host u.port u.path u.q u.f)]) (by kernel_rfl) (H7.step (Below.refl _ _).drew) (fun hS => ?_)
    refine wpAnyH_take (i := 0) (oi := ⟨some 32, _, _, _, _, _⟩) (v := ?vc0) rfl (by kernel_rfl) (by kernel_rfl) (by kernel_rfl) (fun _ _ _ h => h) (Or.inl ⟨by rfl, ?yc0⟩) hS ?rc0
    case yc0 => intro W hW; go_simp; first | done | with_reducible rfl
    simp only [Act.put, List.setIfInBounds_toArray, List.set_cons_zero, List.set_cons_succ]
    refine wpAnyH_take (i := 1) (oi := ⟨some 33, _, _, _, _, _⟩) (v := ?vc1) rfl (by kernel_rfl) (by kernel_rfl) (by kernel_rfl) (fun _ _ _ h => h) (Or.inl ⟨by rfl, ?yc1⟩) hS ?rc1
    case yc1 => intro W hW; go_simp; first | done | with_reducible rfl
    simp only [Act.put, List.setIfInBounds_toArray, List.set_cons_zero, List.set_cons_succ]
    refine wpAnyH_take (i := 2) (oi := ⟨some 34, _, _, _, _, _⟩) (v := ?vc2) rfl (by kernel_rfl) (by kernel_rfl) (by kernel_rfl) (fun _ _ _ h => h) (Or.inl ⟨by rfl, ?yc2⟩) hS ?rc2
    case yc2 => intro W hW; go_simp; first | done | with_reducible rfl
    simp only [Act.put, List.setIfInBounds_toArray, List.set_cons_zero, List.set_cons_succ]
    refine wpAnyH_take (i := 3) (oi := ⟨some 35, _, _, _, _, _⟩) (v := ?vc3) rfl (by kernel_rfl) (by kernel_rfl) (by kernel_rfl) (fun _ _ _ h => h) (Or.inl ⟨by rfl, ?yc3⟩) hS ?rc3
    case yc3 => intro W hW; go_simp; first | done | with_reducible rfl
    simp only [Act.put, List.setIfInBounds_toArray, List.set_cons_zero, List.set_cons_succ]
    refine wpAnyH_take (i := 4) (oi := ⟨some 36, _, _, _, _, _⟩) (v := ?vc4) rfl (by kernel_rfl) (by kernel_rfl) (by kernel_rfl) (fun _ _ _ h => h) (Or.inl ⟨by rfl, ?yc4⟩) hS ?rc4
    case yc4 => intro W hW; go_simp; first | done | with_reducible rfl
    simp only [Act.put, List.setIfInBounds_toArray, List.set_cons_zero, List.set_cons_succ]
    refine wpAnyH_take (i := 5) (oi := ⟨some 37, _, _, _, _, _⟩) (v := ?vc5) rfl (by kernel_rfl) (by kernel_rfl) (by kernel_rfl) (fun _ _ _ h => h) (Or.inl ⟨by rfl, ?yc5⟩) hS ?rc5
    case yc5 => intro W hW; go_simp; first | done | with_reducible rfl
    simp only [Act.put, List.setIfInBounds_toArray, List.set_cons_zero, List.set_cons_succ]
    refine wpAnyH_take (i := 6) (oi := ⟨some 38, _, _, _, _, _⟩) (v := _) rfl (by kernel_rfl) (by kernel_rfl) (by kernel_rfl) (fun _ _ _ h => h) (yieldsIf_load_mid (by rfl) 24 (.tmp 4) rfl g1 0 rfl (uC u.sch u.host u.port u.path u.q u.f) _ (fun W hW => (hW.at (x := (g1, uC u.sch u.host u.port u.path u.q u.f)) (by simp)).whole) Tryz.underlying24 rfl n24) hS ?_
    simp only [Act.put, List.setIfInBounds_toArray, List.set_cons_zero, List.set_cons_succ]
    refine wpAnyH_take (i := 7) (oi := ⟨some 39, _, _, _, _, _⟩) (v := _) rfl (by kernel_rfl) (by kernel_rfl) (by kernel_rfl) (fun _ _ _ h => h) (yieldsIf_load_mid (by rfl) 24 (.tmp 6) rfl g2 0 rfl (uC v.sch v.host v.port v.path v.q v.f) _ (fun W hW => (hW.at (x := (g2, uC v.sch v.host v.port v.path v.q v.f)) (by simp)).whole) Tryz.underlying24 rfl n24) hS ?_
    simp only [Act.put, List.setIfInBounds_toArray, List.set_cons_zero, List.set_cons_succ]
    refine wpAnyH_ready (rs := [8]) (by kernel_rfl) (by simp) ?_
    refine (AllReadyH.cons (o := ⟨some 40, _, _, _, _, _⟩) rfl (fun K hK => ?_) AllReadyH.nil)
    try go_simp
    (with_reducible refine (HA.out _).mono ?_)
    rintro e wx1 ⟨rfl, hb⟩
    have hS1 := hS.step hb
    clear hb hS
    have hS := hS1
    clear hS1
    refine hK.out _ _ hS (fun _ => ?_)
    clear hK K
    try simp only [Act.put, List.setIfInBounds_toArray, List.set_cons_zero, List.set_cons_succ]
    refine wpAnyH_take (i := 9) (oi := ⟨some 41, _, _, _, _, _⟩) (v := ?vc9) rfl (by kernel_rfl) (by kernel_rfl) (by kernel_rfl) (fun _ _ _ h => h) (Or.inl ⟨by rfl, ?yc9⟩) hS ?rc9
    case yc9 => intro W hW; go_simp; first | done | with_reducible rfl
    simp only [Act.put, List.setIfInBounds_toArray, List.set_cons_zero, List.set_cons_succ]
    refine wpAnyH_take (i := 10) (oi := ⟨some 42, _, _, _, _, _⟩) (v := ?vc10) rfl (by kernel_rfl) (by kernel_rfl) (by kernel_rfl) (fun _ _ _ h => h) (Or.inl ⟨by rfl, ?yc10⟩) hS ?rc10
    case yc10 => intro W hW; go_simp; first | done | with_reducible rfl
    simp only [Act.put, List.setIfInBounds_toArray, List.set_cons_zero, List.set_cons_succ]
    refine wpAnyH_take (i := 11) (oi := ⟨some 43, _, _, _, _, _⟩) (v := ?vc11) rfl (by kernel_rfl) (by kernel_rfl) (by kernel_rfl) (fun _ _ _ h => h) (Or.inl ⟨by rfl, ?yc11⟩) hS ?rc11
    case yc11 => intro W hW; go_simp; first | done | with_reducible rfl
    simp only [Act.put, List.setIfInBounds_toArray, List.set_cons_zero, List.set_cons_succ]
    refine wpAnyH_take (i := 12) (oi := ⟨some 44, _, _, _, _, _⟩) (v := ?vc12) rfl (by kernel_rfl) (by kernel_rfl) (by kernel_rfl) (fun _ _ _ h => h) (Or.inl ⟨by rfl, ?yc12⟩) hS ?rc12
    case yc12 => intro W hW; have hc : W.cell? ⟨g2, 3, none⟩ = some (.string (str v.path)) := (hW.at (x := (g2, uC v.sch v.host v.port v.path v.q v.f)) (by simp)).cell rfl; go_simp; first | done | with_reducible rfl
    simp only [Act.put, List.setIfInBounds_toArray, List.set_cons_zero, List.set_cons_succ]
    refine wpAnyH_take (i := 13) (oi := ⟨some 45, _, _, _, _, _⟩) (v := ?vc13) rfl (by kernel_rfl) (by kernel_rfl) (by kernel_rfl) (fun _ _ _ h => h) (Or.inl ⟨by rfl, ?yc13⟩) hS ?rc13
    case yc13 => intro W hW; go_simp; first | done | with_reducible rfl
    simp only [Act.put, List.setIfInBounds_toArray, List.set_cons_zero, List.set_cons_succ]
    refine wpAnyH_take (i := 14) (oi := ⟨some 46, _, _, _, _, _⟩) (v := ?vc14) rfl (by kernel_rfl) (by kernel_rfl) (by kernel_rfl) (fun _ _ _ h => h) (Or.inl ⟨by rfl, ?yc14⟩) hS ?rc14
    case yc14 => intro W hW; go_simp; first | done | with_reducible rfl
    simp only [Act.put, List.setIfInBounds_toArray, List.set_cons_zero, List.set_cons_succ]
    refine wpAnyH_take (i := 15) (oi := ⟨some 47, _, _, _, _, _⟩) (v := ?vc15) rfl (by kernel_rfl) (by kernel_rfl) (by kernel_rfl) (fun _ _ _ h => h) (Or.inl ⟨by rfl, ?yc15⟩) hS ?rc15
    case yc15 => intro W hW; go_simp; first | done | with_reducible rfl
    simp only [Act.put, List.setIfInBounds_toArray, List.set_cons_zero, List.set_cons_succ]
    refine wpAnyH_take (i := 16) (oi := ⟨some 48, _, _, _, _, _⟩) (v := ?vc16) rfl (by kernel_rfl) (by kernel_rfl) (by kernel_rfl) (fun _ _ _ h => h) (Or.inl ⟨by rfl, ?yc16⟩) hS ?rc16
    case yc16 => intro W hW; go_simp; first | done | with_reducible rfl
    simp only [Act.put, List.setIfInBounds_toArray, List.set_cons_zero, List.set_cons_succ]
    refine wpAnyH_take (i := 17) (oi := ⟨some 49, _, _, _, _, _⟩) (v := ?vc17) rfl (by kernel_rfl) (by kernel_rfl) (by kernel_rfl) (fun _ _ _ h => h) (Or.inl ⟨by rfl, ?yc17⟩) hS ?rc17
    case yc17 => intro W hW; have hc : W.cell? ⟨g2, 4, none⟩ = some (.string (str v.q)) := (hW.at (x := (g2, uC v.sch v.host v.port v.path v.q v.f)) (by simp)).cell rfl; go_simp; first | done | with_reducible rfl
    simp only [Act.put, List.setIfInBounds_toArray, List.set_cons_zero, List.set_cons_succ]
    refine wpAnyH_take (i := 18) (oi := ⟨some 50, _, _, _, _, _⟩) (v := ?vc18) rfl (by kernel_rfl) (by kernel_rfl) (by kernel_rfl) (fun _ _ _ h => h) (Or.inl ⟨by rfl, ?yc18⟩) hS ?rc18
    case yc18 => intro W hW; go_simp; first | done | with_reducible rfl
    simp only [Act.put, List.setIfInBounds_toArray, List.set_cons_zero, List.set_cons_succ]
    refine wpAnyH_take (i := 19) (oi := ⟨some 51, _, _, _, _, _⟩) (v := ?vc19) rfl (by kernel_rfl) (by kernel_rfl) (by kernel_rfl) (fun _ _ _ h => h) (Or.inl ⟨by rfl, ?yc19⟩) hS ?rc19
    case yc19 => intro W hW; go_simp; first | done | with_reducible rfl
    simp only [Act.put, List.setIfInBounds_toArray, List.set_cons_zero, List.set_cons_succ]
    refine wpAnyH_take (i := 20) (oi := ⟨some 52, _, _, _, _, _⟩) (v := ?vc20) rfl (by kernel_rfl) (by kernel_rfl) (by kernel_rfl) (fun _ _ _ h => h) (Or.inl ⟨by rfl, ?yc20⟩) hS ?rc20
    case yc20 => intro W hW; go_simp; first | done | with_reducible rfl
    simp only [Act.put, List.setIfInBounds_toArray, List.set_cons_zero, List.set_cons_succ]
    refine wpAnyH_take (i := 21) (oi := ⟨some 53, _, _, _, _, _⟩) (v := ?vc21) rfl (by kernel_rfl) (by kernel_rfl) (by kernel_rfl) (fun _ _ _ h => h) (Or.inl ⟨by rfl, ?yc21⟩) hS ?rc21
    case yc21 => intro W hW; go_simp; first | done | with_reducible rfl
    simp only [Act.put, List.setIfInBounds_toArray, List.set_cons_zero, List.set_cons_succ]
    refine wpAnyH_take (i := 22) (oi := ⟨some 54, _, _, _, _, _⟩) (v := ?vc22) rfl (by kernel_rfl) (by kernel_rfl) (by kernel_rfl) (fun _ _ _ h => h) (Or.inl ⟨by rfl, ?yc22⟩) hS ?rc22
    case yc22 => intro W hW; have hc : W.cell? ⟨g2, 5, none⟩ = some (.string (str v.f)) := (hW.at (x := (g2, uC v.sch v.host v.port v.path v.q v.f)) (by simp)).cell rfl; go_simp; first | done | with_reducible rfl
    simp only [Act.put, List.setIfInBounds_toArray, List.set_cons_zero, List.set_cons_succ]
    refine wpAnyH_take (i := 23) (oi := ⟨some 55, _, _, _, _, _⟩) (v := ?vc23) rfl (by kernel_rfl) (by kernel_rfl) (by kernel_rfl) (fun _ _ _ h => h) (Or.inl ⟨by rfl, ?yc23⟩) hS ?rc23
    case yc23 => intro W hW; go_simp; first | done | with_reducible rfl
    simp only [Act.put, List.setIfInBounds_toArray, List.set_cons_zero, List.set_cons_succ]
    refine wpAnyH_take (i := 24) (oi := ⟨some 56, _, _, _, _, _⟩) (v := ?vc24) rfl (by kernel_rfl) (by kernel_rfl) (by kernel_rfl) (fun _ _ _ h => h) (Or.inl ⟨by rfl, ?yc24⟩) hS ?rc24
    case yc24 => intro W hW; go_simp; first | done | with_reducible rfl
    simp only [Act.put, List.setIfInBounds_toArray, List.set_cons_zero, List.set_cons_succ]
    refine wpAnyH_take (i := 25) (oi := ⟨some 57, _, _, _, _, _⟩) (v := ?vc25) rfl (by kernel_rfl) (by kernel_rfl) (by kernel_rfl) (fun _ _ _ h => h) (Or.inl ⟨by rfl, ?yc25⟩) hS ?rc25
    case yc25 => intro W hW; go_simp; first | done | with_reducible rfl
    simp only [Act.put, List.setIfInBounds_toArray, List.set_cons_zero, List.set_cons_succ]
    refine wpAnyH_take (i := 26) (oi := ⟨some 58, _, _, _, _, _⟩) (v := _) rfl (by kernel_rfl) (by kernel_rfl) (by kernel_rfl) (fun _ _ _ h => h) (yieldsIf_load_mid (by rfl) 24 (.tmp 6) rfl g2 0 rfl (uC v.sch v.host v.port v.path v.q v.f) _ (fun W hW => (hW.at (x := (g2, uC v.sch v.host v.port v.path v.q v.f)) (by simp)).whole) Tryz.underlying24 rfl n24) hS ?_
    simp only [Act.put, List.setIfInBounds_toArray, List.set_cons_zero, List.set_cons_succ]
    refine wpAnyH_take (i := 28) (oi := ⟨some 60, _, _, _, _, _⟩) (v := _) rfl (by kernel_rfl) (by kernel_rfl) (by kernel_rfl) (fun _ _ _ h => h) (yieldsIf_load_mid (by rfl) 24 (.tmp 4) rfl g1 0 rfl (uC u.sch u.host u.port u.path u.q u.f) _ (fun W hW => (hW.at (x := (g1, uC u.sch u.host u.port u.path u.q u.f)) (by simp)).whole) Tryz.underlying24 rfl n24) hS ?_
    simp only [Act.put, List.setIfInBounds_toArray, List.set_cons_zero, List.set_cons_succ]
    refine wpAnyH_ready (rs := [27]) (by kernel_rfl) (by simp) ?_
    refine (AllReadyH.cons (o := ⟨some 59, _, _, _, _, _⟩) rfl (fun K hK => ?_) AllReadyH.nil)
    try go_simp
    (with_reducible refine (HO2r.out _ hS.kp).mono ?_)
    rintro e wx2 ⟨rfl, hb⟩
    have hS2 := hS.step hb
    clear hb hS
    have hS := hS2
    clear hS2
    refine hK.out _ _ hS (fun _ => ?_)
    clear hK K
    try simp only [Act.put, List.setIfInBounds_toArray, List.set_cons_zero, List.set_cons_succ]
    refine wpAnyH_ready (rs := [29]) (by kernel_rfl) (by simp) ?_
    refine (AllReadyH.cons (o := ⟨some 61, _, _, _, _, _⟩) rfl (fun K hK => ?_) AllReadyH.nil)
    try go_simp
    (with_reducible refine (HO1r.out _ hS.kp).mono ?_)
    rintro e wx3 ⟨rfl, hb⟩
    have hS3 := hS.step hb
    clear hb hS
    have hS := hS3
    clear hS3
    refine hK.out _ _ hS (fun _ => ?_)
    clear hK K
    try simp only [Act.put, List.setIfInBounds_toArray, List.set_cons_zero, List.set_cons_succ]
    refine wpAnyH_take (i := 30) (oi := ⟨some 62, _, _, _, _, _⟩) (v := ?vc30) rfl (by kernel_rfl) (by kernel_rfl) (by kernel_rfl) (fun _ _ _ h => h) (Or.inl ⟨by rfl, ?yc30⟩) hS ?rc30
    case yc30 => intro W hW; go_simp; first | done | with_reducible rfl
    simp only [Act.put, List.setIfInBounds_toArray, List.set_cons_zero, List.set_cons_succ]
    refine wpAnyH_take (i := 31) (oi := ⟨some 63, _, _, _, _, _⟩) (v := ?vc31) rfl (by kernel_rfl) (by kernel_rfl) (by kernel_rfl) (fun _ _ _ h => h) (Or.inl ⟨by rfl, ?yc31⟩) hS ?rc31
    case yc31 => intro W hW; go_simp; first | done | with_reducible rfl
    simp only [Act.put, List.setIfInBounds_toArray, List.set_cons_zero, List.set_cons_succ]
    refine wpAnyH_take (i := 32) (oi := ⟨some 2, _, _, _, _, _⟩) (v := ?vc32) rfl (by kernel_rfl) (by kernel_rfl) (by kernel_rfl) (fun _ _ _ h => h) (Or.inl ⟨by rfl, ?yc32⟩) hS ?rc32
    case yc32 => intro W hW; go_simp; first | done | with_reducible rfl
    simp only [Act.put, List.setIfInBounds_toArray, List.set_cons_zero, List.set_cons_succ]
    refine wpAnyH_done (by kernel_rfl) ?_ _
    go_wp2_with fail
    go_ret
    exact ⟨by simp, hS.kp⟩
theorem origins_any (l : List UInt8) (w : World) (ht : Tb w) : Calls Tryz.prog 12 #[.string (str l)] w fun e w' => e = .returned (.bool true) ∧ Below w.heap.size w w' := by
  have HS : Hid (∀ w', Kept w w' → Calls Tryz.prog 13 #[] w' fun e w2 => e = .returned (.bool true) ∧ Below w'.heap.size w' w2) := fun w' hk => shown_any w' (ht.kp hk)
  obtain ⟨m, hm, hm1, hm2⟩ : ∃ m : Nat, min (l.length : Int) 300 = (m : Int) ∧ m ≤ 300 ∧ m ≤ l.length := ⟨min l.length 300, by omega, by omega, by omega⟩
  have hts := str_take l m
  have hls : (l.take m).length ≤ 300 := by rw [List.length_take]; omega
  generalize l.take m = s at hts hls
  have hsl := str_size l
  have H1 : ∀ w', Kept w w' → Calls Tryz.prog 14 #[.string (str s)] w' fun e w2 => e = .returned (rU (prsU s)) ∧ Below w'.heap.size w' w2 := fun w' hk => url_any s w' (by omega) (ht.kp hk)
  cases hu : prsU s with
  | none =>
    rw [hu] at H1
    exact or_a zU l s m w hm hm2 hts hsl HS H1
  | some u =>
    rw [hu] at H1
    have hub := ub_of s u hu (by omega)
    have HO1 : Hid (∀ w', Kept w w' → Calls Tryz.prog 21 #[uV u] w' fun e w2 => e = .returned (.string (str (org u))) ∧ Below w'.heap.size w' w2) := fun w' hk => origin_any u w' hub (ht.kp hk)
    cases hs : spc u.sch with
    | false =>
      have hn : ((str (org u)).toList == [110, 117, 108, 108]) = true := by rw [toList_str, beq_iff_eq]; exact (org_null u).2 hs
      exact or_b u (org u) l s m w hm hm2 hts hsl HS H1 HO1 hn
    | true =>
      have hn : ((str (org u)).toList == [110, 117, 108, 108]) = false := by
        rw [toList_str, beq_eq_false_iff_ne]
        intro e
        rw [(org_null u).1 e] at hs
        cases hs
      have hx := origin_is s u hu hs
      have ho : org u = orgT u := by unfold org; rw [hs]; rfl
      have hol : (org u).length ≤ 1000000 := by
        have h1 := parts_len s u hu (by omega)
        have h2 := itoa_ub u.port (by omega) (by omega)
        have h3 : (prtT u.port).length ≤ 101 := by
          unfold prtT
          split
          · simp
          · rw [List.length_cons]; omega
        rw [ho]
        simp only [orgT, List.length_append, List.length_cons, List.length_nil]
        omega
      have hvb : Ub ⟨u.sch, u.host, u.port, [47], [], []⟩ := ⟨hub.s, hub.h, hub.p0, hub.p1, hub.pi, by show 1 ≤ _; omega, by show 0 ≤ _; omega, by show 0 ≤ _; omega⟩
      have H2 : ∀ w', Kept w w' → Calls Tryz.prog 14 #[.string (str (org u))] w' fun e w2 => e = .returned (rU (prsU (org u))) ∧ Below w'.heap.size w' w2 := fun w' hk => url_any (org u) w' hol (ht.kp hk)
      rw [ho, hx, ← ho] at H2
      have HO2 : Hid (∀ w', Kept w w' → Calls Tryz.prog 21 #[uV ⟨u.sch, u.host, u.port, [47], [], []⟩] w' fun e w2 => e = .returned (.string (str (org u))) ∧ Below w'.heap.size w' w2) := fun w' hk => origin_any _ w' hvb (ht.kp hk)
      have HA : Hid (∀ w', Calls Tryz.prog 23 #[uV u, uV ⟨u.sch, u.host, u.port, [47], [], []⟩] w' fun e w2 => e = .returned (.bool true) ∧ Below w'.heap.size w' w2) := fun w' => by
        have := same_any u ⟨u.sch, u.host, u.port, [47], [], []⟩ w' hub.s
        have e : same u ⟨u.sch, u.host, u.port, [47], [], []⟩ = true := by unfold same; rw [hs]; simp
        rwa [e] at this
      exact or_c u ⟨u.sch, u.host, u.port, [47], [], []⟩ (org u) l s m w hm hm2 hts hsl HS H1 HO1 hn H2 HO2 HA (by rw [toList_str]; rfl) (by rw [toList_str]; rfl) (by rw [toList_str]; rfl)
end Go.Proofs.YtcepigekibidfaaGreatDoor
