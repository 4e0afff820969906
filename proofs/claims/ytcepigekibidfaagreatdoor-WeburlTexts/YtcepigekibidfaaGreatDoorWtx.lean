/-
  What transeptlaw08.WeburlTexts answers: true; nothing that was there turns. Condition: the library's tables.
-/
import Derived.Test.YtcepigekibidfaaGreatDoorTuf
import Derived.Test.YtcepigekibidfaaGreatDoorGr
namespace Go.Proofs.YtcepigekibidfaaGreatDoor
open Go.RowKit

theorem same_comm (u v : U) : same u v = same v u := by
  unfold same
  by_cases h : u.sch = v.sch ∧ u.host = v.host ∧ u.port = v.port
  · obtain ⟨h1, h2, h3⟩ := h
    rw [h1, h2, h3]
  · have h2 : ¬ (v.sch = u.sch ∧ v.host = u.host ∧ v.port = u.port) := fun e => h ⟨e.1.symm, e.2.1.symm, e.2.2.symm⟩
    rw [decide_eq_false h, decide_eq_false h2, Bool.and_false, Bool.and_false]
set_option maxHeartbeats 16000000 in
set_option maxRecDepth 100000 in
theorem tx_all (u v a b : U) (w : World) (T O : List UInt8) (r m : Bool) (HS : Hid (∀ w', Kept w w' → Calls Tryz.prog 13 #[] w' fun e w2 => e = .returned (.bool true) ∧ Below w'.heap.size w' w2)) (HC1 : Hid (∀ w', Calls Tryz.prog 16 #[uV u] w' fun e w2 => e = .returned (uV a) ∧ Below w'.heap.size w' w2)) (HC2 : Hid (∀ w', Calls Tryz.prog 16 #[uV v] w' fun e w2 => e = .returned (uV b) ∧ Below w'.heap.size w' w2)) (H17 : Hid (∀ w', Kept w w' → Calls Tryz.prog 17 #[uV a] w' fun e w2 => e = .returned (.string (str T)) ∧ Below w'.heap.size w' w2)) (H18 : Hid (∀ w', Calls Tryz.prog 18 #[uV a] w' fun e w2 => e = .returned (.string (str T)) ∧ Below w'.heap.size w' w2)) (H19 : Hid (∀ w', Kept w w' → Calls Tryz.prog 19 #[uV a] w' fun e w2 => e = .returned (.bool r) ∧ Below w'.heap.size w' w2)) (H20 : Hid (∀ w', Calls Tryz.prog 20 #[uV a] w' fun e w2 => e = .returned (.bool r) ∧ Below w'.heap.size w' w2)) (H21 : Hid (∀ w', Kept w w' → Calls Tryz.prog 21 #[uV a] w' fun e w2 => e = .returned (.string (str O)) ∧ Below w'.heap.size w' w2)) (H22 : Hid (∀ w', Calls Tryz.prog 22 #[uV a] w' fun e w2 => e = .returned (.string (str O)) ∧ Below w'.heap.size w' w2)) (H23 : Hid (∀ w', Calls Tryz.prog 23 #[uV a, uV b] w' fun e w2 => e = .returned (.bool m) ∧ Below w'.heap.size w' w2)) (H24 : Hid (∀ w', Calls Tryz.prog 24 #[uV a, uV b] w' fun e w2 => e = .returned (.bool m) ∧ Below w'.heap.size w' w2)) (H25 : Hid (∀ w', Calls Tryz.prog 23 #[uV b, uV a] w' fun e w2 => e = .returned (.bool m) ∧ Below w'.heap.size w' w2)) : Calls Tryz.prog 4 #[uV u, uV v] w fun e w' => e = .returned (.bool true) ∧ Below w.heap.size w w' := by
  go_enter Tryz.func4, Tryz.ntmps4
  go_wp2_with (first
    | ((with_reducible show wpList _ _ _ (⟨some 2, .box _ _, _, _, _, _⟩ :: _) _ _); refine wp_box _ rfl 24 _ rfl (uC u.sch u.host u.port u.path u.q u.f) rfl ?_; intro w1 g1 B1 F1; simp only [Act.put, List.setIfInBounds_toArray, List.set_cons_zero, List.set_cons_succ])
    | ((with_reducible show wpList _ _ _ (⟨some 3, .box _ _, _, _, _, _⟩ :: _) _ _); refine wp_box _ rfl 24 _ rfl (uC v.sch v.host v.port v.path v.q v.f) rfl ?_; intro w2 g2 B2 F2; simp only [Act.put, List.setIfInBounds_toArray, List.set_cons_zero, List.set_cons_succ]; have S2 := Sp.new B1 F1 B2 F2; clear B1 F1 B2 F2)
    | (go_at_call 13; (with_reducible refine (HS.out _ S2.kp).mono ?_); (rintro e w3 ⟨rfl, hb⟩; have S3 := S2.step hb; clear hb))
    | ((with_reducible show wpList _ _ _ (⟨some 7, .load 24 (.tmp 2), _, _, _, _⟩ :: _) _ _); refine wp_getU _ (by rfl) (.tmp 2) rfl g1 u rfl S3.b1 ?_; simp only [Act.put, List.setIfInBounds_toArray, List.set_cons_zero, List.set_cons_succ])
    | (go_at_call 16; (with_reducible refine (HC1.out _).mono ?_); (rintro e w4 ⟨rfl, hb⟩; have S4 := S3.step hb; clear hb))
    | ((with_reducible show wpList _ _ _ (⟨none, .store 24 (.tmp 2) (.tmp 8), _, _, _, _⟩ :: _) _ _); refine wp_putAll _ rfl 24 (.tmp 2) (.tmp 8) rfl g1 24 _ (uC a.sch a.host a.port a.path a.q a.f) rfl rfl S4.b1 rfl n24 (uC_one _ _ _ _ _ _) ?_; intro w5 B U; simp only [Act.put]; have S5 := S4.set1 B U; clear B U)
    | ((with_reducible show wpList _ _ _ (⟨some 9, .load 24 (.tmp 3), _, _, _, _⟩ :: _) _ _); refine wp_getU _ (by rfl) (.tmp 3) rfl g2 v rfl S5.b2 ?_; simp only [Act.put, List.setIfInBounds_toArray, List.set_cons_zero, List.set_cons_succ])
    | (go_at_call 16; (with_reducible refine (HC2.out _).mono ?_); (rintro e w6 ⟨rfl, hb⟩; have S6 := S5.step hb; clear hb))
    | ((with_reducible show wpList _ _ _ (⟨none, .store 24 (.tmp 3) (.tmp 10), _, _, _, _⟩ :: _) _ _); refine wp_putAll _ rfl 24 (.tmp 3) (.tmp 10) rfl g2 24 _ (uC b.sch b.host b.port b.path b.q b.f) rfl rfl S6.b2 rfl n24 (uC_one _ _ _ _ _ _) ?_; intro w7 B U; simp only [Act.put]; have S7 := S6.set2 B U; clear B U))
  refine wp_region_held_drew (S := fun W => Sp w W g1 g2 (uC a.sch a.host a.port a.path a.q a.f) (uC b.sch b.host b.port b.path b.q b.f)) (by kernel_rfl) ⟨S7.b1, S7.b2, S7.kp.drew, S7.l1, S7.l2⟩ (fun hS => ?_)
  clear S2 S3 S4 S5 S6 S7
  refine wpAnyH_take (i := 0) (oi := ⟨some 11, _, _, _, _, _⟩) (v := ?v0p0) rfl (by kernel_rfl) (by kernel_rfl) (by kernel_rfl) (fun _ _ _ h => h) (Or.inl ⟨by rfl, ?y0p0⟩) hS ?r0p0
  case y0p0 => intro W hW; go_simp; first | done | with_reducible rfl
  simp only [Act.put, List.setIfInBounds_toArray, List.set_cons_zero, List.set_cons_succ]
  refine wpAnyH_take (i := 1) (oi := ⟨some 12, _, _, _, _, _⟩) (v := ?v0p1) rfl (by kernel_rfl) (by kernel_rfl) (by kernel_rfl) (fun _ _ _ h => h) (Or.inl ⟨by rfl, ?y0p1⟩) hS ?r0p1
  case y0p1 => intro W hW; go_simp; first | done | with_reducible rfl
  simp only [Act.put, List.setIfInBounds_toArray, List.set_cons_zero, List.set_cons_succ]
  refine wpAnyH_take (i := 2) (oi := ⟨some 13, _, _, _, _, _⟩) (v := uV a) rfl (by kernel_rfl) (by kernel_rfl) (by kernel_rfl) (fun _ _ _ h => h) (yieldsIf_load_mid (by rfl) 24 (.tmp 2) rfl g1 0 rfl (uC a.sch a.host a.port a.path a.q a.f) _ (fun W hW => hW.b1.whole) Tryz.underlying24 rfl n24) hS ?_
  simp only [Act.put, List.setIfInBounds_toArray, List.set_cons_zero, List.set_cons_succ]
  refine wpAnyH_take (i := 4) (oi := ⟨some 15, _, _, _, _, _⟩) (v := uV a) rfl (by kernel_rfl) (by kernel_rfl) (by kernel_rfl) (fun _ _ _ h => h) (yieldsIf_load_mid (by rfl) 24 (.tmp 2) rfl g1 0 rfl (uC a.sch a.host a.port a.path a.q a.f) _ (fun W hW => hW.b1.whole) Tryz.underlying24 rfl n24) hS ?_
  simp only [Act.put, List.setIfInBounds_toArray, List.set_cons_zero, List.set_cons_succ]
  refine wpAnyH_ready (rs := [3]) (by kernel_rfl) (by simp) ?_
  refine (AllReadyH.cons (o := ⟨some 14, _, _, _, _, _⟩) rfl (fun K hK => ?_) AllReadyH.nil)
  try go_simp
  (with_reducible refine (H17.out _ hS.kp).mono ?_)
  rintro e wa0 ⟨rfl, hb⟩
  have hS2 := hS.step hb
  refine hK.out _ _ hS2 (fun _ => ?_)
  clear hK K hS hb
  have hS := hS2
  clear hS2
  try simp only [Act.put, List.setIfInBounds_toArray, List.set_cons_zero, List.set_cons_succ]
  refine wpAnyH_ready (rs := [5]) (by kernel_rfl) (by simp) ?_
  refine (AllReadyH.cons (o := ⟨some 16, _, _, _, _, _⟩) rfl (fun K hK => ?_) AllReadyH.nil)
  try go_simp
  (with_reducible refine (H18.out _).mono ?_)
  rintro e wb0 ⟨rfl, hb⟩
  have hS2 := hS.step hb
  refine hK.out _ _ hS2 (fun _ => ?_)
  clear hK K hS hb
  have hS := hS2
  clear hS2
  try simp only [Act.put, List.setIfInBounds_toArray, List.set_cons_zero, List.set_cons_succ]
  refine wpAnyH_take (i := 6) (oi := ⟨some 17, _, _, _, _, _⟩) (v := ?v0e) rfl (by kernel_rfl) (by kernel_rfl) (by kernel_rfl) (fun _ _ _ h => h) (Or.inl ⟨by rfl, ?y0e⟩) hS ?r0e
  case y0e => intro W hW; go_simp; first | done | with_reducible rfl
  simp only [Act.put, List.setIfInBounds_toArray, List.set_cons_zero, List.set_cons_succ]
  refine wpAnyH_take (i := 7) (oi := ⟨some 18, _, _, _, _, _⟩) (v := ?v0k) rfl (by kernel_rfl) (by kernel_rfl) (by kernel_rfl) (fun _ _ _ h => h) (Or.inl ⟨by rfl, ?y0k⟩) hS ?r0k
  case y0k => intro W hW; go_simp; first | done | with_reducible rfl
  simp only [Act.put, List.setIfInBounds_toArray, List.set_cons_zero, List.set_cons_succ]
  refine wpAnyH_take (i := 8) (oi := ⟨some 19, _, _, _, _, _⟩) (v := ?v1p8) rfl (by kernel_rfl) (by kernel_rfl) (by kernel_rfl) (fun _ _ _ h => h) (Or.inl ⟨by rfl, ?y1p8⟩) hS ?r1p8
  case y1p8 => intro W hW; go_simp; first | done | with_reducible rfl
  simp only [Act.put, List.setIfInBounds_toArray, List.set_cons_zero, List.set_cons_succ]
  refine wpAnyH_take (i := 9) (oi := ⟨some 20, _, _, _, _, _⟩) (v := uV a) rfl (by kernel_rfl) (by kernel_rfl) (by kernel_rfl) (fun _ _ _ h => h) (yieldsIf_load_mid (by rfl) 24 (.tmp 2) rfl g1 0 rfl (uC a.sch a.host a.port a.path a.q a.f) _ (fun W hW => hW.b1.whole) Tryz.underlying24 rfl n24) hS ?_
  simp only [Act.put, List.setIfInBounds_toArray, List.set_cons_zero, List.set_cons_succ]
  refine wpAnyH_take (i := 11) (oi := ⟨some 22, _, _, _, _, _⟩) (v := uV a) rfl (by kernel_rfl) (by kernel_rfl) (by kernel_rfl) (fun _ _ _ h => h) (yieldsIf_load_mid (by rfl) 24 (.tmp 2) rfl g1 0 rfl (uC a.sch a.host a.port a.path a.q a.f) _ (fun W hW => hW.b1.whole) Tryz.underlying24 rfl n24) hS ?_
  simp only [Act.put, List.setIfInBounds_toArray, List.set_cons_zero, List.set_cons_succ]
  refine wpAnyH_ready (rs := [10]) (by kernel_rfl) (by simp) ?_
  refine (AllReadyH.cons (o := ⟨some 21, _, _, _, _, _⟩) rfl (fun K hK => ?_) AllReadyH.nil)
  try go_simp
  (with_reducible refine (H19.out _ hS.kp).mono ?_)
  rintro e wa1 ⟨rfl, hb⟩
  have hS2 := hS.step hb
  refine hK.out _ _ hS2 (fun _ => ?_)
  clear hK K hS hb
  have hS := hS2
  clear hS2
  try simp only [Act.put, List.setIfInBounds_toArray, List.set_cons_zero, List.set_cons_succ]
  refine wpAnyH_ready (rs := [12]) (by kernel_rfl) (by simp) ?_
  refine (AllReadyH.cons (o := ⟨some 23, _, _, _, _, _⟩) rfl (fun K hK => ?_) AllReadyH.nil)
  try go_simp
  (with_reducible refine (H20.out _).mono ?_)
  rintro e wb1 ⟨rfl, hb⟩
  have hS2 := hS.step hb
  refine hK.out _ _ hS2 (fun _ => ?_)
  clear hK K hS hb
  have hS := hS2
  clear hS2
  try simp only [Act.put, List.setIfInBounds_toArray, List.set_cons_zero, List.set_cons_succ]
  refine wpAnyH_take (i := 13) (oi := ⟨some 24, _, _, _, _, _⟩) (v := ?v1e) rfl (by kernel_rfl) (by kernel_rfl) (by kernel_rfl) (fun _ _ _ h => h) (Or.inl ⟨by rfl, ?y1e⟩) hS ?r1e
  case y1e => intro W hW; go_simp; first | done | with_reducible rfl
  simp only [Act.put, List.setIfInBounds_toArray, List.set_cons_zero, List.set_cons_succ]
  refine wpAnyH_take (i := 14) (oi := ⟨some 25, _, _, _, _, _⟩) (v := ?v1k) rfl (by kernel_rfl) (by kernel_rfl) (by kernel_rfl) (fun _ _ _ h => h) (Or.inl ⟨by rfl, ?y1k⟩) hS ?r1k
  case y1k => intro W hW; go_simp; first | done | with_reducible rfl
  simp only [Act.put, List.setIfInBounds_toArray, List.set_cons_zero, List.set_cons_succ]
  refine wpAnyH_take (i := 15) (oi := ⟨some 26, _, _, _, _, _⟩) (v := ?v2p15) rfl (by kernel_rfl) (by kernel_rfl) (by kernel_rfl) (fun _ _ _ h => h) (Or.inl ⟨by rfl, ?y2p15⟩) hS ?r2p15
  case y2p15 => intro W hW; go_simp; first | done | with_reducible rfl
  simp only [Act.put, List.setIfInBounds_toArray, List.set_cons_zero, List.set_cons_succ]
  refine wpAnyH_take (i := 16) (oi := ⟨some 27, _, _, _, _, _⟩) (v := uV a) rfl (by kernel_rfl) (by kernel_rfl) (by kernel_rfl) (fun _ _ _ h => h) (yieldsIf_load_mid (by rfl) 24 (.tmp 2) rfl g1 0 rfl (uC a.sch a.host a.port a.path a.q a.f) _ (fun W hW => hW.b1.whole) Tryz.underlying24 rfl n24) hS ?_
  simp only [Act.put, List.setIfInBounds_toArray, List.set_cons_zero, List.set_cons_succ]
  refine wpAnyH_take (i := 18) (oi := ⟨some 29, _, _, _, _, _⟩) (v := uV a) rfl (by kernel_rfl) (by kernel_rfl) (by kernel_rfl) (fun _ _ _ h => h) (yieldsIf_load_mid (by rfl) 24 (.tmp 2) rfl g1 0 rfl (uC a.sch a.host a.port a.path a.q a.f) _ (fun W hW => hW.b1.whole) Tryz.underlying24 rfl n24) hS ?_
  simp only [Act.put, List.setIfInBounds_toArray, List.set_cons_zero, List.set_cons_succ]
  refine wpAnyH_ready (rs := [17]) (by kernel_rfl) (by simp) ?_
  refine (AllReadyH.cons (o := ⟨some 28, _, _, _, _, _⟩) rfl (fun K hK => ?_) AllReadyH.nil)
  try go_simp
  (with_reducible refine (H21.out _ hS.kp).mono ?_)
  rintro e wa2 ⟨rfl, hb⟩
  have hS2 := hS.step hb
  refine hK.out _ _ hS2 (fun _ => ?_)
  clear hK K hS hb
  have hS := hS2
  clear hS2
  try simp only [Act.put, List.setIfInBounds_toArray, List.set_cons_zero, List.set_cons_succ]
  refine wpAnyH_ready (rs := [19]) (by kernel_rfl) (by simp) ?_
  refine (AllReadyH.cons (o := ⟨some 30, _, _, _, _, _⟩) rfl (fun K hK => ?_) AllReadyH.nil)
  try go_simp
  (with_reducible refine (H22.out _).mono ?_)
  rintro e wb2 ⟨rfl, hb⟩
  have hS2 := hS.step hb
  refine hK.out _ _ hS2 (fun _ => ?_)
  clear hK K hS hb
  have hS := hS2
  clear hS2
  try simp only [Act.put, List.setIfInBounds_toArray, List.set_cons_zero, List.set_cons_succ]
  refine wpAnyH_take (i := 20) (oi := ⟨some 31, _, _, _, _, _⟩) (v := ?v2e) rfl (by kernel_rfl) (by kernel_rfl) (by kernel_rfl) (fun _ _ _ h => h) (Or.inl ⟨by rfl, ?y2e⟩) hS ?r2e
  case y2e => intro W hW; go_simp; first | done | with_reducible rfl
  simp only [Act.put, List.setIfInBounds_toArray, List.set_cons_zero, List.set_cons_succ]
  refine wpAnyH_take (i := 21) (oi := ⟨some 32, _, _, _, _, _⟩) (v := ?v2k) rfl (by kernel_rfl) (by kernel_rfl) (by kernel_rfl) (fun _ _ _ h => h) (Or.inl ⟨by rfl, ?y2k⟩) hS ?r2k
  case y2k => intro W hW; go_simp; first | done | with_reducible rfl
  simp only [Act.put, List.setIfInBounds_toArray, List.set_cons_zero, List.set_cons_succ]
  refine wpAnyH_take (i := 22) (oi := ⟨some 33, _, _, _, _, _⟩) (v := ?v3p22) rfl (by kernel_rfl) (by kernel_rfl) (by kernel_rfl) (fun _ _ _ h => h) (Or.inl ⟨by rfl, ?y3p22⟩) hS ?r3p22
  case y3p22 => intro W hW; go_simp; first | done | with_reducible rfl
  simp only [Act.put, List.setIfInBounds_toArray, List.set_cons_zero, List.set_cons_succ]
  refine wpAnyH_take (i := 23) (oi := ⟨some 34, _, _, _, _, _⟩) (v := uV a) rfl (by kernel_rfl) (by kernel_rfl) (by kernel_rfl) (fun _ _ _ h => h) (yieldsIf_load_mid (by rfl) 24 (.tmp 2) rfl g1 0 rfl (uC a.sch a.host a.port a.path a.q a.f) _ (fun W hW => hW.b1.whole) Tryz.underlying24 rfl n24) hS ?_
  simp only [Act.put, List.setIfInBounds_toArray, List.set_cons_zero, List.set_cons_succ]
  refine wpAnyH_take (i := 24) (oi := ⟨some 35, _, _, _, _, _⟩) (v := uV b) rfl (by kernel_rfl) (by kernel_rfl) (by kernel_rfl) (fun _ _ _ h => h) (yieldsIf_load_mid (by rfl) 24 (.tmp 3) rfl g2 0 rfl (uC b.sch b.host b.port b.path b.q b.f) _ (fun W hW => hW.b2.whole) Tryz.underlying24 rfl n24) hS ?_
  simp only [Act.put, List.setIfInBounds_toArray, List.set_cons_zero, List.set_cons_succ]
  refine wpAnyH_take (i := 26) (oi := ⟨some 37, _, _, _, _, _⟩) (v := uV a) rfl (by kernel_rfl) (by kernel_rfl) (by kernel_rfl) (fun _ _ _ h => h) (yieldsIf_load_mid (by rfl) 24 (.tmp 2) rfl g1 0 rfl (uC a.sch a.host a.port a.path a.q a.f) _ (fun W hW => hW.b1.whole) Tryz.underlying24 rfl n24) hS ?_
  simp only [Act.put, List.setIfInBounds_toArray, List.set_cons_zero, List.set_cons_succ]
  refine wpAnyH_take (i := 27) (oi := ⟨some 38, _, _, _, _, _⟩) (v := uV b) rfl (by kernel_rfl) (by kernel_rfl) (by kernel_rfl) (fun _ _ _ h => h) (yieldsIf_load_mid (by rfl) 24 (.tmp 3) rfl g2 0 rfl (uC b.sch b.host b.port b.path b.q b.f) _ (fun W hW => hW.b2.whole) Tryz.underlying24 rfl n24) hS ?_
  simp only [Act.put, List.setIfInBounds_toArray, List.set_cons_zero, List.set_cons_succ]
  refine wpAnyH_ready (rs := [25]) (by kernel_rfl) (by simp) ?_
  refine (AllReadyH.cons (o := ⟨some 36, _, _, _, _, _⟩) rfl (fun K hK => ?_) AllReadyH.nil)
  try go_simp
  (with_reducible refine (H23.out _).mono ?_)
  rintro e wa3 ⟨rfl, hb⟩
  have hS2 := hS.step hb
  refine hK.out _ _ hS2 (fun _ => ?_)
  clear hK K hS hb
  have hS := hS2
  clear hS2
  try simp only [Act.put, List.setIfInBounds_toArray, List.set_cons_zero, List.set_cons_succ]
  refine wpAnyH_ready (rs := [28]) (by kernel_rfl) (by simp) ?_
  refine (AllReadyH.cons (o := ⟨some 39, _, _, _, _, _⟩) rfl (fun K hK => ?_) AllReadyH.nil)
  try go_simp
  (with_reducible refine (H24.out _).mono ?_)
  rintro e wb3 ⟨rfl, hb⟩
  have hS2 := hS.step hb
  refine hK.out _ _ hS2 (fun _ => ?_)
  clear hK K hS hb
  have hS := hS2
  clear hS2
  try simp only [Act.put, List.setIfInBounds_toArray, List.set_cons_zero, List.set_cons_succ]
  refine wpAnyH_take (i := 29) (oi := ⟨some 40, _, _, _, _, _⟩) (v := ?v3e) rfl (by kernel_rfl) (by kernel_rfl) (by kernel_rfl) (fun _ _ _ h => h) (Or.inl ⟨by rfl, ?y3e⟩) hS ?r3e
  case y3e => intro W hW; go_simp; first | done | with_reducible rfl
  simp only [Act.put, List.setIfInBounds_toArray, List.set_cons_zero, List.set_cons_succ]
  refine wpAnyH_take (i := 30) (oi := ⟨some 41, _, _, _, _, _⟩) (v := ?v3k) rfl (by kernel_rfl) (by kernel_rfl) (by kernel_rfl) (fun _ _ _ h => h) (Or.inl ⟨by rfl, ?y3k⟩) hS ?r3k
  case y3k => intro W hW; go_simp; first | done | with_reducible rfl
  simp only [Act.put, List.setIfInBounds_toArray, List.set_cons_zero, List.set_cons_succ]
  refine wpAnyH_take (i := 31) (oi := ⟨some 42, _, _, _, _, _⟩) (v := ?v4p31) rfl (by kernel_rfl) (by kernel_rfl) (by kernel_rfl) (fun _ _ _ h => h) (Or.inl ⟨by rfl, ?y4p31⟩) hS ?r4p31
  case y4p31 => intro W hW; go_simp; first | done | with_reducible rfl
  simp only [Act.put, List.setIfInBounds_toArray, List.set_cons_zero, List.set_cons_succ]
  refine wpAnyH_take (i := 32) (oi := ⟨some 43, _, _, _, _, _⟩) (v := uV a) rfl (by kernel_rfl) (by kernel_rfl) (by kernel_rfl) (fun _ _ _ h => h) (yieldsIf_load_mid (by rfl) 24 (.tmp 2) rfl g1 0 rfl (uC a.sch a.host a.port a.path a.q a.f) _ (fun W hW => hW.b1.whole) Tryz.underlying24 rfl n24) hS ?_
  simp only [Act.put, List.setIfInBounds_toArray, List.set_cons_zero, List.set_cons_succ]
  refine wpAnyH_take (i := 33) (oi := ⟨some 44, _, _, _, _, _⟩) (v := uV b) rfl (by kernel_rfl) (by kernel_rfl) (by kernel_rfl) (fun _ _ _ h => h) (yieldsIf_load_mid (by rfl) 24 (.tmp 3) rfl g2 0 rfl (uC b.sch b.host b.port b.path b.q b.f) _ (fun W hW => hW.b2.whole) Tryz.underlying24 rfl n24) hS ?_
  simp only [Act.put, List.setIfInBounds_toArray, List.set_cons_zero, List.set_cons_succ]
  refine wpAnyH_take (i := 35) (oi := ⟨some 46, _, _, _, _, _⟩) (v := uV b) rfl (by kernel_rfl) (by kernel_rfl) (by kernel_rfl) (fun _ _ _ h => h) (yieldsIf_load_mid (by rfl) 24 (.tmp 3) rfl g2 0 rfl (uC b.sch b.host b.port b.path b.q b.f) _ (fun W hW => hW.b2.whole) Tryz.underlying24 rfl n24) hS ?_
  simp only [Act.put, List.setIfInBounds_toArray, List.set_cons_zero, List.set_cons_succ]
  refine wpAnyH_take (i := 36) (oi := ⟨some 47, _, _, _, _, _⟩) (v := uV a) rfl (by kernel_rfl) (by kernel_rfl) (by kernel_rfl) (fun _ _ _ h => h) (yieldsIf_load_mid (by rfl) 24 (.tmp 2) rfl g1 0 rfl (uC a.sch a.host a.port a.path a.q a.f) _ (fun W hW => hW.b1.whole) Tryz.underlying24 rfl n24) hS ?_
  simp only [Act.put, List.setIfInBounds_toArray, List.set_cons_zero, List.set_cons_succ]
  refine wpAnyH_ready (rs := [34]) (by kernel_rfl) (by simp) ?_
  refine (AllReadyH.cons (o := ⟨some 45, _, _, _, _, _⟩) rfl (fun K hK => ?_) AllReadyH.nil)
  try go_simp
  (with_reducible refine (H23.out _).mono ?_)
  rintro e wa4 ⟨rfl, hb⟩
  have hS2 := hS.step hb
  refine hK.out _ _ hS2 (fun _ => ?_)
  clear hK K hS hb
  have hS := hS2
  clear hS2
  try simp only [Act.put, List.setIfInBounds_toArray, List.set_cons_zero, List.set_cons_succ]
  refine wpAnyH_ready (rs := [37]) (by kernel_rfl) (by simp) ?_
  refine (AllReadyH.cons (o := ⟨some 48, _, _, _, _, _⟩) rfl (fun K hK => ?_) AllReadyH.nil)
  try go_simp
  (with_reducible refine (H25.out _).mono ?_)
  rintro e wb4 ⟨rfl, hb⟩
  have hS2 := hS.step hb
  refine hK.out _ _ hS2 (fun _ => ?_)
  clear hK K hS hb
  have hS := hS2
  clear hS2
  try simp only [Act.put, List.setIfInBounds_toArray, List.set_cons_zero, List.set_cons_succ]
  refine wpAnyH_take (i := 38) (oi := ⟨some 49, _, _, _, _, _⟩) (v := ?v4e) rfl (by kernel_rfl) (by kernel_rfl) (by kernel_rfl) (fun _ _ _ h => h) (Or.inl ⟨by rfl, ?y4e⟩) hS ?r4e
  case y4e => intro W hW; go_simp; first | done | with_reducible rfl
  simp only [Act.put, List.setIfInBounds_toArray, List.set_cons_zero, List.set_cons_succ]
  refine wpAnyH_take (i := 39) (oi := ⟨some 50, _, _, _, _, _⟩) (v := ?v4k) rfl (by kernel_rfl) (by kernel_rfl) (by kernel_rfl) (fun _ _ _ h => h) (Or.inl ⟨by rfl, ?y4k⟩) hS ?r4k
  case y4k => intro W hW; go_simp; first | done | with_reducible rfl
  simp only [Act.put, List.setIfInBounds_toArray, List.set_cons_zero, List.set_cons_succ]
  refine wpAnyH_take (i := 40) (oi := ⟨some 4, _, _, _, _, _⟩) (v := ?vz) rfl (by kernel_rfl) (by kernel_rfl) (by kernel_rfl) (fun _ _ _ h => h) (Or.inl ⟨by rfl, ?yz⟩) hS ?rz
  case yz => intro W hW; go_simp; first | done | with_reducible rfl
  simp only [Act.put, List.setIfInBounds_toArray, List.set_cons_zero, List.set_cons_succ]
  have S9 := hS
  clear hS
  refine wpAnyH_done (by kernel_rfl) ?_ _
  go_wp2_with fail
  go_ret
  exact ⟨by simp, S9.kp⟩
theorem cutU_ub (u : U) (h0 : -9223372036854775808 ≤ u.port) (h1 : u.port ≤ 9223372036854775807) : Ub (cutU u) ∧ (txt (cutU u)).length ≤ 5000 ∧ (cutU u).path.length ≤ 200 := by
  have hl : ∀ x : List UInt8, (x.take 200).length ≤ 200 := fun x => by rw [List.length_take]; omega
  have hi := itoa_ub u.port h0 h1
  have e1 := hl u.sch
  have e2 := hl u.host
  have e3 := hl u.path
  have e4 := hl u.q
  have e5 := hl u.f
  refine ⟨⟨by show (u.sch.take 200).length ≤ _; omega, by show (u.host.take 200).length ≤ _; omega, h0, h1, hi, by show (u.path.take 200).length ≤ _; omega, by show (u.q.take 200).length ≤ _; omega, by show (u.f.take 200).length ≤ _; omega⟩, ?_, e3⟩
  have h4 : (prtT u.port).length ≤ 101 := by
    unfold prtT
    split
    · simp
    · rw [List.length_cons]; omega
  have h5 : (orgT (cutU u)).length ≤ 600 := by
    show (u.sch.take 200 ++ [58, 47, 47] ++ u.host.take 200 ++ prtT u.port).length ≤ _
    simp only [List.length_append, List.length_cons, List.length_nil]
    omega
  have h6 : (if spc (cutU u).sch then orgT (cutU u) else (cutU u).sch ++ [58]).length ≤ 600 := by
    split
    · exact h5
    · show (u.sch.take 200 ++ [58]).length ≤ _
      simp only [List.length_append, List.length_cons, List.length_nil]
      omega
  show ((if spc (cutU u).sch then orgT (cutU u) else (cutU u).sch ++ [58]) ++ u.path.take 200 ++ u.q.take 200 ++ u.f.take 200).length ≤ _
  simp only [List.length_append]
  omega
theorem texts_any8 (u v : U) (w : World) (h0 : -9223372036854775808 ≤ u.port) (h1 : u.port ≤ 9223372036854775807) (ht : Tb w) : Calls Tryz.prog 4 #[uV u, uV v] w fun e w' => e = .returned (.bool true) ∧ Below w.heap.size w w' := by
  have HS : Hid (∀ w', Kept w w' → Calls Tryz.prog 13 #[] w' fun e w2 => e = .returned (.bool true) ∧ Below w'.heap.size w' w2) := fun w' hk => shown_any w' (ht.kp hk)
  obtain ⟨hu, hl, hp⟩ := cutU_ub u h0 h1
  have hsu : (cutU u).sch.length ≤ 1000 := hu.s
  have hsv : (cutU v).sch.length ≤ 1000 := by show (v.sch.take 200).length ≤ _; rw [List.length_take]; omega
  exact tx_all u v (cutU u) (cutU v) w (txt (cutU u)) (org (cutU u)) (rgt (cutU u)) (same (cutU u) (cutU v)) HS (fun w' => cutU_any u w') (fun w' => cutU_any v w')
    (fun w' hk => text_any _ w' hu (ht.kp hk)) (fun w' => rtext_any _ w' hu (by omega)) (fun w' hk => right_any _ w' hu (by omega) (ht.kp hk)) (fun w' => rright_any _ w' hu hl (by omega))
    (fun w' hk => origin_any _ w' hu (ht.kp hk)) (fun w' => rorigin_any _ w' hu) (fun w' => same_any _ _ w' hsu) (fun w' => rsame_any _ _ w') (fun w' => by rw [same_comm (cutU u)]; exact same_any _ _ w' hsv)
end Go.Proofs.YtcepigekibidfaaGreatDoor
