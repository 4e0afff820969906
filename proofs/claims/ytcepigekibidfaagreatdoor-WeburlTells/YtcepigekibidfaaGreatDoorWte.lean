/-
  What transeptlaw08.WeburlTells answers: true; nothing that was there turns. Condition: the library's tables.
-/
import Derived.Test.YtcepigekibidfaaGreatDoorTue
import Derived.Test.YtcepigekibidfaaGreatDoorGr
namespace Go.Proofs.YtcepigekibidfaaGreatDoor
open Go.RowKit

set_option maxHeartbeats 8000000 in
set_option maxRecDepth 100000 in
theorem te_all (u : U) (en : Int) (l s : List UInt8) (m : Nat) (w : World) (hm : min (l.length : Int) 500 = (m : Int)) (hm2 : m ≤ l.length) (hts : (str l).extract 0 m = str s) (hsl : (str l).size = l.length) (HS : Hid (∀ w', Kept w w' → Calls Tryz.prog 13 #[] w' fun e w2 => e = .returned (.bool true) ∧ Below w'.heap.size w' w2)) (HU : Hid (∀ w', Kept w w' → Calls Tryz.prog 14 #[.string (str s)] w' fun e w2 => e = .returned (.tuple #[.agg (uC u.sch u.host u.port u.path u.q u.f).toArray, .int .i64 en]) ∧ Below w'.heap.size w' w2)) (HV : Hid (∀ w', Calls Tryz.prog 15 #[.string (str s)] w' fun e w2 => e = .returned (.tuple #[.agg (uC u.sch u.host u.port u.path u.q u.f).toArray, .int .i64 en]) ∧ Below w'.heap.size w' w2)) : Calls Tryz.prog 3 #[.string (str l)] w fun e w' => e = .returned (.bool true) ∧ Below w.heap.size w w' := by
  have hee : (en == en) = true := by simp
  go_enter Tryz.func3, Tryz.ntmps3
  go_wp2_with (first
      | (go_at_call 13; (with_reducible refine (HS.out _ (Hl.nil w).kp).mono ?_); (rintro e w1 ⟨rfl, hb⟩; have H0 := (Hl.nil w).step hb; clear hb))
      | (go_at_call 14; (with_reducible refine (HU.out _ H0.kp).mono ?_); (rintro e wa1 ⟨rfl, hb⟩; have G1 := H0.step hb; clear hb))
      | ((with_reducible show wpList _ _ _ (⟨some 4, .alloc _, _, _, _, _⟩ :: _) _ _); refine wp_new _ rfl 24 rfl _ z24 ?_; intro wb1 g1 B1 F1; simp only [Act.put, List.setIfInBounds_toArray, List.set_cons_zero, List.set_cons_succ])
      | ((with_reducible show wpList _ _ _ (⟨none, .store 24 (.tmp 4) (.tmp 17), _, _, _, _⟩ :: _) _ _); refine wp_putAll _ rfl 24 (.tmp 4) (.tmp 17) rfl g1 24 _ (uC u.sch u.host u.port u.path u.q u.f) rfl rfl B1 rfl n24 (uC_one _ _ _ _ _ _) ?_; intro wc1 B U; simp only [Act.put]; have H1 := G1.new F1 U B; clear B U F1 B1 G1)
      | (go_at_call 15; (with_reducible refine (HV.out _).mono ?_); (rintro e wa2 ⟨rfl, hb⟩; have G2 := H1.step hb; clear hb))
      | ((with_reducible show wpList _ _ _ (⟨some 6, .alloc _, _, _, _, _⟩ :: _) _ _); refine wp_new _ rfl 24 rfl _ z24 ?_; intro wb2 g2 B2 F2; simp only [Act.put, List.setIfInBounds_toArray, List.set_cons_zero, List.set_cons_succ])
      | ((with_reducible show wpList _ _ _ (⟨none, .store 24 (.tmp 6) (.tmp 22), _, _, _, _⟩ :: _) _ _); refine wp_putAll _ rfl 24 (.tmp 6) (.tmp 22) rfl g2 24 _ (uC u.sch u.host u.port u.path u.q u.f) rfl rfl B2 rfl n24 (uC_one _ _ _ _ _ _) ?_; intro wc2 B U; simp only [Act.put]; have H2 := G2.new F2 U B; clear B U F2 B2 G2)
      | ((with_reducible show wpList _ _ _ (⟨some 26, .load 24 (.tmp 4), _, _, _, _⟩ :: _) _ _); refine wp_getU _ (by rfl) (.tmp 4) rfl g1 u rfl (H2.at (x := (g1, uC u.sch u.host u.port u.path u.q u.f)) (by simp)) ?_; simp only [Act.put, List.setIfInBounds_toArray, List.set_cons_zero, List.set_cons_succ])
      | ((with_reducible show wpList _ _ _ (⟨some 27, .load 24 (.tmp 6), _, _, _, _⟩ :: _) _ _); refine wp_getU _ (by rfl) (.tmp 6) rfl g2 u rfl (H2.at (x := (g2, uC u.sch u.host u.port u.path u.q u.f)) (by simp)) ?_; simp only [Act.put, List.setIfInBounds_toArray, List.set_cons_zero, List.set_cons_succ])
      | ((with_reducible show wpList _ _ _ (⟨some 28, .binOp .eql 24 _ _ _, _, _, _, _⟩ :: _) _ _); refine wp_eqU _ (by rfl) (.tmp 26) (.tmp 27) rfl u u rfl rfl true ⟨fun _ => rfl, fun _ => rfl⟩ ?_; simp only [Act.put, List.setIfInBounds_toArray, List.set_cons_zero, List.set_cons_succ]))
  go_ret
  exact ⟨by simp, H2.kp⟩
theorem tells_any8 (l : List UInt8) (w : World) (ht : Tb w) : Calls Tryz.prog 3 #[.string (str l)] w fun e w' => e = .returned (.bool true) ∧ Below w.heap.size w w' := by
  have HS : Hid (∀ w', Kept w w' → Calls Tryz.prog 13 #[] w' fun e w2 => e = .returned (.bool true) ∧ Below w'.heap.size w' w2) := fun w' hk => shown_any w' (ht.kp hk)
  obtain ⟨m, hm, hm1, hm2⟩ : ∃ m : Nat, min (l.length : Int) 500 = (m : Int) ∧ m ≤ 500 ∧ m ≤ l.length := ⟨min l.length 500, by omega, by omega, by omega⟩
  have hts := str_take l m
  have hls : (l.take m).length ≤ 500 := by rw [List.length_take]; omega
  generalize l.take m = s at hts hls
  have hsl := str_size l
  have HU : ∀ w', Kept w w' → Calls Tryz.prog 14 #[.string (str s)] w' fun e w2 => e = .returned (rU (prsU s)) ∧ Below w'.heap.size w' w2 := fun w' hk => url_any s w' (by omega) (ht.kp hk)
  have HV : ∀ w', Calls Tryz.prog 15 #[.string (str s)] w' fun e w2 => e = .returned (rU (prsU s)) ∧ Below w'.heap.size w' w2 := fun w' => rurl_any s w' (by omega)
  exact te_all ((prsU s).getD zU) (if (prsU s).isSome then 0 else 7) l s m w hm hm2 hts hsl HS HU HV
end Go.Proofs.YtcepigekibidfaaGreatDoor
