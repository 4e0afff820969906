/-
  What transeptref08.Parse answers, which is what weburl.Parse answers; nothing that was there turns. Condition: a text of at most 5000 bytes.
-/
import Derived.Test.YtcepigekibidfaaGreatDoorTud
import Derived.Test.YtcepigekibidfaaGreatDoorTub
import Derived.Test.YtcepigekibidfaaGreatDoorTrs
import Derived.Test.YtcepigekibidfaaGreatDoorWpr
namespace Go.Proofs.YtcepigekibidfaaGreatDoor
open Go.RowKit

/-- What Parse holds: its answer, no URL, and the URL that it builds. -/
structure Tp (w wi : World) (g1 g2 g3 : Nat) (Z N C : List Value) : Prop where
  b1 : Blk wi g1 24 Z
  b2 : Blk wi g2 24 N
  b3 : Blk wi g3 24 C
  kp : Kept w wi
  l1 : w.heap.size ≤ g1
  l2 : g1 < g2
  l3 : g2 < g3
section
variable {w wi wj : World} {g1 g2 g3 g4 : Nat} {C C' Z Z' N : List Value}
theorem Tp.step (h : Tp w wi g1 g2 g3 Z N C) (hb : Below wi.heap.size wi wj) : Tp w wj g1 g2 g3 Z N C := ⟨h.b1.kept hb, h.b2.kept hb, h.b3.kept hb, h.kp.step hb, h.l1, h.l2, h.l3⟩
theorem Tp.drew (h : Tp w wi g1 g2 g3 Z N C) : Tp w wi.drew g1 g2 g3 Z N C := ⟨h.b1, h.b2, h.b3, h.kp.drew, h.l1, h.l2, h.l3⟩
theorem Tp.set1 (h : Tp w wi g1 g2 g3 Z N C) (hb : Blk wj g1 24 Z') (hu : Upd g1 wi wj) : Tp w wj g1 g2 g3 Z' N C := ⟨hb, h.b2.upd hu (by have := h.l2; omega), h.b3.upd hu (by have := h.l2; have := h.l3; omega), h.kp.base (hu.below h.l1), h.l1, h.l2, h.l3⟩
theorem Tp.set3 (h : Tp w wi g1 g2 g3 Z N C) (hb : Blk wj g3 24 C') (hu : Upd g3 wi wj) : Tp w wj g1 g2 g3 Z N C' := ⟨h.b1.upd hu (by have := h.l2; have := h.l3; omega), h.b2.upd hu (by have := h.l3; omega), hb, h.kp.base (hu.below (by have := h.l1; have := h.l2; have := h.l3; omega)), h.l1, h.l2, h.l3⟩
theorem Tp.out (h : Tp w wi g1 g2 g3 Z N C) (hg : g3 < g4) (hu : Upd g4 wi wj) : Tp w wj g1 g2 g3 Z N C := ⟨h.b1.upd hu (by have := h.l2; have := h.l3; omega), h.b2.upd hu (by have := h.l3; omega), h.b3.upd hu (by omega), h.kp.base (hu.below (by have := h.l1; have := h.l2; have := h.l3; omega)), h.l1, h.l2, h.l3⟩
theorem Sp.three (h : Sp w wi g1 g2 Z N) (hb : Blk wj g3 24 C) (f : Fresh wi wj g3) : Tp w wj g1 g2 g3 Z N C := ⟨f.blk h.b1, f.blk h.b2, hb, h.kp.step f.below, h.l1, h.l2, by have := h.b2.lt; rw [f.is]; exact this⟩
theorem Tp.next (h : Tp w wi g1 g2 g3 Z N C) (f : Fresh wi wj g4) : g3 < g4 := by have := h.b3.lt; rw [f.is]; exact this
end
set_option maxHeartbeats 8000000 in
set_option maxRecDepth 100000 in
theorem tp_a (l X : List UInt8) (w : World) (N D : Nat) (H0 : Hid (∀ w', Calls Tryz.prog 40 #[.string (str l)] w' fun e w2 => e = .returned (.string (str X)) ∧ Below w'.heap.size w' w2)) (H1 : Hid (∀ w', Calls Tryz.prog 26 #[.string (str X), .int .u8 58] w' fun e w2 => e = .returned (.int .i64 (D : Int)) ∧ w2 = w')) (hN : (str X).size = N) (hcc : ((D : Int) == (N : Int)) = true) : Calls Tryz.prog 15 #[.string (str l)] w fun e w' => e = .returned (rU none) ∧ Below w.heap.size w w' := by
  go_enter Tryz.func15, Tryz.ntmps15
  go_wp2_with (first
    | ((with_reducible show wpList _ _ _ (⟨some 2, .alloc _, _, _, _, _⟩ :: _) _ _); refine wp_new _ rfl 24 rfl _ z24 ?_; intro w1 g1 B1 F1; simp only [Act.put, List.setIfInBounds_toArray, List.set_cons_zero, List.set_cons_succ])
    | ((with_reducible show wpList _ _ _ (⟨some 12, .build _ _, _, _, _, _⟩ :: _) _ _); refine wp_build0 _ rfl 24 rfl _ (b24 _) ?_; simp only [Act.put, List.setIfInBounds_toArray, List.set_cons_zero, List.set_cons_succ])
    | ((with_reducible show wpList _ _ _ (⟨some 4, .alloc _, _, _, _, _⟩ :: _) _ _); refine wp_new _ rfl 24 rfl _ z24 ?_; intro w2 g2 B2 F2; simp only [Act.put, List.setIfInBounds_toArray, List.set_cons_zero, List.set_cons_succ]; have S2 := Sp.new B1 F1 B2 F2; clear B1 F1 B2 F2)
    | ((with_reducible show wpList _ _ _ (⟨none, .store 24 (.tmp 4) (.tmp 12), _, _, _, _⟩ :: _) _ _); refine wp_putAll _ rfl 24 (.tmp 4) (.tmp 12) rfl g2 24 _ (uC [] [] 0 [] [] []) rfl rfl S2.b2 rfl n24 (uC_one _ _ _ _ _ _) ?_; intro w3 B U; simp only [Act.put]; have S3 := S2.set2 B U; clear B U)
    | (go_at_call 40; (with_reducible refine (H0.out _).mono ?_); (rintro e w4 ⟨rfl, hb⟩; have S4 := S3.step hb; clear hb))
    | (go_at_call 26; (with_reducible refine (H1.out _).mono ?_); (rintro e w5 ⟨rfl, hw⟩; subst w5))
    | ((with_reducible show wpList _ _ _ (⟨some 21, .load 24 (.tmp 4), _, _, _, _⟩ :: _) _ _); refine wp_get _ rfl 24 (.tmp 4) rfl g2 0 (uC [] [] 0 [] [] []) _ rfl S4.b2.whole Tryz.underlying24 rfl n24 ?_; simp only [Act.put, List.setIfInBounds_toArray, List.set_cons_zero, List.set_cons_succ])
    | ((with_reducible show wpList _ _ _ (⟨none, .store 24 (.tmp 2) (.tmp 21), _, _, _, _⟩ :: _) _ _); refine wp_putAll _ rfl 24 (.tmp 2) (.tmp 21) rfl g1 24 _ (uC [] [] 0 [] [] []) rfl rfl S4.b1 rfl n24 (uC_one _ _ _ _ _ _) ?_; intro w20 B U; simp only [Act.put]; have S20 := S4.set1 B U; clear B U))
  refine ret_cell2 2 3 24 rfl g1 (uC [] [] 0 [] [] []) _ rfl S20.b1.whole Tryz.underlying24 rfl n24 rfl (.int .i64 7) rfl ⟨rfl, S20.kp⟩
set_option maxHeartbeats 8000000 in
set_option maxRecDepth 100000 in
theorem tp_b (l X : List UInt8) (w : World) (N D : Nat) (H0 : Hid (∀ w', Calls Tryz.prog 40 #[.string (str l)] w' fun e w2 => e = .returned (.string (str X)) ∧ Below w'.heap.size w' w2)) (H1 : Hid (∀ w', Calls Tryz.prog 26 #[.string (str X), .int .u8 58] w' fun e w2 => e = .returned (.int .i64 (D : Int)) ∧ w2 = w')) (hN : (str X).size = N) (hDN : (D : Int) ≤ (N : Int)) (A S : List UInt8) (v : Int) (hcc : ((D : Int) == (N : Int)) = false) (hA : (str X).extract 0 D = str A) (H2 : Hid (∀ w', Calls Tryz.prog 41 #[.string (str A)] w' fun e w2 => e = .returned (.string (str S)) ∧ Below w'.heap.size w' w2)) (H3 : Hid (∀ w', Calls Tryz.prog 28 #[.string (str S)] w' fun e w2 => e = .returned (.int .i64 v) ∧ w2 = w')) (hv : v < 0) : Calls Tryz.prog 15 #[.string (str l)] w fun e w' => e = .returned (rU none) ∧ Below w.heap.size w w' := by
  go_enter Tryz.func15, Tryz.ntmps15
  go_wp2_with (first
    | ((with_reducible show wpList _ _ _ (⟨some 2, .alloc _, _, _, _, _⟩ :: _) _ _); refine wp_new _ rfl 24 rfl _ z24 ?_; intro w1 g1 B1 F1; simp only [Act.put, List.setIfInBounds_toArray, List.set_cons_zero, List.set_cons_succ])
    | ((with_reducible show wpList _ _ _ (⟨some 12, .build _ _, _, _, _, _⟩ :: _) _ _); refine wp_build0 _ rfl 24 rfl _ (b24 _) ?_; simp only [Act.put, List.setIfInBounds_toArray, List.set_cons_zero, List.set_cons_succ])
    | ((with_reducible show wpList _ _ _ (⟨some 4, .alloc _, _, _, _, _⟩ :: _) _ _); refine wp_new _ rfl 24 rfl _ z24 ?_; intro w2 g2 B2 F2; simp only [Act.put, List.setIfInBounds_toArray, List.set_cons_zero, List.set_cons_succ]; have S2 := Sp.new B1 F1 B2 F2; clear B1 F1 B2 F2)
    | ((with_reducible show wpList _ _ _ (⟨none, .store 24 (.tmp 4) (.tmp 12), _, _, _, _⟩ :: _) _ _); refine wp_putAll _ rfl 24 (.tmp 4) (.tmp 12) rfl g2 24 _ (uC [] [] 0 [] [] []) rfl rfl S2.b2 rfl n24 (uC_one _ _ _ _ _ _) ?_; intro w3 B U; simp only [Act.put]; have S3 := S2.set2 B U; clear B U)
    | (go_at_call 40; (with_reducible refine (H0.out _).mono ?_); (rintro e w4 ⟨rfl, hb⟩; have S4 := S3.step hb; clear hb))
    | (go_at_call 26; (with_reducible refine (H1.out _).mono ?_); (rintro e w5 ⟨rfl, hw⟩; subst w5))
    | (go_at_call 41; (with_reducible refine (H2.out _).mono ?_); (rintro e w6 ⟨rfl, hb⟩; have S6 := S4.step hb; clear hb))
    | ((with_reducible show wpList _ _ _ (⟨some 26, .build _ _, _, _, _, _⟩ :: _) _ _); refine wp_build2 _ rfl 24 0 2 _ _ rfl _ _ rfl rfl _ (b24s _ _) ?_; simp only [Act.put, List.setIfInBounds_toArray, List.set_cons_zero, List.set_cons_succ])
    | ((with_reducible show wpList _ _ _ (⟨some 6, .alloc _, _, _, _, _⟩ :: _) _ _); refine wp_new _ rfl 24 rfl _ z24 ?_; intro w7 g3 B3 F3; simp only [Act.put, List.setIfInBounds_toArray, List.set_cons_zero, List.set_cons_succ]; have S7 := S6.three B3 F3; clear B3 F3)
    | ((with_reducible show wpList _ _ _ (⟨none, .store 24 (.tmp 6) (.tmp 26), _, _, _, _⟩ :: _) _ _); refine wp_putAll _ rfl 24 (.tmp 6) (.tmp 26) rfl g3 24 _ (uC S [] (-1) [] [] []) rfl rfl S7.b3 rfl n24 (uC_one _ _ _ _ _ _) ?_; intro w8 B U; simp only [Act.put]; have S8 := S7.set3 B U; clear B U; have hc8 := S8.b3.cell (i := 0) rfl)
    | (go_at_call 28; (with_reducible refine (H3.out _).mono ?_); (rintro e w9 ⟨rfl, hw⟩; subst w9))
    | ((with_reducible show wpList _ _ _ (⟨some 32, .load 24 (.tmp 4), _, _, _, _⟩ :: _) _ _); refine wp_get _ rfl 24 (.tmp 4) rfl g2 0 (uC [] [] 0 [] [] []) _ rfl S8.b2.whole Tryz.underlying24 rfl n24 ?_; simp only [Act.put, List.setIfInBounds_toArray, List.set_cons_zero, List.set_cons_succ])
    | ((with_reducible show wpList _ _ _ (⟨none, .store 24 (.tmp 2) (.tmp 32), _, _, _, _⟩ :: _) _ _); refine wp_putAll _ rfl 24 (.tmp 2) (.tmp 32) rfl g1 24 _ (uC [] [] 0 [] [] []) rfl rfl S8.b1 rfl n24 (uC_one _ _ _ _ _ _) ?_; intro w20 B U; simp only [Act.put]; have S20 := S8.set1 B U; clear B U))
  refine ret_cell2 2 3 24 rfl g1 (uC [] [] 0 [] [] []) _ rfl S20.b1.whole Tryz.underlying24 rfl n24 rfl (.int .i64 7) rfl ⟨rfl, S20.kp⟩
set_option maxHeartbeats 8000000 in
set_option maxRecDepth 100000 in
theorem tp_c (l X : List UInt8) (w : World) (N D : Nat) (H0 : Hid (∀ w', Calls Tryz.prog 40 #[.string (str l)] w' fun e w2 => e = .returned (.string (str X)) ∧ Below w'.heap.size w' w2)) (H1 : Hid (∀ w', Calls Tryz.prog 26 #[.string (str X), .int .u8 58] w' fun e w2 => e = .returned (.int .i64 (D : Int)) ∧ w2 = w')) (hN : (str X).size = N) (hDN : (D : Int) ≤ (N : Int)) (A S : List UInt8) (v : Int) (hcc : ((D : Int) == (N : Int)) = false) (hA : (str X).extract 0 D = str A) (H2 : Hid (∀ w', Calls Tryz.prog 41 #[.string (str A)] w' fun e w2 => e = .returned (.string (str S)) ∧ Below w'.heap.size w' w2)) (H3 : Hid (∀ w', Calls Tryz.prog 28 #[.string (str S)] w' fun e w2 => e = .returned (.int .i64 v) ∧ w2 = w')) (P R1 R2 F Q : List UInt8) (D1 E G M K : Nat) (hv : ¬ v < 0) (hD1 : (D : Int) + 1 = (D1 : Int)) (hD1w : IntKind.i64.wrap (D1 : Int) = (D1 : Int)) (hD1N : (D1 : Int) ≤ (N : Int)) (hP : (str X).extract D1 N = str P) (H4 : Hid (∀ w', Calls Tryz.prog 26 #[.string (str P), .int .u8 35] w' fun e w2 => e = .returned (.int .i64 (E : Int)) ∧ w2 = w')) (H5 : Hid (∀ w', Calls Tryz.prog 42 #[.string (str P), .int .i64 (E : Int), .int .i64 2] w' fun e w2 => e = .returned (.string (str F)) ∧ Below w'.heap.size w' w2)) (hM : (str P).size = M) (hEM : (E : Int) ≤ (M : Int)) (hR1 : (str P).extract 0 E = str R1) (H6 : Hid (∀ w', Calls Tryz.prog 26 #[.string (str R1), .int .u8 63] w' fun e w2 => e = .returned (.int .i64 (G : Int)) ∧ w2 = w')) (hK : (str R1).size = K) (hGK : (G : Int) ≤ (K : Int)) (hR2 : (str R1).extract 0 G = str R2) (Pa : List UInt8) (hv0 : (v == 0) = true) (H7 : Hid (∀ w', Calls Tryz.prog 42 #[.string (str R1), .int .i64 (G : Int), .int .i64 3] w' fun e w2 => e = .returned (.string (str Q)) ∧ Below w'.heap.size w' w2)) (H8 : Hid (∀ w', Calls Tryz.prog 43 #[.int .i64 1, .string (str R2)] w' fun e w2 => e = .returned (.string (str Pa)) ∧ Below w'.heap.size w' w2)) : Calls Tryz.prog 15 #[.string (str l)] w fun e w' => e = .returned (rU (some ⟨S, [], -1, Pa, Q, F⟩)) ∧ Below w.heap.size w w' := by
  go_enter Tryz.func15, Tryz.ntmps15
  go_wp2_with (first
    | ((with_reducible show wpList _ _ _ (⟨some 2, .alloc _, _, _, _, _⟩ :: _) _ _); refine wp_new _ rfl 24 rfl _ z24 ?_; intro w1 g1 B1 F1; simp only [Act.put, List.setIfInBounds_toArray, List.set_cons_zero, List.set_cons_succ])
    | ((with_reducible show wpList _ _ _ (⟨some 12, .build _ _, _, _, _, _⟩ :: _) _ _); refine wp_build0 _ rfl 24 rfl _ (b24 _) ?_; simp only [Act.put, List.setIfInBounds_toArray, List.set_cons_zero, List.set_cons_succ])
    | ((with_reducible show wpList _ _ _ (⟨some 4, .alloc _, _, _, _, _⟩ :: _) _ _); refine wp_new _ rfl 24 rfl _ z24 ?_; intro w2 g2 B2 F2; simp only [Act.put, List.setIfInBounds_toArray, List.set_cons_zero, List.set_cons_succ]; have S2 := Sp.new B1 F1 B2 F2; clear B1 F1 B2 F2)
    | ((with_reducible show wpList _ _ _ (⟨none, .store 24 (.tmp 4) (.tmp 12), _, _, _, _⟩ :: _) _ _); refine wp_putAll _ rfl 24 (.tmp 4) (.tmp 12) rfl g2 24 _ (uC [] [] 0 [] [] []) rfl rfl S2.b2 rfl n24 (uC_one _ _ _ _ _ _) ?_; intro w3 B U; simp only [Act.put]; have S3 := S2.set2 B U; clear B U)
    | (go_at_call 40; (with_reducible refine (H0.out _).mono ?_); (rintro e w4 ⟨rfl, hb⟩; have S4 := S3.step hb; clear hb))
    | (go_at_call 26; (with_reducible refine (H1.out _).mono ?_); (rintro e w5 ⟨rfl, hw⟩; subst w5))
    | (go_at_call 41; (with_reducible refine (H2.out _).mono ?_); (rintro e w6 ⟨rfl, hb⟩; have S6 := S4.step hb; clear hb))
    | ((with_reducible show wpList _ _ _ (⟨some 26, .build _ _, _, _, _, _⟩ :: _) _ _); refine wp_build2 _ rfl 24 0 2 _ _ rfl _ _ rfl rfl _ (b24s _ _) ?_; simp only [Act.put, List.setIfInBounds_toArray, List.set_cons_zero, List.set_cons_succ])
    | ((with_reducible show wpList _ _ _ (⟨some 6, .alloc _, _, _, _, _⟩ :: _) _ _); refine wp_new _ rfl 24 rfl _ z24 ?_; intro w7 g3 B3 F3; simp only [Act.put, List.setIfInBounds_toArray, List.set_cons_zero, List.set_cons_succ]; have S7 := S6.three B3 F3; clear B3 F3)
    | ((with_reducible show wpList _ _ _ (⟨none, .store 24 (.tmp 6) (.tmp 26), _, _, _, _⟩ :: _) _ _); refine wp_putAll _ rfl 24 (.tmp 6) (.tmp 26) rfl g3 24 _ (uC S [] (-1) [] [] []) rfl rfl S7.b3 rfl n24 (uC_one _ _ _ _ _ _) ?_; intro w8 B U; simp only [Act.put]; have S8 := S7.set3 B U; clear B U; have hc8 := S8.b3.cell (i := 0) rfl)
    | (go_at_call 28; (with_reducible refine (H3.out _).mono ?_); (rintro e w9 ⟨rfl, hw⟩; subst w9))
    | (go_at_call 26; (with_reducible refine (H4.out _).mono ?_); (rintro e w10 ⟨rfl, hw⟩; subst w10))
    | (go_at_call 42; (with_reducible refine (H5.out _).mono ?_); (rintro e w11 ⟨rfl, hb⟩; have S11 := S8.step hb; clear hb))
    | ((with_reducible show wpList _ _ _ (⟨none, .store 9 (.tmp 42) (.tmp 41), _, _, _, _⟩ :: _) _ _); refine wp_set _ rfl 9 (.tmp 42) (.tmp 41) rfl g3 5 24 _ (.string (str F)) rfl rfl rfl rfl S11.b3 (by simp [uC]) n9 ?_; intro w12 B U; simp only [Act.put]; have S12 := S11.set3 B U; clear B U)
    | (go_at_call 26; (with_reducible refine (H6.out _).mono ?_); (rintro e w13 ⟨rfl, hw⟩; subst w13))
    | (go_at_call 42; (with_reducible refine (H7.out _).mono ?_); (rintro e w14 ⟨rfl, hb⟩; have S14 := S12.step hb; clear hb))
    | ((with_reducible show wpList _ _ _ (⟨none, .store 9 (.tmp 53) (.tmp 52), _, _, _, _⟩ :: _) _ _); refine wp_set _ rfl 9 (.tmp 53) (.tmp 52) rfl g3 4 24 _ (.string (str Q)) rfl rfl rfl rfl S14.b3 (by simp [uC]) n9 ?_; intro w15 B U; simp only [Act.put]; have S15 := S14.set3 B U; clear B U)
    | (go_at_call 43; (with_reducible refine (H8.out _).mono ?_); (rintro e w16 ⟨rfl, hb⟩; have S16 := S15.step hb; clear hb))
    | ((with_reducible show wpList _ _ _ (⟨none, .store 9 (.tmp 58) (.tmp 57), _, _, _, _⟩ :: _) _ _); refine wp_set _ rfl 9 (.tmp 58) (.tmp 57) rfl g3 3 24 _ (.string (str Pa)) rfl rfl rfl rfl S16.b3 (by simp [uC]) n9 ?_; intro w17 B U; simp only [Act.put]; have S17 := S16.set3 B U; clear B U)
    | ((with_reducible show wpList _ _ _ (⟨some 59, .load 24 (.tmp 6), _, _, _, _⟩ :: _) _ _); refine wp_get _ rfl 24 (.tmp 6) rfl g3 0 (uC S [] (-1) Pa Q F) _ rfl S17.b3.whole Tryz.underlying24 rfl n24 ?_; simp only [Act.put, List.setIfInBounds_toArray, List.set_cons_zero, List.set_cons_succ])
    | ((with_reducible show wpList _ _ _ (⟨none, .store 24 (.tmp 2) (.tmp 59), _, _, _, _⟩ :: _) _ _); refine wp_putAll _ rfl 24 (.tmp 2) (.tmp 59) rfl g1 24 _ (uC S [] (-1) Pa Q F) rfl rfl S17.b1 rfl n24 (uC_one _ _ _ _ _ _) ?_; intro w20 B U; simp only [Act.put]; have S20 := S17.set1 B U; clear B U))
  refine ret_cell2 2 3 24 rfl g1 (uC S [] (-1) Pa Q F) _ rfl S20.b1.whole Tryz.underlying24 rfl n24 rfl (.int .i64 0) rfl ⟨rfl, S20.kp⟩
section
variable {ops : Array Oper} {o : Oper} {a : Act} {K : Act → World → Prop} {Q : Exit → Act → World → Prop} {E : Prop}
/-- A variable of a struct type, made in a region that draws its order. -/
theorem step_new8 (w : World) (hgd : o.guard = none) (t : TypeId) (ho : o.op = .alloc t) (Z : List Value) (hz : (Tryz.prog.info? t).map (fun i => i.zero) = some (some (.agg Z.toArray)))
    (h : ∀ w' g, Blk w' g t Z → Fresh w w' g → K (a.put o.dst (.pointer (some ⟨g, 0, none⟩))) w') :
    if Region.wanted o (yielded ops a.tmps) = true then Oper.wp Tryz.prog o a w K Q else E := by
  have hw : Region.wanted o (yielded ops a.tmps) = true := by simp [Region.wanted, hgd]
  rw [if_pos hw]
  have h := h (w.alloc (.cells Z.toArray t)) _ (Blk.new w t Z) (Fresh.alloc w _)
  have hzv : ∀ w, (zeroValue t).run Tryz.prog w = .ok (.agg Z.toArray) w := by
    intro w
    cases hq : Tryz.prog.info? t with
    | none => simp [hq] at hz
    | some i =>
      simp [hq] at hz
      simp [zeroValue, typeInfo, hq, hz]
  unfold Oper.wp execOp
  simp only [ho, Instr.alloc, Sem.run_bind, hzv, Result.andThen_ok, Sem.run_pure, newVar, newRow, newObj, Value.cells]
  exact h
end
set_option maxHeartbeats 8000000 in
set_option maxRecDepth 100000 in
theorem tp_d0 (l X : List UInt8) (w : World) (N D : Nat) (H0 : Hid (∀ w', Calls Tryz.prog 40 #[.string (str l)] w' fun e w2 => e = .returned (.string (str X)) ∧ Below w'.heap.size w' w2)) (H1 : Hid (∀ w', Calls Tryz.prog 26 #[.string (str X), .int .u8 58] w' fun e w2 => e = .returned (.int .i64 (D : Int)) ∧ w2 = w')) (hN : (str X).size = N) (hDN : (D : Int) ≤ (N : Int)) (A S : List UInt8) (v : Int) (hcc : ((D : Int) == (N : Int)) = false) (hA : (str X).extract 0 D = str A) (H2 : Hid (∀ w', Calls Tryz.prog 41 #[.string (str A)] w' fun e w2 => e = .returned (.string (str S)) ∧ Below w'.heap.size w' w2)) (H3 : Hid (∀ w', Calls Tryz.prog 28 #[.string (str S)] w' fun e w2 => e = .returned (.int .i64 v) ∧ w2 = w')) (P R1 R2 F Q : List UInt8) (D1 E G M K : Nat) (hv : ¬ v < 0) (hD1 : (D : Int) + 1 = (D1 : Int)) (hD1w : IntKind.i64.wrap (D1 : Int) = (D1 : Int)) (hD1N : (D1 : Int) ≤ (N : Int)) (hP : (str X).extract D1 N = str P) (H4 : Hid (∀ w', Calls Tryz.prog 26 #[.string (str P), .int .u8 35] w' fun e w2 => e = .returned (.int .i64 (E : Int)) ∧ w2 = w')) (H5 : Hid (∀ w', Calls Tryz.prog 42 #[.string (str P), .int .i64 (E : Int), .int .i64 2] w' fun e w2 => e = .returned (.string (str F)) ∧ Below w'.heap.size w' w2)) (hM : (str P).size = M) (hEM : (E : Int) ≤ (M : Int)) (hR1 : (str P).extract 0 E = str R1) (H6 : Hid (∀ w', Calls Tryz.prog 26 #[.string (str R1), .int .u8 63] w' fun e w2 => e = .returned (.int .i64 (G : Int)) ∧ w2 = w')) (hK : (str R1).size = K) (hGK : (G : Int) ≤ (K : Int)) (hR2 : (str R1).extract 0 G = str R2) (hv0 : (v == 0) = false) (H7 : Hid (∀ w', Calls Tryz.prog 42 #[.string (str R1), .int .i64 (G : Int), .int .i64 4] w' fun e w2 => e = .returned (.string (str Q)) ∧ Below w'.heap.size w' w2)) (H8 : Hid (∀ w', Calls Tryz.prog 44 #[.agg (uC S [] (-1) [] Q F).toArray, .string (str R2)] w' fun e w2 => ∃ x : U, e = .returned (.tuple #[uV x, .bool false]) ∧ Below w'.heap.size w' w2)) : Calls Tryz.prog 15 #[.string (str l)] w fun e w' => e = .returned (rU none) ∧ Below w.heap.size w w' := by
  go_enter Tryz.func15, Tryz.ntmps15
  go_wp2_with (first
    | ((with_reducible show wpList _ _ _ (⟨some 2, .alloc _, _, _, _, _⟩ :: _) _ _); refine wp_new _ rfl 24 rfl _ z24 ?_; intro w1 g1 B1 F1; simp only [Act.put, List.setIfInBounds_toArray, List.set_cons_zero, List.set_cons_succ])
    | ((with_reducible show wpList _ _ _ (⟨some 12, .build _ _, _, _, _, _⟩ :: _) _ _); refine wp_build0 _ rfl 24 rfl _ (b24 _) ?_; simp only [Act.put, List.setIfInBounds_toArray, List.set_cons_zero, List.set_cons_succ])
    | ((with_reducible show wpList _ _ _ (⟨some 4, .alloc _, _, _, _, _⟩ :: _) _ _); refine wp_new _ rfl 24 rfl _ z24 ?_; intro w2 g2 B2 F2; simp only [Act.put, List.setIfInBounds_toArray, List.set_cons_zero, List.set_cons_succ]; have S2 := Sp.new B1 F1 B2 F2; clear B1 F1 B2 F2)
    | ((with_reducible show wpList _ _ _ (⟨none, .store 24 (.tmp 4) (.tmp 12), _, _, _, _⟩ :: _) _ _); refine wp_putAll _ rfl 24 (.tmp 4) (.tmp 12) rfl g2 24 _ (uC [] [] 0 [] [] []) rfl rfl S2.b2 rfl n24 (uC_one _ _ _ _ _ _) ?_; intro w3 B U; simp only [Act.put]; have S3 := S2.set2 B U; clear B U)
    | (go_at_call 40; (with_reducible refine (H0.out _).mono ?_); (rintro e w4 ⟨rfl, hb⟩; have S4 := S3.step hb; clear hb))
    | (go_at_call 26; (with_reducible refine (H1.out _).mono ?_); (rintro e w5 ⟨rfl, hw⟩; subst w5))
    | (go_at_call 41; (with_reducible refine (H2.out _).mono ?_); (rintro e w6 ⟨rfl, hb⟩; have S6 := S4.step hb; clear hb))
    | ((with_reducible show wpList _ _ _ (⟨some 26, .build _ _, _, _, _, _⟩ :: _) _ _); refine wp_build2 _ rfl 24 0 2 _ _ rfl _ _ rfl rfl _ (b24s _ _) ?_; simp only [Act.put, List.setIfInBounds_toArray, List.set_cons_zero, List.set_cons_succ])
    | ((with_reducible show wpList _ _ _ (⟨some 6, .alloc _, _, _, _, _⟩ :: _) _ _); refine wp_new _ rfl 24 rfl _ z24 ?_; intro w7 g3 B3 F3; simp only [Act.put, List.setIfInBounds_toArray, List.set_cons_zero, List.set_cons_succ]; have S7 := S6.three B3 F3; clear B3 F3)
    | ((with_reducible show wpList _ _ _ (⟨none, .store 24 (.tmp 6) (.tmp 26), _, _, _, _⟩ :: _) _ _); refine wp_putAll _ rfl 24 (.tmp 6) (.tmp 26) rfl g3 24 _ (uC S [] (-1) [] [] []) rfl rfl S7.b3 rfl n24 (uC_one _ _ _ _ _ _) ?_; intro w8 B U; simp only [Act.put]; have S8 := S7.set3 B U; clear B U; have hc8 := S8.b3.cell (i := 0) rfl)
    | (go_at_call 28; (with_reducible refine (H3.out _).mono ?_); (rintro e w9 ⟨rfl, hw⟩; subst w9))
    | (go_at_call 26; (with_reducible refine (H4.out _).mono ?_); (rintro e w10 ⟨rfl, hw⟩; subst w10))
    | (go_at_call 42; (with_reducible refine (H5.out _).mono ?_); (rintro e w11 ⟨rfl, hb⟩; have S11 := S8.step hb; clear hb))
    | ((with_reducible show wpList _ _ _ (⟨none, .store 9 (.tmp 42) (.tmp 41), _, _, _, _⟩ :: _) _ _); refine wp_set _ rfl 9 (.tmp 42) (.tmp 41) rfl g3 5 24 _ (.string (str F)) rfl rfl rfl rfl S11.b3 (by simp [uC]) n9 ?_; intro w12 B U; simp only [Act.put]; have S12 := S11.set3 B U; clear B U)
    | (go_at_call 26; (with_reducible refine (H6.out _).mono ?_); (rintro e w13 ⟨rfl, hw⟩; subst w13))
    | (go_at_call 42; (with_reducible refine (H7.out _).mono ?_); (rintro e w14 ⟨rfl, hb⟩; have S14 := S12.step hb; clear hb))
    | ((with_reducible show wpList _ _ _ (⟨none, .store 9 (.tmp 63) (.tmp 62), _, _, _, _⟩ :: _) _ _); refine wp_set _ rfl 9 (.tmp 63) (.tmp 62) rfl g3 4 24 _ (.string (str Q)) rfl rfl rfl rfl S14.b3 (by simp [uC]) n9 ?_; intro w15 B U; simp only [Act.put]; have S15 := S14.set3 B U; clear B U))
  refine wp_region_held_drew (S := fun W => Tp w W g1 g2 g3 (uC [] [] 0 [] [] []) (uC [] [] 0 [] [] []) (uC S [] (-1) [] Q F)) (by kernel_rfl) S15.drew (fun hS => ?_)
  refine wpAnyH_take (i := 0) (oi := ⟨some 65, _, _, _, _, _⟩) (v := _) rfl (by kernel_rfl) (by kernel_rfl) (by kernel_rfl) (fun _ _ _ h => h) (yieldsIf_load_mid (by rfl) 24 (.tmp 6) rfl g3 0 rfl (uC S [] (-1) [] Q F) _ (fun W hW => hW.b3.whole) Tryz.underlying24 rfl n24) hS ?_
  simp only [Act.put, List.setIfInBounds_toArray, List.set_cons_zero, List.set_cons_succ]
  refine wpAnyH_take (i := 1) (oi := ⟨some 66, _, _, _, _, _⟩) (v := ?va1) rfl (by kernel_rfl) (by kernel_rfl) (by kernel_rfl) (fun _ _ _ h => h) (Or.inl ⟨by rfl, ?ya1⟩) hS ?ra1
  case ya1 => intro W hW; go_simp; first | done | with_reducible rfl
  simp only [Act.put, List.setIfInBounds_toArray, List.set_cons_zero, List.set_cons_succ]
  refine wpAnyH_take (i := 2) (oi := ⟨some 67, _, _, _, _, _⟩) (v := ?va2) rfl (by kernel_rfl) (by kernel_rfl) (by kernel_rfl) (fun _ _ _ h => h) (Or.inl ⟨by rfl, ?ya2⟩) hS ?ra2
  case ya2 => intro W hW; go_simp; first | done | with_reducible rfl
  simp only [Act.put, List.setIfInBounds_toArray, List.set_cons_zero, List.set_cons_succ]
  refine wpAnyH_take (i := 3) (oi := ⟨some 68, _, _, _, _, _⟩) (v := ?va3) rfl (by kernel_rfl) (by kernel_rfl) (by kernel_rfl) (fun _ _ _ h => h) (Or.inl ⟨by rfl, ?ya3⟩) hS ?ra3
  case ya3 => intro W hW; go_simp; first | done | with_reducible rfl
  simp only [Act.put, List.setIfInBounds_toArray, List.set_cons_zero, List.set_cons_succ]
  refine wpAnyH_ready (rs := [4, 8]) (by kernel_rfl) (by simp) ?_
  refine (AllReadyH.cons (o := ⟨some 69, _, _, _, _, _⟩) rfl (fun K hK => ?_) (AllReadyH.cons (o := ⟨some 10, _, _, _, _, _⟩) rfl (fun K hK => ?_) AllReadyH.nil))
  · try go_simp
    (with_reducible refine (H8.out _).mono ?_)
    rintro e w16 ⟨x, rfl, hb⟩
    have hS6 := hS.step hb
    refine hK.out _ _ hS6 (fun _ => ?_)
    clear hK K hS hb
    have hS := hS6
    clear hS6
    try simp only [Act.put, List.setIfInBounds_toArray, List.set_cons_zero, List.set_cons_succ]
    refine wpAnyH_take (i := 5) (oi := ⟨some 64, _, _, _, _, _⟩) (v := ?vb5) rfl (by kernel_rfl) (by kernel_rfl) (by kernel_rfl) (fun _ _ _ h => h) (Or.inl ⟨by rfl, ?yb5⟩) hS ?rb5
    case yb5 => intro W hW; go_simp; first | done | with_reducible rfl
    simp only [Act.put, List.setIfInBounds_toArray, List.set_cons_zero, List.set_cons_succ]
    refine wpAnyH_take (i := 6) (oi := ⟨some 70, _, _, _, _, _⟩) (v := ?vb6) rfl (by kernel_rfl) (by kernel_rfl) (by kernel_rfl) (fun _ _ _ h => h) (Or.inl ⟨by rfl, ?yb6⟩) hS ?rb6
    case yb6 => intro W hW; go_simp; first | done | with_reducible rfl
    simp only [Act.put, List.setIfInBounds_toArray, List.set_cons_zero, List.set_cons_succ]
    refine wpAnyH_take (i := 7) (oi := ⟨some 71, _, _, _, _, _⟩) (v := ?vb7) rfl (by kernel_rfl) (by kernel_rfl) (by kernel_rfl) (fun _ _ _ h => h) (Or.inl ⟨by rfl, ?yb7⟩) hS ?rb7
    case yb7 => intro W hW; go_simp; first | done | with_reducible rfl
    simp only [Act.put, List.setIfInBounds_toArray, List.set_cons_zero, List.set_cons_succ]
    refine wpAnyH_ready (rs := [8]) (by kernel_rfl) (by simp) ?_
    refine (AllReadyH.cons (o := ⟨some 10, _, _, _, _, _⟩) rfl (fun K hK => ?_) AllReadyH.nil)
    refine step_new8 _ rfl 24 rfl _ z24 ?_
    intro w17 g4 B4 F4
    have hg4 := hS.next F4
    have hS7 := hS.step F4.below
    refine hK.out _ _ hS7 (fun _ => ?_)
    clear hK K hS F4
    have hS := hS7
    clear hS7
    simp only [Act.put, List.setIfInBounds_toArray, List.set_cons_zero, List.set_cons_succ]
    refine wpAnyH_ready (rs := [9]) (by kernel_rfl) (by simp) ?_
    refine (AllReadyH.cons (o := ⟨none, _, _, _, _, _⟩) rfl (fun K hK => ?_) AllReadyH.nil)
    refine step_putAll _ rfl 24 (.tmp 10) (.tmp 70) rfl g4 24 _ (uC x.sch x.host x.port x.path x.q x.f) rfl rfl B4 rfl n24 (uC_one _ _ _ _ _ _) ?_
    intro w18 B8 U8
    have hS8 := hS.out hg4 U8
    refine hK.out _ _ hS8 (fun _ => ?_)
    clear hK K hS B4 U8
    have hS := hS8
    clear hS8
    simp only [Act.put]
    refine wpAnyH_take (i := 10) (oi := ⟨some 11, _, _, _, _, _⟩) (v := ?vbz10) rfl (by kernel_rfl) (by kernel_rfl) (by kernel_rfl) (fun _ _ _ h => h) (Or.inl ⟨by rfl, ?ybz10⟩) hS ?rbz10
    case ybz10 => intro W hW; go_simp; first | done | with_reducible rfl
    simp only [Act.put, List.setIfInBounds_toArray, List.set_cons_zero, List.set_cons_succ]
    have S18 := hS
    clear hS
    refine wpAnyH_done (by kernel_rfl) ?_ _
    go_wp2_with (first
      | ((with_reducible show wpList _ _ _ (⟨some 74, .load 24 (.tmp 4), _, _, _, _⟩ :: _) _ _); refine wp_get _ rfl 24 (.tmp 4) rfl g2 0 (uC [] [] 0 [] [] []) _ rfl S18.b2.whole Tryz.underlying24 rfl n24 ?_; simp only [Act.put, List.setIfInBounds_toArray, List.set_cons_zero, List.set_cons_succ])
      | ((with_reducible show wpList _ _ _ (⟨none, .store 24 (.tmp 2) (.tmp 74), _, _, _, _⟩ :: _) _ _); refine wp_putAll _ rfl 24 (.tmp 2) (.tmp 74) rfl g1 24 _ (uC [] [] 0 [] [] []) rfl rfl S18.b1 rfl n24 (uC_one _ _ _ _ _ _) ?_; intro w20 B U; simp only [Act.put]; have S20 := S18.set1 B U; clear B U))
    refine ret_cell2 2 3 24 rfl g1 (uC [] [] 0 [] [] []) _ rfl S20.b1.whole Tryz.underlying24 rfl n24 rfl (.int .i64 7) rfl ⟨rfl, S20.kp⟩
  · refine step_new8 _ rfl 24 rfl _ z24 ?_
    intro w17 g4 B4 F4
    have hg4 := hS.next F4
    have hS7 := hS.step F4.below
    refine hK.out _ _ hS7 (fun _ => ?_)
    clear hK K hS F4
    have hS := hS7
    clear hS7
    simp only [Act.put, List.setIfInBounds_toArray, List.set_cons_zero, List.set_cons_succ]
    refine wpAnyH_ready (rs := [4]) (by kernel_rfl) (by simp) ?_
    refine (AllReadyH.cons (o := ⟨some 69, _, _, _, _, _⟩) rfl (fun K hK => ?_) AllReadyH.nil)
    try go_simp
    (with_reducible refine (H8.out _).mono ?_)
    rintro e w16 ⟨x, rfl, hb⟩
    have hS6 := hS.step hb
    have B4 := B4.kept hb
    refine hK.out _ _ hS6 (fun _ => ?_)
    clear hK K hS hb
    have hS := hS6
    clear hS6
    try simp only [Act.put, List.setIfInBounds_toArray, List.set_cons_zero, List.set_cons_succ]
    refine wpAnyH_take (i := 5) (oi := ⟨some 64, _, _, _, _, _⟩) (v := ?vc5) rfl (by kernel_rfl) (by kernel_rfl) (by kernel_rfl) (fun _ _ _ h => h) (Or.inl ⟨by rfl, ?yc5⟩) hS ?rc5
    case yc5 => intro W hW; go_simp; first | done | with_reducible rfl
    simp only [Act.put, List.setIfInBounds_toArray, List.set_cons_zero, List.set_cons_succ]
    refine wpAnyH_take (i := 6) (oi := ⟨some 70, _, _, _, _, _⟩) (v := ?vc6) rfl (by kernel_rfl) (by kernel_rfl) (by kernel_rfl) (fun _ _ _ h => h) (Or.inl ⟨by rfl, ?yc6⟩) hS ?rc6
    case yc6 => intro W hW; go_simp; first | done | with_reducible rfl
    simp only [Act.put, List.setIfInBounds_toArray, List.set_cons_zero, List.set_cons_succ]
    refine wpAnyH_take (i := 7) (oi := ⟨some 71, _, _, _, _, _⟩) (v := ?vc7) rfl (by kernel_rfl) (by kernel_rfl) (by kernel_rfl) (fun _ _ _ h => h) (Or.inl ⟨by rfl, ?yc7⟩) hS ?rc7
    case yc7 => intro W hW; go_simp; first | done | with_reducible rfl
    simp only [Act.put, List.setIfInBounds_toArray, List.set_cons_zero, List.set_cons_succ]
    refine wpAnyH_ready (rs := [9]) (by kernel_rfl) (by simp) ?_
    refine (AllReadyH.cons (o := ⟨none, _, _, _, _, _⟩) rfl (fun K hK => ?_) AllReadyH.nil)
    refine step_putAll _ rfl 24 (.tmp 10) (.tmp 70) rfl g4 24 _ (uC x.sch x.host x.port x.path x.q x.f) rfl rfl B4 rfl n24 (uC_one _ _ _ _ _ _) ?_
    intro w18 B8 U8
    have hS8 := hS.out hg4 U8
    refine hK.out _ _ hS8 (fun _ => ?_)
    clear hK K hS B4 U8
    have hS := hS8
    clear hS8
    simp only [Act.put]
    refine wpAnyH_take (i := 10) (oi := ⟨some 11, _, _, _, _, _⟩) (v := ?vcz10) rfl (by kernel_rfl) (by kernel_rfl) (by kernel_rfl) (fun _ _ _ h => h) (Or.inl ⟨by rfl, ?ycz10⟩) hS ?rcz10
    case ycz10 => intro W hW; go_simp; first | done | with_reducible rfl
    simp only [Act.put, List.setIfInBounds_toArray, List.set_cons_zero, List.set_cons_succ]
    have S18 := hS
    clear hS
    refine wpAnyH_done (by kernel_rfl) ?_ _
    go_wp2_with (first
      | ((with_reducible show wpList _ _ _ (⟨some 74, .load 24 (.tmp 4), _, _, _, _⟩ :: _) _ _); refine wp_get _ rfl 24 (.tmp 4) rfl g2 0 (uC [] [] 0 [] [] []) _ rfl S18.b2.whole Tryz.underlying24 rfl n24 ?_; simp only [Act.put, List.setIfInBounds_toArray, List.set_cons_zero, List.set_cons_succ])
      | ((with_reducible show wpList _ _ _ (⟨none, .store 24 (.tmp 2) (.tmp 74), _, _, _, _⟩ :: _) _ _); refine wp_putAll _ rfl 24 (.tmp 2) (.tmp 74) rfl g1 24 _ (uC [] [] 0 [] [] []) rfl rfl S18.b1 rfl n24 (uC_one _ _ _ _ _ _) ?_; intro w20 B U; simp only [Act.put]; have S20 := S18.set1 B U; clear B U))
    refine ret_cell2 2 3 24 rfl g1 (uC [] [] 0 [] [] []) _ rfl S20.b1.whole Tryz.underlying24 rfl n24 rfl (.int .i64 7) rfl ⟨rfl, S20.kp⟩
set_option maxHeartbeats 8000000 in
set_option maxRecDepth 100000 in
theorem tp_d1 (l X : List UInt8) (w : World) (N D : Nat) (H0 : Hid (∀ w', Calls Tryz.prog 40 #[.string (str l)] w' fun e w2 => e = .returned (.string (str X)) ∧ Below w'.heap.size w' w2)) (H1 : Hid (∀ w', Calls Tryz.prog 26 #[.string (str X), .int .u8 58] w' fun e w2 => e = .returned (.int .i64 (D : Int)) ∧ w2 = w')) (hN : (str X).size = N) (hDN : (D : Int) ≤ (N : Int)) (A S : List UInt8) (v : Int) (hcc : ((D : Int) == (N : Int)) = false) (hA : (str X).extract 0 D = str A) (H2 : Hid (∀ w', Calls Tryz.prog 41 #[.string (str A)] w' fun e w2 => e = .returned (.string (str S)) ∧ Below w'.heap.size w' w2)) (H3 : Hid (∀ w', Calls Tryz.prog 28 #[.string (str S)] w' fun e w2 => e = .returned (.int .i64 v) ∧ w2 = w')) (P R1 R2 F Q : List UInt8) (D1 E G M K : Nat) (hv : ¬ v < 0) (hD1 : (D : Int) + 1 = (D1 : Int)) (hD1w : IntKind.i64.wrap (D1 : Int) = (D1 : Int)) (hD1N : (D1 : Int) ≤ (N : Int)) (hP : (str X).extract D1 N = str P) (H4 : Hid (∀ w', Calls Tryz.prog 26 #[.string (str P), .int .u8 35] w' fun e w2 => e = .returned (.int .i64 (E : Int)) ∧ w2 = w')) (H5 : Hid (∀ w', Calls Tryz.prog 42 #[.string (str P), .int .i64 (E : Int), .int .i64 2] w' fun e w2 => e = .returned (.string (str F)) ∧ Below w'.heap.size w' w2)) (hM : (str P).size = M) (hEM : (E : Int) ≤ (M : Int)) (hR1 : (str P).extract 0 E = str R1) (H6 : Hid (∀ w', Calls Tryz.prog 26 #[.string (str R1), .int .u8 63] w' fun e w2 => e = .returned (.int .i64 (G : Int)) ∧ w2 = w')) (hK : (str R1).size = K) (hGK : (G : Int) ≤ (K : Int)) (hR2 : (str R1).extract 0 G = str R2) (o1 o2 o4 o5 o6 : List UInt8) (o3 : Int) (hv0 : (v == 0) = false) (H7 : Hid (∀ w', Calls Tryz.prog 42 #[.string (str R1), .int .i64 (G : Int), .int .i64 4] w' fun e w2 => e = .returned (.string (str Q)) ∧ Below w'.heap.size w' w2)) (H8 : Hid (∀ w', Calls Tryz.prog 44 #[.agg (uC S [] (-1) [] Q F).toArray, .string (str R2)] w' fun e w2 => e = .returned (.tuple #[.agg (uC o1 o2 o3 o4 o5 o6).toArray, .bool true]) ∧ Below w'.heap.size w' w2)) : Calls Tryz.prog 15 #[.string (str l)] w fun e w' => e = .returned (.tuple #[.agg (uC o1 o2 o3 o4 o5 o6).toArray, .int .i64 0]) ∧ Below w.heap.size w w' := by
  go_enter Tryz.func15, Tryz.ntmps15
  go_wp2_with (first
    | ((with_reducible show wpList _ _ _ (⟨some 2, .alloc _, _, _, _, _⟩ :: _) _ _); refine wp_new _ rfl 24 rfl _ z24 ?_; intro w1 g1 B1 F1; simp only [Act.put, List.setIfInBounds_toArray, List.set_cons_zero, List.set_cons_succ])
    | ((with_reducible show wpList _ _ _ (⟨some 12, .build _ _, _, _, _, _⟩ :: _) _ _); refine wp_build0 _ rfl 24 rfl _ (b24 _) ?_; simp only [Act.put, List.setIfInBounds_toArray, List.set_cons_zero, List.set_cons_succ])
    | ((with_reducible show wpList _ _ _ (⟨some 4, .alloc _, _, _, _, _⟩ :: _) _ _); refine wp_new _ rfl 24 rfl _ z24 ?_; intro w2 g2 B2 F2; simp only [Act.put, List.setIfInBounds_toArray, List.set_cons_zero, List.set_cons_succ]; have S2 := Sp.new B1 F1 B2 F2; clear B1 F1 B2 F2)
    | ((with_reducible show wpList _ _ _ (⟨none, .store 24 (.tmp 4) (.tmp 12), _, _, _, _⟩ :: _) _ _); refine wp_putAll _ rfl 24 (.tmp 4) (.tmp 12) rfl g2 24 _ (uC [] [] 0 [] [] []) rfl rfl S2.b2 rfl n24 (uC_one _ _ _ _ _ _) ?_; intro w3 B U; simp only [Act.put]; have S3 := S2.set2 B U; clear B U)
    | (go_at_call 40; (with_reducible refine (H0.out _).mono ?_); (rintro e w4 ⟨rfl, hb⟩; have S4 := S3.step hb; clear hb))
    | (go_at_call 26; (with_reducible refine (H1.out _).mono ?_); (rintro e w5 ⟨rfl, hw⟩; subst w5))
    | (go_at_call 41; (with_reducible refine (H2.out _).mono ?_); (rintro e w6 ⟨rfl, hb⟩; have S6 := S4.step hb; clear hb))
    | ((with_reducible show wpList _ _ _ (⟨some 26, .build _ _, _, _, _, _⟩ :: _) _ _); refine wp_build2 _ rfl 24 0 2 _ _ rfl _ _ rfl rfl _ (b24s _ _) ?_; simp only [Act.put, List.setIfInBounds_toArray, List.set_cons_zero, List.set_cons_succ])
    | ((with_reducible show wpList _ _ _ (⟨some 6, .alloc _, _, _, _, _⟩ :: _) _ _); refine wp_new _ rfl 24 rfl _ z24 ?_; intro w7 g3 B3 F3; simp only [Act.put, List.setIfInBounds_toArray, List.set_cons_zero, List.set_cons_succ]; have S7 := S6.three B3 F3; clear B3 F3)
    | ((with_reducible show wpList _ _ _ (⟨none, .store 24 (.tmp 6) (.tmp 26), _, _, _, _⟩ :: _) _ _); refine wp_putAll _ rfl 24 (.tmp 6) (.tmp 26) rfl g3 24 _ (uC S [] (-1) [] [] []) rfl rfl S7.b3 rfl n24 (uC_one _ _ _ _ _ _) ?_; intro w8 B U; simp only [Act.put]; have S8 := S7.set3 B U; clear B U; have hc8 := S8.b3.cell (i := 0) rfl)
    | (go_at_call 28; (with_reducible refine (H3.out _).mono ?_); (rintro e w9 ⟨rfl, hw⟩; subst w9))
    | (go_at_call 26; (with_reducible refine (H4.out _).mono ?_); (rintro e w10 ⟨rfl, hw⟩; subst w10))
    | (go_at_call 42; (with_reducible refine (H5.out _).mono ?_); (rintro e w11 ⟨rfl, hb⟩; have S11 := S8.step hb; clear hb))
    | ((with_reducible show wpList _ _ _ (⟨none, .store 9 (.tmp 42) (.tmp 41), _, _, _, _⟩ :: _) _ _); refine wp_set _ rfl 9 (.tmp 42) (.tmp 41) rfl g3 5 24 _ (.string (str F)) rfl rfl rfl rfl S11.b3 (by simp [uC]) n9 ?_; intro w12 B U; simp only [Act.put]; have S12 := S11.set3 B U; clear B U)
    | (go_at_call 26; (with_reducible refine (H6.out _).mono ?_); (rintro e w13 ⟨rfl, hw⟩; subst w13))
    | (go_at_call 42; (with_reducible refine (H7.out _).mono ?_); (rintro e w14 ⟨rfl, hb⟩; have S14 := S12.step hb; clear hb))
    | ((with_reducible show wpList _ _ _ (⟨none, .store 9 (.tmp 63) (.tmp 62), _, _, _, _⟩ :: _) _ _); refine wp_set _ rfl 9 (.tmp 63) (.tmp 62) rfl g3 4 24 _ (.string (str Q)) rfl rfl rfl rfl S14.b3 (by simp [uC]) n9 ?_; intro w15 B U; simp only [Act.put]; have S15 := S14.set3 B U; clear B U))
  refine wp_region_held_drew (S := fun W => Tp w W g1 g2 g3 (uC [] [] 0 [] [] []) (uC [] [] 0 [] [] []) (uC S [] (-1) [] Q F)) (by kernel_rfl) S15.drew (fun hS => ?_)
  refine wpAnyH_take (i := 0) (oi := ⟨some 65, _, _, _, _, _⟩) (v := _) rfl (by kernel_rfl) (by kernel_rfl) (by kernel_rfl) (fun _ _ _ h => h) (yieldsIf_load_mid (by rfl) 24 (.tmp 6) rfl g3 0 rfl (uC S [] (-1) [] Q F) _ (fun W hW => hW.b3.whole) Tryz.underlying24 rfl n24) hS ?_
  simp only [Act.put, List.setIfInBounds_toArray, List.set_cons_zero, List.set_cons_succ]
  refine wpAnyH_take (i := 1) (oi := ⟨some 66, _, _, _, _, _⟩) (v := ?va1) rfl (by kernel_rfl) (by kernel_rfl) (by kernel_rfl) (fun _ _ _ h => h) (Or.inl ⟨by rfl, ?ya1⟩) hS ?ra1
  case ya1 => intro W hW; go_simp; first | done | with_reducible rfl
  simp only [Act.put, List.setIfInBounds_toArray, List.set_cons_zero, List.set_cons_succ]
  refine wpAnyH_take (i := 2) (oi := ⟨some 67, _, _, _, _, _⟩) (v := ?va2) rfl (by kernel_rfl) (by kernel_rfl) (by kernel_rfl) (fun _ _ _ h => h) (Or.inl ⟨by rfl, ?ya2⟩) hS ?ra2
  case ya2 => intro W hW; go_simp; first | done | with_reducible rfl
  simp only [Act.put, List.setIfInBounds_toArray, List.set_cons_zero, List.set_cons_succ]
  refine wpAnyH_take (i := 3) (oi := ⟨some 68, _, _, _, _, _⟩) (v := ?va3) rfl (by kernel_rfl) (by kernel_rfl) (by kernel_rfl) (fun _ _ _ h => h) (Or.inl ⟨by rfl, ?ya3⟩) hS ?ra3
  case ya3 => intro W hW; go_simp; first | done | with_reducible rfl
  simp only [Act.put, List.setIfInBounds_toArray, List.set_cons_zero, List.set_cons_succ]
  refine wpAnyH_ready (rs := [4, 8]) (by kernel_rfl) (by simp) ?_
  refine (AllReadyH.cons (o := ⟨some 69, _, _, _, _, _⟩) rfl (fun K hK => ?_) (AllReadyH.cons (o := ⟨some 10, _, _, _, _, _⟩) rfl (fun K hK => ?_) AllReadyH.nil))
  · try go_simp
    (with_reducible refine (H8.out _).mono ?_)
    rintro e w16 ⟨rfl, hb⟩
    have hS6 := hS.step hb
    refine hK.out _ _ hS6 (fun _ => ?_)
    clear hK K hS hb
    have hS := hS6
    clear hS6
    try simp only [Act.put, List.setIfInBounds_toArray, List.set_cons_zero, List.set_cons_succ]
    refine wpAnyH_take (i := 5) (oi := ⟨some 64, _, _, _, _, _⟩) (v := ?vb5) rfl (by kernel_rfl) (by kernel_rfl) (by kernel_rfl) (fun _ _ _ h => h) (Or.inl ⟨by rfl, ?yb5⟩) hS ?rb5
    case yb5 => intro W hW; go_simp; first | done | with_reducible rfl
    simp only [Act.put, List.setIfInBounds_toArray, List.set_cons_zero, List.set_cons_succ]
    refine wpAnyH_take (i := 6) (oi := ⟨some 70, _, _, _, _, _⟩) (v := ?vb6) rfl (by kernel_rfl) (by kernel_rfl) (by kernel_rfl) (fun _ _ _ h => h) (Or.inl ⟨by rfl, ?yb6⟩) hS ?rb6
    case yb6 => intro W hW; go_simp; first | done | with_reducible rfl
    simp only [Act.put, List.setIfInBounds_toArray, List.set_cons_zero, List.set_cons_succ]
    refine wpAnyH_take (i := 7) (oi := ⟨some 71, _, _, _, _, _⟩) (v := ?vb7) rfl (by kernel_rfl) (by kernel_rfl) (by kernel_rfl) (fun _ _ _ h => h) (Or.inl ⟨by rfl, ?yb7⟩) hS ?rb7
    case yb7 => intro W hW; go_simp; first | done | with_reducible rfl
    simp only [Act.put, List.setIfInBounds_toArray, List.set_cons_zero, List.set_cons_succ]
    refine wpAnyH_ready (rs := [8]) (by kernel_rfl) (by simp) ?_
    refine (AllReadyH.cons (o := ⟨some 10, _, _, _, _, _⟩) rfl (fun K hK => ?_) AllReadyH.nil)
    refine step_new8 _ rfl 24 rfl _ z24 ?_
    intro w17 g4 B4 F4
    have hg4 := hS.next F4
    have hS7 := hS.step F4.below
    refine hK.out _ _ hS7 (fun _ => ?_)
    clear hK K hS F4
    have hS := hS7
    clear hS7
    simp only [Act.put, List.setIfInBounds_toArray, List.set_cons_zero, List.set_cons_succ]
    refine wpAnyH_ready (rs := [9]) (by kernel_rfl) (by simp) ?_
    refine (AllReadyH.cons (o := ⟨none, _, _, _, _, _⟩) rfl (fun K hK => ?_) AllReadyH.nil)
    refine step_putAll _ rfl 24 (.tmp 10) (.tmp 70) rfl g4 24 _ (uC o1 o2 o3 o4 o5 o6) rfl rfl B4 rfl n24 (uC_one _ _ _ _ _ _) ?_
    intro w18 B8 U8
    have hS8 := hS.out hg4 U8
    refine hK.out _ _ hS8 (fun _ => ?_)
    clear hK K hS B4 U8
    have hS := hS8
    clear hS8
    simp only [Act.put]
    refine wpAnyH_take (i := 10) (oi := ⟨some 11, _, _, _, _, _⟩) (v := ?vbz10) rfl (by kernel_rfl) (by kernel_rfl) (by kernel_rfl) (fun _ _ _ h => h) (Or.inl ⟨by rfl, ?ybz10⟩) hS ?rbz10
    case ybz10 => intro W hW; go_simp; first | done | with_reducible rfl
    simp only [Act.put, List.setIfInBounds_toArray, List.set_cons_zero, List.set_cons_succ]
    have S18 := hS
    clear hS
    refine wpAnyH_done (by kernel_rfl) ?_ _
    go_wp2_with (first
      | ((with_reducible show wpList _ _ _ (⟨some 75, .load 24 (.tmp 10), _, _, _, _⟩ :: _) _ _); refine wp_get _ rfl 24 (.tmp 10) rfl g4 0 (uC o1 o2 o3 o4 o5 o6) _ rfl B8.whole Tryz.underlying24 rfl n24 ?_; simp only [Act.put, List.setIfInBounds_toArray, List.set_cons_zero, List.set_cons_succ])
      | ((with_reducible show wpList _ _ _ (⟨none, .store 24 (.tmp 2) (.tmp 75), _, _, _, _⟩ :: _) _ _); refine wp_putAll _ rfl 24 (.tmp 2) (.tmp 75) rfl g1 24 _ (uC o1 o2 o3 o4 o5 o6) rfl rfl S18.b1 rfl n24 (uC_one _ _ _ _ _ _) ?_; intro w20 B U; simp only [Act.put]; have S20 := S18.set1 B U; clear B U))
    refine ret_cell2 2 3 24 rfl g1 (uC o1 o2 o3 o4 o5 o6) _ rfl S20.b1.whole Tryz.underlying24 rfl n24 rfl (.int .i64 0) rfl ⟨rfl, S20.kp⟩
  · refine step_new8 _ rfl 24 rfl _ z24 ?_
    intro w17 g4 B4 F4
    have hg4 := hS.next F4
    have hS7 := hS.step F4.below
    refine hK.out _ _ hS7 (fun _ => ?_)
    clear hK K hS F4
    have hS := hS7
    clear hS7
    simp only [Act.put, List.setIfInBounds_toArray, List.set_cons_zero, List.set_cons_succ]
    refine wpAnyH_ready (rs := [4]) (by kernel_rfl) (by simp) ?_
    refine (AllReadyH.cons (o := ⟨some 69, _, _, _, _, _⟩) rfl (fun K hK => ?_) AllReadyH.nil)
    try go_simp
    (with_reducible refine (H8.out _).mono ?_)
    rintro e w16 ⟨rfl, hb⟩
    have hS6 := hS.step hb
    have B4 := B4.kept hb
    refine hK.out _ _ hS6 (fun _ => ?_)
    clear hK K hS hb
    have hS := hS6
    clear hS6
    try simp only [Act.put, List.setIfInBounds_toArray, List.set_cons_zero, List.set_cons_succ]
    refine wpAnyH_take (i := 5) (oi := ⟨some 64, _, _, _, _, _⟩) (v := ?vc5) rfl (by kernel_rfl) (by kernel_rfl) (by kernel_rfl) (fun _ _ _ h => h) (Or.inl ⟨by rfl, ?yc5⟩) hS ?rc5
    case yc5 => intro W hW; go_simp; first | done | with_reducible rfl
    simp only [Act.put, List.setIfInBounds_toArray, List.set_cons_zero, List.set_cons_succ]
    refine wpAnyH_take (i := 6) (oi := ⟨some 70, _, _, _, _, _⟩) (v := ?vc6) rfl (by kernel_rfl) (by kernel_rfl) (by kernel_rfl) (fun _ _ _ h => h) (Or.inl ⟨by rfl, ?yc6⟩) hS ?rc6
    case yc6 => intro W hW; go_simp; first | done | with_reducible rfl
    simp only [Act.put, List.setIfInBounds_toArray, List.set_cons_zero, List.set_cons_succ]
    refine wpAnyH_take (i := 7) (oi := ⟨some 71, _, _, _, _, _⟩) (v := ?vc7) rfl (by kernel_rfl) (by kernel_rfl) (by kernel_rfl) (fun _ _ _ h => h) (Or.inl ⟨by rfl, ?yc7⟩) hS ?rc7
    case yc7 => intro W hW; go_simp; first | done | with_reducible rfl
    simp only [Act.put, List.setIfInBounds_toArray, List.set_cons_zero, List.set_cons_succ]
    refine wpAnyH_ready (rs := [9]) (by kernel_rfl) (by simp) ?_
    refine (AllReadyH.cons (o := ⟨none, _, _, _, _, _⟩) rfl (fun K hK => ?_) AllReadyH.nil)
    refine step_putAll _ rfl 24 (.tmp 10) (.tmp 70) rfl g4 24 _ (uC o1 o2 o3 o4 o5 o6) rfl rfl B4 rfl n24 (uC_one _ _ _ _ _ _) ?_
    intro w18 B8 U8
    have hS8 := hS.out hg4 U8
    refine hK.out _ _ hS8 (fun _ => ?_)
    clear hK K hS B4 U8
    have hS := hS8
    clear hS8
    simp only [Act.put]
    refine wpAnyH_take (i := 10) (oi := ⟨some 11, _, _, _, _, _⟩) (v := ?vcz10) rfl (by kernel_rfl) (by kernel_rfl) (by kernel_rfl) (fun _ _ _ h => h) (Or.inl ⟨by rfl, ?ycz10⟩) hS ?rcz10
    case ycz10 => intro W hW; go_simp; first | done | with_reducible rfl
    simp only [Act.put, List.setIfInBounds_toArray, List.set_cons_zero, List.set_cons_succ]
    have S18 := hS
    clear hS
    refine wpAnyH_done (by kernel_rfl) ?_ _
    go_wp2_with (first
      | ((with_reducible show wpList _ _ _ (⟨some 75, .load 24 (.tmp 10), _, _, _, _⟩ :: _) _ _); refine wp_get _ rfl 24 (.tmp 10) rfl g4 0 (uC o1 o2 o3 o4 o5 o6) _ rfl B8.whole Tryz.underlying24 rfl n24 ?_; simp only [Act.put, List.setIfInBounds_toArray, List.set_cons_zero, List.set_cons_succ])
      | ((with_reducible show wpList _ _ _ (⟨none, .store 24 (.tmp 2) (.tmp 75), _, _, _, _⟩ :: _) _ _); refine wp_putAll _ rfl 24 (.tmp 2) (.tmp 75) rfl g1 24 _ (uC o1 o2 o3 o4 o5 o6) rfl rfl S18.b1 rfl n24 (uC_one _ _ _ _ _ _) ?_; intro w20 B U; simp only [Act.put]; have S20 := S18.set1 B U; clear B U))
    refine ret_cell2 2 3 24 rfl g1 (uC o1 o2 o3 o4 o5 o6) _ rfl S20.b1.whole Tryz.underlying24 rfl n24 rfl (.int .i64 0) rfl ⟨rfl, S20.kp⟩
theorem rurl_any (l : List UInt8) (w : World) (hl : l.length ≤ 5000) : Calls Tryz.prog 15 #[.string (str l)] w fun e w' => e = .returned (rU (prsU l)) ∧ Below w.heap.size w w' := by
  have H0 : Hid (∀ w', Calls Tryz.prog 40 #[.string (str l)] w' fun e w2 => e = .returned (.string (str (cln l))) ∧ Below w'.heap.size w' w2) := fun w' => rclean_any l w' (by omega)
  have hX := cln_len l
  unfold prsU
  generalize cln l = X at H0 hX ⊢
  have hbl := bef_len 58 X
  have H1 : Hid (∀ w', Calls Tryz.prog 26 #[.string (str X), .int .u8 58] w' fun e w2 => e = .returned (.int .i64 ((bef 58 X).length : Int)) ∧ w2 = w') := fun w' => rfind_any X 58 w' (by omega)
  have hXz := str_size X
  unfold pcl'
  cases hc : X.contains 58 with
  | false =>
    have hn : (bef 58 X).length = X.length := by rw [bef_none 58 X (by simpa using hc)]
    exact tp_a l X w X.length (bef 58 X).length H0 H1 hXz (by rw [hn]; simp)
  | true =>
    simp only [if_true]
    have hin : (58 : UInt8) ∈ X := by simpa using hc
    have hlt := (bef_in 58 X).2 hin
    have hcc : (((bef 58 X).length : Int) == (X.length : Int)) = false := by simp; omega
    have hA : (str X).extract 0 (bef 58 X).length = str (bef 58 X) := by rw [str_take, bef_take]
    have H2 : Hid (∀ w', Calls Tryz.prog 41 #[.string (str (bef 58 X))] w' fun e w2 => e = .returned (.string (str (low (bef 58 X)))) ∧ Below w'.heap.size w' w2) := fun w' => rlower_any _ w' (by omega)
    have hP : (str X).extract ((bef 58 X).length + 1) X.length = str (aft 58 X) := by rw [str_drop X _ _ rfl (by omega), aft_drop]
    have hPl := aft_len 58 X
    generalize aft 58 X = P at hP hPl ⊢
    generalize low (bef 58 X) = S at H2 ⊢
    have H3 : Hid (∀ w', Calls Tryz.prog 28 #[.string (str S)] w' fun e w2 => e = .returned (.int .i64 (dfl S)) ∧ w2 = w') := fun w' => default_any S w'
    cases hd : dp S with
    | none =>
      exact tp_b l X w X.length _ H0 H1 hXz (by omega) _ S (dfl S) hcc hA H2 H3 (by unfold dfl; rw [hd]; decide)
    | some p =>
      show Calls _ _ _ _ fun e w' => e = .returned (rU (psc S p P)) ∧ _
      have H4 : Hid (∀ w', Calls Tryz.prog 26 #[.string (str P), .int .u8 35] w' fun e w2 => e = .returned (.int .i64 ((bef 35 P).length : Int)) ∧ w2 = w') := fun w' => rfind_any P 35 w' (by omega)
      have H5 : Hid (∀ w', Calls Tryz.prog 42 #[.string (str P), .int .i64 ((bef 35 P).length : Int), .int .i64 2] w' fun e w2 => e = .returned (.string (str (sgn 35 2 P))) ∧ Below w'.heap.size w' w2) := fun w' => rsigned_any P 35 2 w' (by omega)
      have hPb := bef_len 35 P
      have hR1 : (str P).extract 0 (bef 35 P).length = str (bef 35 P) := by rw [str_take, bef_take]
      have hPz := str_size P
      unfold psc
      generalize sgn 35 2 P = F at H5 ⊢
      obtain ⟨E, hE⟩ : ∃ E, E = (bef 35 P).length := ⟨_, rfl⟩
      rw [← hE] at H4 H5 hR1 hPb
      generalize bef 35 P = R1 at hR1 hE ⊢
      have hRb := bef_len 63 R1
      have H6 : Hid (∀ w', Calls Tryz.prog 26 #[.string (str R1), .int .u8 63] w' fun e w2 => e = .returned (.int .i64 ((bef 63 R1).length : Int)) ∧ w2 = w') := fun w' => rfind_any R1 63 w' (by omega)
      have H7 : ∀ n : Int, Hid (∀ w', Calls Tryz.prog 42 #[.string (str R1), .int .i64 ((bef 63 R1).length : Int), .int .i64 n] w' fun e w2 => e = .returned (.string (str (sgn 63 n R1))) ∧ Below w'.heap.size w' w2) := fun n w' => rsigned_any R1 63 n w' (by omega)
      have hR2 : (str R1).extract 0 (bef 63 R1).length = str (bef 63 R1) := by rw [str_take, bef_take]
      have hRz := str_size R1
      have hpn := dp_num S p hd
      have hdf : dfl S = if p = -1 then 0 else p := by unfold dfl; rw [hd]
      have hv : ¬ dfl S < 0 := by rw [hdf]; split <;> omega
      have hw1 : IntKind.i64.wrap ((((bef 58 X).length + 1 : Nat) : Nat) : Int) = (((bef 58 X).length + 1 : Nat) : Int) := by rw [IntKind.wrap_i64]; omega
      by_cases hp : p = -1
      · rw [if_pos hp]
        have H8 : Hid (∀ w', Calls Tryz.prog 43 #[.int .i64 1, .string (str (bef 63 R1))] w' fun e w2 => e = .returned (.string (str (enc (inS 1) (bef 63 R1)))) ∧ Below w'.heap.size w' w2) := fun w' => refEncode_any 1 _ w' (by omega)
        exact tp_c l X w X.length _ H0 H1 hXz (by omega) _ S (dfl S) hcc hA H2 H3 P R1 _ F _ ((bef 58 X).length + 1) E _ P.length R1.length hv (by omega) hw1 (by omega) hP H4 H5 hPz (by omega) hR1 H6 hRz (by omega) hR2 _ (by rw [hdf, if_pos hp]; rfl) (H7 3) H8
      · rw [if_neg hp]
        have hspx : ∀ w', Calls Tryz.prog 44 #[.agg (uC S [] (-1) [] (sgn 63 4 R1) F).toArray, .string (str (bef 63 R1))] w' fun e w2 => SpR (if ([47, 47] : List UInt8).isPrefixOf (sub1 92 47 (bef 63 R1)) then psp S p ((sub1 92 47 (bef 63 R1)).drop 2) (sgn 63 4 R1) F else none) w' e w2 := fun w' => rspec_any S (sgn 63 4 R1) F (bef 63 R1) p hd hp w' (by omega)
        have hv0 : (dfl S == 0) = false := by rw [hdf, if_neg hp]; simp; omega
        generalize (if ([47, 47] : List UInt8).isPrefixOf (sub1 92 47 (bef 63 R1)) then psp S p ((sub1 92 47 (bef 63 R1)).drop 2) (sgn 63 4 R1) F else none) = o at hspx ⊢
        cases o with
        | none => exact tp_d0 l X w X.length _ H0 H1 hXz (by omega) _ S (dfl S) hcc hA H2 H3 P R1 _ F _ ((bef 58 X).length + 1) E _ P.length R1.length hv (by omega) hw1 (by omega) hP H4 H5 hPz (by omega) hR1 H6 hRz (by omega) hR2 hv0 (H7 4) (fun w' => (hspx w').mono fun e w2 ⟨x, h1, _, h3⟩ => ⟨x, h1, h3⟩)
        | some u => exact tp_d1 l X w X.length _ H0 H1 hXz (by omega) _ S (dfl S) hcc hA H2 H3 P R1 _ F _ ((bef 58 X).length + 1) E _ P.length R1.length hv (by omega) hw1 (by omega) hP H4 H5 hPz (by omega) hR1 H6 hRz (by omega) hR2 _ _ _ _ _ _ hv0 (H7 4) (fun w' => (hspx w').mono fun e w2 ⟨x, h1, h2, h3⟩ => ⟨by rw [h1, h2 u rfl]; rfl, h3⟩)
end Go.Proofs.YtcepigekibidfaaGreatDoor
