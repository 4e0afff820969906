/-
  What weburl.Parse answers; nothing that was there turns. Condition: a text of at most 1000000 bytes.
-/
import Derived.Test.YtcepigekibidfaaGreatDoorWsp
import Derived.Test.YtcepigekibidfaaGreatDoorGo
import Derived.Test.YtcepigekibidfaaGreatDoorGl
namespace Go.Proofs.YtcepigekibidfaaGreatDoor
open Go.RowKit

theorem wp_build2 {ops : Array Oper} {rest : List Oper} {o : Oper} {a : Act} {Q : Exit → Act → World → Prop} (w : World) (hgd : o.guard = none) (t : TypeId) (i j : Nat) (x y : Operand) (ho : o.op = .build t #[(i, x), (j, y)])
    (u u2 : Value) (hx : a.eval x = u) (hy : a.eval y = u2) (v : Value) (hrun : (Instr.build t #[(i, u), (j, u2)]).run Tryz.prog w = .ok v w)
    (h : wpList Tryz.prog ops Q rest (a.put o.dst v) w) : wpList Tryz.prog ops Q (o :: rest) a w := by
  refine wpList_plain hgd fun K hK => ?_
  unfold Oper.wp execOp
  simp only [ho, List.map_toArray, List.map_cons, List.map_nil, hx, hy, Sem.run_bind, hrun, Result.andThen_ok, Sem.run_pure]
  exact hK _ _ h
theorem b24s (s : ByteArray) (w : World) : (Instr.build 24 #[(0, .string s), (2, .int .i64 (-1))]).run Tryz.prog w = .ok (.agg #[.string s, .string ⟨#[]⟩, .int .i64 (-1), .string ⟨#[]⟩, .string ⟨#[]⟩, .string ⟨#[]⟩]) w := by kernel_rfl
/-- What Parse holds: the URL that it builds in block g1, its answer in block g2. -/
structure Pp (w wi : World) (g1 g2 : Nat) (C Z : List Value) : Prop where
  b1 : Blk wi g1 24 C
  b2 : Blk wi g2 24 Z
  kp : Kept w wi
  l2 : w.heap.size ≤ g2
  l1 : g2 < g1
section
variable {w wi wj : World} {g1 g2 : Nat} {C C' Z Z' : List Value}
theorem Pp.step (h : Pp w wi g1 g2 C Z) (hb : Below wi.heap.size wi wj) : Pp w wj g1 g2 C Z := ⟨h.b1.kept hb, h.b2.kept hb, h.kp.step hb, h.l2, h.l1⟩
theorem Pp.drew (h : Pp w wi g1 g2 C Z) : Pp w wi.drew g1 g2 C Z := ⟨h.b1, h.b2, h.kp.drew, h.l2, h.l1⟩
theorem Pp.set1 (h : Pp w wi g1 g2 C Z) (hb : Blk wj g1 24 C') (hu : Upd g1 wi wj) : Pp w wj g1 g2 C' Z := ⟨hb, h.b2.upd hu (by have := h.l1; omega), h.kp.base (hu.below (by have := h.l1; have := h.l2; omega)), h.l2, h.l1⟩
theorem Pp.set2 (h : Pp w wi g1 g2 C Z) (hb : Blk wj g2 24 Z') (hu : Upd g2 wi wj) : Pp w wj g1 g2 C Z' := ⟨h.b1.upd hu (by have := h.l1; omega), hb, h.kp.base (hu.below h.l2), h.l2, h.l1⟩
/-- Before the URL is made. -/
structure P1 (w wi : World) (g2 : Nat) (Z : List Value) : Prop where
  b2 : Blk wi g2 24 Z
  kp : Kept w wi
  l2 : w.heap.size ≤ g2
theorem P1.step (h : P1 w wi g2 Z) (hb : Below wi.heap.size wi wj) : P1 w wj g2 Z := ⟨h.b2.kept hb, h.kp.step hb, h.l2⟩
theorem P1.new (h : Blk wi g2 24 Z) (f : Fresh w wi g2) : P1 w wi g2 Z := ⟨h, f.below, by rw [f.is]; exact Nat.le_refl _⟩
theorem P1.two (h : P1 w wi g2 Z) (h1 : Blk wj g1 24 C) (f : Fresh wi wj g1) : Pp w wj g1 g2 C Z := ⟨h1, f.blk h.b2, h.kp.step f.below, h.l2, by have := h.b2.lt; rw [f.is]; exact this⟩
end
set_option maxHeartbeats 8000000 in
set_option maxRecDepth 100000 in
theorem pr_a (l : List UInt8) (w : World) (X A P S : List UInt8) (H0 : Hid (∀ w', Kept w w' → Calls Tryz.prog 32 #[.string (str l)] w' fun e w2 => e = .returned (.string (str X)) ∧ Below w'.heap.size w' w2)) (H1 : Hid (∀ w', Kept w w' → Calls Tryz.prog 31 #[.string (str X), .string ⟨#[58]⟩] w' fun e w2 => e = .returned (.tuple #[.string (str A), .string (str P), .bool false]) ∧ Below w'.heap.size w' w2)) (H2 : Hid (∀ w', Calls Tryz.prog 33 #[.string (str A)] w' fun e w2 => e = .returned (.string (str S)) ∧ Below w'.heap.size w' w2)) : Calls Tryz.prog 14 #[.string (str l)] w fun e w' => e = .returned (rU none) ∧ Below w.heap.size w w' := by
  go_enter Tryz.func14, Tryz.ntmps14
  go_wp2_with (first
    | ((with_reducible show wpList _ _ _ (⟨some 2, .alloc _, _, _, _, _⟩ :: _) _ _); refine wp_new _ rfl 24 rfl _ z24 ?_; intro w1 g2 B F; simp only [Act.put, List.setIfInBounds_toArray, List.set_cons_zero, List.set_cons_succ]; have S1 := P1.new B F; clear B F)
    | (go_at_call 32; (with_reducible refine (H0.out _ S1.kp).mono ?_); (rintro e w2 ⟨rfl, hb⟩; have S2 := S1.step hb; clear hb))
    | (go_at_call 31; (with_reducible refine (H1.out _ S2.kp).mono ?_); (rintro e w3 ⟨rfl, hb⟩; have S3 := S2.step hb; clear hb))
    | (go_at_call 33; (with_reducible refine (H2.out _).mono ?_); (rintro e w4 ⟨rfl, hb⟩; have S4 := S3.step hb; clear hb))
    | ((with_reducible show wpList _ _ _ (⟨some 17, .build _ _, _, _, _, _⟩ :: _) _ _); refine wp_build2 _ rfl 24 0 2 _ _ rfl _ _ rfl rfl _ (b24s _ _) ?_; simp only [Act.put, List.setIfInBounds_toArray, List.set_cons_zero, List.set_cons_succ])
    | ((with_reducible show wpList _ _ _ (⟨some 7, .alloc _, _, _, _, _⟩ :: _) _ _); refine wp_new _ rfl 24 rfl _ z24 ?_; intro w5 g1 B F; simp only [Act.put, List.setIfInBounds_toArray, List.set_cons_zero, List.set_cons_succ]; have S5 := S4.two B F; clear B F)
    | ((with_reducible show wpList _ _ _ (⟨none, .store 24 (.tmp 7) (.tmp 17), _, _, _, _⟩ :: _) _ _); refine wp_putAll _ rfl 24 (.tmp 7) (.tmp 17) rfl g1 24 _ (uC S [] (-1) [] [] []) rfl rfl S5.b1 rfl n24 (uC_one _ _ _ _ _ _) ?_; intro w6 B U; simp only [Act.put]; have S6 := S5.set1 B U; clear B U; have hc6 := S6.b1.cell (i := 0) rfl)
    | (go_at_call 34; (with_reducible refine (H3.out _).mono ?_); (rintro e w7 ⟨rfl, hb⟩; have S7 := S6.step hb; clear hb))
    | ((with_reducible show wpList _ _ _ (⟨some 26, .build _ _, _, _, _, _⟩ :: _) _ _); refine wp_build0 _ rfl 24 rfl _ (b24 _) ?_; simp only [Act.put, List.setIfInBounds_toArray, List.set_cons_zero, List.set_cons_succ])
    | ((with_reducible show wpList _ _ _ (⟨none, .store 24 (.tmp 2) (.tmp 26), _, _, _, _⟩ :: _) _ _); refine wp_putAll _ rfl 24 (.tmp 2) (.tmp 26) rfl g2 24 _ (uC [] [] 0 [] [] []) rfl rfl S6.b2 rfl n24 (uC_one _ _ _ _ _ _) ?_; intro w20 B U; simp only [Act.put]; have S20 := S6.set2 B U; clear B U))
  refine ret_cell2 2 3 24 rfl g2 (uC [] [] 0 [] [] []) _ rfl S20.b2.whole Tryz.underlying24 rfl n24 rfl (.int .i64 7) rfl ⟨rfl, S20.kp⟩
set_option maxHeartbeats 8000000 in
set_option maxRecDepth 100000 in
theorem pr_b (l : List UInt8) (w : World) (X A P S : List UInt8) (H0 : Hid (∀ w', Kept w w' → Calls Tryz.prog 32 #[.string (str l)] w' fun e w2 => e = .returned (.string (str X)) ∧ Below w'.heap.size w' w2)) (H1 : Hid (∀ w', Kept w w' → Calls Tryz.prog 31 #[.string (str X), .string ⟨#[58]⟩] w' fun e w2 => e = .returned (.tuple #[.string (str A), .string (str P), .bool true]) ∧ Below w'.heap.size w' w2)) (H2 : Hid (∀ w', Calls Tryz.prog 33 #[.string (str A)] w' fun e w2 => e = .returned (.string (str S)) ∧ Below w'.heap.size w' w2)) (H3 : Hid (∀ w', Calls Tryz.prog 34 #[.string (str S)] w' fun e w2 => e = .returned (.bool false) ∧ Below w'.heap.size w' w2)) : Calls Tryz.prog 14 #[.string (str l)] w fun e w' => e = .returned (rU none) ∧ Below w.heap.size w w' := by
  go_enter Tryz.func14, Tryz.ntmps14
  go_wp2_with (first
    | ((with_reducible show wpList _ _ _ (⟨some 2, .alloc _, _, _, _, _⟩ :: _) _ _); refine wp_new _ rfl 24 rfl _ z24 ?_; intro w1 g2 B F; simp only [Act.put, List.setIfInBounds_toArray, List.set_cons_zero, List.set_cons_succ]; have S1 := P1.new B F; clear B F)
    | (go_at_call 32; (with_reducible refine (H0.out _ S1.kp).mono ?_); (rintro e w2 ⟨rfl, hb⟩; have S2 := S1.step hb; clear hb))
    | (go_at_call 31; (with_reducible refine (H1.out _ S2.kp).mono ?_); (rintro e w3 ⟨rfl, hb⟩; have S3 := S2.step hb; clear hb))
    | (go_at_call 33; (with_reducible refine (H2.out _).mono ?_); (rintro e w4 ⟨rfl, hb⟩; have S4 := S3.step hb; clear hb))
    | ((with_reducible show wpList _ _ _ (⟨some 17, .build _ _, _, _, _, _⟩ :: _) _ _); refine wp_build2 _ rfl 24 0 2 _ _ rfl _ _ rfl rfl _ (b24s _ _) ?_; simp only [Act.put, List.setIfInBounds_toArray, List.set_cons_zero, List.set_cons_succ])
    | ((with_reducible show wpList _ _ _ (⟨some 7, .alloc _, _, _, _, _⟩ :: _) _ _); refine wp_new _ rfl 24 rfl _ z24 ?_; intro w5 g1 B F; simp only [Act.put, List.setIfInBounds_toArray, List.set_cons_zero, List.set_cons_succ]; have S5 := S4.two B F; clear B F)
    | ((with_reducible show wpList _ _ _ (⟨none, .store 24 (.tmp 7) (.tmp 17), _, _, _, _⟩ :: _) _ _); refine wp_putAll _ rfl 24 (.tmp 7) (.tmp 17) rfl g1 24 _ (uC S [] (-1) [] [] []) rfl rfl S5.b1 rfl n24 (uC_one _ _ _ _ _ _) ?_; intro w6 B U; simp only [Act.put]; have S6 := S5.set1 B U; clear B U; have hc6 := S6.b1.cell (i := 0) rfl)
    | (go_at_call 34; (with_reducible refine (H3.out _).mono ?_); (rintro e w7 ⟨rfl, hb⟩; have S7 := S6.step hb; clear hb))
    | ((with_reducible show wpList _ _ _ (⟨some 26, .build _ _, _, _, _, _⟩ :: _) _ _); refine wp_build0 _ rfl 24 rfl _ (b24 _) ?_; simp only [Act.put, List.setIfInBounds_toArray, List.set_cons_zero, List.set_cons_succ])
    | ((with_reducible show wpList _ _ _ (⟨none, .store 24 (.tmp 2) (.tmp 26), _, _, _, _⟩ :: _) _ _); refine wp_putAll _ rfl 24 (.tmp 2) (.tmp 26) rfl g2 24 _ (uC [] [] 0 [] [] []) rfl rfl S7.b2 rfl n24 (uC_one _ _ _ _ _ _) ?_; intro w20 B U; simp only [Act.put]; have S20 := S7.set2 B U; clear B U))
  refine ret_cell2 2 3 24 rfl g2 (uC [] [] 0 [] [] []) _ rfl S20.b2.whole Tryz.underlying24 rfl n24 rfl (.int .i64 7) rfl ⟨rfl, S20.kp⟩
set_option maxHeartbeats 8000000 in
set_option maxRecDepth 100000 in
theorem pr_d (l : List UInt8) (w : World) (X A P S R1 R2 F Q Pa : List UInt8) (H0 : Hid (∀ w', Kept w w' → Calls Tryz.prog 32 #[.string (str l)] w' fun e w2 => e = .returned (.string (str X)) ∧ Below w'.heap.size w' w2)) (H1 : Hid (∀ w', Kept w w' → Calls Tryz.prog 31 #[.string (str X), .string ⟨#[58]⟩] w' fun e w2 => e = .returned (.tuple #[.string (str A), .string (str P), .bool true]) ∧ Below w'.heap.size w' w2)) (H2 : Hid (∀ w', Calls Tryz.prog 33 #[.string (str A)] w' fun e w2 => e = .returned (.string (str S)) ∧ Below w'.heap.size w' w2)) (H3 : Hid (∀ w', Calls Tryz.prog 34 #[.string (str S)] w' fun e w2 => e = .returned (.bool true) ∧ Below w'.heap.size w' w2)) (H4 : Hid (∀ w', Kept w w' → Calls Tryz.prog 35 #[.string (str P), .string ⟨#[35]⟩, .int .i64 2] w' fun e w2 => e = .returned (.tuple #[.string (str R1), .string (str F)]) ∧ Below w'.heap.size w' w2)) (H5 : Hid (∀ w', Calls Tryz.prog 36 #[.string (str S)] w' fun e w2 => e = .returned (.bool false) ∧ Below w'.heap.size w' w2)) (H6 : Hid (∀ w', Kept w w' → Calls Tryz.prog 35 #[.string (str R1), .string ⟨#[63]⟩, .int .i64 3] w' fun e w2 => e = .returned (.tuple #[.string (str R2), .string (str Q)]) ∧ Below w'.heap.size w' w2)) (H10 : Hid (∀ w', Calls Tryz.prog 39 #[.int .i64 1, .string (str R2)] w' fun e w2 => e = .returned (.string (str Pa)) ∧ Below w'.heap.size w' w2)) : Calls Tryz.prog 14 #[.string (str l)] w fun e w' => e = .returned (rU (some ⟨S, [], -1, Pa, Q, F⟩)) ∧ Below w.heap.size w w' := by
  go_enter Tryz.func14, Tryz.ntmps14
  go_wp2_with (first
    | ((with_reducible show wpList _ _ _ (⟨some 2, .alloc _, _, _, _, _⟩ :: _) _ _); refine wp_new _ rfl 24 rfl _ z24 ?_; intro w1 g2 B F; simp only [Act.put, List.setIfInBounds_toArray, List.set_cons_zero, List.set_cons_succ]; have S1 := P1.new B F; clear B F)
    | (go_at_call 32; (with_reducible refine (H0.out _ S1.kp).mono ?_); (rintro e w2 ⟨rfl, hb⟩; have S2 := S1.step hb; clear hb))
    | (go_at_call 31; (with_reducible refine (H1.out _ S2.kp).mono ?_); (rintro e w3 ⟨rfl, hb⟩; have S3 := S2.step hb; clear hb))
    | (go_at_call 33; (with_reducible refine (H2.out _).mono ?_); (rintro e w4 ⟨rfl, hb⟩; have S4 := S3.step hb; clear hb))
    | ((with_reducible show wpList _ _ _ (⟨some 17, .build _ _, _, _, _, _⟩ :: _) _ _); refine wp_build2 _ rfl 24 0 2 _ _ rfl _ _ rfl rfl _ (b24s _ _) ?_; simp only [Act.put, List.setIfInBounds_toArray, List.set_cons_zero, List.set_cons_succ])
    | ((with_reducible show wpList _ _ _ (⟨some 7, .alloc _, _, _, _, _⟩ :: _) _ _); refine wp_new _ rfl 24 rfl _ z24 ?_; intro w5 g1 B F; simp only [Act.put, List.setIfInBounds_toArray, List.set_cons_zero, List.set_cons_succ]; have S5 := S4.two B F; clear B F)
    | ((with_reducible show wpList _ _ _ (⟨none, .store 24 (.tmp 7) (.tmp 17), _, _, _, _⟩ :: _) _ _); refine wp_putAll _ rfl 24 (.tmp 7) (.tmp 17) rfl g1 24 _ (uC S [] (-1) [] [] []) rfl rfl S5.b1 rfl n24 (uC_one _ _ _ _ _ _) ?_; intro w6 B U; simp only [Act.put]; have S6 := S5.set1 B U; clear B U; have hc6 := S6.b1.cell (i := 0) rfl)
    | (go_at_call 34; (with_reducible refine (H3.out _).mono ?_); (rintro e w7 ⟨rfl, hb⟩; have S7 := S6.step hb; clear hb))
    | (go_at_call 35; (with_reducible refine (H4.out _ S7.kp).mono ?_); (rintro e w8 ⟨rfl, hb⟩; have S8 := S7.step hb; clear hb))
    | ((with_reducible show wpList _ _ _ (⟨none, .store 9 (.tmp 32) (.tmp 31), _, _, _, _⟩ :: _) _ _); refine wp_set _ rfl 9 (.tmp 32) (.tmp 31) rfl g1 5 24 _ (.string (str F)) rfl rfl rfl rfl S8.b1 (by simp [uC]) n9 ?_; intro w9 B U; simp only [Act.put]; have S9 := S8.set1 B U; clear B U; have hc9 : w9.cell? ⟨g1, 0, none⟩ = some (.string (str S)) := S9.b1.cell (i := 0) rfl)
    | (go_at_call 36; (with_reducible refine (H5.out _).mono ?_); (rintro e w10 ⟨rfl, hb⟩; have S10 := S9.step hb; clear hb))
    | (go_at_call 35; (with_reducible refine (H6.out _ S10.kp).mono ?_); (rintro e w11 ⟨rfl, hb⟩; have S11 := S10.step hb; clear hb))
    | ((with_reducible show wpList _ _ _ (⟨none, .store 9 (.tmp 53) (.tmp 52), _, _, _, _⟩ :: _) _ _); refine wp_set _ rfl 9 (.tmp 53) (.tmp 52) rfl g1 4 24 _ (.string (str Q)) rfl rfl rfl rfl S11.b1 (by simp [uC]) n9 ?_; intro w12 B U; simp only [Act.put]; have S12 := S11.set1 B U; clear B U)
    | (go_at_call 39; (with_reducible refine (H10.out _).mono ?_); (rintro e w13 ⟨rfl, hb⟩; have S13 := S12.step hb; clear hb))
    | ((with_reducible show wpList _ _ _ (⟨none, .store 9 (.tmp 56) (.tmp 55), _, _, _, _⟩ :: _) _ _); refine wp_set _ rfl 9 (.tmp 56) (.tmp 55) rfl g1 3 24 _ (.string (str Pa)) rfl rfl rfl rfl S13.b1 (by simp [uC]) n9 ?_; intro w14 B U; simp only [Act.put]; have S14 := S13.set1 B U; clear B U)
    | ((with_reducible show wpList _ _ _ (⟨some 57, .load 24 (.tmp 7), _, _, _, _⟩ :: _) _ _); refine wp_get _ rfl 24 (.tmp 7) rfl g1 0 (uC S [] (-1) Pa Q F) _ rfl S14.b1.whole Tryz.underlying24 rfl n24 ?_; simp only [Act.put, List.setIfInBounds_toArray, List.set_cons_zero, List.set_cons_succ])
    | ((with_reducible show wpList _ _ _ (⟨none, .store 24 (.tmp 2) (.tmp 57), _, _, _, _⟩ :: _) _ _); refine wp_putAll _ rfl 24 (.tmp 2) (.tmp 57) rfl g2 24 _ (uC S [] (-1) Pa Q F) rfl rfl S14.b2 rfl n24 (uC_one _ _ _ _ _ _) ?_; intro w15 B U; simp only [Act.put]; have S15 := S14.set2 B U; clear B U))
  refine ret_cell2 2 3 24 rfl g2 (uC S [] (-1) Pa Q F) _ rfl S15.b2.whole Tryz.underlying24 rfl n24 rfl (.int .i64 0) rfl ⟨rfl, S15.kp⟩
set_option maxHeartbeats 8000000 in
set_option maxRecDepth 100000 in
theorem pr_c (l : List UInt8) (w : World) (X A P S R1 R2 R3 F Q o1 o2 o4 o5 o6 : List UInt8) (o3 n : Int) (H0 : Hid (∀ w', Kept w w' → Calls Tryz.prog 32 #[.string (str l)] w' fun e w2 => e = .returned (.string (str X)) ∧ Below w'.heap.size w' w2)) (H1 : Hid (∀ w', Kept w w' → Calls Tryz.prog 31 #[.string (str X), .string ⟨#[58]⟩] w' fun e w2 => e = .returned (.tuple #[.string (str A), .string (str P), .bool true]) ∧ Below w'.heap.size w' w2)) (H2 : Hid (∀ w', Calls Tryz.prog 33 #[.string (str A)] w' fun e w2 => e = .returned (.string (str S)) ∧ Below w'.heap.size w' w2)) (H3 : Hid (∀ w', Calls Tryz.prog 34 #[.string (str S)] w' fun e w2 => e = .returned (.bool true) ∧ Below w'.heap.size w' w2)) (H4 : Hid (∀ w', Kept w w' → Calls Tryz.prog 35 #[.string (str P), .string ⟨#[35]⟩, .int .i64 2] w' fun e w2 => e = .returned (.tuple #[.string (str R1), .string (str F)]) ∧ Below w'.heap.size w' w2)) (H5 : Hid (∀ w', Calls Tryz.prog 36 #[.string (str S)] w' fun e w2 => e = .returned (.bool true) ∧ Below w'.heap.size w' w2)) (H6 : Hid (∀ w', Kept w w' → Calls Tryz.prog 35 #[.string (str R1), .string ⟨#[63]⟩, .int .i64 4] w' fun e w2 => e = .returned (.tuple #[.string (str R2), .string (str Q)]) ∧ Below w'.heap.size w' w2)) (H7 : Hid (∀ w', Kept w w' → Calls Tryz.prog 38 #[.string (str R2), .string ⟨#[92]⟩, .string ⟨#[47]⟩] w' fun e w2 => e = .returned (.string (str R3)) ∧ Below w'.heap.size w' w2)) (H8 : Hid (∀ w', Kept w w' → Calls Tryz.prog 37 #[.agg (uC S [] (-1) [] Q F).toArray, .string (str R3)] w' fun e w2 => e = .returned (.tuple #[.agg (uC o1 o2 o3 o4 o5 o6).toArray, .int .i64 n]) ∧ Below w'.heap.size w' w2)) : Calls Tryz.prog 14 #[.string (str l)] w fun e w' => e = .returned (.tuple #[.agg (uC o1 o2 o3 o4 o5 o6).toArray, .int .i64 n]) ∧ Below w.heap.size w w' := by
  go_enter Tryz.func14, Tryz.ntmps14
  go_wp2_with (first
    | ((with_reducible show wpList _ _ _ (⟨some 2, .alloc _, _, _, _, _⟩ :: _) _ _); refine wp_new _ rfl 24 rfl _ z24 ?_; intro w1 g2 B F; simp only [Act.put, List.setIfInBounds_toArray, List.set_cons_zero, List.set_cons_succ]; have S1 := P1.new B F; clear B F)
    | (go_at_call 32; (with_reducible refine (H0.out _ S1.kp).mono ?_); (rintro e w2 ⟨rfl, hb⟩; have S2 := S1.step hb; clear hb))
    | (go_at_call 31; (with_reducible refine (H1.out _ S2.kp).mono ?_); (rintro e w3 ⟨rfl, hb⟩; have S3 := S2.step hb; clear hb))
    | (go_at_call 33; (with_reducible refine (H2.out _).mono ?_); (rintro e w4 ⟨rfl, hb⟩; have S4 := S3.step hb; clear hb))
    | ((with_reducible show wpList _ _ _ (⟨some 17, .build _ _, _, _, _, _⟩ :: _) _ _); refine wp_build2 _ rfl 24 0 2 _ _ rfl _ _ rfl rfl _ (b24s _ _) ?_; simp only [Act.put, List.setIfInBounds_toArray, List.set_cons_zero, List.set_cons_succ])
    | ((with_reducible show wpList _ _ _ (⟨some 7, .alloc _, _, _, _, _⟩ :: _) _ _); refine wp_new _ rfl 24 rfl _ z24 ?_; intro w5 g1 B F; simp only [Act.put, List.setIfInBounds_toArray, List.set_cons_zero, List.set_cons_succ]; have S5 := S4.two B F; clear B F)
    | ((with_reducible show wpList _ _ _ (⟨none, .store 24 (.tmp 7) (.tmp 17), _, _, _, _⟩ :: _) _ _); refine wp_putAll _ rfl 24 (.tmp 7) (.tmp 17) rfl g1 24 _ (uC S [] (-1) [] [] []) rfl rfl S5.b1 rfl n24 (uC_one _ _ _ _ _ _) ?_; intro w6 B U; simp only [Act.put]; have S6 := S5.set1 B U; clear B U; have hc6 := S6.b1.cell (i := 0) rfl)
    | (go_at_call 34; (with_reducible refine (H3.out _).mono ?_); (rintro e w7 ⟨rfl, hb⟩; have S7 := S6.step hb; clear hb))
    | (go_at_call 35; (with_reducible refine (H4.out _ S7.kp).mono ?_); (rintro e w8 ⟨rfl, hb⟩; have S8 := S7.step hb; clear hb))
    | ((with_reducible show wpList _ _ _ (⟨none, .store 9 (.tmp 32) (.tmp 31), _, _, _, _⟩ :: _) _ _); refine wp_set _ rfl 9 (.tmp 32) (.tmp 31) rfl g1 5 24 _ (.string (str F)) rfl rfl rfl rfl S8.b1 (by simp [uC]) n9 ?_; intro w9 B U; simp only [Act.put]; have S9 := S8.set1 B U; clear B U; have hc9 : w9.cell? ⟨g1, 0, none⟩ = some (.string (str S)) := S9.b1.cell (i := 0) rfl)
    | (go_at_call 36; (with_reducible refine (H5.out _).mono ?_); (rintro e w10 ⟨rfl, hb⟩; have S10 := S9.step hb; clear hb))
    | (go_at_call 35; (with_reducible refine (H6.out _ S10.kp).mono ?_); (rintro e w11 ⟨rfl, hb⟩; have S11 := S10.step hb; clear hb))
    | ((with_reducible show wpList _ _ _ (⟨none, .store 9 (.tmp 41) (.tmp 40), _, _, _, _⟩ :: _) _ _); refine wp_set _ rfl 9 (.tmp 41) (.tmp 40) rfl g1 4 24 _ (.string (str Q)) rfl rfl rfl rfl S11.b1 (by simp [uC]) n9 ?_; intro w12 B U; simp only [Act.put]; have S12 := S11.set1 B U; clear B U))
  refine wp_region_held_drew (S := fun W => ∃ Z, Pp w W g1 g2 (uC S [] (-1) [] Q F) Z) (by kernel_rfl) ⟨_, S12.drew⟩ (fun hS => ?_)
  refine wpAnyH_take (i := 0) (oi := ⟨some 42, _, _, _, _, _⟩) (v := _) rfl (by kernel_rfl) (by kernel_rfl) (by kernel_rfl) (fun _ _ _ h => h) (yieldsIf_load_mid (by rfl) 24 (.tmp 7) rfl g1 0 rfl (uC S [] (-1) [] Q F) _ (fun W hW => hW.elim (fun _ h => h.b1.whole)) Tryz.underlying24 rfl n24) hS ?_
  simp only [Act.put, List.setIfInBounds_toArray, List.set_cons_zero, List.set_cons_succ]
  refine wpAnyH_take (i := 1) (oi := ⟨some 43, _, _, _, _, _⟩) (v := ?va1) rfl (by kernel_rfl) (by kernel_rfl) (by kernel_rfl) (fun _ _ _ h => h) (Or.inl ⟨by rfl, ?ya1⟩) hS ?ra1
  case ya1 => intro W hW; go_simp; first | done | with_reducible rfl
  simp only [Act.put, List.setIfInBounds_toArray, List.set_cons_zero, List.set_cons_succ]
  refine wpAnyH_ready (rs := [2]) (by kernel_rfl) (by simp) ?_
  refine (AllReadyH.cons (o := ⟨some 44, _, _, _, _, _⟩) rfl (fun K hK => ?_) AllReadyH.nil)
  try go_simp
  (with_reducible refine (H7.out _ S12.drew.kp).mono ?_)
  rintro e w13 ⟨rfl, hb⟩
  have S13 := S12.drew.step hb
  clear hb
  refine hK.out _ _ ⟨_, S13⟩ (fun _ => ?_)
  clear hK K
  try simp only [Act.put, List.setIfInBounds_toArray, List.set_cons_zero, List.set_cons_succ]
  refine wpAnyH_ready (rs := [3]) (by kernel_rfl) (by simp) ?_
  refine (AllReadyH.cons (o := ⟨some 45, _, _, _, _, _⟩) rfl (fun K hK => ?_) AllReadyH.nil)
  try go_simp
  (with_reducible refine (H8.out _ S13.kp).mono ?_)
  rintro e w14 ⟨rfl, hb⟩
  have S14 := S13.step hb
  clear hb hS
  have hS : ∃ Z, Pp w w14 g1 g2 (uC S [] (-1) [] Q F) Z := ⟨_, S14⟩
  refine hK.out _ _ hS (fun _ => ?_)
  clear hK K
  try simp only [Act.put, List.setIfInBounds_toArray, List.set_cons_zero, List.set_cons_succ]
  refine wpAnyH_take (i := 4) (oi := ⟨some 46, _, _, _, _, _⟩) (v := ?va4) rfl (by kernel_rfl) (by kernel_rfl) (by kernel_rfl) (fun _ _ _ h => h) (Or.inl ⟨by rfl, ?ya4⟩) hS ?ra4
  case ya4 => intro W hW; go_simp; first | done | with_reducible rfl
  simp only [Act.put, List.setIfInBounds_toArray, List.set_cons_zero, List.set_cons_succ]
  refine wpAnyH_take (i := 5) (oi := ⟨some 47, _, _, _, _, _⟩) (v := ?va5) rfl (by kernel_rfl) (by kernel_rfl) (by kernel_rfl) (fun _ _ _ h => h) (Or.inl ⟨by rfl, ?ya5⟩) hS ?ra5
  case ya5 => intro W hW; go_simp; first | done | with_reducible rfl
  simp only [Act.put, List.setIfInBounds_toArray, List.set_cons_zero, List.set_cons_succ]
  refine wpAnyH_ready (rs := [6]) (by kernel_rfl) (by simp) ?_
  refine (AllReadyH.cons (o := ⟨none, _, _, _, _, _⟩) rfl (fun K hK => ?_) AllReadyH.nil)
  refine step_putAll _ rfl 24 (.tmp 2) (.tmp 46) rfl g2 24 _ (uC o1 o2 o3 o4 o5 o6) rfl rfl S14.b2 rfl n24 (uC_one _ _ _ _ _ _) ?_
  intro w15 B U
  have S15 := S14.set2 B U
  refine hK.out _ _ ⟨_, S15⟩ (fun _ => ?_)
  clear hK K B U hS
  simp only [Act.put]
  have hS : ∃ Z, Pp w w15 g1 g2 (uC S [] (-1) [] Q F) Z := ⟨_, S15⟩
  refine wpAnyH_take (i := 7) (oi := ⟨some 3, _, _, _, _, _⟩) (v := ?va7) rfl (by kernel_rfl) (by kernel_rfl) (by kernel_rfl) (fun _ _ _ h => h) (Or.inl ⟨by rfl, ?ya7⟩) hS ?ra7
  case ya7 => intro W hW; go_simp; first | done | with_reducible rfl
  simp only [Act.put, List.setIfInBounds_toArray, List.set_cons_zero, List.set_cons_succ]
  clear hS
  refine wpAnyH_done (by kernel_rfl) ?_ _
  go_wp2_with fail
  refine ret_cell2 2 3 24 rfl g2 (uC o1 o2 o3 o4 o5 o6) _ rfl S15.b2.whole Tryz.underlying24 rfl n24 rfl (.int .i64 n) rfl ⟨rfl, S15.kp⟩
theorem sub1_len' (a b : UInt8) (l : List UInt8) : (sub1 a b l).length = l.length := by simp [sub1]
theorem url_any (l : List UInt8) (w : World) (hl : l.length ≤ 1000000) (ht : Tb w) : Calls Tryz.prog 14 #[.string (str l)] w fun e w' => e = .returned (rU (prsU l)) ∧ Below w.heap.size w w' := by
  have H0 : Hid (∀ w', Kept w w' → Calls Tryz.prog 32 #[.string (str l)] w' fun e w2 => e = .returned (.string (str (cln l))) ∧ Below w'.heap.size w' w2) := fun w' hk => clean_any l w' (by omega) (ht.kp hk).here.u
  have hX := cln_len l
  unfold prsU
  generalize cln l = X at H0 hX ⊢
  have hA := bef_len 58 X
  have hP := aft_len 58 X
  have H1 : Hid (∀ w', Kept w w' → Calls Tryz.prog 31 #[.string (str X), .string ⟨#[58]⟩] w' fun e w2 => e = .returned (.tuple #[.string (str (bef 58 X)), .string (str (aft 58 X)), .bool (X.contains 58)]) ∧ Below w'.heap.size w' w2) := fun w' hk => cutb_any 58 X w' (by omega) (ht.kp hk)
  have H2 : Hid (∀ w', Calls Tryz.prog 33 #[.string (str (bef 58 X))] w' fun e w2 => e = .returned (.string (str (low (bef 58 X)))) ∧ Below w'.heap.size w' w2) := fun w' => wlower_any _ w' (by omega)
  unfold pcl'
  cases hc : X.contains 58 with
  | false =>
    rw [hc] at H1
    exact pr_a l w _ _ _ _ H0 H1 H2
  | true =>
    rw [hc] at H1
    simp only [if_true]
    have hS := low_length (bef 58 X)
    generalize low (bef 58 X) = S at H2 hS ⊢
    have H3 : Hid (∀ w', Calls Tryz.prog 34 #[.string (str S)] w' fun e w2 => e = .returned (.bool (dp S).isSome) ∧ Below w'.heap.size w' w2) := fun w' => known_any S w' (by omega)
    have H5 : Hid (∀ w', Calls Tryz.prog 36 #[.string (str S)] w' fun e w2 => e = .returned (.bool (spc S)) ∧ Below w'.heap.size w' w2) := fun w' => special_any S w' (by omega)
    cases hd : dp S with
    | none =>
      rw [hd] at H3
      exact pr_b l w _ _ _ _ H0 H1 H2 H3
    | some p =>
      rw [hd] at H3
      generalize bef 58 X = A at H1 H2
      generalize aft 58 X = P at H1 hP ⊢
      show Calls _ _ _ _ fun e w' => e = .returned (rU (psc S p P)) ∧ _
      have H4 : Hid (∀ w', Kept w w' → Calls Tryz.prog 35 #[.string (str P), .string ⟨#[35]⟩, .int .i64 2] w' fun e w2 => e = .returned (.tuple #[.string (str (bef 35 P)), .string (str (sgn 35 2 P))]) ∧ Below w'.heap.size w' w2) := fun w' hk => cutSign_any 35 2 P w' (by omega) (ht.kp hk)
      have hR := bef_len 35 P
      unfold psc
      generalize sgn 35 2 P = F at H4 ⊢
      generalize bef 35 P = R1 at H4 hR ⊢
      have hR2 := bef_len 63 R1
      have H6 : ∀ n : Int, Hid (∀ w', Kept w w' → Calls Tryz.prog 35 #[.string (str R1), .string ⟨#[63]⟩, .int .i64 n] w' fun e w2 => e = .returned (.tuple #[.string (str (bef 63 R1)), .string (str (sgn 63 n R1))]) ∧ Below w'.heap.size w' w2) := fun n w' hk => cutSign_any 63 n R1 w' (by omega) (ht.kp hk)
      by_cases hp : p = -1
      · have hs : spc S = false := by unfold spc; rw [hd]; simp [hp]
        rw [hs] at H5
        rw [if_pos hp]
        have H10 : Hid (∀ w', Calls Tryz.prog 39 #[.int .i64 1, .string (str (bef 63 R1))] w' fun e w2 => e = .returned (.string (str (enc (inS 1) (bef 63 R1)))) ∧ Below w'.heap.size w' w2) := fun w' => encode_any 1 _ w' (by omega)
        exact pr_d l w _ _ _ _ _ _ _ _ _ H0 H1 H2 H3 H4 H5 (H6 3) H10
      · have hs : spc S = true := by unfold spc; rw [hd]; simp [hp]
        rw [hs] at H5
        rw [if_neg hp]
        have H7 : Hid (∀ w', Kept w w' → Calls Tryz.prog 38 #[.string (str (bef 63 R1)), .string ⟨#[92]⟩, .string ⟨#[47]⟩] w' fun e w2 => e = .returned (.string (str (sub1 92 47 (bef 63 R1)))) ∧ Below w'.heap.size w' w2) := fun w' hk => by
          have := rpl_any ⟨#[92]⟩ ⟨#[47]⟩ (by decide) (by decide) (by decide) (bef 63 R1) w' (by omega) (ht.kp hk)
          rwa [show rpl (ByteArray.mk #[92]).data.toList (ByteArray.mk #[47]).data.toList (bef 63 R1) = sub1 92 47 (bef 63 R1) from rpl_one 92 47 _] at this
        have hR3 := sub1_len' 92 47 (bef 63 R1)
        generalize sub1 92 47 (bef 63 R1) = R3 at H7 hR3 ⊢
        have H8 : Hid (∀ w', Kept w w' → Calls Tryz.prog 37 #[.agg (uC S [] (-1) [] (sgn 63 4 R1) F).toArray, .string (str R3)] w' fun e w2 => e = .returned (rU (if ([47, 47] : List UInt8).isPrefixOf R3 then psp S p (R3.drop 2) (sgn 63 4 R1) F else none)) ∧ Below w'.heap.size w' w2) := fun w' hk => spec_any S _ F R3 p hd w' (by omega) (ht.kp hk)
        generalize (if ([47, 47] : List UInt8).isPrefixOf R3 then psp S p (R3.drop 2) (sgn 63 4 R1) F else none) = o at H8 ⊢
        exact pr_c l w _ _ _ _ _ _ _ _ _ _ _ _ _ _ _ _ H0 H1 H2 H3 H4 H5 (H6 4) H7 H8
end Go.Proofs.YtcepigekibidfaaGreatDoor
