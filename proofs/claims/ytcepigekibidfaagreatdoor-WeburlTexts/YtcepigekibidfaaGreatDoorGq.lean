/-
  What weburl.originOf, origin.text, Text and Origin answer; nothing that was there turns. Conditions: texts of bounded length; the library's table of powers.
  '==' of URLs and of origins. No condition.
-/
import Derived.Test.YtcepigekibidfaaGreatDoorWpr
import Derived.Laws.StructEq
namespace Go.Proofs.YtcepigekibidfaaGreatDoor
open Go.RowKit

def oC (s h : List UInt8) (p : Int) : List Value := [.string (str s), .string (str h), .int .i64 p]
theorem z58 : (Tryz.prog.info? 58).map (fun i => i.zero) = some (some (.agg (oC [] [] 0).toArray)) := by kernel_rfl
theorem n58 : (Tryz.prog.info? 58).map (·.size) = some 3 := by kernel_rfl
theorem oC_one (s h : List UInt8) (p : Int) : ∀ u ∈ oC s h p, u.oneCell' = true := by
  intro u hu
  simp only [oC, List.mem_cons, List.not_mem_nil, or_false] at hu
  rcases hu with rfl | rfl | rfl <;> rfl
theorem b58 (s h : ByteArray) (p : Int) (w : World) : (Instr.build 58 #[(0, .string s), (1, .string h), (2, .int .i64 p)]).run Tryz.prog w = .ok (.agg #[.string s, .string h, .int .i64 p]) w := by kernel_rfl
theorem wp_build3 {ops : Array Oper} {rest : List Oper} {o : Oper} {a : Act} {Q : Exit → Act → World → Prop} (w : World) (hgd : o.guard = none) (t : TypeId) (i j k : Nat) (x y z : Operand) (ho : o.op = .build t #[(i, x), (j, y), (k, z)])
    (u u2 u3 : Value) (hx : a.eval x = u) (hy : a.eval y = u2) (hz : a.eval z = u3) (v : Value) (hrun : (Instr.build t #[(i, u), (j, u2), (k, u3)]).run Tryz.prog w = .ok v w)
    (h : wpList Tryz.prog ops Q rest (a.put o.dst v) w) : wpList Tryz.prog ops Q (o :: rest) a w := by
  refine wpList_plain hgd fun K hK => ?_
  unfold Oper.wp execOp
  simp only [ho, List.map_toArray, List.map_cons, List.map_nil, hx, hy, hz, Sem.run_bind, hrun, Result.andThen_ok, Sem.run_pure]
  exact hK _ _ h

set_option maxHeartbeats 4000000 in
theorem originOf_any (s h pa q f : List UInt8) (p : Int) (w : World) : Calls Tryz.prog 45 #[.agg (uC s h p pa q f).toArray] w fun e w' => e = .returned (.agg (oC s h p).toArray) ∧ Below w.heap.size w w' := by
  go_enter Tryz.func45, Tryz.ntmps45
  go_wp2_with (first
    | ((with_reducible show wpList _ _ _ (⟨some 1, .box _ _, _, _, _, _⟩ :: _) _ _); refine wp_box _ rfl 24 _ rfl (uC s h p pa q f) rfl ?_; intro w1 g1 B1 F1; simp only [Act.put, List.setIfInBounds_toArray, List.set_cons_zero, List.set_cons_succ])
    | ((with_reducible show wpList _ _ _ (⟨some 2, .alloc _, _, _, _, _⟩ :: _) _ _); refine wp_new _ rfl 58 rfl _ z58 ?_; intro w2 g2 B2 F2; simp only [Act.put, List.setIfInBounds_toArray, List.set_cons_zero, List.set_cons_succ]; have B3 := F2.blk B1; have c0 : w2.cell? ⟨g1, 0, none⟩ = some (.string (str s)) := B3.cell rfl; have c1 : w2.cell? ⟨g1, 1, none⟩ = some (.string (str h)) := B3.cell rfl; have c2 : w2.cell? ⟨g1, 2, none⟩ = some (.int .i64 p) := B3.cell rfl)
    | ((with_reducible show wpList _ _ _ (⟨some 9, .build _ _, _, _, _, _⟩ :: _) _ _); refine wp_build3 _ rfl 58 0 1 2 _ _ _ rfl _ _ _ rfl rfl rfl _ (b58 _ _ _ _) ?_; simp only [Act.put, List.setIfInBounds_toArray, List.set_cons_zero, List.set_cons_succ])
    | ((with_reducible show wpList _ _ _ (⟨none, .store 58 (.tmp 2) (.tmp 9), _, _, _, _⟩ :: _) _ _); refine wp_putAll _ rfl 58 (.tmp 2) (.tmp 9) rfl g2 58 _ (oC s h p) rfl rfl B2 rfl n58 (oC_one _ _ _) ?_; intro w4 B4 U4; simp only [Act.put]))
  refine ret_cell 2 58 rfl g2 (oC s h p) _ rfl B4.whole Tryz.underlying58 rfl n58 rfl ⟨rfl, ?_⟩
  exact Below.trans (Below.trans F1.below (Below.mono F2.below F1.below.size)) (U4.below (by rw [F2.is]; exact F1.below.size))
theorem grown_b (w : World) (k : Nat) (os : Array Obj) : Below w.heap.size w (Go.Sort.grow (w.drewN k) os) := Go.Proofs.below_grown w k os
theorem itoa_any (n : Int) (h0 : -9223372036854775808 ≤ n) (h1 : n ≤ 9223372036854775807) (w : World) (ht : Tb w) : Calls Tryz.prog 72 #[.int .i64 n] w fun e w' => e = .returned (.string (str (Lib.itoa n))) ∧ Below w.heap.size w w' :=
  (Tryz.strconv_Itoa n h0 h1 w ht.1.here.pow).mono fun e w' h => ⟨h.1, by
    obtain ⟨k, os, rfl⟩ := h.2
    exact grown_b w k os⟩
set_option maxHeartbeats 4000000 in
theorem otext_any (s h : List UInt8) (p : Int) (w : World) (hs : s.length ≤ 1000) (hh : h.length ≤ 100000000) (hp0 : -9223372036854775808 ≤ p) (hp1 : p ≤ 9223372036854775807) (hi : (Lib.itoa p).length ≤ 100) (ht : Tb w) :
    Calls Tryz.prog 46 #[.agg (oC s h p).toArray] w fun e w' => e = .returned (.string (str (s ++ [58, 47, 47] ++ h ++ prtT p))) ∧ Below w.heap.size w w' := by
  have HI : Hid (∀ w', Kept w w' → Calls Tryz.prog 72 #[.int .i64 p] w' fun e w2 => e = .returned (.string (str (Lib.itoa p))) ∧ Below w'.heap.size w' w2) := fun w' hk => itoa_any p (by omega) (by omega) w' (ht.kp hk)
  have a1 : str s ++ ⟨#[58, 47, 47]⟩ = str (s ++ [58, 47, 47]) := str_add s [58, 47, 47]
  have a2 : str (s ++ [58, 47, 47]) ++ str h = str (s ++ [58, 47, 47] ++ h) := str_add _ _
  have a3 : ⟨#[58]⟩ ++ str (Lib.itoa p) = str (58 :: Lib.itoa p) := str_add [58] _
  have a4 : str (s ++ [58, 47, 47] ++ h) ++ str (58 :: Lib.itoa p) = str (s ++ [58, 47, 47] ++ h ++ 58 :: Lib.itoa p) := str_add _ _
  have r1 : ¬ (9223372036854775807 : Nat) < (str s).size + 3 := by rw [str_size]; omega
  have r2 : ¬ (9223372036854775807 : Nat) < (str (s ++ [58, 47, 47])).size + (str h).size := by rw [str_size, str_size, List.length_append]; have e : ([58, 47, 47] : List UInt8).length = 3 := rfl; omega
  have r3 : ¬ (9223372036854775807 : Nat) < 1 + (str (Lib.itoa p)).size := by rw [str_size]; omega
  have r4 : ¬ (9223372036854775807 : Nat) < (str (s ++ [58, 47, 47] ++ h)).size + (str (58 :: Lib.itoa p)).size := by
    simp only [str_size, List.length_append, List.length_cons, List.length_nil]; omega
  obtain ⟨R, hR⟩ : ∃ R, R = s ++ [58, 47, 47] ++ h ++ prtT p := ⟨_, rfl⟩
  have hR0 : Hid (p = -1 → R = s ++ [58, 47, 47] ++ h) := fun e => by rw [hR, prtT, if_pos e, List.append_nil]
  have hR1 : Hid (p ≠ -1 → R = s ++ [58, 47, 47] ++ h ++ 58 :: Lib.itoa p) := fun e => by rw [hR, prtT, if_neg e]
  rw [← hR]
  clear hR
  generalize s ++ [58, 47, 47] ++ h ++ 58 :: Lib.itoa p = M4 at a4 hR1
  generalize s ++ [58, 47, 47] ++ h = M2 at a2 a4 r4 hR0
  generalize s ++ [58, 47, 47] = M1 at a1 a2 r2
  generalize 58 :: Lib.itoa p = M3 at a3 a4 r4
  generalize Lib.itoa p = I at HI a3 r3 hi
  by_cases hp : p = -1
  · have hb : (p == -1) = true := by simp [hp]
    have hR := Lib.hid (hR0.out hp)
    clear hR0 hR1 HI a3 a4 r3 r4 hi hp hs hh hp0 hp1
    go_enter Tryz.func46, Tryz.ntmps46
    go_wp2_with (first
      | ((with_reducible show wpList _ _ _ (⟨some 1, .box _ _, _, _, _, _⟩ :: _) _ _); refine wp_box _ rfl 58 _ rfl (oC s h p) rfl ?_; intro w1 g1 B1 F1; simp only [Act.put, List.setIfInBounds_toArray, List.set_cons_zero, List.set_cons_succ]; have c0 : w1.cell? ⟨g1, 0, none⟩ = some (.string (str s)) := B1.cell rfl; have c1 : w1.cell? ⟨g1, 1, none⟩ = some (.string (str h)) := B1.cell rfl; have c2 : w1.cell? ⟨g1, 2, none⟩ = some (.int .i64 p) := B1.cell rfl))
    go_ret
    rw [hR.out]
    exact ⟨rfl, F1.below⟩
  · have hb : (p == -1) = false := by simp [hp]
    have hR := Lib.hid (hR1.out hp)
    clear hR0 hR1 hi hp hs hh hp0 hp1
    go_enter Tryz.func46, Tryz.ntmps46
    go_wp2_with (first
      | ((with_reducible show wpList _ _ _ (⟨some 1, .box _ _, _, _, _, _⟩ :: _) _ _); refine wp_box _ rfl 58 _ rfl (oC s h p) rfl ?_; intro w1 g1 B1 F1; simp only [Act.put, List.setIfInBounds_toArray, List.set_cons_zero, List.set_cons_succ]; have c0 : w1.cell? ⟨g1, 0, none⟩ = some (.string (str s)) := B1.cell rfl; have c1 : w1.cell? ⟨g1, 1, none⟩ = some (.string (str h)) := B1.cell rfl; have c2 : w1.cell? ⟨g1, 2, none⟩ = some (.int .i64 p) := B1.cell rfl; have k1 : Kept w w1 := F1.below)
      | (go_at_call 72; (with_reducible refine (HI.out w1 k1).mono ?_); (rintro e w2 ⟨rfl, hb2⟩)))
    go_ret
    rw [hR.out]
    exact ⟨rfl, k1.step hb2⟩

/-- Bounds that a URL keeps. -/
structure Ub (u : U) : Prop where
  s : u.sch.length ≤ 1000
  h : u.host.length ≤ 100000000
  p0 : -9223372036854775808 ≤ u.port
  p1 : u.port ≤ 9223372036854775807
  pi : (Lib.itoa u.port).length ≤ 100
  pa : u.path.length ≤ 140737488355329
  q : u.q.length ≤ 100000000
  f : u.f.length ≤ 100000000
set_option maxHeartbeats 4000000 in
theorem origin_any (u : U) (w : World) (hu : Ub u) (ht : Tb w) : Calls Tryz.prog 21 #[uV u] w fun e w' => e = .returned (.string (str (org u))) ∧ Below w.heap.size w w' := by
  obtain ⟨s, h, p, pa, q, f⟩ := u
  have h36 : Hid (∀ w', Calls Tryz.prog 36 #[.string (str s)] w' fun e w2 => e = .returned (.bool (spc s)) ∧ Below w'.heap.size w' w2) := fun w' => special_any s w' (by have := hu.s; simp only at this; omega)
  have h45 : Hid (∀ w', Calls Tryz.prog 45 #[.agg (uC s h p pa q f).toArray] w' fun e w2 => e = .returned (.agg (oC s h p).toArray) ∧ Below w'.heap.size w' w2) := fun w' => originOf_any s h pa q f p w'
  have h46 : Hid (∀ w', Kept w w' → Calls Tryz.prog 46 #[.agg (oC s h p).toArray] w' fun e w2 => e = .returned (.string (str (orgT ⟨s, h, p, pa, q, f⟩))) ∧ Below w'.heap.size w' w2) := fun w' hk => otext_any s h p w' hu.s hu.h hu.p0 hu.p1 hu.pi (ht.kp hk)
  have ho : org ⟨s, h, p, pa, q, f⟩ = if spc s then orgT ⟨s, h, p, pa, q, f⟩ else [110, 117, 108, 108] := rfl
  rw [ho]
  generalize orgT ⟨s, h, p, pa, q, f⟩ = O at h46 ⊢
  clear ho hu ht
  cases hb : spc s with
  | false =>
    rw [hb] at h36
    clear h45 h46 hb
    go_enter Tryz.func21, Tryz.ntmps21
    go_wp2_with (first
      | ((with_reducible show wpList _ _ _ (⟨some 1, .box _ _, _, _, _, _⟩ :: _) _ _); refine wp_box _ rfl 24 _ rfl (uC s h p pa q f) rfl ?_; intro w1 g1 B1 F1; simp only [Act.put, List.setIfInBounds_toArray, List.set_cons_zero, List.set_cons_succ]; have c0 : w1.cell? ⟨g1, 0, none⟩ = some (.string (str s)) := B1.cell rfl; have k1 : Kept w w1 := F1.below)
      | (go_at_call 36; (with_reducible refine (h36.out _).mono ?_); (rintro e w2 ⟨rfl, hb2⟩)))
    go_ret
    exact ⟨rfl, k1.step hb2⟩
  | true =>
    rw [hb] at h36
    clear hb
    go_enter Tryz.func21, Tryz.ntmps21
    go_wp2_with (first
      | ((with_reducible show wpList _ _ _ (⟨some 1, .box _ _, _, _, _, _⟩ :: _) _ _); refine wp_box _ rfl 24 _ rfl (uC s h p pa q f) rfl ?_; intro w1 g1 B1 F1; simp only [Act.put, List.setIfInBounds_toArray, List.set_cons_zero, List.set_cons_succ]; have c0 : w1.cell? ⟨g1, 0, none⟩ = some (.string (str s)) := B1.cell rfl; have k1 : Kept w w1 := F1.below)
      | (go_at_call 36; (with_reducible refine (h36.out _).mono ?_); (rintro e w2 ⟨rfl, hb2⟩; have k2 := k1.step hb2; have B2 := B1.kept hb2))
      | ((with_reducible show wpList _ _ _ (⟨some 7, .load 24 (.tmp 1), _, _, _, _⟩ :: _) _ _); refine wp_get _ rfl 24 (.tmp 1) rfl g1 0 (uC s h p pa q f) _ rfl B2.whole Tryz.underlying24 rfl n24 ?_; simp only [Act.put, List.setIfInBounds_toArray, List.set_cons_zero, List.set_cons_succ])
      | (go_at_call 45; (with_reducible refine (h45.out _).mono ?_); (rintro e w3 ⟨rfl, hb3⟩; have k3 := k2.step hb3))
      | (go_at_call 46; (with_reducible refine (h46.out _ k3).mono ?_); (rintro e w4 ⟨rfl, hb4⟩; have k4 := k3.step hb4)))
    go_ret
    exact ⟨rfl, k4⟩
set_option maxHeartbeats 4000000 in
theorem text_any (u : U) (w : World) (hu : Ub u) (ht : Tb w) : Calls Tryz.prog 17 #[uV u] w fun e w' => e = .returned (.string (str (txt u))) ∧ Below w.heap.size w w' := by
  obtain ⟨s, h, p, pa, q, f⟩ := u
  have h36 : Hid (∀ w', Calls Tryz.prog 36 #[.string (str s)] w' fun e w2 => e = .returned (.bool (spc s)) ∧ Below w'.heap.size w' w2) := fun w' => special_any s w' (by have := hu.s; simp only at this; omega)
  have h45 : Hid (∀ w', Calls Tryz.prog 45 #[.agg (uC s h p pa q f).toArray] w' fun e w2 => e = .returned (.agg (oC s h p).toArray) ∧ Below w'.heap.size w' w2) := fun w' => originOf_any s h pa q f p w'
  have h46 : Hid (∀ w', Kept w w' → Calls Tryz.prog 46 #[.agg (oC s h p).toArray] w' fun e w2 => e = .returned (.string (str (orgT ⟨s, h, p, pa, q, f⟩))) ∧ Below w'.heap.size w' w2) := fun w' hk => otext_any s h p w' hu.s hu.h hu.p0 hu.p1 hu.pi (ht.kp hk)
  have ho : txt ⟨s, h, p, pa, q, f⟩ = (if spc s then orgT ⟨s, h, p, pa, q, f⟩ else s ++ [58]) ++ pa ++ q ++ f := rfl
  have hol : (orgT ⟨s, h, p, pa, q, f⟩).length ≤ 200000000 := by
    have h1 := hu.s
    have h2 := hu.h
    have h3 := hu.pi
    simp only at h1 h2 h3
    have h4 : (prtT p).length ≤ 101 := by
      unfold prtT
      split
      · simp
      · rw [List.length_cons]; omega
    simp only [orgT, List.length_append, List.length_cons, List.length_nil]
    omega
  rw [ho]
  generalize orgT ⟨s, h, p, pa, q, f⟩ = O at h46 hol ⊢
  have hs := hu.s
  have hpa := hu.pa
  have hq := hu.q
  have hf := hu.f
  simp only at hs hpa hq hf
  have a1 : str s ++ ⟨#[58]⟩ = str (s ++ [58]) := str_add s [58]
  have r1 : ¬ (9223372036854775807 : Nat) < (str s).size + 1 := by rw [str_size]; omega
  have hsl : (s ++ [58]).length ≤ 200000000 := by rw [List.length_append]; simp; omega
  generalize s ++ [58] = S1 at a1 hsl ⊢
  have key : ∀ X : List UInt8, X.length ≤ 200000000 → (str X ++ str pa = str (X ++ pa) ∧ str (X ++ pa) ++ str q = str (X ++ pa ++ q) ∧ str (X ++ pa ++ q) ++ str f = str (X ++ pa ++ q ++ f)) ∧ ¬ (9223372036854775807 : Nat) < (str X).size + (str pa).size ∧ ¬ (9223372036854775807 : Nat) < (str (X ++ pa)).size + (str q).size ∧ ¬ (9223372036854775807 : Nat) < (str (X ++ pa ++ q)).size + (str f).size := by
    intro X hX
    refine ⟨⟨str_add _ _, str_add _ _, str_add _ _⟩, ?_, ?_, ?_⟩ <;> simp only [str_size, List.length_append] <;> omega
  clear ho hu ht hs hpa hq hf
  cases hb : spc s with
  | false =>
    rw [hb] at h36
    obtain ⟨⟨t1, t2, t3⟩, u1, u2, u3⟩ := key S1 hsl
    simp only [Bool.false_eq_true, if_false]
    generalize S1 ++ pa ++ q ++ f = M3 at t3 ⊢
    generalize S1 ++ pa ++ q = M2 at t2 t3 u3
    generalize S1 ++ pa = M1 at t1 t2 u2
    clear h45 h46 hb key hol hsl
    go_enter Tryz.func17, Tryz.ntmps17
    go_wp2_with (first
      | ((with_reducible show wpList _ _ _ (⟨some 1, .box _ _, _, _, _, _⟩ :: _) _ _); refine wp_box _ rfl 24 _ rfl (uC s h p pa q f) rfl ?_; intro w1 g1 B1 F1; simp only [Act.put, List.setIfInBounds_toArray, List.set_cons_zero, List.set_cons_succ]; have c0 : w1.cell? ⟨g1, 0, none⟩ = some (.string (str s)) := B1.cell rfl; have k1 : Kept w w1 := F1.below)
      | (go_at_call 36; (with_reducible refine (h36.out _).mono ?_); (rintro e w2 ⟨rfl, hb2⟩; have k2 := k1.step hb2; have B2 := B1.kept hb2; have d3 : w2.cell? ⟨g1, 3, none⟩ = some (.string (str pa)) := B2.cell rfl; have d4 : w2.cell? ⟨g1, 4, none⟩ = some (.string (str q)) := B2.cell rfl; have d5 : w2.cell? ⟨g1, 5, none⟩ = some (.string (str f)) := B2.cell rfl)))
    go_ret
    exact ⟨rfl, k2⟩
  | true =>
    rw [hb] at h36
    obtain ⟨⟨t1, t2, t3⟩, u1, u2, u3⟩ := key O hol
    simp only [if_true]
    generalize O ++ pa ++ q ++ f = M3 at t3 ⊢
    generalize O ++ pa ++ q = M2 at t2 t3 u3
    generalize O ++ pa = M1 at t1 t2 u2
    clear hb key hol hsl
    go_enter Tryz.func17, Tryz.ntmps17
    go_wp2_with (first
      | ((with_reducible show wpList _ _ _ (⟨some 1, .box _ _, _, _, _, _⟩ :: _) _ _); refine wp_box _ rfl 24 _ rfl (uC s h p pa q f) rfl ?_; intro w1 g1 B1 F1; simp only [Act.put, List.setIfInBounds_toArray, List.set_cons_zero, List.set_cons_succ]; have c0 : w1.cell? ⟨g1, 0, none⟩ = some (.string (str s)) := B1.cell rfl; have k1 : Kept w w1 := F1.below)
      | (go_at_call 36; (with_reducible refine (h36.out _).mono ?_); (rintro e w2 ⟨rfl, hb2⟩; have k2 := k1.step hb2; have B2 := B1.kept hb2))
      | ((with_reducible show wpList _ _ _ (⟨some 10, .load 24 (.tmp 1), _, _, _, _⟩ :: _) _ _); refine wp_get _ rfl 24 (.tmp 1) rfl g1 0 (uC s h p pa q f) _ rfl B2.whole Tryz.underlying24 rfl n24 ?_; simp only [Act.put, List.setIfInBounds_toArray, List.set_cons_zero, List.set_cons_succ])
      | (go_at_call 45; (with_reducible refine (h45.out _).mono ?_); (rintro e w3 ⟨rfl, hb3⟩; have k3 := k2.step hb3; have B3 := B2.kept hb3))
      | (go_at_call 46; (with_reducible refine (h46.out _ k3).mono ?_); (rintro e w4 ⟨rfl, hb4⟩; have k4 := k3.step hb4; have B4 := B3.kept hb4; have d3 : w4.cell? ⟨g1, 3, none⟩ = some (.string (str pa)) := B4.cell rfl; have d4 : w4.cell? ⟨g1, 4, none⟩ = some (.string (str q)) := B4.cell rfl; have d5 : w4.cell? ⟨g1, 5, none⟩ = some (.string (str f)) := B4.cell rfl)))
    go_ret
    exact ⟨rfl, k4⟩
end Go.Proofs.YtcepigekibidfaaGreatDoor
namespace Go.Proofs.YtcepigekibidfaaGreatDoor
open Go.RowKit

theorem eq24 (u v : U) (b : Bool) (hb : b = true ↔ u = v) (w : World) : (Op.equalIn 10000 24 (uV u) (uV v)).run Tryz.prog w = .ok b w := by
  have hS : Tryz.prog.underlying 24 = some (.struct (Tryz.prog.fieldsOf 24)) := by kernel_rfl
  have hp : Tryz.prog.stoodInHeld 24 = false := by kernel_rfl
  have a9 := Tryz.isAgg9
  have a3 := Tryz.isAgg3
  have y9 := Tryz.underlying9
  have y3 := Tryz.underlying3
  obtain ⟨s, h, p, pa, q, f⟩ := u
  obtain ⟨s2, h2, p2, pa2, q2, f2⟩ := v
  unfold uV uC
  rw [show (10000 : Nat) = 9999 + 1 from rfl, run_equalIn_agg w 9999 24 _ _ hS hp]
  simp only [Program.fieldsOf, Tryz.underlying24]
  have hb := Lib.hid hb
  go_simp
  simp only [toList_str]
  have hb := hb.out
  rw [U.mk.injEq] at hb
  cases b with
  | true =>
    obtain ⟨rfl, rfl, rfl, rfl, rfl, rfl⟩ := hb.1 rfl
    simp
  | false =>
    by_cases e1 : s = s2
    · by_cases e2 : h = h2
      · by_cases e3 : p = p2
        · by_cases e4 : pa = pa2
          · by_cases e5 : q = q2
            · by_cases e6 : f = f2
              · exact absurd (hb.2 ⟨e1, e2, e3, e4, e5, e6⟩) (by simp)
              · simp [e1, e2, e3, e4, e5, e6]
            · simp [e1, e2, e3, e4, e5]
          · simp [e1, e2, e3, e4]
        · simp [e1, e2, e3]
      · simp [e1, e2]
    · simp [e1]
theorem eq58 (s h s2 h2 : List UInt8) (p p2 : Int) (b : Bool) (hb : b = true ↔ (s = s2 ∧ h = h2 ∧ p = p2)) (w : World) : (Op.equalIn 10000 58 (.agg (oC s h p).toArray) (.agg (oC s2 h2 p2).toArray)).run Tryz.prog w = .ok b w := by
  have hS : Tryz.prog.underlying 58 = some (.struct (Tryz.prog.fieldsOf 58)) := by kernel_rfl
  have hp : Tryz.prog.stoodInHeld 58 = false := by kernel_rfl
  have a9 := Tryz.isAgg9
  have a3 := Tryz.isAgg3
  have y9 := Tryz.underlying9
  have y3 := Tryz.underlying3
  unfold oC
  rw [show (10000 : Nat) = 9999 + 1 from rfl, run_equalIn_agg w 9999 58 _ _ hS hp]
  simp only [Program.fieldsOf, Tryz.underlying58]
  have hb := Lib.hid hb
  go_simp
  simp only [toList_str]
  have hb := hb.out
  cases b with
  | true =>
    obtain ⟨rfl, rfl, rfl⟩ := hb.1 rfl
    simp
  | false =>
    by_cases e1 : s = s2
    · by_cases e2 : h = h2
      · by_cases e3 : p = p2
        · exact absurd (hb.2 ⟨e1, e2, e3⟩) (by simp)
        · simp [e1, e2, e3]
      · simp [e1, e2]
    · simp [e1]
theorem run_eq24 (u v : U) (b : Bool) (hb : b = true ↔ u = v) (w : World) : (binOp .eql 24 (uV u) (uV v)).run Tryz.prog w = .ok (.bool b) w := by
  have e := eq24 u v b hb w
  unfold uV at e ⊢
  rw [run_eql_struct, e]
  rfl
theorem run_eq58 (s h s2 h2 : List UInt8) (p p2 : Int) (b : Bool) (hb : b = true ↔ (s = s2 ∧ h = h2 ∧ p = p2)) (w : World) : (binOp .eql 58 (.agg (oC s h p).toArray) (.agg (oC s2 h2 p2).toArray)).run Tryz.prog w = .ok (.bool b) w := by
  rw [run_eql_struct, eq58 s h s2 h2 p p2 b hb w]
  rfl
theorem guard24 : Tryz.prog.eqGuardType Tryz.prog.depth 24 = false := by kernel_rfl
theorem guard58 : Tryz.prog.eqGuardType Tryz.prog.depth 58 = false := by kernel_rfl
section
variable {ops : Array Oper} {rest : List Oper} {o : Oper} {a : Act} {Q : Exit → Act → World → Prop}
theorem wp_eqU (w : World) (hgd : Region.wanted o (yielded ops a.tmps) = true) (x y : Operand) (ho : o.op = .binOp .eql 24 x y 24) (u v : U)
    (hx : a.eval x = uV u) (hy : a.eval y = uV v) (b : Bool) (hb : b = true ↔ u = v)
    (h : wpList Tryz.prog ops Q rest (a.put o.dst (.bool b)) w) : wpList Tryz.prog ops Q (o :: rest) a w :=
  wpList_step fun K hK => by
    rw [if_pos hgd]
    have h1 := run_eq24 u v b hb w
    have h2 : (eqGuard .eql 24 x y (uV u) (uV v)).run Tryz.prog w = .ok () w := run_eqGuard_agg w .eql 24 x y _ _ guard24
    unfold Oper.wp execOp
    simp only [ho, hx, hy, Sem.run_bind, h1, h2, Result.andThen_ok, Sem.run_pure]
    exact hK _ _ h
end
end Go.Proofs.YtcepigekibidfaaGreatDoor
