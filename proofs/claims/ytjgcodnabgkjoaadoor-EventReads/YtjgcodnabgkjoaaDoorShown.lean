/-
  What transeptlaw05.shown answers: true; nothing that was there turns. Condition: the table of kinds holds what the program's text lays.
-/
import Derived.Test.YtjgcodnabgkjoaaDoorCut
namespace Go.Proofs.YtjgcodnabgkjoaaDoor
open Go.RowKit

theorem wp_build3 {ops : Array Oper} {rest : List Oper} {o : Oper} {a : Act} {Q : Exit → Act → World → Prop} (w : World) (hgd : o.guard = none) (t : TypeId) (x0 x1 x2 : Operand) (ho : o.op = .build t #[(0, x0), (1, x1), (2, x2)])
    (u0 u1 u2 : Value) (h0 : a.eval x0 = u0) (h1 : a.eval x1 = u1) (h2 : a.eval x2 = u2) (v : Value) (hrun : (Instr.build t #[(0, u0), (1, u1), (2, u2)]).run Tryd.prog w = .ok v w)
    (h : wpList Tryd.prog ops Q rest (a.put o.dst v) w) : wpList Tryd.prog ops Q (o :: rest) a w := by
  refine wpList_plain hgd fun K hK => ?_
  unfold Oper.wp execOp
  simp only [ho, List.map_toArray, List.map_cons, List.map_nil, h0, h1, h2, Sem.run_bind, hrun, Result.andThen_ok, Sem.run_pure]
  exact hK _ _ h
def evS : Ev := ⟨8, 7, 1, [[], [], [], []], [0, 0, 0]⟩
def evT : Ev := ⟨10, 0, 1, [[], [], [], []], [999, 0, 0]⟩
theorem evS_ok : EvOk evS := ⟨rfl, rfl⟩
theorem evT_ok : EvOk evT := ⟨rfl, rfl⟩
theorem evS_enc : encF evS = [8, 7, 1] ∧ encE evS = 0 := by decide +kernel
theorem build24s (w : World) : (Instr.build 24 #[(0, .int .i64 8), (1, .int .u64 7), (2, .int .u64 1)]).run Tryd.prog w = .ok (.agg (evc evS).toArray) w := by kernel_rfl
theorem dec_a : dA [10, 0, 1, 3, 231] = 5 ∧ dE [10, 0, 1, 3, 231] = 0 := by decide +kernel
theorem dec_av : dV [10, 0, 1, 3, 231] = evT := by
  have h : dE [10, 0, 1, 3, 231] = 0 := dec_a.2
  have h1 : dK [10, 0, 1, 3, 231] = 10 := by decide +kernel
  have h2 : (d1 [10, 0, 1, 3, 231]).1 = 0 := by decide +kernel
  have h3 : (d2 [10, 0, 1, 3, 231]).1 = 1 := by decide +kernel
  have h4 : (d3 [10, 0, 1, 3, 231] (hav 10).texts).1 = [[], [], [], []] := by decide +kernel
  have h5 : (d4 [10, 0, 1, 3, 231] 3).1 = [999, 0, 0] := by decide +kernel
  rw [dV, if_pos h, h1, h2, h3, h4, h5]
  rfl
theorem dec_b : dA [10, 0, 1, 3, 232] = 4 ∧ dE [10, 0, 1, 3, 232] = 3 := by decide +kernel
theorem dec_c : dA [8, 7, 1, 0] = 3 ∧ dE [8, 7, 1, 0] = 8 := by decide +kernel
theorem evT_right : rightE evT = true := by decide +kernel
theorem dec_bv : dV [10, 0, 1, 3, 232] = ev0 := by rw [dV, if_neg]; rw [dec_b.2]; decide
theorem dec_cv : dV [8, 7, 1, 0] = ev0 := by rw [dV, if_neg]; rw [dec_c.2]; decide

set_option maxHeartbeats 4000000 in
set_option maxRecDepth 100000 in
theorem shown_any (w : World) (ht : Tab w) : Calls Tryd.prog 11 #[] w fun r w' => r = .returned (.bool true) ∧ Below w.heap.size w w' := by
  have bS := build24s
  have y24 := zero24
  have zT : (Tryd.prog.info? 24).map (·.size) = some (evc evT).length := size24
  have z0 : (Tryd.prog.info? 24).map (·.size) = some (evc ev0).length := size24
  have hT : (evc evT).length = (evc ev0).length := rfl
  have oT := evc_one evT
  have o0 := evc_one ev0
  have kT : (evc evT)[7]? = some (.int .i64 999) := rfl
  have EN := fun W (hW : Tab W) => encode_any evS evS_ok (by simp [evS]) (by decide) (by decide) W hW
  have RT := fun W (hW : Tab W) => right_any evT evT_ok (by simp [evT]) W hW
  rw [evT_right] at RT
  have DA := fun A n c W h1 h2 h3 h4 h5 => decode_any A n c [10, 0, 1, 3, 231] W h1 h2 h3 h4 h5
  rw [dec_a.1, dec_a.2, dec_av] at DA
  have DB := fun A n c W h1 h2 h3 h4 h5 => decode_any A n c [10, 0, 1, 3, 232] W h1 h2 h3 h4 h5
  rw [dec_b.1, dec_b.2, dec_bv] at DB
  have DC := fun A n c W h1 h2 h3 h4 h5 => decode_any A n c [8, 7, 1, 0] W h1 h2 h3 h4 h5
  rw [dec_c.1, dec_c.2, dec_cv] at DC
  generalize evc evT = CT at *
  generalize evc ev0 = C0 at *
  generalize hCS : evc evS = CS at *
  have HEN := Lib.hid EN
  have HRT := Lib.hid RT
  have HDA := Lib.hid DA
  have HDB := Lib.hid DB
  have HDC := Lib.hid DC
  clear EN RT DA DB DC hCS
  go_enter Tryd.func11, Tryd.ntmps11
  go_wp2_with (first
    | ((with_reducible show wpList _ _ _ (⟨some 13, _, _, _, _, _⟩ :: _) _ _); refine wp_build3 _ rfl 24 _ _ _ rfl _ _ _ rfl rfl rfl _ (bS _) ?_; simp only [Act.put, List.setIfInBounds_toArray, List.set_cons_zero, List.set_cons_succ]))
  refine (HEN.out w ht).mono ?_
  rintro r w1 ⟨A1, n1, c1, rfl, hc1, hb1, ho1, b1⟩
  rw [evS_enc.2]
  rw [evS_enc.1] at hb1
  have t1 := ht.kept b1
  clear HEN ho1 bS
  go_wp2_with fail
  have s1 := hb1
  clear hb1
  refine (HDA.out (some ⟨w1.heap.size, 0, none⟩) 5 5 _ (t1.kept ((Below.refl _ _).alloc (Nat.le_refl _) _)) (Bs.new w1 [10, 0, 1, 3, 231] _ rfl 5 rfl) (Nat.le_refl _) (by omega) (by omega)).mono ?_
  rintro r w2 ⟨rfl, e2⟩
  have b2 : Below w.heap.size w w2 := b1.trans ((((Below.refl _ _).alloc (Nat.le_refl _) _).trans (e2.mono (by simp))).mono b1.size)
  have s2 : Bs w2 w2.heap.size A1 n1 [8, 7, 1] := ((s1.below ((Below.refl _ _).alloc (Nat.le_refl _) _)).below (e2.mono (by simp))).more (by have := e2.size; simp at this; omega)
  have t2 := (t1.kept ((Below.refl _ _).alloc (Nat.le_refl _) _)).kept e2
  clear s1 e2
  go_wp2_with (first
    | ((with_reducible show wpList _ _ _ (⟨some 3, _, _, _, _, _⟩ :: _) _ _); refine wp_new _ rfl 24 rfl _ y24 ?_; intro w3 g3 hB3 hf3; simp only [Act.put, List.setIfInBounds_toArray, List.set_cons_zero, List.set_cons_succ])
    | ((with_reducible show wpList _ _ _ (⟨none, .store 24 (.tmp 3) _, _, _, _, _⟩ :: _) _ _); refine wp_putAll _ rfl 24 (.tmp 3) (.tmp 20) rfl g3 24 _ CT rfl rfl hB3 hT zT oT ?_; intro w4 hX4 hU4; simp only [Act.put]))
  have b4 : Below w.heap.size w w4 := (b2.trans (hf3.below.mono b2.size)).trans (hU4.below (by have := hf3.is; have := b2.size; omega))
  have hg3 : w.heap.size ≤ g3 := by have := hf3.is; have := b2.size; omega
  have s4 : Bs w4 w4.heap.size A1 n1 [8, 7, 1] := ((s2.below hf3.below).below (hU4.below (by have := hf3.is; omega))).more (by have := hf3.size; have := hU4.size; have := hf3.is; omega)
  have t4 : Tab w4 := (t2.kept hf3.below).below (hU4.below (B := 1) (by have := hf3.is; have := t2.1; omega)) (by omega)
  clear hB3 hU4 s2 t2 hf3 b2
  refine (HDB.out (some ⟨w4.heap.size, 0, none⟩) 5 5 _ (t4.kept ((Below.refl _ _).alloc (Nat.le_refl _) _)) (Bs.new w4 [10, 0, 1, 3, 232] _ rfl 5 rfl) (Nat.le_refl _) (by omega) (by omega)).mono ?_
  rintro r w5 ⟨rfl, e5⟩
  have b5 : Below w.heap.size w w5 := b4.trans ((((Below.refl _ _).alloc (Nat.le_refl _) _).trans (e5.mono (by simp))).mono b4.size)
  have s5 : Bs w5 w5.heap.size A1 n1 [8, 7, 1] := ((s4.below ((Below.refl _ _).alloc (Nat.le_refl _) _)).below (e5.mono (by simp))).more (by have := e5.size; simp at this; omega)
  have t5 := (t4.kept ((Below.refl _ _).alloc (Nat.le_refl _) _)).kept e5
  have X5 : Blk w5 g3 24 CT := (hX4.alloc _).kept e5
  clear s4 e5 hX4 b4 t4
  go_wp2_with (first
    | ((with_reducible show wpList _ _ _ (⟨some 6, _, _, _, _, _⟩ :: _) _ _); refine wp_new _ rfl 24 rfl _ y24 ?_; intro w6 g6 hB6 hf6; simp only [Act.put, List.setIfInBounds_toArray, List.set_cons_zero, List.set_cons_succ])
    | ((with_reducible show wpList _ _ _ (⟨none, .store 24 (.tmp 6) _, _, _, _, _⟩ :: _) _ _); refine wp_putAll _ rfl 24 (.tmp 6) (.tmp 26) rfl g6 24 _ C0 rfl rfl hB6 rfl z0 o0 ?_; intro w7 hX7 hU7; simp only [Act.put]))
  have b7 : Below w.heap.size w w7 := (b5.trans (hf6.below.mono b5.size)).trans (hU7.below (by have := hf6.is; have := b5.size; omega))
  have s7 : Bs w7 w7.heap.size A1 n1 [8, 7, 1] := ((s5.below hf6.below).below (hU7.below (by have := hf6.is; omega))).more (by have := hf6.size; have := hU7.size; have := hf6.is; omega)
  have t7 : Tab w7 := (t5.kept hf6.below).below (hU7.below (B := 1) (by have := hf6.is; have := t5.1; omega)) (by omega)
  have X7 : Blk w7 g3 24 CT := (hf6.blk X5).upd hU7 (by have := hf6.is; have := X5.lt; omega)
  clear hB6 hU7 s5 t5 hf6 b5 X5 hX7
  refine (HDC.out (some ⟨w7.heap.size, 0, none⟩) 4 4 _ (t7.kept ((Below.refl _ _).alloc (Nat.le_refl _) _)) (Bs.new w7 [8, 7, 1, 0] _ rfl 4 rfl) (Nat.le_refl _) (by omega) (by omega)).mono ?_
  rintro r w8 ⟨rfl, e8⟩
  have b8 : Below w.heap.size w w8 := b7.trans ((((Below.refl _ _).alloc (Nat.le_refl _) _).trans (e8.mono (by simp))).mono b7.size)
  have s8 : Bs w8 w8.heap.size A1 n1 [8, 7, 1] := ((s7.below ((Below.refl _ _).alloc (Nat.le_refl _) _)).below (e8.mono (by simp))).more (by have := e8.size; simp at this; omega)
  have t8 := (t7.kept ((Below.refl _ _).alloc (Nat.le_refl _) _)).kept e8
  have X8 : Blk w8 g3 24 CT := (X7.alloc _).kept e8
  clear s7 e8 X7 b7 t7
  go_wp2_with (first
    | ((with_reducible show wpList _ _ _ (⟨some 9, _, _, _, _, _⟩ :: _) _ _); refine wp_new _ rfl 24 rfl _ y24 ?_; intro w9 g9 hB9 hf9; simp only [Act.put, List.setIfInBounds_toArray, List.set_cons_zero, List.set_cons_succ])
    | ((with_reducible show wpList _ _ _ (⟨none, .store 24 (.tmp 9) _, _, _, _, _⟩ :: _) _ _); refine wp_putAll _ rfl 24 (.tmp 9) (.tmp 32) rfl g9 24 _ C0 rfl rfl hB9 rfl z0 o0 ?_; intro w10 hX10 hU10; have s10 : Bs w10 w10.heap.size A1 n1 [8, 7, 1] := ((s8.below hf9.below).below (hU10.below (by have := hf9.is; omega))).more (by have := hf9.size; have := hU10.size; have := hf9.is; omega); have X10 : Blk w10 g3 24 CT := (hf9.blk X8).upd hU10 (by have := hf9.is; have := X8.lt; omega); have v10 := X10.cell kT; simp only [Act.put])
    | ((with_reducible show wpList _ _ _ (⟨some 36, _, _, _, _, _⟩ :: _) _ _); refine wp_str _ rfl (.tmp 35) rfl _ A1 n1 c1 [8, 7, 1] rfl s10 ?_; rw [show str [8, 7, 1] = ⟨#[8, 7, 1]⟩ from rfl]; simp only [Act.put, List.setIfInBounds_toArray, List.set_cons_zero, List.set_cons_succ])
    | ((with_reducible show wpList _ _ _ (⟨some 72, _, _, _, _, _⟩ :: _) _ _); refine wp_getG _ (by rfl) 24 (.tmp 3) rfl g3 0 CT _ rfl X10.whole Tryd.underlying24 rfl zT ?_; simp only [Act.put, List.setIfInBounds_toArray, List.set_cons_zero, List.set_cons_succ]))
  have b10 : Below w.heap.size w w10 := (b8.trans (hf9.below.mono b8.size)).trans (hU10.below (by have := hf9.is; have := b8.size; omega))
  have t10 : Tab w10 := (t8.kept hf9.below).below (hU10.below (B := 1) (by have := hf9.is; have := t8.1; omega)) (by omega)
  refine (HRT.out w10 t10).mono ?_
  rintro r w11 ⟨rfl, e11⟩
  go_wp2_with fail
  go_ret
  exact ⟨rfl, b10.trans (e11.mono b10.size)⟩
end Go.Proofs.YtjgcodnabgkjoaaDoor
