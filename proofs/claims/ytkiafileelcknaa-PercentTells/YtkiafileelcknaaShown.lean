/-
  What transeptlaw06.shown answers: true; nothing that was there turns. And '==' of strings at an operation of a walk. No condition.
-/
import Derived.Test.YtkiafileelcknaaDec
namespace Go.Proofs.Ytkiafileelcknaa
open Go.RowKit

theorem toList_str (l : List UInt8) : (str l).toList = l := by
  rw [ByteArray.toList_eq]
  rfl

section
variable {ops : Array Oper} {rest : List Oper} {o : Oper} {a : Act} {Q : Exit → Act → World → Prop}
theorem run_eqS (w : World) (l m : List UInt8) (b : Bool) (hb : b = true ↔ l = m) : (binOp .eql 9 (.string (str l)) (.string (str m))).run Try.prog w = .ok (.bool b) w := by
  have h2 : ((str l).toList == (str m).toList) = b := by
    rw [toList_str, toList_str, Bool.eq_iff_iff, beq_iff_eq, hb]
  simp only [binOp, Op.stringOp]
  simp [h2]
theorem wp_eqS (w : World) (hgd : Region.wanted o (yielded ops a.tmps) = true) (x y : Operand) (ho : o.op = .binOp .eql 9 x y 9) (l m : List UInt8)
    (hx : a.eval x = .string (str l)) (hy : a.eval y = .string (str m)) (b : Bool) (hb : b = true ↔ l = m)
    (h : wpList Try.prog ops Q rest (a.put o.dst (.bool b)) w) : wpList Try.prog ops Q (o :: rest) a w :=
  wpList_step fun K hK => by
    rw [if_pos hgd]
    have h1 := run_eqS w l m b hb
    have h2 : (eqGuard .eql 9 x y (.string (str l)) (.string (str m))).run Try.prog w = .ok () w := by simp [eqGuard]
    unfold Oper.wp execOp
    simp only [ho, hx, hy, Sem.run_bind, h1, h2, Result.andThen_ok, Sem.run_pure]
    exact hK _ _ h
end

theorem enc_sample : enc (inS 5) [97, 32, 98, 37] = [97, 37, 50, 48, 98, 37] := by decide +kernel
theorem dec_sample : dec [97, 37, 50, 48, 98, 37, 52] = [97, 32, 98, 37, 52] := by decide +kernel
theorem shown_enc (w : World) : Calls Try.prog 13 #[.int .i64 5, .string ⟨#[97, 32, 98, 37]⟩] w fun e w' => e = .returned (.string (str [97, 37, 50, 48, 98, 37])) ∧ Below w.heap.size w w' := by
  have h := encode_any 5 [97, 32, 98, 37] w (by simp)
  rw [enc_sample] at h
  exact h
theorem shown_dec (w : World) : Calls Try.prog 15 #[.string ⟨#[97, 37, 50, 48, 98, 37, 52]⟩] w fun e w' => e = .returned (.string (str [97, 32, 98, 37, 52])) ∧ Below w.heap.size w w' := by
  have h := decode_any [97, 37, 50, 48, 98, 37, 52] w (by simp)
  rw [dec_sample] at h
  exact h
theorem shown_in4 (w : World) : Calls Try.prog 11 #[.int .i64 4, .int .u8 39] w fun e w' => e = .returned (.bool true) ∧ Below w.heap.size w w' := by
  have h := in_any 4 39 w
  rw [show inS 4 39 = true by decide +kernel] at h
  exact h
theorem shown_in3 (w : World) : Calls Try.prog 11 #[.int .i64 3, .int .u8 39] w fun e w' => e = .returned (.bool false) ∧ Below w.heap.size w w' := by
  have h := in_any 3 39 w
  rw [show inS 3 39 = false by decide +kernel] at h
  exact h

set_option maxHeartbeats 4000000 in
set_option maxRecDepth 100000 in
theorem shown_any (w : World) : Calls Try.prog 10 #[] w fun e w' => e = .returned (.bool true) ∧ Below w.heap.size w w' := by
  go_enter Try.func10, Try.ntmps10
  go_wp2_with (first
    | (go_at_call 13; with_reducible refine (shown_enc w).mono ?_; rintro e w1 ⟨rfl, b1⟩)
    | ((with_reducible show wpList _ _ _ (⟨some 2, .binOp _ _ _ _ _, _, _, _, _⟩ :: _) _ _); refine wp_eqS _ (by kernel_rfl) _ _ rfl [97, 37, 50, 48, 98, 37] [97, 37, 50, 48, 98, 37] rfl rfl true (by simp) ?_; simp only [Act.put, List.setIfInBounds_toArray, List.set_cons_zero, List.set_cons_succ])
    | (go_at_call 15; with_reducible refine (shown_dec w1).mono ?_; rintro e w2 ⟨rfl, b2⟩)
    | ((with_reducible show wpList _ _ _ (⟨some 5, .binOp _ _ _ _ _, _, _, _, _⟩ :: _) _ _); refine wp_eqS _ (by kernel_rfl) _ _ rfl [97, 32, 98, 37, 52] [97, 32, 98, 37, 52] rfl rfl true (by simp) ?_; simp only [Act.put, List.setIfInBounds_toArray, List.set_cons_zero, List.set_cons_succ])
    | (go_at_call 11; with_reducible refine (shown_in4 w2).mono ?_; rintro e w3 ⟨rfl, b3⟩)
    | (go_at_call 11; with_reducible refine (shown_in3 w3).mono ?_; rintro e w4 ⟨rfl, b4⟩))
  go_ret
  refine ⟨rfl, ?_⟩
  exact ((b1.trans (b2.mono b1.size)).trans (b3.mono (Nat.le_trans b1.size b2.size))).trans (b4.mono (Nat.le_trans b1.size (Nat.le_trans b2.size b3.size)))
end Go.Proofs.Ytkiafileelcknaa
