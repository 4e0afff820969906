/-
  The letters of a kind's shape, and '==' of strings.
-/
import Derived.Test.YtjgcodnabgkjoaaDoorRefEv
namespace Go.Proofs.YtjgcodnabgkjoaaDoor
open Go.RowKit

def lettersS : Nat → List UInt8
  | 3 => [52, 51, 51]
  | 7 => [115]
  | 10 => [115]
  | 14 => [52]
  | _ => []
theorem shape_split : ∀ k, k < 15 → 0 < k → shapeS k = List.replicate (hav k).texts 116 ++ lettersS k ∧ (lettersS k = [] ∨ ((lettersS k).getD 0 0).toNat ≠ 116) ∧ (shapeS k).length ≤ 1000 ∧ shapeS k ≠ [45] ∧ (lettersS k).length ≤ 3 := by decide +kernel
theorem letters_ok : ∀ k, k < 15 → 0 < k → ∀ i, i < 3 → (i < (lettersS k).length → 49 ≤ ((lettersS k).getD i 0).toNat ∧ moN ((lettersS k).getD i 0).toNat + 1 = (hav k).bl.getD i 0) ∧ (¬ i < (lettersS k).length → (hav k).bl.getD i 0 = 0) := by decide +kernel
theorem alone_fetch : ∀ k, k < 15 → 0 < k → (hav k).fetch = !(decide (k = 1) || decide (k = 2)) := by decide +kernel

section
variable {ops : Array Oper} {rest : List Oper} {o : Oper} {a : Act} {Q : Exit → Act → World → Prop}
theorem wp_eqS (w : World) (hgd : Region.wanted o (yielded ops a.tmps) = true) (x y : Operand) (ho : o.op = .binOp .eql 9 x y 9) (l m : List UInt8)
    (hx : a.eval x = .string (str l)) (hy : a.eval y = .string (str m)) (b : Bool) (hb : b = true ↔ l = m)
    (h : wpList Tryd.prog ops Q rest (a.put o.dst (.bool b)) w) : wpList Tryd.prog ops Q (o :: rest) a w :=
  wpList_step fun K hK => by
    rw [if_pos hgd]
    have h1 : (binOp .eql 9 (.string (str l)) (.string (str m))).run Tryd.prog w = .ok (.bool b) w := by
      have h2 : ((str l).toList == (str m).toList) = b := by
        rw [toList_str, toList_str, Bool.eq_iff_iff, beq_iff_eq, hb]
      simp only [binOp, Op.stringOp]
      simp [h2]
    have h2 : (eqGuard .eql 9 x y (.string (str l)) (.string (str m))).run Tryd.prog w = .ok () w := by simp [eqGuard]
    unfold Oper.wp execOp
    simp only [ho, hx, hy, Sem.run_bind, h1, h2, Result.andThen_ok, Sem.run_pure]
    exact hK _ _ h
end
end Go.Proofs.YtjgcodnabgkjoaaDoor
