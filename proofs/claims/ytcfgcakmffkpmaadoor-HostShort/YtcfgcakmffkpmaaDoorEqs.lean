/-
  '==' of strings at an operation of a walk; cuts and sums of strings. No condition.
-/
import Derived.Test.YtcfgcakmffkpmaaDoorDec
namespace Go.Proofs.YtcfgcakmffkpmaaDoor
open Go.RowKit

theorem toList_str (l : List UInt8) : (str l).toList = l := by
  rw [ByteArray.toList_eq]
  rfl
theorem str_add (a b : List UInt8) : str a ++ str b = str (a ++ b) := by
  apply ByteArray.ext
  apply Array.ext'
  simp [str]
theorem str_one (l : List UInt8) (k : Nat) (hk : k < l.length) : (str l).extract k (k + 1) = str [l.getD k 0] := by
  apply ByteArray.ext
  apply Array.ext'
  simp [str, List.getD, List.getElem?_eq_getElem hk, List.take_one]
theorem str_take (l : List UInt8) (k : Nat) : (str l).extract 0 k = str (l.take k) := by
  apply ByteArray.ext
  apply Array.ext'
  simp [str]

section
variable {ops : Array Oper} {rest : List Oper} {o : Oper} {a : Act} {Q : Exit → Act → World → Prop}
theorem run_eqS (w : World) (l m : List UInt8) (b : Bool) (hb : b = true ↔ l = m) : (binOp .eql 9 (.string (str l)) (.string (str m))).run Tryd.prog w = .ok (.bool b) w := by
  have h2 : ((str l).toList == (str m).toList) = b := by
    rw [toList_str, toList_str, Bool.eq_iff_iff, beq_iff_eq, hb]
  simp only [binOp, Op.stringOp]
  simp [h2]
theorem wp_eqS (w : World) (hgd : Region.wanted o (yielded ops a.tmps) = true) (x y : Operand) (ho : o.op = .binOp .eql 9 x y 9) (l m : List UInt8)
    (hx : a.eval x = .string (str l)) (hy : a.eval y = .string (str m)) (b : Bool) (hb : b = true ↔ l = m)
    (h : wpList Tryd.prog ops Q rest (a.put o.dst (.bool b)) w) : wpList Tryd.prog ops Q (o :: rest) a w :=
  wpList_step fun K hK => by
    rw [if_pos hgd]
    have h1 := run_eqS w l m b hb
    have h2 : (eqGuard .eql 9 x y (.string (str l)) (.string (str m))).run Tryd.prog w = .ok () w := by simp [eqGuard]
    unfold Oper.wp execOp
    simp only [ho, hx, hy, Sem.run_bind, h1, h2, Result.andThen_ok, Sem.run_pure]
    exact hK _ _ h
end
end Go.Proofs.YtcfgcakmffkpmaaDoor
