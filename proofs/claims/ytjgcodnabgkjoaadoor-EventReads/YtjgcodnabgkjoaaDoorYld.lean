/-
  What operations that only read yield, inside a region that draws its order: a whole event, '==' on events and on strings, string(b). No condition.
-/
import Derived.Test.YtjgcodnabgkjoaaDoorBack
namespace Go.Proofs.YtjgcodnabgkjoaaDoor
open Go.RowKit

section
variable {ops : Array Oper} {S : World → Prop} {o : Oper} {a : Act}
theorem yld_eqE (hw : Region.wanted o (yielded ops a.tmps) = true) (x y : Operand) (ho : o.op = .binOp .eql 24 x y 24) (A B : Ev) (hA : EvOk A) (hB : EvOk B)
    (hx : a.eval x = .agg (evc A).toArray) (hy : a.eval y = .agg (evc B).toArray) (b : Bool) (hb : evEq A B = b) : YieldsIf Tryd.prog ops S o (.bool b) a :=
  .inl ⟨hw, fun w _ => by
    have h1 := ev_eq A B hA hB w
    rw [hb] at h1
    unfold execOp
    simp only [ho, hx, hy, Sem.run_bind, run_eqGuard_agg w _ _ _ _ _ _ guard24, run_eql_struct, h1, Result.andThen_ok, Sem.run_pure]⟩
theorem str_inj (l m : List UInt8) : str l = str m ↔ l = m := by
  constructor
  · intro h
    rw [← toList_str l, h, toList_str]
  · rintro rfl
    rfl
theorem yld_eqS (hw : Region.wanted o (yielded ops a.tmps) = true) (x y : Operand) (ho : o.op = .binOp .eql 9 x y 9) (l m : List UInt8)
    (hx : a.eval x = .string (str l)) (hy : a.eval y = .string (str m)) (b : Bool) (hb : b = true ↔ l = m) : YieldsIf Tryd.prog ops S o (.bool b) a :=
  .inl ⟨hw, fun w _ => by
    have h1 : (binOp .eql 9 (.string (str l)) (.string (str m))).run Tryd.prog w = .ok (.bool b) w := by
      have h2 : ((str l).toList == (str m).toList) = b := by
        rw [toList_str, toList_str, Bool.eq_iff_iff, beq_iff_eq, hb]
      simp only [binOp, Op.stringOp]
      simp [h2]
    have h2 : (eqGuard .eql 9 x y (.string (str l)) (.string (str m))).run Tryd.prog w = .ok () w := by simp [eqGuard]
    unfold execOp
    simp only [ho, hx, hy, Sem.run_bind, h1, h2, Result.andThen_ok, Sem.run_pure]⟩
theorem yld_str (hw : Region.wanted o (yielded ops a.tmps) = true) (x : Operand) (ho : o.op = .convert 27 9 x) (A : Option Addr) (n c : Nat) (l : List UInt8) (hx : a.eval x = .slice A n c)
    (hS : ∀ w, S w → ∃ B, Bs w B A n l) : YieldsIf Tryd.prog ops S o (.string (str l)) a :=
  .inl ⟨hw, fun w h => by
    obtain ⟨B, hB⟩ := hS w h
    have hrun := run_str w B A n c l hB
    unfold execOp
    simp only [ho, hx, hrun, Sem.run_bind, Sem.run_pure, Result.andThen_ok]⟩
end
end Go.Proofs.YtjgcodnabgkjoaaDoor
