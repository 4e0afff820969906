/-
  What the walks of transeptlaw05.EventTimes share. No condition.
-/
import Derived.Test.YtjgcodnabgkjoaaDoorYld
namespace Go.Proofs.YtjgcodnabgkjoaaDoor
open Go.RowKit

theorem i64_and65535 (n : Int) : bits .and .i64 n 65535 = n % 65536 := by
  have h1 : (BitVec.ofInt 64 65535).toNat = 2 ^ 16 - 1 := by decide
  have key : (BitVec.ofInt 64 n &&& BitVec.ofInt 64 65535).toNat = (n % ((2 ^ 64 : Nat) : Int)).toNat % 2 ^ 16 := by
    rw [BitVec.toNat_and, BitVec.toNat_ofInt, h1, Nat.and_two_pow_sub_one_eq_mod]
  show IntKind.i64.wrap ((BitVec.ofInt 64 n &&& BitVec.ofInt 64 65535).toNat : Nat) = n % 65536
  rw [key, IntKind.wrap_i64]
  omega
theorem and3 (i : Nat) (h : i < 18446744073709551616) : bits .and .u64 (i : Int) 3 = ((i % 4 : Nat) : Int) := by
  have h1 := u64_and_nat i 3 h (by decide)
  have h2 : i &&& 3 = i % 4 := Nat.and_two_pow_sub_one_eq_mod i 2
  rw [h2] at h1
  exact h1
theorem wp_build2 {ops : Array Oper} {rest : List Oper} {o : Oper} {a : Act} {Q : Exit → Act → World → Prop} (w : World) (hgd : o.guard = none) (t : TypeId) (x0 x1 : Operand) (ho : o.op = .build t #[(0, x0), (1, x1)])
    (u0 u1 : Value) (h0 : a.eval x0 = u0) (h1 : a.eval x1 = u1) (v : Value) (hrun : (Instr.build t #[(0, u0), (1, u1)]).run Tryd.prog w = .ok v w)
    (h : wpList Tryd.prog ops Q rest (a.put o.dst v) w) : wpList Tryd.prog ops Q (o :: rest) a w := by
  refine wpList_plain hgd fun K hK => ?_
  unfold Oper.wp execOp
  simp only [ho, List.map_toArray, List.map_cons, List.map_nil, h0, h1, Sem.run_bind, hrun, Result.andThen_ok, Sem.run_pure]
  exact hK _ _ h
theorem build24t (w : World) (k : Int) (t : Nat) : (Instr.build 24 #[(0, .int .i64 k), (1, .int .u64 (t : Int))]).run Tryd.prog w = .ok (.agg (evc ⟨k, t, 0, [[], [], [], []], [0, 0, 0]⟩).toArray) w := by kernel_rfl
theorem wp_build10 {ops : Array Oper} {rest : List Oper} {o : Oper} {a : Act} {Q : Exit → Act → World → Prop} (w : World) (hgd : o.guard = none) (x0 x1 x2 x3 x4 x5 x6 x7 x8 x9 : Operand) (ho : o.op = .build 24 #[(0, x0), (1, x1), (2, x2), (3, x3), (4, x4), (5, x5), (6, x6), (7, x7), (8, x8), (9, x9)])
    (k : Int) (t i : Nat) (a0 a1 a2 a3 : List UInt8) (n0 n1 n2 : Int) (h0 : a.eval x0 = .int .i64 k) (h1 : a.eval x1 = .int .u64 (t : Int)) (h2 : a.eval x2 = .int .u64 (i : Int)) (h3 : a.eval x3 = .string (str a0)) (h4 : a.eval x4 = .string (str a1)) (h5 : a.eval x5 = .string (str a2)) (h6 : a.eval x6 = .string (str a3))
    (h7 : a.eval x7 = .int .i64 n0) (h8 : a.eval x8 = .int .i64 n1) (h9 : a.eval x9 = .int .i64 n2)
    (h : wpList Tryd.prog ops Q rest (a.put o.dst (.agg (evc ⟨k, t, i, [a0, a1, a2, a3], [n0, n1, n2]⟩).toArray)) w) : wpList Tryd.prog ops Q (o :: rest) a w := by
  refine wpList_plain hgd fun K hK => ?_
  have hrun : (Instr.build 24 #[(0, .int .i64 k), (1, .int .u64 (t : Int)), (2, .int .u64 (i : Int)), (3, .string (str a0)), (4, .string (str a1)), (5, .string (str a2)), (6, .string (str a3)), (7, .int .i64 n0), (8, .int .i64 n1), (9, .int .i64 n2)]).run Tryd.prog w = .ok (.agg (evc ⟨k, t, i, [a0, a1, a2, a3], [n0, n1, n2]⟩).toArray) w := by kernel_rfl
  unfold Oper.wp execOp
  simp only [ho, List.map_toArray, List.map_cons, List.map_nil, h0, h1, h2, h3, h4, h5, h6, h7, h8, h9, Sem.run_bind, hrun, Result.andThen_ok, Sem.run_pure]
  exact hK _ _ h
theorem size3 : (Tryd.prog.info? 3).map (·.size) = some 1 := by kernel_rfl
/-- What the last lines of EventTimes want of an event that is right. -/
structure Fine (e : Ev) : Prop where
  ok : EvOk e
  small : Small e
  right : rightE e = true
theorem Fine.texts {e : Ev} (h : Fine e) : ∀ t ∈ e.ts, t.length ≤ 1000000 := fun t ht => by have := right_texts h.right h.ok t ht; omega
end Go.Proofs.YtjgcodnabgkjoaaDoor
