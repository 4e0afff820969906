/-
  '==' on two events. No condition.
-/
import Derived.Test.YtjgcodnabgkjoaaDoorShown
import Derived.Laws.StructEq
namespace Go.Proofs.YtjgcodnabgkjoaaDoor
open Go.RowKit

def evEq (a b : Ev) : Bool := decide (a.kind = b.kind ∧ a.time = b.time ∧ a.id = b.id ∧ a.ts = b.ts ∧ a.ns = b.ns)
theorem evEq_iff (a b : Ev) : evEq a b = true ↔ a = b := by
  obtain ⟨k, t, i, ts, ns⟩ := a
  obtain ⟨k', t', i', ts', ns'⟩ := b
  simp [evEq]
theorem evEq_self (a : Ev) : evEq a a = true := (evEq_iff a a).2 rfl
theorem toList_str (t : List UInt8) : (str t).toList = t := by rw [ByteArray.toList_eq]; rfl

set_option maxHeartbeats 1000000 in
theorem ev_eq0 (k k' : Int) (t t' i i' : Nat) (a b c d a' b' c' d' : List UInt8) (x y z x' y' z' : Int) (w : World) (R : Bool)
    (h : R = true ↔ k = k' ∧ t = t' ∧ i = i' ∧ a = a' ∧ b = b' ∧ c = c' ∧ d = d' ∧ x = x' ∧ y = y' ∧ z = z') :
    (Op.equalIn 10000 24 (.agg (evc ⟨k, t, i, [a, b, c, d], [x, y, z]⟩).toArray) (.agg (evc ⟨k', t', i', [a', b', c', d'], [x', y', z']⟩).toArray)).run Tryd.prog w = .ok R w := by
  have h1 := toList_str a
  have h2 := toList_str b
  have h3 := toList_str c
  have h4 := toList_str d
  have h1' := toList_str a'
  have h2' := toList_str b'
  have h3' := toList_str c'
  have h4' := toList_str d'
  simp only [evc, List.map_cons, List.map_nil, List.cons_append, List.nil_append]
  cases R with
  | true =>
    obtain ⟨rfl, rfl, rfl, rfl, rfl, rfl, rfl, rfl, rfl, rfl⟩ := h.1 rfl
    clear h h1 h2 h3 h4 h1' h2' h3' h4'
    go_simp
  | false =>
    have hn : ¬ (k = k' ∧ t = t' ∧ i = i' ∧ a = a' ∧ b = b' ∧ c = c' ∧ d = d' ∧ x = x' ∧ y = y' ∧ z = z') := fun hh => by simpa using h.2 hh
    have HN := Lib.hid hn
    clear h hn
    go_simp
    intro e1 e2 e3 e4 e5 e6 e7 e8 e9 e10
    exact HN.out ⟨e1, by omega, by omega, e4, e5, e6, e7, e8, e9, e10⟩
theorem ev_eq (a b : Ev) (ha : EvOk a) (hb : EvOk b) (w : World) : (Op.equalIn 10000 24 (.agg (evc a).toArray) (.agg (evc b).toArray)).run Tryd.prog w = .ok (evEq a b) w := by
  obtain ⟨k, t, i, ts, ns⟩ := a
  obtain ⟨k', t', i', ts', ns'⟩ := b
  obtain ⟨p, q, r, s, rfl⟩ := four ts ha.1
  obtain ⟨p', q', r', s', rfl⟩ := four ts' hb.1
  obtain ⟨x, y, z, rfl⟩ := three ns ha.2
  obtain ⟨x', y', z', rfl⟩ := three ns' hb.2
  refine ev_eq0 _ _ _ _ _ _ _ _ _ _ _ _ _ _ _ _ _ _ _ _ w _ ?_
  rw [evEq_iff]
  simp
  intro _ _ _
  constructor
  · rintro ⟨⟨a4, a5, a6, a7⟩, a8, a9, a10⟩
    exact ⟨a4, a5, a6, a7, a8, a9, a10⟩
  · rintro ⟨a4, a5, a6, a7, a8, a9, a10⟩
    exact ⟨⟨a4, a5, a6, a7⟩, a8, a9, a10⟩

section
variable {ops : Array Oper} {rest : List Oper} {o : Oper} {a : Act} {Q : Exit → Act → World → Prop}
theorem guard24 : Tryd.prog.eqGuardType Tryd.prog.depth 24 = false := by kernel_rfl
theorem wp_eqE (w : World) (hgd : Region.wanted o (yielded ops a.tmps) = true) (x y : Operand) (ho : o.op = .binOp .eql 24 x y 24) (A B : Ev) (hA : EvOk A) (hB : EvOk B)
    (hx : a.eval x = .agg (evc A).toArray) (hy : a.eval y = .agg (evc B).toArray) (b : Bool) (hb : evEq A B = b)
    (h : wpList Tryd.prog ops Q rest (a.put o.dst (.bool b)) w) : wpList Tryd.prog ops Q (o :: rest) a w :=
  wpList_step fun K hK => by
    rw [if_pos hgd]
    have h1 := ev_eq A B hA hB w
    rw [hb] at h1
    unfold Oper.wp execOp
    simp only [ho, hx, hy, Sem.run_bind, run_eqGuard_agg w _ _ _ _ _ _ guard24, run_eql_struct, h1, Result.andThen_ok, Sem.run_pure]
    exact hK _ _ h
theorem wp_neE (w : World) (hgd : Region.wanted o (yielded ops a.tmps) = true) (x y : Operand) (ho : o.op = .binOp .neq 24 x y 24) (A B : Ev) (hA : EvOk A) (hB : EvOk B)
    (hx : a.eval x = .agg (evc A).toArray) (hy : a.eval y = .agg (evc B).toArray) (b : Bool) (hb : evEq A B = b)
    (h : wpList Tryd.prog ops Q rest (a.put o.dst (.bool (!b))) w) : wpList Tryd.prog ops Q (o :: rest) a w :=
  wpList_step fun K hK => by
    rw [if_pos hgd]
    have h1 := ev_eq A B hA hB w
    rw [hb] at h1
    unfold Oper.wp execOp
    simp only [ho, hx, hy, Sem.run_bind, run_eqGuard_agg w _ _ _ _ _ _ guard24, run_neq_struct, h1, Result.andThen_ok, Sem.run_pure]
    exact hK _ _ h
/-- string(b), be the operation guarded or not. -/
theorem wp_strG (w : World) (hgd : Region.wanted o (yielded ops a.tmps) = true) (x : Operand)
    (ho : o.op = .convert 27 9 x) (B : Nat) (A : Option Addr) (n c : Nat) (l : List UInt8) (hx : a.eval x = .slice A n c) (hr : Bs w B A n l)
    (h : wpList Tryd.prog ops Q rest (a.put o.dst (.string (str l))) w) : wpList Tryd.prog ops Q (o :: rest) a w :=
  wpList_step fun K hK => by
    rw [if_pos hgd]
    have hrun := run_str w B A n c l hr
    unfold Oper.wp execOp
    simp only [ho, hx, hrun, Sem.run_bind, Sem.run_pure, Result.andThen_ok]
    exact hK _ _ h
/-- A literal of no fields, be the operation guarded or not. -/
theorem wp_zeroG (w : World) (hgd : Region.wanted o (yielded ops a.tmps) = true) (ho : o.op = .build 24 #[])
    (h : wpList Tryd.prog ops Q rest (a.put o.dst (.agg (evc ev0).toArray)) w) : wpList Tryd.prog ops Q (o :: rest) a w :=
  wpList_step fun K hK => by
    rw [if_pos hgd]
    have hrun := build24z w
    unfold Oper.wp execOp
    simp only [ho, List.map_toArray, List.map_nil, Sem.run_bind, hrun, Result.andThen_ok, Sem.run_pure]
    exact hK _ _ h
end
end Go.Proofs.YtjgcodnabgkjoaaDoor
