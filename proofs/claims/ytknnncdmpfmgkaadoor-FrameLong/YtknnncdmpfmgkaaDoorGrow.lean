/-
  append of one row to a row of rows, of one string to a row of strings, both of the call's own: what is kept. No condition.
-/
import Derived.Test.YtknnncdmpfmgkaaDoorView
namespace Go.Proofs.YtknnncdmpfmgkaaDoor
open Go.RowKit

/-- All cells of other types stay. -/
def KeepsBut (T : TypeId) (W W' : World) : Prop := ∀ (k : Nat) (cs : Array Value) (t : TypeId) (fr : Nat × Nat), t ≠ T → W.heap[k]? = some (.cells cs t fr) → W'.heap[k]? = some (.cells cs t fr)
theorem KeepsBut.of_row {X X' : World} {T : TypeId} {lo : Nat} {v : Value} {n : Nat} {vs : List Value} (hrow : X.ownsRow lo T 1 v n vs) (hg : X.grownBy X' v.ownBlock) : KeepsBut T X X' := by
  intro k cs t fr ht e
  refine (hg.block k (Array.getElem?_eq_some_iff.1 e).1 fun e1 => ?_).trans e
  rcases hrow.2 with ⟨rfl, _⟩ | ⟨g, cap, cur, rfl, _, hh, _⟩
  · cases e1
  · have e2 : k = g := by simpa [Value.ownBlock] using e1
    subst e2
    rw [e] at hh
    cases hh
    exact ht rfl
theorem KeepsBut.of_below {X X' : World} (T : TypeId) (h : Below X.heap.size X X') : KeepsBut T X X' := fun k _ _ _ _ e => (h.block k (Array.getElem?_eq_some_iff.1 e).1).trans e
theorem KeepsBut.trans {X Y Z : World} {T : TypeId} (h : KeepsBut T X Y) (k : KeepsBut T Y Z) : KeepsBut T X Z := fun i cs t fr ht e => k i cs t fr ht (h i cs t fr ht e)
theorem Strs.but {W W' : World} {lo : Nat} {v : Value} {ss : List (List UInt8)} {T : TypeId} (h : Strs W lo v ss) (hk : KeepsBut T W W') (hT : T ≠ 9) : Strs W' lo v ss := ownsRow_keepB h fun k cs fr _ e => hk k cs 9 fr (fun e => hT e.symm) e
theorem Rs.but {W W' : World} {lo : Nat} {v : Value} {bs : List (List UInt8)} {T : TypeId} (h : Rs W lo v bs) (hk : KeepsBut T W W') (h22 : T ≠ 22) (h5 : T ≠ 5) : Rs W' lo v bs :=
  h.keep fun k cs t fr _ ht e => hk k cs t fr (fun e => by subst e; rcases ht with h | h; exact h22 h; exact h5 h) e
theorem Own.but {W W' : World} {lo : Nat} {v : Value} {n : Nat} {l : List UInt8} {T : TypeId} (h : Own W lo v n l) (hk : KeepsBut T W W') (h5 : T ≠ 5) : Own W' lo v n l :=
  h.keepB fun k cs fr _ e => hk k cs 5 fr (fun e => h5 e.symm) e
theorem Strs.form {W : World} {lo : Nat} {v : Value} {ss : List (List UInt8)} (h : Strs W lo v ss) : ∃ A c, v = .slice A ss.length c := by
  obtain ⟨A, c, h1, _⟩ := h.view
  exact ⟨A, c, h1⟩

theorem str_info : (Tryd.prog.info? 9).map (fun i => (i.zero, i.size, i.bytes)) = some (some (.string ⟨#[]⟩), 1, 16) := by kernel_rfl
theorem strs_empty (w : World) (base : Nat) (hb : base ≤ w.heap.size) : Strs (w.alloc (.cells #[] 9)) base (.slice (some ⟨w.heap.size, 0, none⟩) 0 0) [] :=
  World.ownsRow_made _ _ _ hb (by decide) rfl

theorem run_appT (w : World) (base : Nat) (ty : TypeId) (v : Value) (ss : List (List UInt8)) (hown : Strs w base v ss) (g c : Nat) (l : List UInt8) (hg : w.cell? ⟨g, 0, none⟩ = some (.string (str l))) (hn : ss.length ≤ 1000000) (hbase : base ≤ w.heap.size) :
    ∃ v' w', (Builtin.append_ #[28, 28] ty #[v, .slice (some ⟨g, 0, none⟩) 1 c]).run Tryd.prog w = .ok v' w' ∧ Strs w' base v' (ss ++ [l]) ∧ KeepsBut 9 w w' ∧ Below base w w' := by
  obtain ⟨i, hi, hz, h1, h2⟩ := info_parts str_info
  obtain ⟨v', w', hrun, h3, h4, _, h5⟩ := run_append_own_at (P := Tryd.prog) w base 28 ty 9 i _ 1 16 Tryd.underlying28 hi hz h1 h2 rfl (by omega) v ss.length (vss ss) hown ⟨g, 0, none⟩ 1 c [.string (str l)] rfl
    (fun j u hj => by
      match j, hj with
      | 0, hj => simp at hj; subst hj; simpa [Addr.add_lit] using hg) (by simp [Value.oneCell']) (by unfold maxLen; omega) (by omega) hbase
  refine ⟨v', w', hrun, ?_, KeepsBut.of_row hown h4, (Below.refl _ _).grown h4 hbase fun k hk => (World.ownsRow.lt hown k hk).1⟩
  unfold Strs
  rw [List.length_append, List.length_singleton, vss, List.map_append]
  exact h3
/-- The same at the operation of a walk. -/
theorem wp_appT {ops : Array Oper} {rest : List Oper} {o : Oper} {a : Act} {Q : Exit → Act → World → Prop} (w : World) (hgd : o.guard = none) (s x : Operand)
    (ho : o.op = .call { callee := .builtin .append, args := #[s, x], argTypes := #[28, 28] })
    (base : Nat) (v : Value) (ss : List (List UInt8)) (hs : a.eval s = v) (hown : Strs w base v ss) (g c : Nat) (l : List UInt8) (hx : a.eval x = .slice (some ⟨g, 0, none⟩) 1 c) (hg : w.cell? ⟨g, 0, none⟩ = some (.string (str l))) (hn : ss.length ≤ 1000000) (hbase : base ≤ w.heap.size)
    (h : ∀ A' c' w', Strs w' base (.slice A' (ss.length + 1) c') (ss ++ [l]) → KeepsBut 9 w w' → Below base w w' → wpList Tryd.prog ops Q rest (a.put o.dst (.slice A' (ss.length + 1) c')) w') : wpList Tryd.prog ops Q (o :: rest) a w := by
  refine wpList_plain hgd fun K hK => ?_
  obtain ⟨v', w', hrun, h2, h3, h4⟩ := run_appT w base o.type v ss hown g c l hg hn hbase
  obtain ⟨A', c', e⟩ := h2.form
  rw [List.length_append, List.length_singleton] at e
  subst e
  unfold Oper.wp execOp
  simp only [ho, resolve, invoke, builtin, Sem.run_bind, Sem.run_pure, Result.andThen_ok, List.map_toArray, List.map_cons, List.map_nil, hs, hx, hrun]
  exact hK _ _ (h A' c' w' h2 h3 h4)
/-- append of a row to a row of rows. -/
theorem wp_appR {ops : Array Oper} {rest : List Oper} {o : Oper} {a : Act} {Q : Exit → Act → World → Prop} (w : World) (hgd : o.guard = none) (s x : Operand)
    (ho : o.op = .call { callee := .builtin .append, args := #[s, x], argTypes := #[24, 24] })
    (base : Nat) (v : Value) (bs : List (List UInt8)) (hs : a.eval s = v) (hown : Rs w base v bs) (g c : Nat) (A : Option Addr) (k : Nat) (l : List UInt8) (hx : a.eval x = .slice (some ⟨g, 0, none⟩) 1 c) (hg : w.cell? ⟨g, 0, none⟩ = some (.slice A l.length k)) (hl : Own w base (.slice A l.length k) l.length l) (hn : bs.length ≤ 1000000) (hbase : base ≤ w.heap.size)
    (h : ∀ A' c' w', Rs w' base (.slice A' (bs.length + 1) c') (bs ++ [l]) → KeepsBut 22 w w' → Below base w w' → wpList Tryd.prog ops Q rest (a.put o.dst (.slice A' (bs.length + 1) c')) w') : wpList Tryd.prog ops Q (o :: rest) a w := by
  refine wpList_plain hgd fun K hK => ?_
  obtain ⟨vs, hr, h2⟩ := hown
  obtain ⟨v', w', hrun, k1, k2, _⟩ := run_appR w base o.type v bs.length vs hr g c A l.length k hg hn hbase
  have hkb := KeepsBut.of_row hr k2
  have hvs : vs.length = bs.length := by have := hr.1; omega
  have RS : Rs w' base v' (bs ++ [l]) := Rs.snoc h2 hvs k1 (hl.but hkb (by decide)) fun b cs f _ e => hkb b cs 5 f (by decide) e
  obtain ⟨A', c', e⟩ := RS.form
  rw [List.length_append, List.length_singleton] at e
  subst e
  unfold Oper.wp execOp
  simp only [ho, resolve, invoke, builtin, Sem.run_bind, Sem.run_pure, Result.andThen_ok, List.map_toArray, List.map_cons, List.map_nil, hs, hx, hrun]
  exact hK _ _ (h A' c' w' RS hkb ((Below.refl _ _).grown k2 hbase fun b e => (row_block hr e).1))
end Go.Proofs.YtknnncdmpfmgkaaDoor
