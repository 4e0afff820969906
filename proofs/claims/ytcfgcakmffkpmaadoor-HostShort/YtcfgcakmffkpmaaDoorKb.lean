/-
  append of bytes onto a row of the call's own: cells of other types stay. No condition.
-/
import Derived.Test.YtcfgcakmffkpmaaDoorArr
namespace Go.Proofs.YtcfgcakmffkpmaaDoor
open Go.RowKit

/-- All cells of other types stay. -/
def KeepsBut (T : TypeId) (W W' : World) : Prop := ∀ (k : Nat) (cs : Array Value) (t : TypeId) (fr : Nat × Nat), t ≠ T → W.heap[k]? = some (.cells cs t fr) → W'.heap[k]? = some (.cells cs t fr)
theorem KeepsBut.refl (T : TypeId) (W : World) : KeepsBut T W W := fun _ _ _ _ _ e => e
theorem KeepsBut.of_row {X X' : World} {T : TypeId} {lo : Nat} {v : Value} {n : Nat} {vs : List Value} (hrow : X.ownsRow lo T 1 v n vs) (hg : X.grownBy X' v.ownBlock) : KeepsBut T X X' := by
  intro k cs t fr ht e
  refine (hg.block k (Array.getElem?_eq_some_iff.1 e).1 fun e1 => ?_).trans e
  rcases hrow.2 with ⟨rfl, _⟩ | ⟨g, cap, cur, rfl, _, hh, _⟩
  · cases e1
  · have e2 : k = g := by simpa [Value.ownBlock] using e1
    subst e2
    rw [e] at hh
    cases hh
    exact ht rfl
theorem KeepsBut.of_below {X X' : World} (T : TypeId) (h : Below X.heap.size X X') : KeepsBut T X X' := fun k _ _ _ _ e => (h.block k (Array.getElem?_eq_some_iff.1 e).1).trans e
theorem KeepsBut.trans {X Y Z : World} {T : TypeId} (h : KeepsBut T X Y) (k : KeepsBut T Y Z) : KeepsBut T X Z := fun i cs t fr ht e => k i cs t fr ht (h i cs t fr ht e)
theorem Blk.but {W W' : World} {g : Nat} {t T : TypeId} {C : List Value} (h : Blk W g t C) (hk : KeepsBut T W W') (ht : t ≠ T) : Blk W' g t C := hk g _ t _ ht h

theorem run_appK (w : World) (base : Nat) (ty : TypeId) (v : Value) (n : Nat) (l : List UInt8) (hown : Own w base v n l)
    (B : Nat) (A : Option Addr) (m c : Nat) (k : List UInt8) (hr : Bs w B A m k) (hs : n + m ≤ 1000000000) (hbase : base ≤ w.heap.size) :
    ∃ v' w', (Builtin.append_ #[39, 39] ty #[v, .slice A m c]).run Tryd.prog w = .ok v' w' ∧ Own w' base v' (n + m) (l ++ k) ∧ Below base w w' ∧ KeepsBut 5 w w' := by
  obtain ⟨i, hi, hz, h1, h2⟩ := info_parts byte_info
  rcases A with _ | ad
  · obtain ⟨rfl, rfl⟩ := hr.nil_
    refine ⟨v, w, ?_, by simpa using hown, Below.refl _ _, KeepsBut.refl _ _⟩
    rcases hown.2 with ⟨rfl, rfl⟩ | ⟨g, cap, cur, rfl, _, _, hnc, _⟩
    · simp [Builtin.append_, run_underlying Tryd.underlying39, sizeOf, typeInfo, hi, Builtin.lenOf, Builtin.firstCells]
    · simp [Builtin.append_, run_underlying Tryd.underlying39, sizeOf, typeInfo, hi, Builtin.lenOf, Builtin.firstCells, hnc, storeCells]
  · have hcells : ∀ j u, (vbs k)[j]? = some u → w.cell? (ad.add j) = some u := by
      intro j u hu
      obtain ⟨x, hx, rfl⟩ := vbs_get hu
      have hm : 0 < m := by
        have := (List.getElem?_eq_some_iff.1 hx).1
        have := hr.1
        omega
      obtain ⟨b, off, e, _, hc⟩ := hr.2 hm
      have e := Option.some.inj e
      subst e
      rw [Addr.add_lit]
      exact hc j x hx
    obtain ⟨v', w', hrun, h3, h4, _, h5⟩ := run_append_own_at (P := Tryd.prog) w base 39 ty 5 i _ 1 1 Tryd.underlying39 hi hz h1 h2 rfl (by omega) v n (vbs l) hown ad m c (vbs k)
      (by rw [vbs_length, Nat.mul_one]; exact hr.1) hcells (vbs_one k) (by unfold maxLen; omega) (by omega) hbase
    exact ⟨v', w', hrun, by rw [← vbs_append] at h3; exact h3, (Below.refl _ _).grown h4 hbase (Own.base_le hown), KeepsBut.of_row hown h4⟩
/-- The same at the operation of a walk. -/
theorem wp_appK {ops : Array Oper} {rest : List Oper} {o : Oper} {a : Act} {Q : Exit → Act → World → Prop} (w : World) (hgd : o.guard = none) (s x : Operand)
    (ho : o.op = .call { callee := .builtin .append, args := #[s, x], argTypes := #[39, 39] })
    (base : Nat) (v : Value) (n : Nat) (l : List UInt8) (hs : a.eval s = v) (hown : Own w base v n l)
    (B : Nat) (A : Option Addr) (m c : Nat) (k : List UInt8) (hx : a.eval x = .slice A m c) (hr : Bs w B A m k) (hsz : n + m ≤ 1000000000) (hbase : base ≤ w.heap.size)
    (h : ∀ v' w', Own w' base v' (n + m) (l ++ k) → Below base w w' → KeepsBut 5 w w' → wpList Tryd.prog ops Q rest (a.put o.dst v') w') : wpList Tryd.prog ops Q (o :: rest) a w := by
  refine wpList_plain hgd fun K hK => ?_
  obtain ⟨v', w', hrun, h2, h3, h4⟩ := run_appK w base o.type v n l hown B A m c k hr hsz hbase
  unfold Oper.wp execOp
  simp only [ho, resolve, invoke, builtin, Sem.run_bind, Sem.run_pure, Result.andThen_ok, List.map_toArray, List.map_cons, List.map_nil, hs, hx, hrun]
  exact hK _ _ (h v' w' h2 h3 h4)
end Go.Proofs.YtcfgcakmffkpmaaDoor
