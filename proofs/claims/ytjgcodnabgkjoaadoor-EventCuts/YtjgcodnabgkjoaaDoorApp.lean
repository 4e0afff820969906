/-
  append inside a region that draws its order, onto a row of the call's own: what is kept. No condition.
-/
import Derived.Test.YtjgcodnabgkjoaaDoorYld
namespace Go.Proofs.YtjgcodnabgkjoaaDoor
open Go.RowKit

/-- Of what was there only the block of v may have turned. -/
def ButRow (v : Value) (w w' : World) : Prop := ∀ k, k < w.heap.size → v.ownBlock ≠ some k → w'.heap[k]? = w.heap[k]?
theorem Bs.but {w w' : World} {v : Value} {b off n B : Nat} {l : List UInt8} (h : Bs w B (some ⟨b, off, none⟩) n l) (_hn : 0 < n) (hk : ButRow v w w') (hv : v.ownBlock ≠ some b) : Bs w' B (some ⟨b, off, none⟩) n l := by
  refine ⟨h.1, fun hp => ?_⟩
  obtain ⟨b', off', e, hlt, hc⟩ := h.2 hp
  injection e with e
  injection e with e1 e2
  subst e1 e2
  refine ⟨b, off, rfl, hlt, fun j c hj => ?_⟩
  have h1 := hc j c hj
  have hb : b < w.heap.size := World.block_lt_of_cell? w _ h1
  rw [World.cell?_of_block (w := w) (hk b hb hv)]
  exact h1
set_option maxRecDepth 100000 in
theorem step_appG {ops : Array Oper} {o : Oper} {a : Act} {K : Act → World → Prop} {Q : Exit → Act → World → Prop} {E : Prop} (w : World) (hgd : o.guard = none) (s x : Operand)
    (ho : o.op = .call { callee := .builtin .append, args := #[s, x], argTypes := #[27, 27] })
    (base : Nat) (v : Value) (n : Nat) (l : List UInt8) (hs : a.eval s = v) (hown : Own w base v n l)
    (B : Nat) (A : Option Addr) (m c : Nat) (k : List UInt8) (hx : a.eval x = .slice A m c) (hr : Bs w B A m k) (hsz : n + m ≤ 1000000000) (hbase : base ≤ w.heap.size)
    (N : Nat) (L : List UInt8) (hN : n + m = N) (hL : l ++ k = L)
    (h : ∀ A' c' w', N ≤ c' → Bs w' w'.heap.size A' N L → Own w' base (.slice A' N c') N L → Below base w w' → (∀ g, Wch base g w w') → ButRow v w w' → K (a.put o.dst (.slice A' N c')) w') :
    if Region.wanted o (yielded ops a.tmps) = true then Oper.wp Tryd.prog o a w K Q else E := by
  have hw : Region.wanted o (yielded ops a.tmps) = true := by simp [Region.wanted, hgd]
  rw [if_pos hw]
  subst hN hL
  have key : ∃ v' w', (Builtin.append_ #[27, 27] o.type #[v, .slice A m c]).run Tryd.prog w = .ok v' w' ∧ Own w' base v' (n + m) (l ++ k) ∧ Below base w w' ∧ (∀ g, Wch base g w w') ∧ ButRow v w w' := by
    obtain ⟨i, hi, hz, h1, h2⟩ := info_parts byte_info
    rcases A with _ | ad
    · obtain ⟨rfl, rfl⟩ := hr.nil_
      refine ⟨v, w, ?_, by simpa using hown, Below.refl _ _, fun g => Wch.refl _ _ _, fun _ _ _ => rfl⟩
      rcases hown.2 with ⟨rfl, rfl⟩ | ⟨g, cap, cur, rfl, _, _, hnc, _⟩
      · simp [Builtin.append_, run_underlying Tryd.underlying27, sizeOf, typeInfo, hi, Builtin.lenOf, Builtin.firstCells]
      · simp [Builtin.append_, run_underlying Tryd.underlying27, sizeOf, typeInfo, hi, Builtin.lenOf, Builtin.firstCells, hnc, storeCells]
    · have hcells : ∀ j u, (vbs k)[j]? = some u → w.cell? (ad.add j) = some u := by
        intro j u hu
        obtain ⟨x1, hx1, rfl⟩ := vbs_get hu
        have hm : 0 < m := by
          have := (List.getElem?_eq_some_iff.1 hx1).1
          have := hr.1
          omega
        obtain ⟨b, off, e, _, hc⟩ := hr.2 hm
        injection e with e
        subst e
        rw [Addr.add_lit]
        exact hc j x1 hx1
      obtain ⟨v', w', hrun, h3, h4, _, h5⟩ := run_append_own_at (P := Tryd.prog) w base 27 o.type 5 i _ 1 1 Tryd.underlying27 hi hz h1 h2 rfl (by omega) v n (vbs l) hown ad m c (vbs k)
        (by rw [vbs_length, Nat.mul_one]; exact hr.1) hcells (vbs_one k) (by unfold maxLen; omega) (by omega) hbase
      exact ⟨v', w', hrun, by rw [← vbs_append] at h3; exact h3, (Below.refl _ _).grown h4 hbase (Own.base_le hown), fun g => Wch.grown hown h4 hbase, fun k hk hne => h4.block k hk (fun e => hne e.symm)⟩
  obtain ⟨v', w', hrun, h2, h3, h4, h5⟩ := key
  obtain ⟨A', c', rfl, h6, h7⟩ := h2.form
  unfold Oper.wp execOp
  simp only [ho, resolve, invoke, builtin, Sem.run_bind, Sem.run_pure, Result.andThen_ok, List.map_toArray, List.map_cons, List.map_nil, hs, hx, hrun]
  exact h A' c' w' h6 h7 h2 h3 h4 h5
end Go.Proofs.YtjgcodnabgkjoaaDoor
