/-
  Steps inside a region that draws its order: make, append of a row of rows, of a string; what is kept. No condition.
-/
import Derived.Test.YtknnncdmpfmgkaaDoorLongPlain
import Derived.Test.YtknnncdmpfmgkaaDoorApart
namespace Go.Proofs.YtknnncdmpfmgkaaDoor
open Go.RowKit

theorem Below.of_none {W W' : World} (h : W.grownBy W' none) : Below W.heap.size W W' := (Below.refl _ _).grown h (Nat.le_refl _) (fun _ e => by cases e)
/-- make([]byte, n). -/
theorem step_make {ops : Array Oper} {o : Oper} {a : Act} {K : Act → World → Prop} {Q : Exit → Act → World → Prop} {E : Prop} (w : World) (hgd : o.guard = none) (l c : Operand)
    (ho : o.op = .makeSlice 22 l c) (n : Nat) (hl : a.eval l = .int .i64 (n : Int)) (hc : a.eval c = .int .i64 (n : Int)) (hn : n ≤ 1000000)
    (h : ∀ w', Own w' w.heap.size (.slice (some ⟨w.heap.size, 0, none⟩) n n) n (nought n) → Below w.heap.size w w' → w.heap.size < w'.heap.size → K (a.put o.dst (.slice (some ⟨w.heap.size, 0, none⟩) n n)) w') :
    if Region.wanted o (yielded ops a.tmps) = true then Oper.wp Tryd.prog o a w K Q else E := by
  have hw : Region.wanted o (yielded ops a.tmps) = true := by simp [Region.wanted, hgd]
  rw [if_pos hw]
  obtain ⟨i, hi, hz, h1, h2⟩ := info_parts byte_info
  obtain ⟨w', hrun, r1, r2⟩ := run_make_full (P := Tryd.prog) w w.heap.size 22 5 i _ 1 Tryd.underlying22 hi hz h1 .i64 .i64 n (by rw [h2]; omega) (by unfold maxLen; omega) (Nat.le_refl _)
  rw [made_nought] at r1
  unfold Oper.wp execOp
  simp only [ho, hl, hc, hrun, Sem.run_bind, Sem.run_pure, Result.andThen_ok]
  rcases Nat.eq_zero_or_pos n with h0 | h0
  · subst h0
    refine h w' r1 (Below.of_none r2) ?_
    rcases r1.2 with ⟨e, _⟩ | ⟨g, cap, cur, e, _, hh, _⟩
    · cases e
    · injection e with e1
      injection e1 with e1
      injection e1 with e1
      subst e1
      exact (Array.getElem?_eq_some_iff.1 hh).1
  · obtain ⟨g, e, _, hlt⟩ := Own.addr (show Own w' w.heap.size (.slice (some ⟨w.heap.size, 0, none⟩) n n) n (nought n) from r1) h0
    injection e with e
    injection e with e
    subst e
    exact h w' r1 (Below.of_none r2) hlt
/-- append of a row of rows onto a new one. -/
theorem step_appRs {ops : Array Oper} {o : Oper} {a : Act} {K : Act → World → Prop} {Q : Exit → Act → World → Prop} {E : Prop} (w : World) (hgd : o.guard = none) (s x : Operand)
    (ho : o.op = .call { callee := .builtin .append, args := #[s, x], argTypes := #[24, 24] })
    (base : Nat) (v : Value) (hs : a.eval s = v) (hown : w.ownsRow base 22 1 v 0 []) (lo g n c : Nat) (vs : List Value) (hx : a.eval x = .slice (some ⟨g, 0, none⟩) n c) (hrow : w.ownsRow lo 22 1 (.slice (some ⟨g, 0, none⟩) n c) n vs) (h1 : ∀ u ∈ vs, u.oneCell' = true) (hn : n ≤ 1000000) (hbase : base ≤ w.heap.size)
    (h : ∀ v' w', w'.ownsRow base 22 1 v' n vs → w.grownBy w' v.ownBlock → K (a.put o.dst v') w') :
    if Region.wanted o (yielded ops a.tmps) = true then Oper.wp Tryd.prog o a w K Q else E := by
  have hw : Region.wanted o (yielded ops a.tmps) = true := by simp [Region.wanted, hgd]
  rw [if_pos hw]
  obtain ⟨i, hi, hz, hi1, hi2⟩ := info_parts row_info
  have hl := hrow.1
  obtain ⟨v', w', hrun, h3, h4, _, _⟩ := run_append_own_at (P := Tryd.prog) w base 24 o.type 22 i _ 1 24 Tryd.underlying24 hi hz hi1 hi2 rfl (by omega) v 0 [] hown ⟨g, 0, none⟩ n c vs hl
    (fun j u hj => World.ownsRow.cells (g := g) hrow rfl j u hj) h1 (by unfold maxLen; omega) (by omega) hbase
  unfold Oper.wp execOp
  simp only [ho, resolve, invoke, builtin, Sem.run_bind, Sem.run_pure, Result.andThen_ok, List.map_toArray, List.map_cons, List.map_nil, hs, hx, hrun]
  rw [Nat.zero_add, List.nil_append] at h3
  exact h v' w' h3 h4
/-- append of bytes onto a row, with the block that may turn. -/
theorem step_appB {ops : Array Oper} {o : Oper} {a : Act} {K : Act → World → Prop} {Q : Exit → Act → World → Prop} {E : Prop} (w : World) (hgd : o.guard = none) (s x : Operand)
    (ho : o.op = .call { callee := .builtin .append, args := #[s, x], argTypes := #[22, 22] })
    (base : Nat) (v : Value) (hs : a.eval s = v) (hown : Own w base v 0 []) (B b : Nat) (m c : Nat) (k : List UInt8) (hx : a.eval x = .slice (some ⟨b, 0, none⟩) m c) (hr : Bs w B (some ⟨b, 0, none⟩) m k) (hm : 0 < m) (hsz : m ≤ 1000000000) (hbase : base ≤ w.heap.size)
    (h : ∀ A' c' w', Own w' base (.slice A' m c') m k → w.grownBy w' v.ownBlock → K (a.put o.dst (.slice A' m c')) w') :
    if Region.wanted o (yielded ops a.tmps) = true then Oper.wp Tryd.prog o a w K Q else E := by
  have hw : Region.wanted o (yielded ops a.tmps) = true := by simp [Region.wanted, hgd]
  rw [if_pos hw]
  obtain ⟨i, hi, hz, hi1, hi2⟩ := info_parts byte_info
  have hcells : ∀ j u, (vbs k)[j]? = some u → w.cell? ((⟨b, 0, none⟩ : Addr).add j) = some u := by
    intro j u hu
    obtain ⟨x, hx, rfl⟩ := vbs_get hu
    obtain ⟨b', off, e, _, hc⟩ := hr.2 hm
    injection e with e
    injection e with e1 e2
    subst e1 e2
    rw [Addr.add_lit]
    exact hc j x hx
  obtain ⟨v', w', hrun, h3, h4, _, _⟩ := run_append_own_at (P := Tryd.prog) w base 22 o.type 5 i _ 1 1 Tryd.underlying22 hi hz hi1 hi2 rfl (by omega) v 0 (vbs []) hown ⟨b, 0, none⟩ m c (vbs k)
    (by rw [vbs_length, Nat.mul_one]; exact hr.1) hcells (vbs_one k) (by unfold maxLen; omega) (by omega) hbase
  rw [Nat.zero_add, show vbs [] ++ vbs k = vbs k from rfl] at h3
  obtain ⟨A', c', rfl, _, _⟩ := Own.form (show Own w' base v' m k from h3)
  unfold Oper.wp execOp
  simp only [ho, resolve, invoke, builtin, Sem.run_bind, Sem.run_pure, Result.andThen_ok, List.map_toArray, List.map_cons, List.map_nil, hs, hx, hrun]
  exact h A' c' w' h3 h4
/-- append of a string. -/
theorem step_appStr {ops : Array Oper} {o : Oper} {a : Act} {K : Act → World → Prop} {Q : Exit → Act → World → Prop} {E : Prop} (w : World) (hgd : o.guard = none) (s x : Operand)
    (ho : o.op = .call { callee := .builtin .append, args := #[s, x], argTypes := #[22, 9] })
    (base : Nat) (v : Value) (n : Nat) (l : List UInt8) (hs : a.eval s = v) (hown : Own w base v n l) (k : List UInt8) (hx : a.eval x = .string (str k)) (hsz : n + k.length ≤ 1000000000) (hbase : base ≤ w.heap.size)
    (N : Nat) (hN : n + k.length = N)
    (h : ∀ A' c' w', Own w' base (.slice A' N c') N (l ++ k) → Below base w w' → K (a.put o.dst (.slice A' N c')) w') :
    if Region.wanted o (yielded ops a.tmps) = true then Oper.wp Tryd.prog o a w K Q else E := by
  have hw : Region.wanted o (yielded ops a.tmps) = true := by simp [Region.wanted, hgd]
  rw [if_pos hw]
  subst hN
  obtain ⟨i, hi, hz, hi1, hi2⟩ := info_parts byte_info
  obtain ⟨v', w', hrun, h3, h4, _⟩ := Lib.run_append_own_string (P := Tryd.prog) w base 22 9 o.type 5 i Tryd.underlying22 Tryd.underlying9 hi hz hi1 hi2 v n (vbs l) hown (str k)
    (by rw [str_size]; unfold maxLen; omega) (by rw [str_size]; omega) hbase
  rw [str_size, str_cells, ← vbs_append] at h3
  have h3 : Own w' base v' (n + k.length) (l ++ k) := h3
  obtain ⟨A', c', rfl, _, _⟩ := h3.form
  unfold Oper.wp execOp
  simp only [ho, resolve, invoke, builtin, Sem.run_bind, Sem.run_pure, Result.andThen_ok, List.map_toArray, List.map_cons, List.map_nil, hs, hx, hrun]
  exact h A' c' w' h3 ((Below.refl _ _).grown h4 hbase (Own.base_le hown))
/-- A row of another block. -/
theorem Own.aside {w w' : World} {lo g g' n c : Nat} {l : List UInt8} (h : Own w lo (.slice (some ⟨g, 0, none⟩) n c) n l) (hg : w.grownBy w' (some g')) (hne : g ≠ g') : Own w' lo (.slice (some ⟨g, 0, none⟩) n c) n l := by
  refine ⟨h.1, ?_⟩
  rcases h.2 with h2 | ⟨b, cap, cur, e, hb, hh, r⟩
  · exact .inl h2
  · refine .inr ⟨b, cap, cur, e, hb, ?_, r⟩
    injection e with e1
    injection e1 with e1
    injection e1 with e1
    subst e1
    exact (hg.block g (Array.getElem?_eq_some_iff.1 hh).1 fun e => by injection e with e; exact hne e).trans hh
theorem row_below {w w' : World} {lo : Nat} {v : Value} {n : Nat} {vs : List Value} (h : w.ownsRow lo 22 1 v n vs) (hb : Below w.heap.size w w') : w'.ownsRow lo 22 1 v n vs :=
  ownsRow_keepB h fun k _ _ _ e => (hb.block k (Array.getElem?_eq_some_iff.1 e).1).trans e
theorem rows_empty (w : World) (base : Nat) (hb : base ≤ w.heap.size) : (w.alloc (.cells #[] 22)).ownsRow base 22 1 (.slice (some ⟨w.heap.size, 0, none⟩) 0 0) 0 [] :=
  World.ownsRow_made _ _ _ hb (by decide) rfl
/-- A row of slices reads as these bytes. -/
theorem rv_of_row {w : World} {lo : Nat} {A : Option Addr} {n c : Nat} {vs : List Value} {bs : List (List UInt8)} (h : w.ownsRow lo 22 1 (.slice A n c) n vs) (hn : bs.length = n)
    (h2 : ∀ (i : Nat) (l : List UInt8), bs[i]? = some l → ∃ A' c', vs[i]? = some (Value.slice A' l.length c') ∧ l.length ≤ c' ∧ c' ≤ 9223372036854775807 ∧ Bs w w.heap.size A' l.length l) : Rv w A n bs := by
  refine ⟨hn, fun i l hl => ?_⟩
  obtain ⟨A', c', k1, k2⟩ := h2 i l hl
  rcases h.2 with ⟨_, e⟩ | ⟨g, cap, cur, e, _, hh, _⟩
  · have := (List.getElem?_eq_some_iff.1 hl).1
    omega
  · injection e with e1 e2 e3
    subst e1 e3
    have hc := World.ownsRow.cells (g := g) h rfl i _ k1
    rw [Addr.add_lit] at hc
    exact ⟨g, 0, A', c', rfl, (Array.getElem?_eq_some_iff.1 hh).1, hc, k2⟩
theorem row_form {w : World} {base : Nat} {v : Value} {n : Nat} {xs : List Value} (h : w.ownsRow base 22 1 v n xs) : ∃ A c, v = .slice A n c := by
  rcases h.2 with ⟨rfl, rfl⟩ | ⟨g, cap, cur, rfl, _⟩
  · exact ⟨none, 0, rfl⟩
  · exact ⟨_, _, rfl⟩
theorem long_rv {wl W : World} {lo B L c6 : Nat} {A4 A6 : Option Addr} {Zb bL : List UInt8} {vs : List Value} (h2 : ∀ (i : Nat) (l : List UInt8), (bodies Zb 52)[i]? = some l → ∃ A c, vs[i]? = some (Value.slice A l.length c) ∧ Own wl lo (.slice A l.length c) l.length l) (hvs : vs.length = 52)
    (hk : Below wl.heap.size wl W) (o4 : Own W B (.slice A4 L L) L bL) (f6 : W.ownsRow B 22 1 (.slice A6 53 c6) 53 (vs ++ [.slice A4 L L])) : Rv W A6 53 (bodies Zb 52 ++ [bL]) := by
  have hb : (bodies Zb 52).length = 52 := by rw [bodies, List.length_replicate]
  have hbL := o4.len
  refine rv_of_row f6 (by rw [List.length_append, hb]; rfl) fun i l hl => ?_
  rcases Nat.lt_or_ge i 52 with hi | hi
  · rw [List.getElem?_append_left (by omega)] at hl
    obtain ⟨A, c, k1, k2⟩ := h2 i l hl
    obtain ⟨k3, k4, k5⟩ := k2.view
    exact ⟨A, c, by rw [List.getElem?_append_left (by omega)]; exact k1, k3, k4, (k5.below hk).more hk.size⟩
  · rw [List.getElem?_append_right (by omega), hb] at hl
    have hi2 : i - 52 = 0 := by
      have := (List.getElem?_eq_some_iff.1 hl).1
      simp at this
      omega
    rw [hi2] at hl
    simp at hl
    subst hl
    obtain ⟨k3, k4, k5⟩ := o4.view
    refine ⟨A4, L, ?_, by omega, k4, by rw [hbL]; exact k5⟩
    rw [List.getElem?_append_right (by omega), hvs, hi2, hbL]
    rfl
end Go.Proofs.YtknnncdmpfmgkaaDoor
