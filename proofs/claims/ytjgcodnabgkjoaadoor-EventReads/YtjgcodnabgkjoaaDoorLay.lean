/-
  From the rows' premise on the table of kinds to its cells; a world that holds it; events that came in. No condition.
-/
import Derived.Test.YtjgcodnabgkjoaaDoorRight
import Derived.Test.YtjgcodnabgkjoaaDoorFits
import Derived.Lib.LaidTab
import Derived.LaidSub
import Derived.OpenShut
import Derived.WideShapes
namespace Go.Proofs.YtjgcodnabgkjoaaDoor
open Go.RowKit Go.WideShapes Go.ChangeShapes

theorem gTab : Tryd.prog.globalNamed "transept/event.kinds" = some 0 := by kernel_rfl
theorem gTabType : (Tryd.prog.globals[0]?).map (·.type) = some 48 := by kernel_rfl
theorem cells47 : Tryd.prog.cellsOf 47 = 5 := by kernel_rfl
theorem cells48 : Tryd.prog.cellsOf 48 = 75 := by kernel_rfl
theorem cells45 : Tryd.prog.cellsOf 45 = 3 := by kernel_rfl
theorem cells3 : Tryd.prog.cellsOf 3 = 1 := by kernel_rfl
theorem cells4 : Tryd.prog.cellsOf 4 = 1 := by kernel_rfl
theorem cells9 : Tryd.prog.cellsOf 9 = 1 := by kernel_rfl
theorem cells22 : Tryd.prog.cellsOf 22 = 1 := by kernel_rfl
theorem cells24 : Tryd.prog.cellsOf 24 = 10 := by kernel_rfl
/-- A row of the table, as data. -/
def havD {H : Type} (h : Hav) : DataW H := .agg [.lit (.bool h.fetch), .lit (.int .i64 (h.texts : Int)), Lib.tabData .i64 (h.bl.map fun (b : Nat) => (b : Int))]
theorem laid_rows {H : Type} : (Rows.laid_transept_event_kinds : DataW H) = .agg ((List.range 15).map fun k => havD (hav k)) := rfl

section
variable {H : Type} {enc : TypeId × Value → H} {w : World} {base : Nat} {sp : Nat → Bool} {held : Bool} {fuel : Nat} {p : List MemPlace}
theorem take_one {cs : List Value} {i : Nat} {v : Value} (h : (cs.drop i).take 1 = [v]) : cs[i]? = some v := by
  have := congrArg (·[0]?) h
  simpa [List.getElem?_take, List.getElem?_drop] using this
set_option maxRecDepth 100000 in
theorem row_of (h : Hav) (cs : List Value) (_hk : HavOk h) (ht : DataW.trod enc Tryd.prog w base sp held fuel 47 cs = some (havD h, p)) : cs = havc h := by
  obtain ⟨xs, n, _, hx, hlen, hxl, hg⟩ := DataW.trod_struct Tryd.underlying47 ht
  rw [cells47] at hlen
  have hfst : xs.map (·.1) = [.lit (.bool h.fetch), .lit (.int .i64 (h.texts : Int)), Lib.tabData .i64 (h.bl.map fun (b : Nat) => (b : Int))] := by
    have := congrArg Prod.fst hx
    simpa [havD] using this.symm
  match xs, hfst with
  | [x0, x1, x2], hfst =>
    simp only [List.map_cons, List.map_nil, List.cons.injEq, and_true] at hfst
    obtain ⟨e0, e1, e2⟩ := hfst
    have g0 := hg 0 _ rfl
    have g1 := hg 1 _ rfl
    have g2 := hg 2 _ rfl
    change DataW.trod enc Tryd.prog w base sp held n 4 ((cs.drop 0).take (Tryd.prog.cellsOf 4)) = some x0 at g0
    change DataW.trod enc Tryd.prog w base sp held n 3 ((cs.drop 1).take (Tryd.prog.cellsOf 3)) = some x1 at g1
    change DataW.trod enc Tryd.prog w base sp held n 45 ((cs.drop 2).take (Tryd.prog.cellsOf 45)) = some x2 at g2
    rw [cells4] at g0
    rw [cells3] at g1
    rw [cells45] at g2
    obtain ⟨b, hb, hb2⟩ := DataW.trod_bool Tryd.underlying4 g0
    obtain ⟨m, hm, hm2, _⟩ := DataW.trod_int Tryd.underlying3 g1
    obtain ⟨x2a, x2b⟩ := x2
    simp only at e2
    subst e2
    have hc := Lib.cells_of_tab Tryd.underlying45 Tryd.underlying3 cells3 cells45 g2
    rw [hb2] at e0
    rw [hm2] at e1
    simp only [DataW.lit.injEq, Lit.bool.injEq, Lit.int.injEq, true_and] at e0 e1
    subst e0 e1
    match cs, hlen with
    | [c0, c1, c2, c3, c4], _ =>
      simp only [List.drop_zero, List.take_succ_cons, List.take_zero, List.drop_succ_cons, List.cons.injEq, and_true] at hb hm hc
      subst hb hm
      rw [hc]
      simp [havc]
theorem rows_of (cs : List Value) (ht : DataW.trod enc Tryd.prog w base sp held fuel 48 cs = some (Rows.laid_transept_event_kinds, p)) : ∀ k, k < 15 → (cs.drop (k * 5)).take 5 = havc (hav k) := by
  intro k hk
  obtain ⟨xs, n, _, hx, hlen, hxl, hg⟩ := DataW.trod_array Tryd.underlying48 ht
  have hfst : xs.map (·.1) = (List.range 15).map fun k => havD (hav k) := by
    have := congrArg Prod.fst hx
    rw [laid_rows] at this
    simpa using this.symm
  have g := hg k hk
  rw [cells47] at g
  have hxk : xs[k]? = some xs[k] := List.getElem?_eq_getElem (by omega)
  have h1 : (xs[k]).1 = havD (hav k) := by
    have := congrArg (·[k]?) hfst
    simpa [hxk, hk] using this
  rw [hxk] at g
  refine row_of (p := (xs[k]).2) (hav k) _ (hav_ok k) (g.trans ?_)
  rw [← h1]
end
def laidOne : List (String × DataW Unit) := [("transept/event.kinds", Rows.laid_transept_event_kinds)]
theorem tab_of {W : World} (h : laidMetH Tryd.prog laidOne W) : Tab W := by
  obtain ⟨ps, ⟨g', t', cs, fuel, p, q, hg', ht', hvar, hd, _, _⟩, _⟩ := h
  obtain rfl := Option.some.inj (gTab.symm.trans hg')
  obtain rfl := Option.some.inj (gTabType.symm.trans ht')
  have hrow := rows_of _ hd
  have hcell := World.var?_cell gTab hvar
  have hR : W.rangeAt 0 0 tabc := by
    intro j v hv
    have hj : j < 75 := by
      have h1 := (List.getElem?_eq_some_iff.1 hv).1
      have h2 : tabc.length = 75 := rfl
      omega
    have hk : j / 5 < 15 := by omega
    have hm : j % 5 < 5 := by omega
    have e1 := tab_row (j / 5) hk (j % 5) hm
    rw [show j / 5 * 5 + j % 5 = j by omega, hv, ← hrow (j / 5) hk] at e1
    rw [Nat.zero_add, hcell j]
    rw [List.getElem?_take_of_lt hm, List.getElem?_drop, show j / 5 * 5 + j % 5 = j by omega] at e1
    simpa using e1
  exact ⟨World.block_lt_of_cell? W ⟨0, 0 + 0, none⟩ (hR 0 (.bool false) rfl), hR⟩
/-- A world that holds the table. -/
noncomputable def laidWorld (os : Os) : World :=
  { World.holding Tryd.prog os ⟨#[], #[], []⟩ with heap := (World.holding Tryd.prog os ⟨#[], #[], []⟩).heap.modify 0 fun
      | .cells _ t frozen => .cells tabc.toArray t frozen
      | o => o }

theorem str_data (s : ByteArray) : str s.data.toList = s := by
  obtain ⟨d⟩ := s
  simp [str]
theorem wf_u64 {n : Int} (h : (Lit.int .u64 n).wf = true) : 0 ≤ n ∧ n < 18446744073709551616 := by
  simp [Lit.wf, IntKind.min, IntKind.max, IntKind.signed, IntKind.bits] at h
  omega
set_option maxRecDepth 100000 in
/-- An event that came in. -/
theorem open_ev {H : Type} {enc : TypeId × Value → H} {W : World} {r : Reach} {b0 base : Nat} {sp : Nat → Bool} {held : Bool} {v : Value} {d : DataW H} {p : List MemPlace}
    (hv : Value.okWide Tryd.prog W r b0 24 v) (h : DataW.Trod enc Tryd.prog W base sp held 24 v d p) :
    ∃ e, EvOk e ∧ Small e ∧ (∀ t ∈ e.ts, t.length ≤ 9223372036854775807) ∧ v = .agg (evc e).toArray := by
  obtain ⟨cs, rfl, hsz⟩ := okWide_struct Tryd.underlying24 hv
  obtain ⟨fuel, hf⟩ := h
  obtain ⟨xs, n, _, _, _, hxl, hg⟩ := DataW.trod_struct Tryd.underlying24 hf
  rw [cells24] at hsz
  have some_of : ∀ i, i < 10 → ∃ x, xs[i]? = some x := fun i hi => ⟨_, List.getElem?_eq_getElem (by rw [hxl]; exact hi)⟩
  obtain ⟨l⟩ := cs
  have hl : l.length = 10 := by simpa using hsz
  have int_at : ∀ i k t, i < 10 → Tryd.prog.underlying t = some (.int k) → (∀ x, xs[i]? = some x → DataW.trod enc Tryd.prog W base sp held n t ((l.drop i).take 1) = some x) → ∃ z, l[i]? = some (.int k z) ∧ (Lit.int k z).wf = true := by
    intro i k t hi ht hh
    obtain ⟨x, hx⟩ := some_of i hi
    obtain ⟨z, hz, _, hw⟩ := DataW.trod_int ht (hh x hx)
    exact ⟨z, take_one hz, hw⟩
  have str_at : ∀ i, i < 10 → (∀ x, xs[i]? = some x → DataW.trod enc Tryd.prog W base sp held n 9 ((l.drop i).take 1) = some x) → ∃ t : List UInt8, l[i]? = some (.string (str t)) ∧ t.length ≤ 9223372036854775807 := by
    intro i hi hh
    obtain ⟨x, hx⟩ := some_of i hi
    obtain ⟨s, hs, _, hm⟩ := DataW.trod_string Tryd.underlying9 (hh x hx)
    refine ⟨s.data.toList, by rw [str_data]; exact take_one hs, ?_⟩
    unfold maxLen at hm
    have : s.data.toList.length = s.size := Array.length_toList
    omega
  obtain ⟨k, hk, _⟩ := int_at 0 .i64 3 (by omega) Tryd.underlying3 (fun x hx => by have h1 := hg 0 _ rfl; rw [hx] at h1; change DataW.trod enc Tryd.prog W base sp held n 3 ((l.drop 0).take (Tryd.prog.cellsOf 3)) = some x at h1; rw [cells3] at h1; exact h1)
  obtain ⟨tm, htm, wt⟩ := int_at 1 .u64 22 (by omega) Tryd.underlying22 (fun x hx => by have h1 := hg 1 _ rfl; rw [hx] at h1; change DataW.trod enc Tryd.prog W base sp held n 22 ((l.drop 1).take (Tryd.prog.cellsOf 22)) = some x at h1; rw [cells22] at h1; exact h1)
  obtain ⟨i, hi, wi⟩ := int_at 2 .u64 22 (by omega) Tryd.underlying22 (fun x hx => by have h1 := hg 2 _ rfl; rw [hx] at h1; change DataW.trod enc Tryd.prog W base sp held n 22 ((l.drop 2).take (Tryd.prog.cellsOf 22)) = some x at h1; rw [cells22] at h1; exact h1)
  obtain ⟨a, ha, la⟩ := str_at 3 (by omega) (fun x hx => by have h1 := hg 3 _ rfl; rw [hx] at h1; change DataW.trod enc Tryd.prog W base sp held n 9 ((l.drop 3).take (Tryd.prog.cellsOf 9)) = some x at h1; rw [cells9] at h1; exact h1)
  obtain ⟨b, hb, lb⟩ := str_at 4 (by omega) (fun x hx => by have h1 := hg 4 _ rfl; rw [hx] at h1; change DataW.trod enc Tryd.prog W base sp held n 9 ((l.drop 4).take (Tryd.prog.cellsOf 9)) = some x at h1; rw [cells9] at h1; exact h1)
  obtain ⟨c, hc, lc⟩ := str_at 5 (by omega) (fun x hx => by have h1 := hg 5 _ rfl; rw [hx] at h1; change DataW.trod enc Tryd.prog W base sp held n 9 ((l.drop 5).take (Tryd.prog.cellsOf 9)) = some x at h1; rw [cells9] at h1; exact h1)
  obtain ⟨d', hd, ld⟩ := str_at 6 (by omega) (fun x hx => by have h1 := hg 6 _ rfl; rw [hx] at h1; change DataW.trod enc Tryd.prog W base sp held n 9 ((l.drop 6).take (Tryd.prog.cellsOf 9)) = some x at h1; rw [cells9] at h1; exact h1)
  obtain ⟨x, hx, _⟩ := int_at 7 .i64 3 (by omega) Tryd.underlying3 (fun x hx => by have h1 := hg 7 _ rfl; rw [hx] at h1; change DataW.trod enc Tryd.prog W base sp held n 3 ((l.drop 7).take (Tryd.prog.cellsOf 3)) = some x at h1; rw [cells3] at h1; exact h1)
  obtain ⟨y, hy, _⟩ := int_at 8 .i64 3 (by omega) Tryd.underlying3 (fun x hx => by have h1 := hg 8 _ rfl; rw [hx] at h1; change DataW.trod enc Tryd.prog W base sp held n 3 ((l.drop 8).take (Tryd.prog.cellsOf 3)) = some x at h1; rw [cells3] at h1; exact h1)
  obtain ⟨z, hz, _⟩ := int_at 9 .i64 3 (by omega) Tryd.underlying3 (fun x hx => by have h1 := hg 9 _ rfl; rw [hx] at h1; change DataW.trod enc Tryd.prog W base sp held n 3 ((l.drop 9).take (Tryd.prog.cellsOf 3)) = some x at h1; rw [cells3] at h1; exact h1)
  have bt := wf_u64 wt
  have bi := wf_u64 wi
  obtain ⟨tm, rfl⟩ := Int.eq_ofNat_of_zero_le bt.1
  obtain ⟨i, rfl⟩ := Int.eq_ofNat_of_zero_le bi.1
  refine ⟨⟨k, tm, i, [a, b, c, d'], [x, y, z]⟩, ⟨rfl, rfl⟩, ⟨by show tm < _; omega, by show i < _; omega⟩, ?_, ?_⟩
  · intro t ht
    simp only [List.mem_cons, List.not_mem_nil, or_false] at ht
    rcases ht with rfl | rfl | rfl | rfl <;> assumption
  · match l, hl with
    | [c0, c1, c2, c3, c4, c5, c6, c7, c8, c9], _ =>
      simp only [List.getElem?_cons_zero, List.getElem?_cons_succ, Option.some.injEq] at hk htm hi ha hb hc hd hx hy hz
      subst hk htm hi ha hb hc hd hx hy hz
      rfl
end Go.Proofs.YtjgcodnabgkjoaaDoor
