/-
  append onto a row of words of the call's own leaves the words that were there where they were. No condition.
-/
import Derived.Test.YtiigmpoopmnnhaaDoorWrd
namespace Go.Proofs.YtiigmpoopmnnhaaDoor
open Go.RowKit

theorem app_keepU (w w' : World) (base : Nat) (ty : TypeId) (g off n cap : Nat) (l : List Nat) (hown : OwnU w base (.slice (some ⟨g, off, none⟩) n cap) n l) (v' : Value)
    (B : Nat) (A : Option Addr) (m c : Nat) (k : List Nat) (hr : Us w B A m k) (hm : 0 < m) (hs : n + m ≤ 1000000000) (hrun : (Builtin.append_ #[50, 50] ty #[.slice (some ⟨g, off, none⟩) n cap, .slice A m c]).run Tryd.prog w = .ok v' w') :
    ∀ j, j < n → w'.cell? ⟨g, off + j, none⟩ = w.cell? ⟨g, off + j, none⟩ := by
  obtain ⟨i, hi, hz, h1, h2⟩ := info_parts rowsUinfo
  obtain ⟨b, o', rfl, _, hc⟩ := hr.2 hm
  have hcells : ∀ j u, (vws k)[j]? = some u → w.cell? ((⟨b, o', none⟩ : Addr).add j) = some u := by
    intro j u hu
    simp only [vws, List.getElem?_map, Option.map_eq_some_iff] at hu
    obtain ⟨x, hx, rfl⟩ := hu
    rw [Addr.add_lit]
    exact hc j x hx
  have hkl : (vws k).length = m * i.size := by rw [h1, Us_len, Nat.mul_one]; exact hr.1
  intro j hj
  rcases hown.2 with ⟨e, _⟩ | ⟨g', cap', cur, e, _, hg, hnc, hcm, hcs, htake⟩
  · cases e
  · injection e with e1 e2 e3
    injection e1 with e1
    injection e1 with e1 e4 e5
    subst e1 e3 e4
    rw [Nat.zero_add]
    by_cases hroom : n + m ≤ cap
    · have hr2 := run_append_room (P := Tryd.prog) w 50 ty 33 i Tryd.underlying50 hi g n cap cur hg ⟨b, o', none⟩ m c (vws k) hkl hcells (Us_one k) hroom (by rw [hkl, hcs, h1]; omega)
      rw [hr2] at hrun
      injection hrun with _ hw
      rw [← hw, Go.cell_of_row _ _ _ _ _ _ (setRow_heap w g cur _ 33 _ hg), Go.cell_of_row _ _ _ _ _ _ hg]
      have hlt : j < cur.size := by rw [hcs]; omega
      simp only [List.getElem?_toArray, h1, Nat.mul_one]
      rw [List.append_assoc, List.getElem?_append_left (by simp; omega), List.getElem?_take_of_lt hj]
      simp
    · have hold : ∀ j u, (vws l)[j]? = some u → w.cell? ((⟨g, 0, none⟩ : Addr).add j) = some u := World.ownsRow.cells (g := g) hown rfl
      have hr2 := run_append_grow (P := Tryd.prog) w 50 ty 33 i _ Tryd.underlying50 hi hz ⟨g, 0, none⟩ n cap (vws l) (by rw [h1]; exact hown.1) hold ⟨b, o', none⟩ m c (vws k) hkl hcells (by omega) (by omega)
        (by rw [h2]; exact growslice_fits (by omega) (by omega))
      rw [hr2] at hrun
      injection hrun with _ hw
      rw [← hw]
      exact World.cell?_alloc_lt _ _ _ (Array.getElem?_eq_some_iff.1 hg).1
/-- append inside a region that draws its order, with what stays. -/
theorem step_appUK {ops : Array Oper} {o : Oper} {a : Act} {K : Act → World → Prop} {Q : Exit → Act → World → Prop} {E : Prop} (w : World) (hgd : o.guard = none) (s x : Operand)
    (ho : o.op = .call { callee := .builtin .append, args := #[s, x], argTypes := #[50, 50] })
    (base g off n cap : Nat) (l : List Nat) (hs : a.eval s = .slice (some ⟨g, off, none⟩) n cap) (hown : OwnU w base (.slice (some ⟨g, off, none⟩) n cap) n l)
    (B : Nat) (A : Option Addr) (m c : Nat) (k : List Nat) (hx : a.eval x = .slice A m c) (hr : Us w B A m k) (hm : 0 < m) (hsz : n + m ≤ 1000000000) (hbase : base ≤ w.heap.size)
    (N : Nat) (L : List Nat) (hN : n + m = N) (hL : l ++ k = L)
    (h : ∀ A' c' w', N ≤ c' → Us w' w'.heap.size A' N L → OwnU w' base (.slice A' N c') N L → Below base w w' → (∀ j, j < n → w'.cell? ⟨g, off + j, none⟩ = w.cell? ⟨g, off + j, none⟩) → K (a.put o.dst (.slice A' N c')) w') :
    if Region.wanted o (yielded ops a.tmps) = true then Oper.wp Tryd.prog o a w K Q else E := by
  have hw : Region.wanted o (yielded ops a.tmps) = true := by simp [Region.wanted, hgd]
  rw [if_pos hw]
  subst hN hL
  obtain ⟨v', w', hrun, h2, h3⟩ := run_appU w base o.type _ n l hown B A m c k hr hsz hbase
  have hk := app_keepU w w' base o.type g off n cap l hown v' B A m c k hr hm hsz hrun
  obtain ⟨A', c', rfl, h4, h5⟩ := h2.form
  unfold Oper.wp execOp
  simp only [ho, resolve, invoke, builtin, Sem.run_bind, Sem.run_pure, Result.andThen_ok, List.map_toArray, List.map_cons, List.map_nil, hs, hx, hrun]
  exact h A' c' w' h4 h5 h2 h3 hk
end Go.Proofs.YtiigmpoopmnnhaaDoor
