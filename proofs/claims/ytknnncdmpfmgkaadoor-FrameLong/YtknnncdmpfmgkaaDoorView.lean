/-
  Rows of rows of bytes, and rows of strings, that are read. No condition.
-/
import Derived.Test.YtknnncdmpfmgkaaDoorSnoc
namespace Go.Proofs.YtknnncdmpfmgkaaDoor
open Go.RowKit

/-- The slice value '.slice A n c' reads as the rows bs. -/
def Rv (w : World) (A : Option Addr) (n : Nat) (bs : List (List UInt8)) : Prop :=
  bs.length = n ∧ ∀ i l, bs[i]? = some l → ∃ b off A' c', A = some ⟨b, off, none⟩ ∧ b < w.heap.size ∧ w.cell? ⟨b, off + i, none⟩ = some (.slice A' l.length c') ∧ l.length ≤ c' ∧ c' ≤ 9223372036854775807 ∧ Bs w w.heap.size A' l.length l
/-- The slice value '.slice A n c' reads as the strings ss. -/
def Sv (w : World) (A : Option Addr) (n : Nat) (ss : List (List UInt8)) : Prop :=
  ss.length = n ∧ ∀ i l, ss[i]? = some l → ∃ b off, A = some ⟨b, off, none⟩ ∧ b < w.heap.size ∧ w.cell? ⟨b, off + i, none⟩ = some (.string (str l))
def vss (ss : List (List UInt8)) : List Value := ss.map fun s => .string (str s)
/-- A row of strings of the call's own. -/
def Strs (w : World) (lo : Nat) (v : Value) (ss : List (List UInt8)) : Prop := w.ownsRow lo 9 1 v ss.length (vss ss)

section
variable {w w' : World} {A : Option Addr} {n : Nat} {bs : List (List UInt8)}
theorem Rv.below (h : Rv w A n bs) (hb : Below w.heap.size w w') : Rv w' A n bs := by
  refine ⟨h.1, fun i l hl => ?_⟩
  obtain ⟨b, off, A', c', h1, h2, h3, h4, h5, h6⟩ := h.2 i l hl
  exact ⟨b, off, A', c', h1, by have := hb.size; omega, (hb.cell (p := ⟨b, off + i, none⟩) h2).trans h3, h4, h5, (h6.below hb).more hb.size⟩
theorem Rv.drew (h : Rv w A n bs) : Rv w.drew A n bs := h
theorem Sv.below (h : Sv w A n bs) (hb : Below w.heap.size w w') : Sv w' A n bs := by
  refine ⟨h.1, fun i l hl => ?_⟩
  obtain ⟨b, off, h1, h2, h3⟩ := h.2 i l hl
  exact ⟨b, off, h1, by have := hb.size; omega, (hb.cell (p := ⟨b, off + i, none⟩) h2).trans h3⟩
theorem Rv.take (h : Rv w A n bs) {k : Nat} (hk : k ≤ n) : Rv w A k (bs.take k) := by
  refine ⟨by rw [List.length_take, h.1]; omega, fun i l hl => h.2 i l ?_⟩
  rw [List.getElem?_take] at hl
  split at hl
  · exact hl
  · cases hl
theorem Sv.take (h : Sv w A n bs) {k : Nat} (hk : k ≤ n) : Sv w A k (bs.take k) := by
  refine ⟨by rw [List.length_take, h.1]; omega, fun i l hl => h.2 i l ?_⟩
  rw [List.getElem?_take] at hl
  split at hl
  · exact hl
  · cases hl
theorem Rv.at_ (h : Rv w A n bs) {i : Nat} (hi : i < n) : ∃ l b off A' c', bs[i]? = some l ∧ A = some ⟨b, off, none⟩ ∧ b < w.heap.size ∧ w.cell? ⟨b, off + i, none⟩ = some (.slice A' l.length c') ∧ l.length ≤ c' ∧ c' ≤ 9223372036854775807 ∧ Bs w w.heap.size A' l.length l := by
  have hl : i < bs.length := by rw [h.1]; exact hi
  obtain ⟨b, off, A', c', r⟩ := h.2 i bs[i] (List.getElem?_eq_getElem hl)
  exact ⟨bs[i], b, off, A', c', List.getElem?_eq_getElem hl, r⟩
theorem Sv.at_ (h : Sv w A n bs) {i : Nat} (hi : i < n) : ∃ l b off, bs[i]? = some l ∧ A = some ⟨b, off, none⟩ ∧ b < w.heap.size ∧ w.cell? ⟨b, off + i, none⟩ = some (.string (str l)) := by
  have hl : i < bs.length := by rw [h.1]; exact hi
  obtain ⟨b, off, r⟩ := h.2 i bs[i] (List.getElem?_eq_getElem hl)
  exact ⟨bs[i], b, off, List.getElem?_eq_getElem hl, r⟩
theorem Own.view {lo : Nat} {A' : Option Addr} {c' n : Nat} {l : List UInt8} (h : Own w lo (.slice A' n c') n l) : n ≤ c' ∧ c' ≤ 9223372036854775807 ∧ Bs w w.heap.size A' n l := by
  obtain ⟨A2, c2, e, h1, h2⟩ := h.form
  injection e with e1 e2 e3
  subst e1 e3
  refine ⟨h1, ?_, h2⟩
  rcases h.2 with ⟨e, _⟩ | ⟨g, cap, cur, e, _, _, _, hm, _⟩
  · injection e with e1 e2 e3
    omega
  · injection e with e1 e2 e3
    unfold maxLen at hm
    omega
theorem Rs.view {lo : Nat} {v : Value} (h : Rs w lo v bs) : ∃ A c, v = .slice A bs.length c ∧ bs.length ≤ c ∧ c ≤ 9223372036854775807 ∧ Rv w A bs.length bs := by
  obtain ⟨vs, h1, h2⟩ := h
  rcases h1.2 with ⟨rfl, h0⟩ | ⟨g, cap, cur, rfl, hg, hh, hnc, hm, hcs, htk⟩
  · refine ⟨none, 0, by rw [h0], by omega, by omega, rfl, fun i l hl => ?_⟩
    rw [List.eq_nil_of_length_eq_zero h0] at hl
    simp at hl
  · refine ⟨_, _, rfl, hnc, by unfold maxLen at hm; omega, rfl, fun i l hl => ?_⟩
    obtain ⟨A', c', k1, k2⟩ := h2 i l hl
    obtain ⟨k3, k4, k5⟩ := k2.view
    have hc := World.ownsRow.cells (g := g) h1 rfl i _ k1
    rw [Addr.add_lit] at hc
    exact ⟨g, 0, A', c', rfl, (Array.getElem?_eq_some_iff.1 hh).1, hc, k3, k4, k5⟩
theorem Strs.view {lo : Nat} {v : Value} (h : Strs w lo v bs) : ∃ A c, v = .slice A bs.length c ∧ bs.length ≤ c ∧ c ≤ 9223372036854775807 ∧ Sv w A bs.length bs := by
  rcases h.2 with ⟨rfl, h0⟩ | ⟨g, cap, cur, rfl, hg, hh, hnc, hm, hcs, htk⟩
  · refine ⟨none, 0, by rw [h0], by omega, by omega, rfl, fun i l hl => ?_⟩
    rw [List.eq_nil_of_length_eq_zero h0] at hl
    simp at hl
  · refine ⟨_, _, rfl, hnc, by unfold maxLen at hm; omega, rfl, fun i l hl => ?_⟩
    have hc := World.ownsRow.cells (g := g) h rfl i (.string (str l)) (by simp [vss, hl])
    rw [Addr.add_lit] at hc
    exact ⟨g, 0, rfl, (Array.getElem?_eq_some_iff.1 hh).1, hc⟩
theorem Strs.below {lo : Nat} {v : Value} (h : Strs w lo v bs) (hb : Below w.heap.size w w') : Strs w' lo v bs := by
  refine ⟨h.1, ?_⟩
  rcases h.2 with h2 | ⟨g, cap, cur, hv, hg, hh, r⟩
  · exact .inl h2
  · exact .inr ⟨g, cap, cur, hv, hg, (hb.block g (Array.getElem?_eq_some_iff.1 hh).1).trans hh, r⟩
theorem Strs.down {lo lo' : Nat} {v : Value} (h : Strs w lo v bs) (hl : lo' ≤ lo) : Strs w lo' v bs := by
  refine ⟨h.1, ?_⟩
  rcases h.2 with h2 | ⟨g, cap, cur, hv, hg, hh, r⟩
  · exact .inl h2
  · exact .inr ⟨g, cap, cur, hv, by omega, hh, r⟩
theorem Strs.nil (w : World) (lo : Nat) : Strs w lo (.slice none 0 0) [] := World.ownsRow_nil _ _ _ _
end
theorem size22 : (Tryd.prog.info? 22).map (·.size) = some 1 := by kernel_rfl
theorem size9 : (Tryd.prog.info? 9).map (·.size) = some 1 := by kernel_rfl
theorem index24 (w : World) (b off n c i : Nat) (h : i < n) : (Instr.indexAt 24 (.slice (some ⟨b, off, none⟩) n c) (.int .i64 (i : Int))).run Tryd.prog w = .ok (.pointer (some ⟨b, off + i, none⟩)) w := by
  cases hq : Tryd.prog.info? 22 with
  | none => have := size22; simp [hq] at this
  | some k =>
    have h1 : k.size = 1 := by have := size22; simpa [hq] using this
    simp [Instr.indexAt, asIntOf, run_underlying Tryd.underlying24, sizeOf, typeInfo, hq, h1, h, Addr.add_lit]
theorem index28 (w : World) (b off n c i : Nat) (h : i < n) : (Instr.indexAt 28 (.slice (some ⟨b, off, none⟩) n c) (.int .i64 (i : Int))).run Tryd.prog w = .ok (.pointer (some ⟨b, off + i, none⟩)) w := by
  cases hq : Tryd.prog.info? 9 with
  | none => have := size9; simp [hq] at this
  | some k =>
    have h1 : k.size = 1 := by have := size9; simpa [hq] using this
    simp [Instr.indexAt, asIntOf, run_underlying Tryd.underlying28, sizeOf, typeInfo, hq, h1, h, Addr.add_lit]
end Go.Proofs.YtknnncdmpfmgkaaDoor
