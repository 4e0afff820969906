/-
  Rows of rows of bytes, of the call's own: what keeps them. No condition.
-/
import Derived.Test.YtknnncdmpfmgkaaDoorIter
namespace Go.Proofs.YtknnncdmpfmgkaaDoor
open Go.RowKit

theorem Own.keepB {w w' : World} {lo : Nat} {v : Value} {n : Nat} {l : List UInt8} (h : Own w lo v n l)
    (hk : ∀ k cs fr, lo ≤ k → w.heap[k]? = some (.cells cs 5 fr) → w'.heap[k]? = some (.cells cs 5 fr)) : Own w' lo v n l := by
  refine ⟨h.1, ?_⟩
  rcases h.2 with h2 | ⟨g, cap, cur, hv, hg, hh, r⟩
  · exact .inl h2
  · exact .inr ⟨g, cap, cur, hv, hg, hk g cur _ hg hh, r⟩
theorem ownsRow_keepB {w w' : World} {lo : Nat} {e : TypeId} {v : Value} {n : Nat} {vs : List Value} (h : w.ownsRow lo e 1 v n vs)
    (hk : ∀ k cs fr, lo ≤ k → w.heap[k]? = some (.cells cs e fr) → w'.heap[k]? = some (.cells cs e fr)) : w'.ownsRow lo e 1 v n vs := by
  refine ⟨h.1, ?_⟩
  rcases h.2 with h2 | ⟨g, cap, cur, hv, hg, hh, r⟩
  · exact .inl h2
  · exact .inr ⟨g, cap, cur, hv, hg, hk g cur _ hg hh, r⟩

/-- A row of rows of bytes: the bodies bs, all of it in blocks from lo on. -/
def Rs (w : World) (lo : Nat) (v : Value) (bs : List (List UInt8)) : Prop :=
  ∃ vs : List Value, w.ownsRow lo 22 1 v bs.length vs ∧ ∀ (i : Nat) (l : List UInt8), bs[i]? = some l → ∃ A c, vs[i]? = some (Value.slice A l.length c) ∧ Own w lo (.slice A l.length c) l.length l

section
variable {w w' : World} {lo : Nat} {v : Value} {bs : List (List UInt8)}
theorem Rs.keep (h : Rs w lo v bs) (hk : ∀ k cs t fr, lo ≤ k → t = 22 ∨ t = 5 → w.heap[k]? = some (.cells cs t fr) → w'.heap[k]? = some (.cells cs t fr)) : Rs w' lo v bs := by
  obtain ⟨vs, h1, h2⟩ := h
  refine ⟨vs, ownsRow_keepB h1 fun k cs fr hlo => hk k cs 22 fr hlo (.inl rfl), fun i l hl => ?_⟩
  obtain ⟨A, c, h3, h4⟩ := h2 i l hl
  exact ⟨A, c, h3, h4.keepB fun k cs fr hlo => hk k cs 5 fr hlo (.inr rfl)⟩
theorem Rs.below (h : Rs w lo v bs) (hb : Below w.heap.size w w') : Rs w' lo v bs :=
  h.keep fun k _ _ _ _ _ e => (hb.block k (Array.getElem?_eq_some_iff.1 e).1).trans e
theorem Rs.nil (w : World) (lo : Nat) : Rs w lo (.slice none 0 0) [] := ⟨[], World.ownsRow_nil _ _ _ _, fun i l h => by simp at h⟩
theorem Rs.down (h : Rs w lo v bs) {lo' : Nat} (hl : lo' ≤ lo) : Rs w lo' v bs := by
  obtain ⟨vs, h1, h2⟩ := h
  refine ⟨vs, ⟨h1.1, ?_⟩, fun i l hl' => ?_⟩
  · rcases h1.2 with h3 | ⟨g, cap, cur, hv, hg, r⟩
    · exact .inl h3
    · exact .inr ⟨g, cap, cur, hv, by omega, r⟩
  · obtain ⟨A, c, h3, h4⟩ := h2 i l hl'
    exact ⟨A, c, h3, h4.down hl⟩
/-- One body more. -/
theorem Rs.snoc {v' : Value} {A : Option Addr} {c : Nat} {l : List UInt8} {vs : List Value} (h2 : ∀ (i : Nat) (l : List UInt8), bs[i]? = some l → ∃ A c, vs[i]? = some (Value.slice A l.length c) ∧ Own w lo (.slice A l.length c) l.length l) (hvs : vs.length = bs.length)
    (ho : w'.ownsRow lo 22 1 v' (bs.length + 1) (vs ++ [.slice A l.length c])) (hl : Own w' lo (.slice A l.length c) l.length l)
    (hk : ∀ k cs fr, lo ≤ k → w.heap[k]? = some (.cells cs 5 fr) → w'.heap[k]? = some (.cells cs 5 fr)) : Rs w' lo v' (bs ++ [l]) := by
  refine ⟨_, by rw [List.length_append]; exact ho, fun i l' hl' => ?_⟩
  rcases Nat.lt_or_ge i bs.length with hi | hi
  · rw [List.getElem?_append_left hi] at hl'
    obtain ⟨A', c', h3, h4⟩ := h2 i l' hl'
    exact ⟨A', c', by rw [List.getElem?_append_left (by omega)]; exact h3, h4.keepB hk⟩
  · rw [List.getElem?_append_right hi] at hl'
    obtain ⟨h5, h6⟩ : i - bs.length = 0 ∧ l = l' := by
      cases hx : i - bs.length with
      | zero => rw [hx] at hl'; simp at hl'; exact ⟨rfl, hl'⟩
      | succ k => rw [hx] at hl'; simp at hl'
    subst h6
    refine ⟨A, c, ?_, hl⟩
    rw [List.getElem?_append_right (by omega), hvs, h5]
    rfl
theorem Rs.form (h : Rs w lo v bs) : ∃ A c, v = .slice A bs.length c := by
  obtain ⟨vs, h1, _⟩ := h
  rcases h1.2 with ⟨rfl, h0⟩ | ⟨g, cap, cur, rfl, _⟩
  · exact ⟨none, 0, by rw [h0]⟩
  · exact ⟨_, _, rfl⟩
end

/-- Everything that is cells stays. -/
def KeepsCells (W W' : World) : Prop := ∀ (k : Nat) (cs : Array Value) (t : TypeId) (fr : Nat × Nat), W.heap[k]? = some (.cells cs t fr) → W'.heap[k]? = some (.cells cs t fr)
theorem KeepsCells.of_grown {W W' : World} {row : Option Nat} (hg : W.grownBy W' row) (hr : ∀ r, row = some r → ∃ o : Obj, W.heap[r]? = some o ∧ o.isCells = false) : KeepsCells W W' := by
  intro k cs t fr e
  refine (hg.block k (Array.getElem?_eq_some_iff.1 e).1 fun e1 => ?_).trans e
  obtain ⟨o, ho, hc⟩ := hr k e1.symm
  rw [e] at ho
  cases ho
  cases hc
theorem boxed_cells {W W' : World} {B : Nat} {t : TypeId} {v : Value} (h : Boxed W B t v) (hk : KeepsCells W W') : Boxed W' B t v := hk B _ _ _ h
theorem Rs.cells {w w' : World} {lo : Nat} {v : Value} {bs : List (List UInt8)} (h : Rs w lo v bs) (hk : KeepsCells w w') : Rs w' lo v bs := h.keep fun k cs t fr _ _ e => hk k cs t fr e
/-- A store into a block of another type. -/
theorem Rs.setBox {w : World} {lo : Nat} {v : Value} {bs : List (List UInt8)} (h : Rs w lo v bs) {B : Nat} {t : TypeId} {u : Value} (hB : Boxed w B t u) (h22 : t ≠ 22) (h5 : t ≠ 5) (x : Value) : Rs (w.setCell ⟨B, 0, none⟩ x) lo v bs := by
  refine h.keep fun k cs t' fr _ ht e => ?_
  refine ((grownBy_setCell' w B x).block k (Array.getElem?_eq_some_iff.1 e).1 fun e1 => ?_).trans e
  injection e1 with e1
  subst e1
  rw [show w.heap[k]? = _ from hB] at e
  cases e
  rcases ht with h | h
  · exact h22 h
  · exact h5 h
theorem keeps57_setBox {w : World} {B : Nat} {t : TypeId} {u : Value} (hB : Boxed w B t u) (ht : t ≠ 57) (x : Value) : Keeps57 w (w.setCell ⟨B, 0, none⟩ x) := by
  intro g cs fr e
  refine ((grownBy_setCell' w B x).block g (Array.getElem?_eq_some_iff.1 e).1 fun e1 => ?_).trans e
  injection e1 with e1
  subst e1
  rw [show w.heap[g]? = _ from hB] at e
  cases e
  exact ht rfl

/-- What frame.split holds: its three variables, the bodies so far; nothing that was there has turned. -/
structure Sst (w W : World) (v : Value) (bs : List (List UInt8)) (at_ er : Nat) : Prop where
  b2 : Boxed W w.heap.size 24 v
  b3 : Boxed W (w.heap.size + 1) 3 (.int .i64 at_)
  b4 : Boxed W (w.heap.size + 1 + 1) 25 (.int .i64 er)
  rs : Rs W w.heap.size v bs
  bel : Below w.heap.size w W
section
variable {w W W' : World} {v : Value} {bs : List (List UInt8)} {at_ er : Nat}
theorem Sst.drew (h : Sst w W v bs at_ er) : Sst w W.drew v bs at_ er := ⟨h.b2, h.b3, h.b4, h.rs.keep fun _ _ _ _ _ _ e => e, h.bel.drew⟩
theorem Sst.cells (h : Sst w W v bs at_ er) (hk : KeepsCells W W') (hb : Below w.heap.size W W') : Sst w W' v bs at_ er := ⟨boxed_cells h.b2 hk, boxed_cells h.b3 hk, boxed_cells h.b4 hk, h.rs.cells hk, h.bel.trans hb⟩
theorem Sst.set2 (h : Sst w W v bs at_ er) : Sst w (W.setCell ⟨w.heap.size, 0, none⟩ v) v bs at_ er :=
  ⟨h.b2.set v, h.b3.other (by omega) _, h.b4.other (by omega) _, h.rs.setBox h.b2 (by decide) (by decide) _, h.bel.setCell (p := ⟨w.heap.size, 0, none⟩) (Nat.le_refl _) _⟩
theorem Sst.set3 (h : Sst w W v bs at_ er) (a' : Nat) : Sst w (W.setCell ⟨w.heap.size + 1, 0, none⟩ (.int .i64 a')) v bs a' er :=
  ⟨h.b2.other (by omega) _, h.b3.set _, h.b4.other (by omega) _, h.rs.setBox h.b3 (by decide) (by decide) _, h.bel.setCell (p := ⟨w.heap.size + 1, 0, none⟩) (by simp) _⟩
theorem Sst.set4 (h : Sst w W v bs at_ er) (e' : Nat) : Sst w (W.setCell ⟨w.heap.size + 1 + 1, 0, none⟩ (.int .i64 e')) v bs at_ e' :=
  ⟨h.b2.other (by omega) _, h.b3.other (by omega) _, h.b4.set _, h.rs.setBox h.b4 (by decide) (by decide) _, h.bel.setCell (p := ⟨w.heap.size + 1 + 1, 0, none⟩) (by simp; omega) _⟩
end
end Go.Proofs.YtknnncdmpfmgkaaDoor
