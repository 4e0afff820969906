/-
  Rows of headers in memory: read, taken in part, grown. No condition.
-/
import Derived.Test.YtonchnmcklgpoaaGreatDoorMa
namespace Go.Proofs.YtonchnmcklgpoaaGreatDoor
open Go.RowKit
set_option linter.unusedVariables false

/-- The cells of headers. -/
def fcs (fs : List (List UInt8 × List UInt8)) : List Value := fs.flatMap fun f => [vstr f.1, vstr f.2]
theorem fcs_app (a b : List (List UInt8 × List UInt8)) : fcs (a ++ b) = fcs a ++ fcs b := by simp [fcs]
theorem fcs_cons (f : List UInt8 × List UInt8) (r : List (List UInt8 × List UInt8)) : fcs (f :: r) = vstr f.1 :: vstr f.2 :: fcs r := rfl
theorem fcs_len : ∀ fs : List (List UInt8 × List UInt8), (fcs fs).length = fs.length * 2
  | [] => rfl
  | f :: r => by rw [fcs_cons, List.length_cons, List.length_cons, fcs_len r, List.length_cons]; omega
theorem fcs_at : ∀ (fs : List (List UInt8 × List UInt8)) (j : Nat) (f : List UInt8 × List UInt8), fs[j]? = some f → (fcs fs)[j * 2]? = some (vstr f.1) ∧ (fcs fs)[j * 2 + 1]? = some (vstr f.2)
  | [], _, _, h => by simp at h
  | g :: r, 0, f, h => by
    simp at h
    subst h
    exact ⟨rfl, rfl⟩
  | g :: r, j + 1, f, h => by
    have := fcs_at r j f (by simpa using h)
    rw [fcs_cons, show (j + 1) * 2 = j * 2 + 1 + 1 by omega]
    exact ⟨by simpa using this.1, by simpa using this.2⟩
theorem fcs_get : ∀ (fs : List (List UInt8 × List UInt8)) (i : Nat) (u : Value), (fcs fs)[i]? = some u → ∃ f, fs[i / 2]? = some f ∧ (i % 2 = 0 ∧ u = vstr f.1 ∨ i % 2 = 1 ∧ u = vstr f.2)
  | [], _, _, h => by simp [fcs] at h
  | g :: r, 0, u, h => by
    rw [fcs_cons] at h
    simp at h
    exact ⟨g, rfl, .inl ⟨rfl, h.symm⟩⟩
  | g :: r, 1, u, h => by
    rw [fcs_cons] at h
    simp at h
    exact ⟨g, rfl, .inr ⟨rfl, h.symm⟩⟩
  | g :: r, i + 2, u, h => by
    rw [fcs_cons] at h
    obtain ⟨f, h1, h2⟩ := fcs_get r i u (by simpa using h)
    refine ⟨f, ?_, ?_⟩
    · rw [show (i + 2) / 2 = i / 2 + 1 by omega]
      simpa using h1
    · rw [show (i + 2) % 2 = i % 2 by omega]
      exact h2
theorem fcs_one (fs : List (List UInt8 × List UInt8)) : ∀ u ∈ fcs fs, u.oneCell' = true := by
  intro u hu
  simp only [fcs, List.mem_flatMap] at hu
  obtain ⟨f, _, hu⟩ := hu
  simp at hu
  rcases hu with rfl | rfl <;> rfl

/-- The slice '.slice A n c' holds the headers fs, in a block below B. -/
def Fs (w : World) (B : Nat) (A : Option Addr) (n : Nat) (fs : List (List UInt8 × List UInt8)) : Prop :=
  fs.length = n ∧ (0 < n → ∃ b off, A = some ⟨b, off, none⟩ ∧ b < B ∧ ∀ j f, fs[j]? = some f → w.cell? ⟨b, off + j * 2, none⟩ = some (vstr f.1) ∧ w.cell? ⟨b, off + j * 2 + 1, none⟩ = some (vstr f.2))
/-- The value v is a row of headers of the call's own, of type T. -/
def OwnF (T : TypeId) (w : World) (base : Nat) (v : Value) (n : Nat) (fs : List (List UInt8 × List UInt8)) : Prop := w.ownsRow base T 2 v n (fcs fs)
section
variable {T : TypeId} {w w' : World} {B n c base : Nat} {A : Option Addr} {fs : List (List UInt8 × List UInt8)} {v : Value}
theorem Fs.below (h : Fs w B A n fs) (hb : Below B w w') : Fs w' B A n fs :=
  ⟨h.1, fun hn => by
    obtain ⟨b, off, e, hlt, hc⟩ := h.2 hn
    exact ⟨b, off, e, hlt, fun j f hj => ⟨(hb.cell (p := ⟨b, _, none⟩) hlt).trans (hc j f hj).1, (hb.cell (p := ⟨b, _, none⟩) hlt).trans (hc j f hj).2⟩⟩⟩
theorem Fs.more (h : Fs w B A n fs) {B' : Nat} (hB : B ≤ B') : Fs w B' A n fs :=
  ⟨h.1, fun hn => by
    obtain ⟨b, off, e, hlt, hc⟩ := h.2 hn
    exact ⟨b, off, e, by omega, hc⟩⟩
theorem Fs.kept (h : Fs w w.heap.size A n fs) (hb : Below w.heap.size w w') : Fs w' w'.heap.size A n fs := (h.below hb).more hb.size
theorem Fs.drewN (h : Fs w B A n fs) (k : Nat) : Fs (w.drewN k) B A n fs := h
theorem Fs.take (h : Fs w B A n fs) (k : Nat) (hk : k ≤ n) : Fs w B A k (fs.take k) := by
  refine ⟨by rw [List.length_take, h.1]; omega, fun hn => ?_⟩
  obtain ⟨b, off, e, hb, hc⟩ := h.2 (by omega)
  refine ⟨b, off, e, hb, fun j f hj => hc j f ?_⟩
  rw [List.getElem?_take] at hj
  split at hj
  · exact hj
  · cases hj
theorem Fs.at_ (h : Fs w B A n fs) {k : Nat} (hk : k < n) : ∃ b off f, A = some ⟨b, off, none⟩ ∧ b < B ∧ fs[k]? = some f ∧ w.cell? ⟨b, off + k * 2, none⟩ = some (.string (str f.1)) ∧ w.cell? ⟨b, off + k * 2 + 1, none⟩ = some (.string (str f.2)) := by
  obtain ⟨b, off, e, hb, hc⟩ := h.2 (by omega)
  have hl : k < fs.length := by rw [h.1]; exact hk
  have := hc k fs[k] (List.getElem?_eq_getElem hl)
  exact ⟨b, off, fs[k], e, hb, List.getElem?_eq_getElem hl, this.1, this.2⟩
theorem OwnF.len (h : OwnF T w base v n fs) : fs.length = n := by
  have := h.1
  rw [fcs_len] at this
  omega
theorem OwnF.base_le (h : OwnF T w base v n fs) : ∀ k, v.ownBlock = some k → base ≤ k := fun k hk => (World.ownsRow.lt h k hk).1
theorem OwnF.kept (h : OwnF T w base v n fs) (hb : Below w.heap.size w w') : OwnF T w' base v n fs := by
  refine ⟨h.1, ?_⟩
  rcases h.2 with h2 | ⟨g, cap, cur, hv, hg, hh, r⟩
  · exact .inl h2
  · exact .inr ⟨g, cap, cur, hv, hg, by rw [hb.block g (Array.getElem?_eq_some_iff.1 hh).1]; exact hh, r⟩
theorem OwnF.alloc (h : OwnF T w base v n fs) (o : Obj) : OwnF T (w.alloc o) base v n fs := World.ownsRow.alloc h o
theorem OwnF.form (h : OwnF T w base v n fs) : ∃ A c, v = .slice A n c ∧ n ≤ c ∧ c ≤ maxLen ∧ Fs w w.heap.size A n fs := by
  rcases h.2 with ⟨rfl, rfl⟩ | ⟨g, cap, cur, rfl, hb, hg, hnc, hml, _⟩
  · exact ⟨none, 0, rfl, Nat.le_refl _, Nat.zero_le _, h.len, fun hn => absurd hn (by omega)⟩
  · have hlt : g < w.heap.size := (Array.getElem?_eq_some_iff.1 hg).1
    refine ⟨some ⟨g, 0, none⟩, cap, rfl, hnc, hml, h.len, fun _ => ⟨g, 0, rfl, hlt, fun j f hj => ?_⟩⟩
    have h1 := World.ownsRow.cells (g := g) h rfl
    obtain ⟨h2, h3⟩ := fcs_at fs j f hj
    have h4 := h1 _ _ h2
    have h5 := h1 _ _ h3
    rw [Addr.add_lit] at h4 h5
    rw [Nat.add_assoc]
    exact ⟨h4, h5⟩
end
theorem ownF_made (T : TypeId) (w : World) (base : Nat) (hb : base ≤ w.heap.size) : OwnF T (w.alloc (.cells #[] T)) base (.slice (some ⟨w.heap.size, 0, none⟩) 0 0) 0 [] :=
  World.ownsRow_made _ _ _ hb (by decide) rfl
theorem ownF_nil (T : TypeId) (w : World) (base : Nat) : OwnF T w base (.slice none 0 0) 0 [] := World.ownsRow_nil w base T 2
theorem fd_info : (Tryz.prog.info? 28).map (fun i => (i.zero, i.size, i.bytes)) = some (some (.agg #[.string ⟨#[]⟩, .string ⟨#[]⟩]), 2, 32) := by kernel_rfl
theorem rd_info : (Tryz.prog.info? 29).map (fun i => (i.zero, i.size, i.bytes)) = some (some (.agg #[.string ⟨#[]⟩, .string ⟨#[]⟩]), 2, 32) := by kernel_rfl
/-- append of headers onto a row of the call's own, of either type. -/
theorem run_appF (S T : TypeId) (hS : Tryz.prog.underlying S = some (.slice T)) (hT : (Tryz.prog.info? T).map (fun i => (i.zero, i.size, i.bytes)) = some (some (.agg #[.string ⟨#[]⟩, .string ⟨#[]⟩]), 2, 32))
    (w : World) (base : Nat) (ty : TypeId) (v : Value) (n : Nat) (fs : List (List UInt8 × List UInt8)) (hown : OwnF T w base v n fs)
    (B : Nat) (A : Option Addr) (m c : Nat) (gs : List (List UInt8 × List UInt8)) (hr : Fs w B A m gs) (hs : n + m ≤ 1000000000) (hbase : base ≤ w.heap.size) :
    ∃ v' w', (Builtin.append_ #[S, S] ty #[v, .slice A m c]).run Tryz.prog w = .ok v' w' ∧ OwnF T w' base v' (n + m) (fs ++ gs) ∧ Below base w w' ∧ w.grownBy w' v.ownBlock := by
  obtain ⟨i, hi, hz, h1, h2⟩ := info_parts hT
  by_cases hm : m = 0
  · subst hm
    have hg : gs = [] := List.eq_nil_of_length_eq_zero hr.1
    subst hg
    refine ⟨v, w, ?_, by simpa using hown, Below.refl _ _, ⟨rfl, rfl, rfl, Nat.le_refl _, fun _ _ _ => rfl⟩⟩
    rcases hown.2 with ⟨rfl, rfl⟩ | ⟨g, cap, cur, rfl, _, _, hnc, _⟩
    · cases A <;> simp [Builtin.append_, run_underlying hS, sizeOf, typeInfo, hi, Builtin.lenOf, Builtin.firstCells, loadCells, loadCellsFrom]
    · cases A <;> simp [Builtin.append_, run_underlying hS, sizeOf, typeInfo, hi, Builtin.lenOf, Builtin.firstCells, hnc, storeCells, loadCells, loadCellsFrom]
  · obtain ⟨b, off, rfl, _, hc⟩ := hr.2 (by omega)
    have hcells : ∀ j u, (fcs gs)[j]? = some u → w.cell? ((⟨b, off, none⟩ : Addr).add j) = some u := by
      intro j u hu
      obtain ⟨f, hf, h3⟩ := fcs_get gs j u hu
      have h4 := hc _ f hf
      rw [Addr.add_lit]
      rcases h3 with ⟨h5, rfl⟩ | ⟨h5, rfl⟩
      · rw [show off + j = off + j / 2 * 2 by omega]
        exact h4.1
      · rw [show off + j = off + j / 2 * 2 + 1 by omega]
        exact h4.2
    obtain ⟨v', w', hrun, h3, h4, _, h5⟩ := run_append_own_at (P := Tryz.prog) w base S ty T i _ 2 32 hS hi hz h1 h2 rfl (by omega) v n (fcs fs) hown ⟨b, off, none⟩ m c (fcs gs)
      (by rw [fcs_len, hr.1]) hcells (fcs_one gs) (by unfold maxLen; omega) (by omega) hbase
    exact ⟨v', w', hrun, by rw [← fcs_app] at h3; exact h3, (Below.refl _ _).grown h4 hbase (OwnF.base_le hown), h4⟩
/-- The same at the operation of a walk. -/
theorem wp_appF {ops : Array Oper} {rest : List Oper} {o : Oper} {a : Act} {Q : Exit → Act → World → Prop} (w : World) (hgd : o.guard = none) (s x : Operand) (S T : TypeId)
    (ho : o.op = .call { callee := .builtin .append, args := #[s, x], argTypes := #[S, S] })
    (hS : Tryz.prog.underlying S = some (.slice T)) (hT : (Tryz.prog.info? T).map (fun i => (i.zero, i.size, i.bytes)) = some (some (.agg #[.string ⟨#[]⟩, .string ⟨#[]⟩]), 2, 32))
    (base : Nat) (v : Value) (n : Nat) (fs : List (List UInt8 × List UInt8)) (hs : a.eval s = v) (hown : OwnF T w base v n fs)
    (B : Nat) (A : Option Addr) (m c : Nat) (gs : List (List UInt8 × List UInt8)) (hx : a.eval x = .slice A m c) (hr : Fs w B A m gs) (hsz : n + m ≤ 1000000000) (hbase : base ≤ w.heap.size)
    (N : Nat) (hN : n + m = N)
    (h : ∀ A' c' w', N ≤ c' → c' ≤ maxLen → OwnF T w' base (.slice A' N c') N (fs ++ gs) → Below base w w' → w.grownBy w' v.ownBlock → wpList Tryz.prog ops Q rest (a.put o.dst (.slice A' N c')) w') : wpList Tryz.prog ops Q (o :: rest) a w := by
  subst hN
  refine wpList_plain hgd fun K' hK => ?_
  obtain ⟨v', w', hrun, h2, h3, h5⟩ := run_appF S T hS hT w base o.type v n fs hown B A m c gs hr hsz hbase
  obtain ⟨A', c', rfl, hc, hm, _⟩ := h2.form
  unfold Oper.wp execOp
  simp only [ho, resolve, invoke, builtin, Sem.run_bind, Sem.run_pure, Result.andThen_ok, List.map_toArray, List.map_cons, List.map_nil, hs, hx, hrun]
  exact hK _ _ (h A' c' w' hc hm h2 h3 h5)
/-- One header in a block of its own. -/
theorem Fs.one (w : World) (T : TypeId) (p q : List UInt8) (g : Nat) (hg : g = w.heap.size) : Fs (w.alloc (.cells #[.string (str p), .string (str q)] T)) (w.heap.size + 1) (some ⟨g, 0, none⟩) 1 [(p, q)] := by
  subst hg
  refine ⟨rfl, fun _ => ⟨w.heap.size, 0, rfl, by omega, fun j f hj => ?_⟩⟩
  match j, hj with
  | 0, hj =>
    simp at hj
    subst hj
    exact ⟨by simp [vstr], by simp [vstr]⟩
end Go.Proofs.YtonchnmcklgpoaaGreatDoor
