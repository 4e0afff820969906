/-
  A round of frame.split: what it keeps, and one body more. No condition.
-/
import Derived.Test.YtknnncdmpfmgkaaDoorRowsOf
namespace Go.Proofs.YtknnncdmpfmgkaaDoor
open Go.RowKit Go.Shelf

theorem row_block {X : World} {lo : Nat} {v : Value} {n : Nat} {vs : List Value} (hrow : X.ownsRow lo 22 1 v n vs) {k : Nat} (hk : v.ownBlock = some k) : lo ≤ k ∧ ∃ cs fr, X.heap[k]? = some (.cells cs 22 fr) := by
  rcases hrow.2 with ⟨rfl, _⟩ | ⟨g, cap, cur, rfl, hg, hh, _⟩
  · cases hk
  · have e : g = k := by simpa [Value.ownBlock] using hk
    subst e
    exact ⟨hg, cur, _, hh⟩
theorem row_keeps {X X' : World} {lo : Nat} {v : Value} {n : Nat} {vs : List Value} (hrow : X.ownsRow lo 22 1 v n vs) (hg : X.grownBy X' v.ownBlock) {k : Nat} {cs : Array Value} {t : TypeId} {fr : Nat × Nat} (ht : t ≠ 22) (e : X.heap[k]? = some (.cells cs t fr)) : X'.heap[k]? = some (.cells cs t fr) := by
  refine (hg.block k (Array.getElem?_eq_some_iff.1 e).1 fun e1 => ?_).trans e
  obtain ⟨_, cs', fr', h⟩ := row_block hrow e1.symm
  rw [e] at h
  cases h
  exact ht rfl
theorem row_others {X X' : World} {lo : Nat} {v : Value} {n : Nat} {vs : List Value} (hrow : X.ownsRow lo 22 1 v n vs) (hg : X.grownBy X' v.ownBlock) : KeepsOthers X X' := by
  refine KeepsOthers.of_grownBy hg fun j o hj ho => ?_
  obtain ⟨_, cs', fr', h⟩ := row_block hrow hj
  rw [ho] at h
  cases h
  rfl

/-- What a round keeps. -/
structure Rnd (w : World) (B : Nat) (W W' : World) : Prop where
  kf : KeepsFrom B W W'
  kp : Kp w.heap.size W W'
section
variable {w W W' W'' : World} {B : Nat}
theorem Rnd.refl (w : World) (B : Nat) (W : World) : Rnd w B W W := ⟨KeepsFrom.refl _ _, Kp.refl _ _⟩
theorem Rnd.trans (h : Rnd w B W W') (k : Rnd w B W' W'') : Rnd w B W W'' := ⟨h.kf.trans k.kf, h.kp.trans k.kp⟩
theorem Rnd.drew (h : Rnd w B W W') : Rnd w B W W'.drew := ⟨⟨h.kf.size, h.kf.same⟩, ⟨h.kp.1.drew, h.kp.2⟩⟩
theorem Rnd.below (h : Below W.heap.size W W') (hn : w.heap.size ≤ W.heap.size) : Rnd w B W W' :=
  ⟨⟨h.size, fun k _ _ hk _ => (h.block k (Array.getElem?_eq_some_iff.1 hk).1).trans hk⟩, Kp.below h hn⟩
theorem Rnd.set {Bx : Nat} {t : TypeId} {u : Value} (hB : Boxed W Bx t u) (ht : t ≠ 57) (hw : w.heap.size ≤ Bx) (x : Value) : Rnd w B W (W.setCell ⟨Bx, 0, none⟩ x) :=
  ⟨(KeepsOthers.setCell _ _ _).from _, (Below.refl _ _).setCell (p := ⟨Bx, 0, none⟩) hw _, keeps57_setBox hB ht x⟩
theorem Rnd.row {lo : Nat} {v : Value} {n : Nat} {vs : List Value} (hrow : W.ownsRow lo 22 1 v n vs) (hg : W.grownBy W' v.ownBlock) (hw : w.heap.size ≤ lo) (hW : w.heap.size ≤ W.heap.size) : Rnd w B W W' :=
  ⟨(row_others hrow hg).from _, (Below.refl _ _).grown hg hW (fun k e => Nat.le_trans hw (row_block hrow e).1), fun g cs fr e => row_keeps hrow hg (by decide) e⟩
end

/-- A round's class of worlds: the three variables, the bodies so far, the frame that was taken; since W0 nothing else has turned. -/
structure Ss (w : World) (B : Nat) (W0 : World) (Bx : Nat) (fr : Array Value) (v : Value) (bs : List (List UInt8)) (at_ er : Nat) (W : World) : Prop where
  st : Sst w W v bs at_ er
  rd : Rnd w B W0 W
  fx : W.heap[Bx]? = some (.cells fr 57 (0, 0))
section
variable {w W0 W W' : World} {B Bx : Nat} {fr : Array Value} {v : Value} {bs : List (List UInt8)} {at_ er : Nat}
theorem Ss.drew (h : Ss w B W0 Bx fr v bs at_ er W) : Ss w B W0 Bx fr v bs at_ er W.drew := ⟨h.st.drew, h.rd.drew, h.fx⟩
theorem Ss.size (h : Ss w B W0 Bx fr v bs at_ er W) : w.heap.size ≤ W.heap.size := h.st.bel.size
theorem Ss.news (h : Ss w B W0 Bx fr v bs at_ er W) (hb : Below W.heap.size W W') : Ss w B W0 Bx fr v bs at_ er W' := by
  have hk : KeepsCells W W' := fun k cs t f e => (hb.block k (Array.getElem?_eq_some_iff.1 e).1).trans e
  exact ⟨h.st.cells hk (hb.mono h.size), h.rd.trans (Rnd.below hb h.size), hk _ _ _ _ h.fx⟩
theorem Ss.alloc (h : Ss w B W0 Bx fr v bs at_ er W) (o : Obj) : Ss w B W0 Bx fr v bs at_ er (W.alloc o) := h.news ((Below.refl _ _).alloc (Nat.le_refl _) o)
theorem Ss.fx_set (h : W.heap[Bx]? = some (.cells fr 57 (0, 0))) {Bo : Nat} {t : TypeId} {u : Value} (hB : Boxed W Bo t u) (ht : t ≠ 57) (x : Value) : (W.setCell ⟨Bo, 0, none⟩ x).heap[Bx]? = some (.cells fr 57 (0, 0)) := keeps57_setBox hB ht x _ _ _ h
theorem Ss.set2 (h : Ss w B W0 Bx fr v bs at_ er W) : Ss w B W0 Bx fr v bs at_ er (W.setCell ⟨w.heap.size, 0, none⟩ v) :=
  ⟨h.st.set2, h.rd.trans (Rnd.set h.st.b2 (by decide) (Nat.le_refl _) _), Ss.fx_set h.fx h.st.b2 (by decide) _⟩
theorem Ss.set3 (h : Ss w B W0 Bx fr v bs at_ er W) (a' : Nat) : Ss w B W0 Bx fr v bs a' er (W.setCell ⟨w.heap.size + 1, 0, none⟩ (.int .i64 a')) :=
  ⟨h.st.set3 a', h.rd.trans (Rnd.set h.st.b3 (by decide) (by omega) _), Ss.fx_set h.fx h.st.b3 (by decide) _⟩
theorem Ss.set4 (h : Ss w B W0 Bx fr v bs at_ er W) (e' : Nat) : Ss w B W0 Bx fr v bs at_ e' (W.setCell ⟨w.heap.size + 1 + 1, 0, none⟩ (.int .i64 e')) :=
  ⟨h.st.set4 e', h.rd.trans (Rnd.set h.st.b4 (by decide) (by omega) _), Ss.fx_set h.fx h.st.b4 (by decide) _⟩
/-- One body more: behind the append, and behind the store. -/
theorem Ss.snoc {vs : List Value} {v' : Value} {A : Option Addr} {c : Nat} {l : List UInt8} (h : Ss w B W0 Bx fr v bs at_ er W) (hrow : W.ownsRow w.heap.size 22 1 v bs.length vs)
    (h2 : ∀ (i : Nat) (l : List UInt8), bs[i]? = some l → ∃ A c, vs[i]? = some (Value.slice A l.length c) ∧ Own W w.heap.size (.slice A l.length c) l.length l) (hl : Own W w.heap.size (.slice A l.length c) l.length l)
    (hrow' : W'.ownsRow w.heap.size 22 1 v' (bs.length + 1) (vs ++ [.slice A l.length c])) (hg : W.grownBy W' v.ownBlock) :
    (Boxed W' w.heap.size 24 v ∧ W'.heap[Bx]? = some (.cells fr 57 (0, 0))) ∧ Ss w B W0 Bx fr v' (bs ++ [l]) at_ er (W'.setCell ⟨w.heap.size, 0, none⟩ v') := by
  have k : ∀ {b : Nat} {cs : Array Value} {t : TypeId} {f : Nat × Nat}, t ≠ 22 → W.heap[b]? = some (.cells cs t f) → W'.heap[b]? = some (.cells cs t f) := fun ht e => row_keeps hrow hg ht e
  have B2 : Boxed W' w.heap.size 24 v := k (by decide) h.st.b2
  have B3 : Boxed W' (w.heap.size + 1) 3 (.int .i64 at_) := k (by decide) h.st.b3
  have B4 : Boxed W' (w.heap.size + 1 + 1) 25 (.int .i64 er) := k (by decide) h.st.b4
  have FX := k (by decide) h.fx
  have hvs : vs.length = bs.length := by have := hrow.1; omega
  have RS : Rs W' w.heap.size v' (bs ++ [l]) := Rs.snoc h2 hvs hrow' (hl.keepB fun b cs f _ e => k (by decide) e) fun b cs f _ e => k (by decide) e
  have RD := h.rd.trans (Rnd.row (B := B) hrow hg (Nat.le_refl _) h.size)
  have BE : Below w.heap.size w W' := h.st.bel.grown hg h.size fun b e => (row_block hrow e).1
  refine ⟨⟨B2, FX⟩, ⟨⟨B2.set v', B3.other (by omega) _, B4.other (by omega) _, RS.setBox B2 (by decide) (by decide) _, BE.setCell (p := ⟨w.heap.size, 0, none⟩) (Nat.le_refl _) _⟩, RD.trans (Rnd.set B2 (by decide) (Nat.le_refl _) _), Ss.fx_set FX B2 (by decide) _⟩⟩
end

theorem row_info : (Tryd.prog.info? 22).map (fun i => (i.zero, i.size, i.bytes)) = some (some (.slice none 0 0), 1, 24) := by kernel_rfl
/-- append of one row to a row of rows of the call's own. -/
theorem run_appR (w : World) (base : Nat) (ty : TypeId) (v : Value) (n : Nat) (vs : List Value) (hown : w.ownsRow base 22 1 v n vs) (g c : Nat) (A : Option Addr) (m k : Nat) (hg : w.cell? ⟨g, 0, none⟩ = some (.slice A m k)) (hn : n ≤ 1000000) (hbase : base ≤ w.heap.size) :
    ∃ v' w', (Builtin.append_ #[24, 24] ty #[v, .slice (some ⟨g, 0, none⟩) 1 c]).run Tryd.prog w = .ok v' w' ∧ w'.ownsRow base 22 1 v' (n + 1) (vs ++ [.slice A m k]) ∧ w.grownBy w' v.ownBlock ∧ (v'.ownBlock = v.ownBlock ∨ v'.ownBlock = some w.heap.size) := by
  obtain ⟨i, hi, hz, h1, h2⟩ := info_parts row_info
  obtain ⟨v', w', hrun, h3, h4, _, h5⟩ := run_append_own_at (P := Tryd.prog) w base 24 ty 22 i _ 1 24 Tryd.underlying24 hi hz h1 h2 rfl (by omega) v n vs hown ⟨g, 0, none⟩ 1 c [.slice A m k] rfl
    (fun j u hj => by
      match j, hj with
      | 0, hj => simp at hj; subst hj; simpa [Addr.add_lit] using hg) (by simp [Value.oneCell']) (by unfold maxLen; omega) (by omega) hbase
  exact ⟨v', w', hrun, h3, h4, h5⟩
/-- The same inside a region that draws its order. -/
theorem step_appR {ops : Array Oper} {o : Oper} {a : Act} {K : Act → World → Prop} {Q : Exit → Act → World → Prop} {E : Prop} (w : World) (hgd : o.guard = none) (s x : Operand)
    (ho : o.op = .call { callee := .builtin .append, args := #[s, x], argTypes := #[24, 24] })
    (base : Nat) (v : Value) (n : Nat) (vs : List Value) (hs : a.eval s = v) (hown : w.ownsRow base 22 1 v n vs) (g c : Nat) (A : Option Addr) (m k : Nat) (hx : a.eval x = .slice (some ⟨g, 0, none⟩) 1 c) (hg : w.cell? ⟨g, 0, none⟩ = some (.slice A m k)) (hn : n ≤ 1000000) (hbase : base ≤ w.heap.size)
    (h : ∀ v' w', w'.ownsRow base 22 1 v' (n + 1) (vs ++ [.slice A m k]) → w.grownBy w' v.ownBlock → K (a.put o.dst v') w') :
    if Region.wanted o (yielded ops a.tmps) = true then Oper.wp Tryd.prog o a w K Q else E := by
  have hw : Region.wanted o (yielded ops a.tmps) = true := by simp [Region.wanted, hgd]
  rw [if_pos hw]
  obtain ⟨v', w', hrun, h2, h3, _⟩ := run_appR w base o.type v n vs hown g c A m k hg hn hbase
  unfold Oper.wp execOp
  simp only [ho, resolve, invoke, builtin, Sem.run_bind, Sem.run_pure, Result.andThen_ok, List.map_toArray, List.map_cons, List.map_nil, hs, hx, hrun]
  exact h v' w' h2 h3
end Go.Proofs.YtknnncdmpfmgkaaDoor
