/-
  Rows of the call's own that lie side by side: bytes, states, digests, a variable of a state; an append onto one leaves the others. No condition; used by the walk of ShaPieces.
-/
import Derived.Test.YtiigmpoopmnnhaaDoorForks
import Derived.Great.BuildSlice
namespace Go.Proofs.YtiigmpoopmnnhaaDoor
open Go.RowKit

theorem info40 : (Tryd.prog.info? 40).map (fun i => (i.zero, i.size, i.bytes)) = some (some (.agg (cells3 (List.replicate 8 0) (List.replicate 64 0) 0).toArray), 73, 104) := by kernel_rfl
theorem info25 : (Tryd.prog.info? 25).map (fun i => (i.zero, i.size, i.bytes)) = some (some (.agg (vbs (List.replicate 32 0)).toArray), 32, 32) := by kernel_rfl
theorem grownBy_of_below {w w' : World} (h : Below w.heap.size w w') (row : Option Nat) : w.grownBy w' row := ⟨h.os, h.tape, h.output, h.size, fun k hk _ => h.block k hk⟩
theorem grownBy_of_upd {w w' : World} {g : Nat} (h : Upd g w w') : w.grownBy w' (some g) := ⟨h.os, h.tape, h.output, Nat.le_of_eq h.size.symm, fun k _ hne => h.block k (fun e => hne (by rw [e]))⟩
theorem Blk.grown {w w' : World} {b : Nat} {t : TypeId} {C : List Value} {row : Option Nat} (h : Blk w b t C) (hg : w.grownBy w' row) (hne : some b ≠ row) : Blk w' b t C := (hg.block b h.lt hne).trans h

/-- A row of the call's own, in a block of colour q. -/
structure Row (w : World) (base : Nat) (f : Nat → Nat) (q : Nat) (e : TypeId) (size : Nat) (v : Value) (n : Nat) (xs : List Value) : Prop where
  own : w.ownsRow base e size v n xs
  col : ∀ k, v.ownBlock = some k → f k = q
section
variable {w w' : World} {base q : Nat} {f f' : Nat → Nat} {e : TypeId} {size : Nat} {v : Value} {n : Nat} {xs : List Value} {row : Option Nat}
theorem Row.kept (h : Row w base f q e size v n xs) (hg : w.grownBy w' row) (hne : ∀ k, row = some k → f k ≠ q) : Row w' base f q e size v n xs := by
  refine ⟨h.own.kept hg ?_, h.col⟩
  cases hv : v.ownBlock with
  | none => exact .inl rfl
  | some k => exact .inr fun e => hne k e.symm (h.col k hv)
theorem Row.recol (h : Row w base f q e size v n xs) (hf : ∀ k, k < w.heap.size → f' k = f k) : Row w base f' q e size v n xs :=
  ⟨h.own, fun k hk => (hf k (h.own.lt k hk).2).trans (h.col k hk)⟩
theorem Row.none_ (w : World) (base q : Nat) (f : Nat → Nat) (e : TypeId) (size : Nat) : Row w base f q e size (.slice none 0 0) 0 [] :=
  ⟨World.ownsRow_nil w base e size, fun k hk => by simp [Value.ownBlock] at hk⟩
end
/-- What is new gets colour q. -/
def tint (f : Nat → Nat) (N q : Nat) : Nat → Nat := fun k => if k < N then f k else q
theorem tint_lt (f : Nat → Nat) (N q k : Nat) (h : k < N) : tint f N q k = f k := if_pos h
theorem tint_ge (f : Nat → Nat) (N q k : Nat) (h : N ≤ k) : tint f N q k = q := if_neg (by omega)

def sts (ps : List (List UInt8)) : List Value := (ps.map stc).flatten
def sms (ps : List (List UInt8)) : List Value := (ps.map fun p => vbs (digest p)).flatten
theorem sts_snoc (ps : List (List UInt8)) (Q : List UInt8) : sts (ps ++ [Q]) = sts ps ++ stc Q := by simp [sts]
theorem sms_snoc (ps : List (List UInt8)) (Q : List UInt8) : sms (ps ++ [Q]) = sms ps ++ vbs (digest Q) := by simp [sms]
theorem flat_at (F : List UInt8 → List Value) (k : Nat) (hF : ∀ p, (F p).length = k) : ∀ (ps : List (List UInt8)) (i j : Nat) (p : List UInt8), ps[i]? = some p → j < k → ((ps.map F).flatten)[i * k + j]? = (F p)[j]?
  | [], i, j, p, h, _ => by simp at h
  | q :: r, 0, j, p, h, hj => by
    simp at h
    subst h
    rw [List.map_cons, List.flatten_cons, Nat.zero_mul, Nat.zero_add, List.getElem?_append_left (by rw [hF]; exact hj)]
  | q :: r, i + 1, j, p, h, hj => by
    have e : (i + 1) * k + j = k + (i * k + j) := by rw [Nat.add_mul, Nat.one_mul]; omega
    rw [List.map_cons, List.flatten_cons, e, List.getElem?_append_right (by rw [hF]; omega), hF, Nat.add_sub_cancel_left]
    exact flat_at F k hF r i j p (by simpa using h) hj
theorem range_at (F : List UInt8 → List Value) (k : Nat) (hF : ∀ p, (F p).length = k) {w : World} {base : Nat} {e : TypeId} {g n c : Nat} {ps : List (List UInt8)} (h : w.ownsRow base e k (.slice (some ⟨g, 0, none⟩) n c) n ((ps.map F).flatten))
    {i : Nat} {p : List UInt8} (hp : ps[i]? = some p) : w.rangeAt g (i * k) (F p) := by
  intro j u hu
  have hj : j < k := by have := (List.getElem?_eq_some_iff.1 hu).1; rw [hF] at this; exact this
  have := World.ownsRow.cells (g := g) h rfl (i * k + j) u (by rw [flat_at F k hF ps i j p hp hj]; exact hu)
  rwa [Addr.add_lit, Nat.zero_add] at this

/-- All that ShaPieces holds: the bytes so far (P), the states and digests of the prefixes (ps, qs), the piece (T), the state's variable (of the bytes Q). -/
structure St (w : World) (base g : Nat) (vA vS vD vp : Value) (P Q T : List UInt8) (ps qs : List (List UInt8)) (f : Nat → Nat) : Prop where
  a : Row w base f 0 5 1 vA P.length (vbs P)
  s : Row w base f 1 40 73 vS ps.length (sts ps)
  d : Row w base f 2 25 32 vD qs.length (sms qs)
  p : Row w base f 3 5 1 vp T.length (vbs T)
  var : Blk w g 40 (stc Q)
  gc : f g = 4
  gb : base ≤ g
section
variable {w w' : World} {base g : Nat} {vA vS vD vp v' : Value} {P Q T : List UInt8} {ps qs : List (List UInt8)} {f : Nat → Nat}
theorem St.keep (h : St w base g vA vS vD vp P Q T ps qs f) (hb : Below w.heap.size w w') : St w' base g vA vS vD vp P Q T ps qs f := by
  have hg := grownBy_of_below hb none
  exact ⟨h.a.kept hg (by simp), h.s.kept hg (by simp), h.d.kept hg (by simp), h.p.kept hg (by simp), h.var.grown hg (by simp), h.gc, h.gb⟩
theorem St.put (h : St w base g vA vS vD vp P Q T ps qs f) {Q' : List UInt8} (hu : Upd g w w') (hB : Blk w' g 40 (stc Q')) : St w' base g vA vS vD vp P Q' T ps qs f := by
  have hg := grownBy_of_upd hu
  have c : ∀ q, q ≠ 4 → ∀ k, some g = some k → f k ≠ q := by
    rintro q hq k e
    cases e
    rw [h.gc]
    exact hq.symm
  exact ⟨h.a.kept hg (c 0 (by omega)), h.s.kept hg (c 1 (by omega)), h.d.kept hg (c 2 (by omega)), h.p.kept hg (c 3 (by omega)), hB, h.gc, h.gb⟩
theorem Row.at_new {w : World} {base q : Nat} {f : Nat → Nat} {e : TypeId} {size : Nat} {v v' : Value} {n n' : Nat} {xs xs' : List Value} (h : Row w base f q e size v n xs) (ho : w'.ownsRow base e size v' n' xs')
    (hat : v'.ownBlock = v.ownBlock ∨ v'.ownBlock = some w.heap.size) : Row w' base (tint f w.heap.size q) q e size v' n' xs' := by
  refine ⟨ho, fun k hk => ?_⟩
  rcases hat with e1 | e1
  · rw [e1] at hk
    rw [tint_lt _ _ _ _ (h.own.lt k hk).2]
    exact h.col k hk
  · rw [e1] at hk
    cases hk
    exact tint_ge _ _ _ _ (Nat.le_refl _)
theorem Row.beside {w : World} {base q q' : Nat} {f : Nat → Nat} {e e' : TypeId} {size size' : Nat} {v v1 : Value} {n n1 : Nat} {xs xs1 : List Value} (h : Row w base f q e size v n xs) (h1 : Row w base f q' e' size' v1 n1 xs1)
    (hg : w.grownBy w' v.ownBlock) (hq : q ≠ q') : Row w' base (tint f w.heap.size q) q' e' size' v1 n1 xs1 :=
  (h1.recol fun k hk => tint_lt _ _ _ _ hk).kept hg fun k hk => by
    rw [tint_lt _ _ _ _ (h.own.lt k hk).2, h.col k hk]
    exact hq
theorem Row.var_beside {w : World} {base q : Nat} {f : Nat → Nat} {e : TypeId} {size : Nat} {v : Value} {n : Nat} {xs : List Value} {C : List Value} (h : Row w base f q e size v n xs) (hB : Blk w g 40 C) (gc : f g = 4) (hg : w.grownBy w' v.ownBlock) (hq : q ≠ 4) :
    Blk w' g 40 C ∧ tint f w.heap.size q g = 4 := by
  refine ⟨hB.grown hg fun e => hq ?_, by rw [tint_lt _ _ _ _ hB.lt]; exact gc⟩
  rw [← h.col g e.symm, gc]
theorem St.appS (h : St w base g vA vS vD vp P Q T ps qs f) {R : List UInt8} (ho : w'.ownsRow base 40 73 v' (ps.length + 1) (sts ps ++ stc R)) (hg : w.grownBy w' vS.ownBlock) (hat : v'.ownBlock = vS.ownBlock ∨ v'.ownBlock = some w.heap.size) :
    St w' base g vA v' vD vp P Q T (ps ++ [R]) qs (tint f w.heap.size 1) := by
  have hv := h.s.var_beside h.var h.gc hg (by omega)
  exact ⟨h.s.beside h.a hg (by omega), by rw [sts_snoc, List.length_append]; exact h.s.at_new ho hat, h.s.beside h.d hg (by omega), h.s.beside h.p hg (by omega), hv.1, hv.2, h.gb⟩
theorem St.appD (h : St w base g vA vS vD vp P Q T ps qs f) {R : List UInt8} (ho : w'.ownsRow base 25 32 v' (qs.length + 1) (sms qs ++ vbs (digest R))) (hg : w.grownBy w' vD.ownBlock) (hat : v'.ownBlock = vD.ownBlock ∨ v'.ownBlock = some w.heap.size) :
    St w' base g vA vS v' vp P Q T ps (qs ++ [R]) (tint f w.heap.size 2) := by
  have hv := h.d.var_beside h.var h.gc hg (by omega)
  exact ⟨h.d.beside h.a hg (by omega), h.d.beside h.s hg (by omega), by rw [sms_snoc, List.length_append]; exact h.d.at_new ho hat, h.d.beside h.p hg (by omega), hv.1, hv.2, h.gb⟩
theorem St.appA (h : St w base g vA vS vD vp P Q T ps qs f) {R : List UInt8} {k : Nat} (ho : Own w' base v' k (P ++ R)) (hg : w.grownBy w' vA.ownBlock) (hat : v'.ownBlock = vA.ownBlock ∨ v'.ownBlock = some w.heap.size) :
    St w' base g v' vS vD vp (P ++ R) Q T ps qs (tint f w.heap.size 0) := by
  have hv := h.a.var_beside h.var h.gc hg (by omega)
  have hl := ho.len
  subst hl
  exact ⟨h.a.at_new ho hat, h.a.beside h.s hg (by omega), h.a.beside h.d hg (by omega), h.a.beside h.p hg (by omega), hv.1, hv.2, h.gb⟩
theorem St.newP (h : St w base g vA vS vD vp P Q T ps qs f) {R : List UInt8} {k : Nat} (hb : Below w.heap.size w w') (ho : Own w' w.heap.size v' k R) (hbase : base ≤ w.heap.size) :
    St w' base g vA vS vD v' P Q R ps qs (tint f w.heap.size 3) := by
  have h1 := h.keep hb
  have hl := ho.len
  subst hl
  have c : ∀ k, k < w.heap.size → tint f w.heap.size 3 k = f k := fun k hk => tint_lt _ _ _ _ hk
  exact ⟨(h.a.recol c).kept (grownBy_of_below hb none) (by simp), (h.s.recol c).kept (grownBy_of_below hb none) (by simp), (h.d.recol c).kept (grownBy_of_below hb none) (by simp),
    ⟨ho.down hbase, fun k hk => tint_ge _ _ _ _ (ho.base_le k hk)⟩, h1.var, by rw [c _ h.var.lt]; exact h.gc, h.gb⟩
theorem St.setP (h : St w base g vA vS vD vp P Q T ps qs f) {R : List UInt8} {gp : Nat} (hv : vp.ownBlock = some gp) (hu : Upd gp w w') (ho : Own w' base vp R.length R) : St w' base g vA vS vD vp P Q R ps qs f := by
  have hg := grownBy_of_upd hu
  have e := h.p.col gp hv
  have c : ∀ q, q ≠ 3 → ∀ k, some gp = some k → f k ≠ q := by
    rintro q hq k e1
    cases e1
    rw [e]
    exact hq.symm
  refine ⟨h.a.kept hg (c 0 (by omega)), h.s.kept hg (c 1 (by omega)), h.d.kept hg (c 2 (by omega)), ⟨ho, h.p.col⟩, h.var.grown hg ?_, h.gc, h.gb⟩
  intro e1
  injection e1 with e1
  have h2 := h.gc
  rw [e1, e] at h2
  omega
theorem St.noP (h : St w base g vA vS vD vp P Q T ps qs f) : St w base g vA vS vD (.slice none 0 0) P Q [] ps qs f :=
  ⟨h.a, h.s, h.d, Row.none_ _ _ _ _ _ _, h.var, h.gc, h.gb⟩
end

section
variable {ops : Array Oper} {rest : List Oper} {o : Oper} {a : Act} {Q : Exit → Act → World → Prop}
/-- '[]T{x}', T an array or a struct. -/
theorem wp_buildT (w : World) (hgd : o.guard = none) (t e : TypeId) (x : Operand) (ho : o.op = .buildSlice t 1 #[(0, x)]) (hu : Tryd.prog.underlying t = some (.slice e)) (C Z : List Value) (by_ : Nat) (hi : (Tryd.prog.info? e).map (fun i => (i.zero, i.size, i.bytes)) = some (some (.agg Z.toArray), C.length, by_))
    (hx : a.eval x = .agg C.toArray) (hpos : 0 < C.length) (hsm : C.length ≤ 1000)
    (h : ∀ w' g', Blk w' g' e C → Fresh w w' g' → wpList Tryd.prog ops Q rest (a.put o.dst (.slice (some ⟨g', 0, none⟩) 1 1)) w') : wpList Tryd.prog ops Q (o :: rest) a w := by
  obtain ⟨i, hi, hz, h1, h2⟩ := info_parts hi
  refine wpList_buildSlice hgd t e 1 _ ho C.toArray i _ hu hi hz (by rw [h1]; omega) (by rw [h1]; omega) ?_ ?_
  · have := Great.fill_whole hpos [.agg C.toArray] ((Array.range (1 * C.length)).map ((Value.agg Z.toArray).cells[· % (Value.agg Z.toArray).cells.size]!)) (by simp [Value.cells]) (by simp)
    rw [h1]
    simp only [List.zipIdx_cons, List.zipIdx_nil, List.map_cons, List.map_nil, List.flatMap_cons, List.flatMap_nil, List.append_nil, Value.cells] at this
    simp only [List.map_toArray, List.map_cons, List.map_nil, hx]
    exact this
  · exact h _ _ (Blk.new w e C) (Fresh.alloc w _)
/-- append of one whole element onto a row of the call's own. -/
theorem wp_app1 (w : World) (hgd : o.guard = none) (s x : Operand) (t e : TypeId) (ho : o.op = .call { callee := .builtin .append, args := #[s, x], argTypes := #[t, t] })
    (hu : Tryd.prog.underlying t = some (.slice e)) (C : List Value) (size : Nat) (hCl : C.length = size) (Z : List Value) (by_ : Nat) (hi : (Tryd.prog.info? e).map (fun i => (i.zero, i.size, i.bytes)) = some (some (.agg Z.toArray), size, by_)) (hZ : Z.length = size) (hpos : 0 < size) (h1 : ∀ u ∈ C, u.oneCell' = true)
    (base : Nat) (v : Value) (n : Nat) (xs : List Value) (hs : a.eval s = v) (hown : w.ownsRow base e size v n xs) (g' : Nat) (c : Nat) (hx : a.eval x = .slice (some ⟨g', 0, none⟩) 1 c) (hB : Blk w g' e C) (hn : n ≤ 1000) (hby : by_ ≤ 1000) (hbase : base ≤ w.heap.size)
    (h : ∀ v' w', w'.ownsRow base e size v' (n + 1) (xs ++ C) → w.grownBy w' v.ownBlock → (v'.ownBlock = v.ownBlock ∨ v'.ownBlock = some w.heap.size) → wpList Tryd.prog ops Q rest (a.put o.dst v') w') : wpList Tryd.prog ops Q (o :: rest) a w := by
  obtain ⟨i, hi, hz, hsz, hbt⟩ := info_parts hi
  refine wpList_append_own_at w hgd s x t ho base e i _ size by_ hu hi hz hsz hbt (by simpa [Value.cells] using hZ) hpos v n xs hs hown ⟨g', 0, none⟩ 1 c C hx (by omega) ?_ h1 (by unfold maxLen; omega) ?_ hbase ?_
  · intro j u hj
    rw [Addr.add_lit, Nat.zero_add]
    exact hB.cell hj
  · have : (n + 1) * by_ ≤ 1001 * 1000 := Nat.mul_le_mul (by omega) hby
    omega
  · intro v' w' k1 k2 _ k3
    exact h v' w' k1 k2 k3
end

/-- append of bytes onto bytes of the call's own, with where the new row lies. -/
theorem run_appAt (w : World) (base : Nat) (ty : TypeId) (v : Value) (n : Nat) (l : List UInt8) (hown : Own w base v n l)
    (B : Nat) (A : Option Addr) (m c : Nat) (k : List UInt8) (hr : Bs w B A m k) (hs : n + m ≤ 1000000000) (hbase : base ≤ w.heap.size) :
    ∃ v' w', (Builtin.append_ #[22, 22] ty #[v, .slice A m c]).run Tryd.prog w = .ok v' w' ∧ Own w' base v' (n + m) (l ++ k) ∧ w.grownBy w' v.ownBlock ∧ (v'.ownBlock = v.ownBlock ∨ v'.ownBlock = some w.heap.size) := by
  obtain ⟨i, hi, hz, h1, h2⟩ := info_parts byte_info
  rcases A with _ | ad
  · obtain ⟨rfl, rfl⟩ := hr.nil_
    refine ⟨v, w, ?_, by simpa using hown, grownBy_of_below (Below.refl _ _) _, .inl rfl⟩
    rcases hown.2 with ⟨rfl, rfl⟩ | ⟨g, cap, cur, rfl, _, _, hnc, _⟩
    · simp [Builtin.append_, run_underlying Tryd.underlying22, sizeOf, typeInfo, hi, Builtin.lenOf, Builtin.firstCells]
    · simp [Builtin.append_, run_underlying Tryd.underlying22, sizeOf, typeInfo, hi, Builtin.lenOf, Builtin.firstCells, hnc, storeCells]
  · have hcells : ∀ j u, (vbs k)[j]? = some u → w.cell? (ad.add j) = some u := by
      intro j u hu
      obtain ⟨x, hx, rfl⟩ := vbs_get hu
      have hm : 0 < m := by
        have := (List.getElem?_eq_some_iff.1 hx).1
        have := hr.1
        omega
      obtain ⟨b, off, e, _, hc⟩ := hr.2 hm
      injection e with e
      subst e
      rw [Addr.add_lit]
      exact hc j x hx
    obtain ⟨v', w', hrun, h3, h4, _, h5⟩ := run_append_own_at (P := Tryd.prog) w base 22 ty 5 i _ 1 1 Tryd.underlying22 hi hz h1 h2 rfl (by omega) v n (vbs l) hown ad m c (vbs k)
      (by rw [vbs_length, Nat.mul_one]; exact hr.1) hcells (vbs_one k) (by unfold maxLen; omega) (by omega) hbase
    exact ⟨v', w', hrun, by rw [← vbs_append] at h3; exact h3, h4, h5⟩
theorem wp_appAt {ops : Array Oper} {rest : List Oper} {o : Oper} {a : Act} {Q : Exit → Act → World → Prop} (w : World) (hgd : o.guard = none) (s x : Operand)
    (ho : o.op = .call { callee := .builtin .append, args := #[s, x], argTypes := #[22, 22] })
    (base : Nat) (v : Value) (n : Nat) (l : List UInt8) (hs : a.eval s = v) (hown : Own w base v n l)
    (B : Nat) (A : Option Addr) (m c : Nat) (k : List UInt8) (hx : a.eval x = .slice A m c) (hr : Bs w B A m k) (hsz : n + m ≤ 1000000000) (hbase : base ≤ w.heap.size)
    (h : ∀ v' w', Own w' base v' (n + m) (l ++ k) → w.grownBy w' v.ownBlock → (v'.ownBlock = v.ownBlock ∨ v'.ownBlock = some w.heap.size) → wpList Tryd.prog ops Q rest (a.put o.dst v') w') : wpList Tryd.prog ops Q (o :: rest) a w := by
  refine wpList_plain hgd fun K hK => ?_
  obtain ⟨v', w', hrun, h2, h3, h4⟩ := run_appAt w base o.type v n l hown B A m c k hr hsz hbase
  unfold Oper.wp execOp
  simp only [ho, resolve, invoke, builtin, Sem.run_bind, Sem.run_pure, Result.andThen_ok, List.map_toArray, List.map_cons, List.map_nil, hs, hx, hrun]
  exact hK _ _ (h v' w' h2 h3 h4)

theorem Bs.grown {w w' : World} {B n : Nat} {A : Option Addr} {l : List UInt8} {row : Option Nat} (h : Bs w B A n l) (hB : B ≤ w.heap.size) (hg : w.grownBy w' row) (hne : ∀ k, row = some k → B ≤ k) : Bs w' B A n l :=
  h.below ⟨hg.os, hg.tape, hg.output, by have := hg.size; omega, fun k hk => hg.block k (by omega) fun e => by have := hne k e.symm; omega⟩
theorem index42 (w : World) (g n c i : Nat) (h : i < n) : (Instr.indexAt 42 (.slice (some ⟨g, 0, none⟩) n c) (.int .i64 (i : Int))).run Tryd.prog w = .ok (.pointer (some ⟨g, i * 73, none⟩)) w := by
  obtain ⟨q, hi, hz, h1, h2⟩ := info_parts info40
  simp [Instr.indexAt, asIntOf, run_underlying Tryd.underlying42, sizeOf, typeInfo, hi, h1, h, Addr.add_lit]
theorem index43 (w : World) (g n c i : Nat) (h : i < n) : (Instr.indexAt 43 (.slice (some ⟨g, 0, none⟩) n c) (.int .i64 (i : Int))).run Tryd.prog w = .ok (.pointer (some ⟨g, i * 32, none⟩)) w := by
  obtain ⟨q, hi, hz, h1, h2⟩ := info_parts info25
  simp [Instr.indexAt, asIntOf, run_underlying Tryd.underlying43, sizeOf, typeInfo, hi, h1, h, Addr.add_lit]
end Go.Proofs.YtiigmpoopmnnhaaDoor
