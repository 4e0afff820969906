/-
  Words for whole arrays in memory: a block that is known whole, what a store into it leaves, and the operations of a walk on them (an array's variable made, read, written; a result that lies in a cell). No condition.
-/
import Derived.Test.YtcfgcakmffkpmaaDoorLaw
import Derived.Deep.MidRow
import Derived.Laws.Rows
import Derived.Laws.CopyRow
namespace Go.Proofs.YtcfgcakmffkpmaaDoor
open Go.RowKit

theorem vbs_getD (l : List UInt8) (j : Nat) (h : j < l.length) : (vbs l)[j]? = some (vb (l.getD j 0)) := by
  simp [vbs, List.getD, List.getElem?_eq_getElem h]

/-- The block b is known whole: the cells C of a variable of type t. -/
def Blk (w : World) (b : Nat) (t : TypeId) (C : List Value) : Prop := w.heap[b]? = some (.cells C.toArray t (0, 0))
/-- Nothing but block b is another one. -/
structure Upd (b : Nat) (w w' : World) : Prop where
  os : w'.os = w.os
  tape : w'.tape = w.tape
  output : w'.output = w.output
  size : w'.heap.size = w.heap.size
  block : ∀ k, k ≠ b → w'.heap[k]? = w.heap[k]?
theorem Upd.refl (b : Nat) (w : World) : Upd b w w := ⟨rfl, rfl, rfl, rfl, fun _ _ => rfl⟩
theorem Upd.trans {b : Nat} {w w1 w2 : World} (h : Upd b w w1) (k : Upd b w1 w2) : Upd b w w2 :=
  ⟨k.os.trans h.os, k.tape.trans h.tape, k.output.trans h.output, k.size.trans h.size, fun i hi => (k.block i hi).trans (h.block i hi)⟩
theorem Upd.below {b B : Nat} {w w' : World} (h : Upd b w w') (hB : B ≤ b) : Below B w w' :=
  ⟨h.os, h.tape, h.output, Nat.le_of_eq h.size.symm, fun k hk => h.block k (by omega)⟩
theorem Upd.setCell (w : World) (b i : Nat) (v : Value) : Upd b w (w.setCell ⟨b, i, none⟩ v) :=
  ⟨rfl, rfl, rfl, by simp [World.setCell], fun k hk => Go.heap_setCell_other w ⟨b, i, none⟩ k v hk⟩
theorem Upd.setCells (b : Nat) : ∀ (vs : List Value) (o : Nat) (w : World), Upd b w (w.setCells b o vs)
  | [], _, w => Upd.refl b w
  | v :: r, o, w => (Upd.setCell w b o v).trans (Upd.setCells b r (o + 1) _)

section
variable {w w' : World} {b : Nat} {t : TypeId} {C : List Value}
theorem Blk.lt (h : Blk w b t C) : b < w.heap.size := (Array.getElem?_eq_some_iff.1 h).1
theorem Blk.new (w : World) (t : TypeId) (C : List Value) : Blk (w.alloc (.cells C.toArray t)) w.heap.size t C := Go.heap_alloc_new w _
theorem Blk.alloc (h : Blk w b t C) (o : Obj) : Blk (w.alloc o) b t C := (Go.heap_alloc_old w o h.lt).trans h
theorem Blk.drew (h : Blk w b t C) : Blk w.drew b t C := h
theorem Blk.drewN (h : Blk w b t C) (k : Nat) : Blk (w.drewN k) b t C := h
theorem Blk.below (h : Blk w b t C) {B : Nat} (hb : Below B w w') (hB : b < B) : Blk w' b t C := (hb.block b hB).trans h
theorem Blk.kept (h : Blk w b t C) (hb : Below w.heap.size w w') : Blk w' b t C := h.below hb h.lt
theorem Blk.upd (h : Blk w b t C) {b' : Nat} (hu : Upd b' w w') (hne : b ≠ b') : Blk w' b t C := (hu.block b hne).trans h
theorem Blk.cell (h : Blk w b t C) {i : Nat} {v : Value} (hv : C[i]? = some v) : w.cell? ⟨b, i, none⟩ = some v := by
  rw [Go.cell_of_row w b i _ _ _ h]
  simpa using hv
theorem Blk.frozen (h : Blk w b t C) (i : Nat) : w.frozen? ⟨b, i, none⟩ = false := Go.frozen_of_row w b i _ _ h
theorem Blk.range (h : Blk w b t C) (X Y Z : List Value) (hC : C = X ++ Y ++ Z) : w.rangeAt b X.length Y := by
  intro j v hv
  refine h.cell ?_
  subst hC
  have hj : j < Y.length := (List.getElem?_eq_some_iff.1 hv).1
  rw [List.append_assoc, List.getElem?_append_right (by omega), Nat.add_sub_cancel_left, List.getElem?_append_left hj]
  exact hv
theorem Blk.whole (h : Blk w b t C) : w.rangeAt b 0 C := by
  intro j v hv
  rw [Nat.zero_add]
  exact h.cell hv
theorem Blk.there (h : Blk w b t C) {o n : Nat} (hn : o + n ≤ C.length) : w.there b o n := fun j hj =>
  ⟨by rw [h.cell (List.getElem?_eq_getElem (by omega : o + j < C.length))]; rfl, h.frozen _⟩
theorem Blk.set (h : Blk w b t C) (i : Nat) (v : Value) : Blk (w.setCell ⟨b, i, none⟩ v) b t (C.set i v) := by
  have := Go.heap_setCell_same w b i _ t v h
  simpa [Blk] using this
end
theorem setCells_blk (b : Nat) (t : TypeId) : ∀ (vs : List Value) (o : Nat) (w : World) (C : List Value), Blk w b t C → o + vs.length ≤ C.length → Blk (w.setCells b o vs) b t (C.take o ++ vs ++ C.drop (o + vs.length))
  | [], o, w, C, h, _ => by
    show Blk w b t _
    simpa using h
  | v :: r, o, w, C, h, hl => by
    have h1 := setCells_blk b t r (o + 1) _ _ (h.set o v) (by simp at hl ⊢; omega)
    have e : (C.set o v).take (o + 1) ++ r ++ (C.set o v).drop (o + 1 + r.length) = C.take o ++ (v :: r) ++ C.drop (o + (v :: r).length) := by
      have ho : o < C.length := by simp at hl; omega
      rw [List.drop_set_of_lt (by omega), List.take_set, List.take_succ_eq_append_getElem ho, List.set_append_right _ _ (by simp; omega)]
      have e2 : o + 1 + r.length = o + (v :: r).length := by simp; omega
      have e3 : o - min o C.length = 0 := by omega
      rw [e2]
      simp [e3]
    rw [e] at h1
    exact h1

/-- The block g was made, and nothing else. -/
structure Fresh (w w' : World) (g : Nat) : Prop where
  is : g = w.heap.size
  size : w'.heap.size = g + 1
  below : Below w.heap.size w w'
theorem Fresh.alloc (w : World) (o : Obj) : Fresh w (w.alloc o) w.heap.size := ⟨rfl, by simp, (Below.refl _ _).alloc (Nat.le_refl _) _⟩
theorem Fresh.blk {w w' : World} {g b : Nat} {t : TypeId} {C : List Value} (h : Fresh w w' g) (hb : Blk w b t C) : Blk w' b t C := hb.kept h.below

section
variable {ops : Array Oper} {rest : List Oper} {o : Oper} {a : Act} {Q : Exit → Act → World → Prop}
/-- 'var x T', T an array or a struct. -/
theorem wp_new (w : World) (hgd : o.guard = none) (t : TypeId) (ho : o.op = .alloc t) (Z : List Value) (hz : (Tryd.prog.info? t).map (fun i => i.zero) = some (some (.agg Z.toArray)))
    (h : ∀ w' g, Blk w' g t Z → Fresh w w' g → wpList Tryd.prog ops Q rest (a.put o.dst (.pointer (some ⟨g, 0, none⟩))) w') : wpList Tryd.prog ops Q (o :: rest) a w := by
  have h := h (w.alloc (.cells Z.toArray t)) _ (Blk.new w t Z) (Fresh.alloc w _)
  refine wpList_plain hgd fun K hK => ?_
  have hzv : ∀ w, (zeroValue t).run Tryd.prog w = .ok (.agg Z.toArray) w := by
    intro w
    cases hq : Tryd.prog.info? t with
    | none => simp [hq] at hz
    | some i =>
      simp [hq] at hz
      simp [zeroValue, typeInfo, hq, hz]
  unfold Oper.wp execOp
  simp only [ho, Instr.alloc, Sem.run_bind, hzv, Result.andThen_ok, Sem.run_pure, newVar, newRow, newObj, Value.cells]
  exact hK _ _ h
/-- A parameter's own variable. -/
theorem wp_box (w : World) (hgd : o.guard = none) (t : TypeId) (x : Operand) (ho : o.op = .box t x) (C : List Value) (hx : a.eval x = .agg C.toArray)
    (h : ∀ w' g, Blk w' g t C → Fresh w w' g → wpList Tryd.prog ops Q rest (a.put o.dst (.pointer (some ⟨g, 0, none⟩))) w') : wpList Tryd.prog ops Q (o :: rest) a w := by
  have h := h (w.alloc (.cells C.toArray t)) _ (Blk.new w t C) (Fresh.alloc w _)
  refine wpList_plain hgd fun K hK => ?_
  unfold Oper.wp execOp
  simp only [ho, hx, Instr.box, Sem.run_bind, Sem.run_pure, newVar, newRow, newObj, Value.cells]
  exact hK _ _ h
/-- A whole array, or a part of a block, is stored. -/
theorem wp_put (w : World) (hgd : o.guard = none) (t : TypeId) (x y : Operand) (ho : o.op = .store t x y) (b off : Nat) (t0 : TypeId) (C cs : List Value)
    (hx : a.eval x = .pointer (some ⟨b, off, none⟩)) (hy : a.eval y = .agg cs.toArray) (hb : Blk w b t0 C) (hn : off + cs.length ≤ C.length) (hi : (Tryd.prog.info? t).map (·.size) = some cs.length) (h1 : ∀ u ∈ cs, u.oneCell' = true)
    (h : ∀ w', Blk w' b t0 (C.take off ++ cs ++ C.drop (off + cs.length)) → Upd b w w' → wpList Tryd.prog ops Q rest (a.put o.dst undef) w') : wpList Tryd.prog ops Q (o :: rest) a w := by
  refine wpList_store_mid hgd t x y ho b off cs.toArray hx hy (by simpa using hb.there hn) (by simpa using hi) (all_oneCell_toArray h1) ?_
  exact h _ (setCells_blk b t0 cs off w C hb hn) (Upd.setCells b cs off w)
/-- The same, where all of the block is stored. -/
theorem wp_putAll (w : World) (hgd : o.guard = none) (t : TypeId) (x y : Operand) (ho : o.op = .store t x y) (b : Nat) (t0 : TypeId) (C cs : List Value)
    (hx : a.eval x = .pointer (some ⟨b, 0, none⟩)) (hy : a.eval y = .agg cs.toArray) (hb : Blk w b t0 C) (hn : cs.length = C.length) (hi : (Tryd.prog.info? t).map (·.size) = some cs.length) (h1 : ∀ u ∈ cs, u.oneCell' = true)
    (h : ∀ w', Blk w' b t0 cs → Upd b w w' → wpList Tryd.prog ops Q rest (a.put o.dst undef) w') : wpList Tryd.prog ops Q (o :: rest) a w := by
  refine wp_put w hgd t x y ho b 0 t0 C cs hx hy hb (by omega) hi h1 fun w' hw hu => h w' ?_ hu
  have e : C.take 0 ++ cs ++ C.drop (0 + cs.length) = cs := by
    rw [List.drop_eq_nil_of_le (by omega)]
    simp
  rwa [e] at hw
/-- A whole array, or a part of a block, is read. -/
theorem wp_get (w : World) (hgd : o.guard = none) (t : TypeId) (x : Operand) (ho : o.op = .load t x) (b off : Nat) (cs : List Value) (d : TypeDesc)
    (hx : a.eval x = .pointer (some ⟨b, off, none⟩)) (hc : w.rangeAt b off cs) (hu : Tryd.prog.underlying t = some d) (hd : d.isRow = true) (hi : (Tryd.prog.info? t).map (·.size) = some cs.length)
    (h : wpList Tryd.prog ops Q rest (a.put o.dst (.agg cs.toArray)) w) : wpList Tryd.prog ops Q (o :: rest) a w :=
  wpList_load_mid hgd t x ho b off hx cs d hc hu hd hi h
/-- 'x[i]', x an array's value. -/
theorem wp_index (w : World) (hgd : o.guard = none) (t : TypeId) (x ix : Operand) (ho : o.op = .index t x ix) (n : Nat) (e : TypeId) (de : TypeDesc) (hu : Tryd.prog.underlying t = some (.array n e))
    (hue : Tryd.prog.underlying e = some de) (hde : de.isRow = false) (hi : (Tryd.prog.info? e).map (·.size) = some 1) (C : List Value) (hx : a.eval x = .agg C.toArray) (k : Nat) (hk : a.eval ix = .int .i64 (k : Int)) (hlt : k < n)
    (v : Value) (hv : C[k]? = some v) (h : wpList Tryd.prog ops Q rest (a.put o.dst v) w) : wpList Tryd.prog ops Q (o :: rest) a w := by
  refine wpList_plain hgd fun K hK => ?_
  have hagg : (isAgg e).run Tryd.prog w = .ok false w := by
    unfold isAgg
    rw [Sem.run_bind, run_underlying hue w]
    cases de <;> simp_all
  have hsz : (sizeOf e).run Tryd.prog w = .ok 1 w := by
    cases hq : Tryd.prog.info? e with
    | none => simp [hq] at hi
    | some i =>
      simp [hq] at hi
      simp [sizeOf, typeInfo, hq, hi]
  have hrun : (Instr.index t (.agg C.toArray) (.int .i64 (k : Int))).run Tryd.prog w = .ok v w := by
    simp [Instr.index, asIntOf, run_underlying hu, hlt, part, hagg, hsz, hv]
  unfold Oper.wp execOp
  simp only [ho, hx, hk, Sem.run_bind, hrun, Result.andThen_ok, Sem.run_pure]
  exact hK _ _ h
end

/-- A result that lies in a cell. -/
theorem ret_cell {fn : Func} {R : Ending → World → Prop} {a : Act} {w : World} (p : Tmp) (ty : TypeId) (hf : fn.results = #[.cell p ty]) (b : Nat) (cs : List Value) (d : TypeDesc)
    (hx : a.tmps.getD p undef = .pointer (some ⟨b, 0, none⟩)) (hc : w.rangeAt b 0 cs) (hu : Tryd.prog.underlying ty = some d) (hd : d.isRow = true) (hi : (Tryd.prog.info? ty).map (·.size) = some cs.length)
    (hdef : a.defers = []) (hR : R (.returned (.agg cs.toArray)) w) : bodyPost Tryd.prog fn R .ret a w := by
  refine bodyPost_ret (v := .agg cs.toArray) ?_ hdef hR
  have hl := run_loadVar_mid (P := Tryd.prog) w b 0 ty cs d hc hu hd hi
  simp only [results, hf]
  simp only [Array.getD_eq_getD_getElem?] at hx
  simp [hx, asAddr, hl]
/-- One cell of a block that is known whole is stored. -/
theorem wp_set {ops : Array Oper} {rest : List Oper} {o : Oper} {a : Act} {Q : Exit → Act → World → Prop} (w : World) (hgd : o.guard = none) (t : TypeId) (x y : Operand) (ho : o.op = .store t x y) (b i : Nat) (t0 : TypeId) (C : List Value) (v : Value)
    (hx : a.eval x = .pointer (some ⟨b, i, none⟩)) (hy : a.eval y = v) (hv : v.cells = #[v]) (h1 : v.oneCell' = true) (hb : Blk w b t0 C) (hi : i < C.length) (hsz : (Tryd.prog.info? t).map (·.size) = some 1)
    (h : ∀ w', Blk w' b t0 (C.set i v) → Upd b w w' → wpList Tryd.prog ops Q rest (a.put o.dst undef) w') : wpList Tryd.prog ops Q (o :: rest) a w := by
  refine wpList_plain hgd fun K hK => ?_
  have hst := run_storeCells_cells (P := Tryd.prog) b i [v] 0 w (fun j hj => (hb.there (o := i) (n := 1) (by omega) j (by simpa using hj)).1) (fun j hj => (hb.there (o := i) (n := 1) (by omega) j (by simpa using hj)).2) (by simpa using h1)
  have hrun : (storeVar t ⟨b, i, none⟩ v).run Tryd.prog w = .ok () (w.setCell ⟨b, i, none⟩ v) := by
    cases hq : Tryd.prog.info? t with
    | none => simp [hq] at hsz
    | some k =>
      have hs : k.size = 1 := by simpa [hq] using hsz
      simpa [storeVar, sizeOf, typeInfo, hq, hv, hs, World.setCells] using hst
  unfold Oper.wp execOp
  simp only [ho, hx, hy, Instr.storeAt, Instr.sureAddr, Sem.run_bind, Sem.run_pure, Result.andThen_ok, hrun]
  exact hK _ _ (h _ (hb.set i v) (Upd.setCell w b i v))
/-- A struct's literal of one field. -/
theorem wp_build1 {ops : Array Oper} {rest : List Oper} {o : Oper} {a : Act} {Q : Exit → Act → World → Prop} (w : World) (hgd : o.guard = none) (t : TypeId) (i : Nat) (x : Operand) (ho : o.op = .build t #[(i, x)])
    (u : Value) (hx : a.eval x = u) (v : Value) (hrun : (Instr.build t #[(i, u)]).run Tryd.prog w = .ok v w)
    (h : wpList Tryd.prog ops Q rest (a.put o.dst v) w) : wpList Tryd.prog ops Q (o :: rest) a w := by
  refine wpList_plain hgd fun K hK => ?_
  unfold Oper.wp execOp
  simp only [ho, List.map_toArray, List.map_cons, List.map_nil, hx, Sem.run_bind, hrun, Result.andThen_ok, Sem.run_pure]
  exact hK _ _ h
/-- A literal of noughts. -/
theorem wp_build0 {ops : Array Oper} {rest : List Oper} {o : Oper} {a : Act} {Q : Exit → Act → World → Prop} (w : World) (hgd : o.guard = none) (t : TypeId) (ho : o.op = .build t #[])
    (v : Value) (hrun : (Instr.build t #[]).run Tryd.prog w = .ok v w)
    (h : wpList Tryd.prog ops Q rest (a.put o.dst v) w) : wpList Tryd.prog ops Q (o :: rest) a w := by
  refine wpList_plain hgd fun K hK => ?_
  unfold Oper.wp execOp
  simp only [ho, List.map_toArray, List.map_nil, Sem.run_bind, hrun, Result.andThen_ok, Sem.run_pure]
  exact hK _ _ h


/-- Nothing that was there is another one, but the blocks x and y. -/
structure Chg (x y : Nat) (w w' : World) : Prop where
  os : w'.os = w.os
  tape : w'.tape = w.tape
  output : w'.output = w.output
  size : w.heap.size ≤ w'.heap.size
  block : ∀ k, k < w.heap.size → k ≠ x → k ≠ y → w'.heap[k]? = w.heap[k]?
theorem Chg.refl (x y : Nat) (w : World) : Chg x y w w := ⟨rfl, rfl, rfl, Nat.le_refl _, fun _ _ _ _ => rfl⟩
theorem Chg.trans {x y : Nat} {w w1 w2 : World} (h : Chg x y w w1) (k : Chg x y w1 w2) : Chg x y w w2 :=
  ⟨k.os.trans h.os, k.tape.trans h.tape, k.output.trans h.output, Nat.le_trans h.size k.size, fun i hi h1 h2 => (k.block i (Nat.lt_of_lt_of_le hi h.size) h1 h2).trans (h.block i hi h1 h2)⟩
theorem Chg.of_below {x y : Nat} {w w' : World} (h : Below w.heap.size w w') : Chg x y w w' := ⟨h.os, h.tape, h.output, h.size, fun k hk _ _ => h.block k hk⟩
theorem Chg.set1 (w : World) (x y i : Nat) (v : Value) : Chg x y w (w.setCell ⟨x, i, none⟩ v) :=
  ⟨rfl, rfl, rfl, by simp [World.setCell], fun k _ h1 _ => Go.heap_setCell_other w ⟨x, i, none⟩ k v h1⟩
theorem Chg.set2 (w : World) (x y i : Nat) (v : Value) : Chg x y w (w.setCell ⟨y, i, none⟩ v) :=
  ⟨rfl, rfl, rfl, by simp [World.setCell], fun k _ _ h1 => Go.heap_setCell_other w ⟨y, i, none⟩ k v h1⟩
theorem Chg.upd1 {x : Nat} {w w' : World} (h : Upd x w w') (y : Nat) : Chg x y w w' := ⟨h.os, h.tape, h.output, Nat.le_of_eq h.size.symm, fun k _ h1 _ => h.block k h1⟩
theorem Chg.upd2 {y : Nat} {w w' : World} (h : Upd y w w') (x : Nat) : Chg x y w w' := ⟨h.os, h.tape, h.output, Nat.le_of_eq h.size.symm, fun k _ _ h1 => h.block k h1⟩
theorem Chg.drew {x y : Nat} {w w' : World} (h : Chg x y w w') : Chg x y w w'.drew := ⟨h.os, h.tape, h.output, h.size, h.block⟩
theorem Chg.drewN {x y : Nat} {w w' : World} (h : Chg x y w w') (k : Nat) : Chg x y w (w'.drewN k) := ⟨h.os, h.tape, h.output, h.size, h.block⟩
theorem Chg.two {x : Nat} {w w' : World} (h : Chg x x w w') (y : Nat) : Chg x y w w' := ⟨h.os, h.tape, h.output, h.size, fun k hk h1 _ => h.block k hk h1 h1⟩
theorem Chg.swap {x y : Nat} {w w' : World} (h : Chg x y w w') : Chg y x w w' := ⟨h.os, h.tape, h.output, h.size, fun k hk h1 h2 => h.block k hk h2 h1⟩
theorem Chg.below {x y B : Nat} {w w' : World} (h : Chg x y w w') (hB : B ≤ w.heap.size) (hx : B ≤ x) (hy : B ≤ y) : Below B w w' :=
  ⟨h.os, h.tape, h.output, h.size, fun k hk => h.block k (by omega) (by omega) (by omega)⟩
theorem Blk.chg {w w' : World} {b x y : Nat} {t : TypeId} {C : List Value} (h : Blk w b t C) (hc : Chg x y w w') (hx : b ≠ x) (hy : b ≠ y) : Blk w' b t C := (hc.block b h.lt hx hy).trans h
theorem Bs.chg {w w' : World} {B x y n : Nat} {A : Option Addr} {l : List UInt8} (h : Bs w B A n l) (hc : Chg x y w w') (hB : B ≤ w.heap.size) (hx : B ≤ x) (hy : B ≤ y) : Bs w' B A n l := h.below (hc.below hB hx hy)
theorem drewN_chg (x y : Nat) (w : World) (k : Nat) : Chg x y w (w.drewN k) := (Chg.refl x y w).drewN k
end Go.Proofs.YtcfgcakmffkpmaaDoor
