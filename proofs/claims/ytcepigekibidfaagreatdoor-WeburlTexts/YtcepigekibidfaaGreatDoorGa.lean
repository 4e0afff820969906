/-
  Words for bytes in memory: a slice value that holds a list of bytes, a row of bytes that the call itself made. No condition; used by every walk of this seat.
  Small words for the walks of this seat's laws: append onto a new row, with the slice that comes back written out; bytes that came in as an argument. No condition.
  Words for whole arrays in memory: a block that is known whole, what a store into it leaves, and the operations of a walk on them (an array's variable made, read, written; a result that lies in a cell). No condition.
  append of bytes onto a row of the call's own: cells of other types stay. No condition.
  The mathematics of bytes with a percent sign: lists of bytes encoded and decoded. No program, no condition.
  What percent.Decode and what it calls answer; nothing that was there turns. Condition: texts of at most 100000000 bytes.
  '==' of strings at an operation of a walk; cuts and sums of strings. No condition.
-/
import Derived.Test.YtcepigekibidfaaGreatDoorProg
import Derived.WalkKit
import Derived.WalkSpells
import Derived.WalkLawsBesides
import Derived.Maps.AppendAt
import Derived.Lib.AppendStr
import Derived.Lib.Hide
import Derived.Laws.BytesArg
import Derived.Lib.SliceRun
import Derived.Lib.MinMax
import Derived.Deep.RegionHeld3
import Derived.Deep.MidRow
import Derived.Laws.Rows
import Derived.Laws.CopyRow
namespace Go.Proofs.YtcepigekibidfaaGreatDoor
open Go.RowKit

def vb (c : UInt8) : Value := .int .u8 (c.toNat : Int)
def vbs (l : List UInt8) : List Value := l.map vb
/-- A list of bytes as a Go string. -/
def str (l : List UInt8) : ByteArray := ⟨l.toArray⟩

theorem vbs_length (l : List UInt8) : (vbs l).length = l.length := by simp [vbs]
theorem vbs_append (l m : List UInt8) : vbs (l ++ m) = vbs l ++ vbs m := by simp [vbs]
theorem vbs_get {l : List UInt8} {j : Nat} {u : Value} (h : (vbs l)[j]? = some u) : ∃ c, l[j]? = some c ∧ u = vb c := by
  simp only [vbs, List.getElem?_map, Option.map_eq_some_iff] at h
  obtain ⟨c, hc, rfl⟩ := h
  exact ⟨c, hc, rfl⟩
theorem vbs_one (l : List UInt8) : ∀ u ∈ vbs l, u.oneCell' = true := by
  intro u hu
  simp only [vbs, List.mem_map] at hu
  obtain ⟨c, _, rfl⟩ := hu
  rfl
theorem str_size (l : List UInt8) : (str l).size = l.length := by simp [str, ByteArray.size]

/-- The slice value '.slice A n c' holds the bytes l, in a block below B. -/
def Bs (w : World) (B : Nat) (A : Option Addr) (n : Nat) (l : List UInt8) : Prop :=
  l.length = n ∧ (0 < n → ∃ b off, A = some ⟨b, off, none⟩ ∧ b < B ∧ ∀ j c, l[j]? = some c → w.cell? ⟨b, off + j, none⟩ = some (vb c))

/-- The value v is a row of bytes of the call's own (blocks from base on), of n bytes l. -/
def Own (w : World) (base : Nat) (v : Value) (n : Nat) (l : List UInt8) : Prop := w.ownsRow base 5 1 v n (vbs l)

section
variable {w w' : World} {B B' n c : Nat} {A : Option Addr} {l : List UInt8}
theorem Bs.nil_ (h : Bs w B none n l) : n = 0 ∧ l = [] := by
  rcases Nat.eq_zero_or_pos n with h0 | h0
  · exact ⟨h0, List.eq_nil_of_length_eq_zero (by rw [h.1, h0])⟩
  · obtain ⟨b, off, e, _⟩ := h.2 h0
    cases e
theorem Bs.drew (h : Bs w B A n l) : Bs w.drew B A n l := h
theorem Own.form {v : Value} {base : Nat} (h : Own w base v n l) : ∃ A c, v = .slice A n c ∧ n ≤ c ∧ Bs w w.heap.size A n l := by
  have hl := h.1
  rw [vbs_length, Nat.mul_one] at hl
  rcases h.2 with ⟨rfl, rfl⟩ | ⟨g, cap, cur, rfl, hb, hg, hnc, _⟩
  · exact ⟨none, 0, rfl, Nat.le_refl _, hl, fun hn => absurd hn (by omega)⟩
  · have hlt : g < w.heap.size := (Array.getElem?_eq_some_iff.1 hg).1
    refine ⟨some ⟨g, 0, none⟩, cap, rfl, hnc, hl, fun _ => ⟨g, 0, rfl, hlt, fun j c hj => ?_⟩⟩
    have := World.ownsRow.cells (g := g) h rfl j (vb c) (by simp [vbs, hj])
    rwa [Addr.add_lit] at this
/-- Own's block lies at base or above, so what is below is kept. -/
theorem Own.base_le {v : Value} {base : Nat} (h : Own w base v n l) : ∀ k, v.ownBlock = some k → base ≤ k := fun k hk => (World.ownsRow.lt h k hk).1
/-- What is owned stays so while all blocks that were there stay. -/
theorem Own.kept {v : Value} {base : Nat} (h : Own w base v n l) (hb : Below w.heap.size w w') : Own w' base v n l := by
  refine ⟨h.1, ?_⟩
  rcases h.2 with h2 | ⟨g, cap, cur, hv, hg, hh, r⟩
  · exact .inl h2
  · exact .inr ⟨g, cap, cur, hv, hg, by rw [hb.block g (Array.getElem?_eq_some_iff.1 hh).1]; exact hh, r⟩
theorem Own.alloc {v : Value} {base : Nat} (h : Own w base v n l) (o : Obj) : Own (w.alloc o) base v n l := World.ownsRow.alloc h o
end

theorem byte_info : (Tryz.prog.info? 5).map (fun i => (i.zero, i.size, i.bytes)) = some (some (.int .u8 0), 1, 1) := by kernel_rfl

/-- append onto an owned row of bytes, of whatever slice of bytes, nil too. -/
theorem run_app (w : World) (base : Nat) (ty : TypeId) (v : Value) (n : Nat) (l : List UInt8) (hown : Own w base v n l)
    (B : Nat) (A : Option Addr) (m c : Nat) (k : List UInt8) (hr : Bs w B A m k) (hs : n + m ≤ 1000000000) (hbase : base ≤ w.heap.size) :
    ∃ v' w', (Builtin.append_ #[36, 36] ty #[v, .slice A m c]).run Tryz.prog w = .ok v' w' ∧ Own w' base v' (n + m) (l ++ k) ∧ Below base w w' := by
  obtain ⟨i, hi, hz, h1, h2⟩ := info_parts byte_info
  rcases A with _ | ad
  · obtain ⟨rfl, rfl⟩ := hr.nil_
    refine ⟨v, w, ?_, by simpa using hown, Below.refl _ _⟩
    rcases hown.2 with ⟨rfl, rfl⟩ | ⟨g, cap, cur, rfl, _, _, hnc, _⟩
    · simp [Builtin.append_, run_underlying Tryz.underlying36, sizeOf, typeInfo, hi, Builtin.lenOf, Builtin.firstCells]
    · simp [Builtin.append_, run_underlying Tryz.underlying36, sizeOf, typeInfo, hi, Builtin.lenOf, Builtin.firstCells, hnc, storeCells]
  · have hcells : ∀ j u, (vbs k)[j]? = some u → w.cell? (ad.add j) = some u := by
      intro j u hu
      obtain ⟨x, hx, rfl⟩ := vbs_get hu
      have hm : 0 < m := by
        have := (List.getElem?_eq_some_iff.1 hx).1
        have := hr.1
        omega
      obtain ⟨b, off, e, _, hc⟩ := hr.2 hm
      have e := Option.some.inj e
      subst e
      rw [Addr.add_lit]
      exact hc j x hx
    obtain ⟨v', w', hrun, h3, h4, _, h5⟩ := run_append_own_at (P := Tryz.prog) w base 36 ty 5 i _ 1 1 Tryz.underlying36 hi hz h1 h2 rfl (by omega) v n (vbs l) hown ad m c (vbs k)
      (by rw [vbs_length, Nat.mul_one]; exact hr.1) hcells (vbs_one k) (by unfold maxLen; omega) (by omega) hbase
    exact ⟨v', w', hrun, by rw [← vbs_append] at h3; exact h3, (Below.refl _ _).grown h4 hbase (Own.base_le hown)⟩

/-- The same at the operation of a walk. -/
theorem wp_app {ops : Array Oper} {rest : List Oper} {o : Oper} {a : Act} {Q : Exit → Act → World → Prop} (w : World) (hgd : o.guard = none) (s x : Operand)
    (ho : o.op = .call { callee := .builtin .append, args := #[s, x], argTypes := #[36, 36] })
    (base : Nat) (v : Value) (n : Nat) (l : List UInt8) (hs : a.eval s = v) (hown : Own w base v n l)
    (B : Nat) (A : Option Addr) (m c : Nat) (k : List UInt8) (hx : a.eval x = .slice A m c) (hr : Bs w B A m k) (hsz : n + m ≤ 1000000000) (hbase : base ≤ w.heap.size)
    (h : ∀ v' w', Own w' base v' (n + m) (l ++ k) → Below base w w' → wpList Tryz.prog ops Q rest (a.put o.dst v') w') : wpList Tryz.prog ops Q (o :: rest) a w := by
  refine wpList_plain hgd fun K hK => ?_
  obtain ⟨v', w', hrun, h2, h3⟩ := run_app w base o.type v n l hown B A m c k hr hsz hbase
  unfold Oper.wp execOp
  simp only [ho, resolve, invoke, builtin, Sem.run_bind, Sem.run_pure, Result.andThen_ok, List.map_toArray, List.map_cons, List.map_nil, hs, hx, hrun]
  exact hK _ _ (h v' w' h2 h3)

/-- string(b) is b's bytes. -/
theorem run_str (w : World) (B : Nat) (A : Option Addr) (n c : Nat) (l : List UInt8) (h : Bs w B A n l) : (convert 36 9 (.slice A n c)).run Tryz.prog w = .ok (.string (str l)) w := by
  rcases A with _ | ⟨b, off, sp⟩
  · obtain ⟨rfl, rfl⟩ := h.nil_
    exact run_convert_bytes_nil w 36 5 Tryz.underlying36 Tryz.underlying5 0 c 9 Tryz.underlying9
  · rcases Nat.eq_zero_or_pos n with h0 | h0
    · subst h0
      have hl : l = [] := List.eq_nil_of_length_eq_zero h.1
      subst hl
      rw [run_convert_bytes_string w 36 9 5 _ 0 c Tryz.underlying36 Tryz.underlying5 Tryz.underlying9, run_bytesToString w _ 0 c [] (by simp [loadCells, loadCellsFrom])]
      rfl
    · obtain ⟨b', off', e, _, hc⟩ := h.2 h0
      obtain ⟨e1, e2, e3⟩ := Addr.mk.inj (Option.some.inj e)
      subst e1 e2 e3
      have := run_convert_bytes_arg (P := Tryz.prog) w 36 5 Tryz.underlying36 Tryz.underlying5 b off n c (l.map fun x => (x.toNat : Int)) (by rw [List.length_map]; exact h.1)
        (fun i hi => by
          have hl : i < l.length := by rw [h.1]; exact hi
          rw [hc i l[i] (List.getElem?_eq_getElem hl)]
          simp [vb, List.getD, List.getElem?_eq_getElem hl]) 9 Tryz.underlying9
      rw [this]
      have e : strOfNums (l.map fun x => (x.toNat : Int)) = str l := by
        apply ByteArray.ext
        apply Array.ext'
        rw [strOfNums_data]
        simp [str, Function.comp_def]
      rw [e]

/-- The same at the operation of a walk. -/
theorem wp_str {ops : Array Oper} {rest : List Oper} {o : Oper} {a : Act} {Q : Exit → Act → World → Prop} (w : World) (hgd : o.guard = none) (x : Operand)
    (ho : o.op = .convert 36 9 x) (B : Nat) (A : Option Addr) (n c : Nat) (l : List UInt8) (hx : a.eval x = .slice A n c) (hr : Bs w B A n l)
    (h : wpList Tryz.prog ops Q rest (a.put o.dst (.string (str l))) w) : wpList Tryz.prog ops Q (o :: rest) a w := by
  refine wpList_plain hgd fun K hK => ?_
  have hrun := run_str w B A n c l hr
  unfold Oper.wp execOp
  simp only [ho, hx, hrun, Sem.run_bind, Sem.run_pure, Result.andThen_ok]
  exact hK _ _ h

/-- One byte in a block of its own, as 'append(b, c)' lays it. -/
theorem Bs.one (w : World) (c : UInt8) : Bs (w.alloc (.cells #[vb c] 5)) (w.heap.size + 1) (some ⟨w.heap.size, 0, none⟩) 1 [c] := by
  refine ⟨rfl, fun _ => ⟨w.heap.size, 0, rfl, by omega, fun j u hj => ?_⟩⟩
  match j, hj with
  | 0, hj =>
    simp at hj
    subst hj
    simp
theorem Bs.one' (w : World) (x : Int) (c : UInt8) (h : x = (c.toNat : Int)) : Bs (w.alloc (.cells #[.int .u8 x] 5)) (w.heap.size + 1) (some ⟨w.heap.size, 0, none⟩) 1 [c] := by
  subst h
  exact Bs.one w c
theorem toNat_ofNat_lt (k : Nat) (h : k < 256) : (UInt8.ofNat k).toNat = k := by
  simp
  omega
end Go.Proofs.YtcepigekibidfaaGreatDoor
namespace Go.Proofs.YtcepigekibidfaaGreatDoor
open Go.RowKit

/-- A literal of bytes in a block of its own. -/
theorem Bs.new (w : World) (l : List UInt8) (a : Array Value) (ha : a = (vbs l).toArray) (n : Nat) (hn : l.length = n) : Bs (w.alloc (.cells a 5)) (w.alloc (.cells a 5)).heap.size (some ⟨w.heap.size, 0, none⟩) n l := by
  subst ha
  refine ⟨hn, fun _ => ⟨w.heap.size, 0, rfl, by simp, fun j c hj => ?_⟩⟩
  rw [Nat.zero_add, cell_of_row _ _ _ _ _ _ (heap_alloc_new w _)]
  simp [vbs, hj]

/-- The same inside a region that draws its order. -/
theorem step_appS {ops : Array Oper} {o : Oper} {a : Act} {K : Act → World → Prop} {Q : Exit → Act → World → Prop} {E : Prop} (w : World) (hgd : o.guard = none) (s x : Operand)
    (ho : o.op = .call { callee := .builtin .append, args := #[s, x], argTypes := #[36, 36] })
    (base : Nat) (v : Value) (n : Nat) (l : List UInt8) (hs : a.eval s = v) (hown : Own w base v n l)
    (B : Nat) (A : Option Addr) (m c : Nat) (k : List UInt8) (hx : a.eval x = .slice A m c) (hr : Bs w B A m k) (hsz : n + m ≤ 1000000000) (hbase : base ≤ w.heap.size)
    (N : Nat) (L : List UInt8) (hN : n + m = N) (hL : l ++ k = L)
    (h : ∀ A' c' w', N ≤ c' → Bs w' w'.heap.size A' N L → Own w' base (.slice A' N c') N L → Below base w w' → K (a.put o.dst (.slice A' N c')) w') :
    if Region.wanted o (yielded ops a.tmps) = true then Oper.wp Tryz.prog o a w K Q else E := by
  have hw : Region.wanted o (yielded ops a.tmps) = true := by simp [Region.wanted, hgd]
  rw [if_pos hw]
  subst hN hL
  obtain ⟨v', w', hrun, h2, h3⟩ := run_app w base o.type v n l hown B A m c k hr hsz hbase
  obtain ⟨A', c', rfl, h4, h5⟩ := h2.form
  unfold Oper.wp execOp
  simp only [ho, resolve, invoke, builtin, Sem.run_bind, Sem.run_pure, Result.andThen_ok, List.map_toArray, List.map_cons, List.map_nil, hs, hx, hrun]
  exact h A' c' w' h4 h5 h2 h3

/-- '[]byte{}' in a block of its own. -/
theorem own_empty (w : World) (base : Nat) (hb : base ≤ w.heap.size) : Own (w.alloc (.cells #[] 5)) base (.slice (some ⟨w.heap.size, 0, none⟩) 0 0) 0 [] :=
  World.ownsRow_made _ _ _ hb (by decide) rfl

/-- All that w held is as it was. -/
def Kept (w W : World) : Prop := Below w.heap.size w W
theorem Kept.refl (w : World) : Kept w w := Below.refl _ _
theorem Kept.drew {w W : World} (h : Kept w W) : Kept w W.drew := Below.drew h
theorem Kept.alloc {w W : World} (h : Kept w W) (o : Obj) : Kept w (W.alloc o) := Below.alloc h h.size o
theorem Kept.base {w W W' : World} (h : Kept w W) (hb : Below w.heap.size W W') : Kept w W' := Below.trans h hb
theorem Kept.step {w W W' : World} (h : Kept w W) (hb : Below W.heap.size W W') : Kept w W' := Below.trans h (hb.mono h.size)
end Go.Proofs.YtcepigekibidfaaGreatDoor
namespace Go.Proofs.YtcepigekibidfaaGreatDoor
open Go.RowKit

/-- The block b is known whole: the cells C of a variable of type t. -/
def Blk (w : World) (b : Nat) (t : TypeId) (C : List Value) : Prop := w.heap[b]? = some (.cells C.toArray t (0, 0))
/-- Nothing but block b is another one. -/
structure Upd (b : Nat) (w w' : World) : Prop where
  os : w'.os = w.os
  tape : w'.tape = w.tape
  output : w'.output = w.output
  size : w'.heap.size = w.heap.size
  block : ∀ k, k ≠ b → w'.heap[k]? = w.heap[k]?
theorem Upd.refl (b : Nat) (w : World) : Upd b w w := ⟨rfl, rfl, rfl, rfl, fun _ _ => rfl⟩
theorem Upd.trans {b : Nat} {w w1 w2 : World} (h : Upd b w w1) (k : Upd b w1 w2) : Upd b w w2 :=
  ⟨k.os.trans h.os, k.tape.trans h.tape, k.output.trans h.output, k.size.trans h.size, fun i hi => (k.block i hi).trans (h.block i hi)⟩
theorem Upd.below {b B : Nat} {w w' : World} (h : Upd b w w') (hB : B ≤ b) : Below B w w' :=
  ⟨h.os, h.tape, h.output, Nat.le_of_eq h.size.symm, fun k hk => h.block k (by omega)⟩
theorem Upd.setCell (w : World) (b i : Nat) (v : Value) : Upd b w (w.setCell ⟨b, i, none⟩ v) :=
  ⟨rfl, rfl, rfl, by simp [World.setCell], fun k hk => Go.heap_setCell_other w ⟨b, i, none⟩ k v hk⟩
theorem Upd.setCells (b : Nat) : ∀ (vs : List Value) (o : Nat) (w : World), Upd b w (w.setCells b o vs)
  | [], _, w => Upd.refl b w
  | v :: r, o, w => (Upd.setCell w b o v).trans (Upd.setCells b r (o + 1) _)

section
variable {w w' : World} {b : Nat} {t : TypeId} {C : List Value}
theorem Blk.lt (h : Blk w b t C) : b < w.heap.size := (Array.getElem?_eq_some_iff.1 h).1
theorem Blk.new (w : World) (t : TypeId) (C : List Value) : Blk (w.alloc (.cells C.toArray t)) w.heap.size t C := Go.heap_alloc_new w _
theorem Blk.alloc (h : Blk w b t C) (o : Obj) : Blk (w.alloc o) b t C := (Go.heap_alloc_old w o h.lt).trans h
theorem Blk.drew (h : Blk w b t C) : Blk w.drew b t C := h
theorem Blk.below (h : Blk w b t C) {B : Nat} (hb : Below B w w') (hB : b < B) : Blk w' b t C := (hb.block b hB).trans h
theorem Blk.kept (h : Blk w b t C) (hb : Below w.heap.size w w') : Blk w' b t C := h.below hb h.lt
theorem Blk.upd (h : Blk w b t C) {b' : Nat} (hu : Upd b' w w') (hne : b ≠ b') : Blk w' b t C := (hu.block b hne).trans h
theorem Blk.cell (h : Blk w b t C) {i : Nat} {v : Value} (hv : C[i]? = some v) : w.cell? ⟨b, i, none⟩ = some v := by
  rw [Go.cell_of_row w b i _ _ _ h]
  simpa using hv
theorem Blk.frozen (h : Blk w b t C) (i : Nat) : w.frozen? ⟨b, i, none⟩ = false := Go.frozen_of_row w b i _ _ h
theorem Blk.whole (h : Blk w b t C) : w.rangeAt b 0 C := by
  intro j v hv
  rw [Nat.zero_add]
  exact h.cell hv
theorem Blk.there (h : Blk w b t C) {o n : Nat} (hn : o + n ≤ C.length) : w.there b o n := fun j hj =>
  ⟨by rw [h.cell (List.getElem?_eq_getElem (by omega : o + j < C.length))]; rfl, h.frozen _⟩
theorem Blk.set (h : Blk w b t C) (i : Nat) (v : Value) : Blk (w.setCell ⟨b, i, none⟩ v) b t (C.set i v) := by
  have := Go.heap_setCell_same w b i _ t v h
  simpa [Blk] using this
end
theorem setCells_blk (b : Nat) (t : TypeId) : ∀ (vs : List Value) (o : Nat) (w : World) (C : List Value), Blk w b t C → o + vs.length ≤ C.length → Blk (w.setCells b o vs) b t (C.take o ++ vs ++ C.drop (o + vs.length))
  | [], o, w, C, h, _ => by
    show Blk w b t _
    simpa using h
  | v :: r, o, w, C, h, hl => by
    have h1 := setCells_blk b t r (o + 1) _ _ (h.set o v) (by simp at hl ⊢; omega)
    have e : (C.set o v).take (o + 1) ++ r ++ (C.set o v).drop (o + 1 + r.length) = C.take o ++ (v :: r) ++ C.drop (o + (v :: r).length) := by
      have ho : o < C.length := by simp at hl; omega
      rw [List.drop_set_of_lt (by omega), List.take_set, List.take_succ_eq_append_getElem ho, List.set_append_right _ _ (by simp; omega)]
      have e2 : o + 1 + r.length = o + (v :: r).length := by simp; omega
      have e3 : o - min o C.length = 0 := by omega
      rw [e2]
      simp [e3]
    rw [e] at h1
    exact h1

/-- The block g was made, and nothing else. -/
structure Fresh (w w' : World) (g : Nat) : Prop where
  is : g = w.heap.size
  size : w'.heap.size = g + 1
  below : Below w.heap.size w w'
theorem Fresh.alloc (w : World) (o : Obj) : Fresh w (w.alloc o) w.heap.size := ⟨rfl, by simp, (Below.refl _ _).alloc (Nat.le_refl _) _⟩
theorem Fresh.blk {w w' : World} {g b : Nat} {t : TypeId} {C : List Value} (h : Fresh w w' g) (hb : Blk w b t C) : Blk w' b t C := hb.kept h.below

section
variable {ops : Array Oper} {rest : List Oper} {o : Oper} {a : Act} {Q : Exit → Act → World → Prop}
/-- 'var x T', T an array or a struct. -/
theorem wp_new (w : World) (hgd : o.guard = none) (t : TypeId) (ho : o.op = .alloc t) (Z : List Value) (hz : (Tryz.prog.info? t).map (fun i => i.zero) = some (some (.agg Z.toArray)))
    (h : ∀ w' g, Blk w' g t Z → Fresh w w' g → wpList Tryz.prog ops Q rest (a.put o.dst (.pointer (some ⟨g, 0, none⟩))) w') : wpList Tryz.prog ops Q (o :: rest) a w := by
  have h := h (w.alloc (.cells Z.toArray t)) _ (Blk.new w t Z) (Fresh.alloc w _)
  refine wpList_plain hgd fun K hK => ?_
  have hzv : ∀ w, (zeroValue t).run Tryz.prog w = .ok (.agg Z.toArray) w := by
    intro w
    cases hq : Tryz.prog.info? t with
    | none => simp [hq] at hz
    | some i =>
      simp [hq] at hz
      simp [zeroValue, typeInfo, hq, hz]
  unfold Oper.wp execOp
  simp only [ho, Instr.alloc, Sem.run_bind, hzv, Result.andThen_ok, Sem.run_pure, newVar, newRow, newObj, Value.cells]
  exact hK _ _ h
/-- A parameter's own variable. -/
theorem wp_box (w : World) (hgd : o.guard = none) (t : TypeId) (x : Operand) (ho : o.op = .box t x) (C : List Value) (hx : a.eval x = .agg C.toArray)
    (h : ∀ w' g, Blk w' g t C → Fresh w w' g → wpList Tryz.prog ops Q rest (a.put o.dst (.pointer (some ⟨g, 0, none⟩))) w') : wpList Tryz.prog ops Q (o :: rest) a w := by
  have h := h (w.alloc (.cells C.toArray t)) _ (Blk.new w t C) (Fresh.alloc w _)
  refine wpList_plain hgd fun K hK => ?_
  unfold Oper.wp execOp
  simp only [ho, hx, Instr.box, Sem.run_bind, Sem.run_pure, newVar, newRow, newObj, Value.cells]
  exact hK _ _ h
/-- A whole array, or a part of a block, is stored. -/
theorem wp_put (w : World) (hgd : o.guard = none) (t : TypeId) (x y : Operand) (ho : o.op = .store t x y) (b off : Nat) (t0 : TypeId) (C cs : List Value)
    (hx : a.eval x = .pointer (some ⟨b, off, none⟩)) (hy : a.eval y = .agg cs.toArray) (hb : Blk w b t0 C) (hn : off + cs.length ≤ C.length) (hi : (Tryz.prog.info? t).map (·.size) = some cs.length) (h1 : ∀ u ∈ cs, u.oneCell' = true)
    (h : ∀ w', Blk w' b t0 (C.take off ++ cs ++ C.drop (off + cs.length)) → Upd b w w' → wpList Tryz.prog ops Q rest (a.put o.dst undef) w') : wpList Tryz.prog ops Q (o :: rest) a w := by
  refine wpList_store_mid hgd t x y ho b off cs.toArray hx hy (by simpa using hb.there hn) (by simpa using hi) (all_oneCell_toArray h1) ?_
  exact h _ (setCells_blk b t0 cs off w C hb hn) (Upd.setCells b cs off w)
/-- The same, where all of the block is stored. -/
theorem wp_putAll (w : World) (hgd : o.guard = none) (t : TypeId) (x y : Operand) (ho : o.op = .store t x y) (b : Nat) (t0 : TypeId) (C cs : List Value)
    (hx : a.eval x = .pointer (some ⟨b, 0, none⟩)) (hy : a.eval y = .agg cs.toArray) (hb : Blk w b t0 C) (hn : cs.length = C.length) (hi : (Tryz.prog.info? t).map (·.size) = some cs.length) (h1 : ∀ u ∈ cs, u.oneCell' = true)
    (h : ∀ w', Blk w' b t0 cs → Upd b w w' → wpList Tryz.prog ops Q rest (a.put o.dst undef) w') : wpList Tryz.prog ops Q (o :: rest) a w := by
  refine wp_put w hgd t x y ho b 0 t0 C cs hx hy hb (by omega) hi h1 fun w' hw hu => h w' ?_ hu
  have e : C.take 0 ++ cs ++ C.drop (0 + cs.length) = cs := by
    rw [List.drop_eq_nil_of_le (by omega)]
    simp
  rwa [e] at hw
/-- A whole array, or a part of a block, is read. -/
theorem wp_get (w : World) (hgd : o.guard = none) (t : TypeId) (x : Operand) (ho : o.op = .load t x) (b off : Nat) (cs : List Value) (d : TypeDesc)
    (hx : a.eval x = .pointer (some ⟨b, off, none⟩)) (hc : w.rangeAt b off cs) (hu : Tryz.prog.underlying t = some d) (hd : d.isRow = true) (hi : (Tryz.prog.info? t).map (·.size) = some cs.length)
    (h : wpList Tryz.prog ops Q rest (a.put o.dst (.agg cs.toArray)) w) : wpList Tryz.prog ops Q (o :: rest) a w :=
  wpList_load_mid hgd t x ho b off hx cs d hc hu hd hi h
/-- 'x[i]', x an array's value. -/
theorem wp_index (w : World) (hgd : o.guard = none) (t : TypeId) (x ix : Operand) (ho : o.op = .index t x ix) (n : Nat) (e : TypeId) (de : TypeDesc) (hu : Tryz.prog.underlying t = some (.array n e))
    (hue : Tryz.prog.underlying e = some de) (hde : de.isRow = false) (hi : (Tryz.prog.info? e).map (·.size) = some 1) (C : List Value) (hx : a.eval x = .agg C.toArray) (k : Nat) (hk : a.eval ix = .int .i64 (k : Int)) (hlt : k < n)
    (v : Value) (hv : C[k]? = some v) (h : wpList Tryz.prog ops Q rest (a.put o.dst v) w) : wpList Tryz.prog ops Q (o :: rest) a w := by
  refine wpList_plain hgd fun K hK => ?_
  have hagg : (isAgg e).run Tryz.prog w = .ok false w := by
    unfold isAgg
    rw [Sem.run_bind, run_underlying hue w]
    cases de <;> simp_all
  have hsz : (sizeOf e).run Tryz.prog w = .ok 1 w := by
    cases hq : Tryz.prog.info? e with
    | none => simp [hq] at hi
    | some i =>
      simp [hq] at hi
      simp [sizeOf, typeInfo, hq, hi]
  have hrun : (Instr.index t (.agg C.toArray) (.int .i64 (k : Int))).run Tryz.prog w = .ok v w := by
    simp [Instr.index, asIntOf, run_underlying hu, hlt, part, hagg, hsz, hv]
  unfold Oper.wp execOp
  simp only [ho, hx, hk, Sem.run_bind, hrun, Result.andThen_ok, Sem.run_pure]
  exact hK _ _ h
end

/-- A result that lies in a cell. -/
theorem ret_cell {fn : Func} {R : Ending → World → Prop} {a : Act} {w : World} (p : Tmp) (ty : TypeId) (hf : fn.results = #[.cell p ty]) (b : Nat) (cs : List Value) (d : TypeDesc)
    (hx : a.tmps.getD p undef = .pointer (some ⟨b, 0, none⟩)) (hc : w.rangeAt b 0 cs) (hu : Tryz.prog.underlying ty = some d) (hd : d.isRow = true) (hi : (Tryz.prog.info? ty).map (·.size) = some cs.length)
    (hdef : a.defers = []) (hR : R (.returned (.agg cs.toArray)) w) : bodyPost Tryz.prog fn R .ret a w := by
  refine bodyPost_ret (v := .agg cs.toArray) ?_ hdef hR
  have hl := run_loadVar_mid (P := Tryz.prog) w b 0 ty cs d hc hu hd hi
  simp only [results, hf]
  simp only [Array.getD_eq_getD_getElem?] at hx
  simp [hx, asAddr, hl]
/-- One cell of a block that is known whole is stored. -/
theorem wp_set {ops : Array Oper} {rest : List Oper} {o : Oper} {a : Act} {Q : Exit → Act → World → Prop} (w : World) (hgd : o.guard = none) (t : TypeId) (x y : Operand) (ho : o.op = .store t x y) (b i : Nat) (t0 : TypeId) (C : List Value) (v : Value)
    (hx : a.eval x = .pointer (some ⟨b, i, none⟩)) (hy : a.eval y = v) (hv : v.cells = #[v]) (h1 : v.oneCell' = true) (hb : Blk w b t0 C) (hi : i < C.length) (hsz : (Tryz.prog.info? t).map (·.size) = some 1)
    (h : ∀ w', Blk w' b t0 (C.set i v) → Upd b w w' → wpList Tryz.prog ops Q rest (a.put o.dst undef) w') : wpList Tryz.prog ops Q (o :: rest) a w := by
  refine wpList_plain hgd fun K hK => ?_
  have hst := run_storeCells_cells (P := Tryz.prog) b i [v] 0 w (fun j hj => (hb.there (o := i) (n := 1) (by omega) j (by simpa using hj)).1) (fun j hj => (hb.there (o := i) (n := 1) (by omega) j (by simpa using hj)).2) (by simpa using h1)
  have hrun : (storeVar t ⟨b, i, none⟩ v).run Tryz.prog w = .ok () (w.setCell ⟨b, i, none⟩ v) := by
    cases hq : Tryz.prog.info? t with
    | none => simp [hq] at hsz
    | some k =>
      have hs : k.size = 1 := by simpa [hq] using hsz
      simpa [storeVar, sizeOf, typeInfo, hq, hv, hs, World.setCells] using hst
  unfold Oper.wp execOp
  simp only [ho, hx, hy, Instr.storeAt, Instr.sureAddr, Sem.run_bind, Sem.run_pure, Result.andThen_ok, hrun]
  exact hK _ _ (h _ (hb.set i v) (Upd.setCell w b i v))
/-- A struct's literal of one field. -/
theorem wp_build1 {ops : Array Oper} {rest : List Oper} {o : Oper} {a : Act} {Q : Exit → Act → World → Prop} (w : World) (hgd : o.guard = none) (t : TypeId) (i : Nat) (x : Operand) (ho : o.op = .build t #[(i, x)])
    (u : Value) (hx : a.eval x = u) (v : Value) (hrun : (Instr.build t #[(i, u)]).run Tryz.prog w = .ok v w)
    (h : wpList Tryz.prog ops Q rest (a.put o.dst v) w) : wpList Tryz.prog ops Q (o :: rest) a w := by
  refine wpList_plain hgd fun K hK => ?_
  unfold Oper.wp execOp
  simp only [ho, List.map_toArray, List.map_cons, List.map_nil, hx, Sem.run_bind, hrun, Result.andThen_ok, Sem.run_pure]
  exact hK _ _ h
/-- A literal of noughts. -/
theorem wp_build0 {ops : Array Oper} {rest : List Oper} {o : Oper} {a : Act} {Q : Exit → Act → World → Prop} (w : World) (hgd : o.guard = none) (t : TypeId) (ho : o.op = .build t #[])
    (v : Value) (hrun : (Instr.build t #[]).run Tryz.prog w = .ok v w)
    (h : wpList Tryz.prog ops Q rest (a.put o.dst v) w) : wpList Tryz.prog ops Q (o :: rest) a w := by
  refine wpList_plain hgd fun K hK => ?_
  unfold Oper.wp execOp
  simp only [ho, List.map_toArray, List.map_nil, Sem.run_bind, hrun, Result.andThen_ok, Sem.run_pure]
  exact hK _ _ h

/-- Nothing that was there is another one, but the blocks x and y. -/
structure Chg (x y : Nat) (w w' : World) : Prop where
  os : w'.os = w.os
  tape : w'.tape = w.tape
  output : w'.output = w.output
  size : w.heap.size ≤ w'.heap.size
  block : ∀ k, k < w.heap.size → k ≠ x → k ≠ y → w'.heap[k]? = w.heap[k]?
theorem Chg.refl (x y : Nat) (w : World) : Chg x y w w := ⟨rfl, rfl, rfl, Nat.le_refl _, fun _ _ _ _ => rfl⟩
theorem Chg.trans {x y : Nat} {w w1 w2 : World} (h : Chg x y w w1) (k : Chg x y w1 w2) : Chg x y w w2 :=
  ⟨k.os.trans h.os, k.tape.trans h.tape, k.output.trans h.output, Nat.le_trans h.size k.size, fun i hi h1 h2 => (k.block i (Nat.lt_of_lt_of_le hi h.size) h1 h2).trans (h.block i hi h1 h2)⟩
theorem Chg.of_below {x y : Nat} {w w' : World} (h : Below w.heap.size w w') : Chg x y w w' := ⟨h.os, h.tape, h.output, h.size, fun k hk _ _ => h.block k hk⟩
theorem Chg.upd1 {x : Nat} {w w' : World} (h : Upd x w w') (y : Nat) : Chg x y w w' := ⟨h.os, h.tape, h.output, Nat.le_of_eq h.size.symm, fun k _ h1 _ => h.block k h1⟩
theorem Chg.drew {x y : Nat} {w w' : World} (h : Chg x y w w') : Chg x y w w'.drew := ⟨h.os, h.tape, h.output, h.size, h.block⟩
theorem Chg.below {x y B : Nat} {w w' : World} (h : Chg x y w w') (hB : B ≤ w.heap.size) (hx : B ≤ x) (hy : B ≤ y) : Below B w w' :=
  ⟨h.os, h.tape, h.output, h.size, fun k hk => h.block k (by omega) (by omega) (by omega)⟩
theorem Blk.chg {w w' : World} {b x y : Nat} {t : TypeId} {C : List Value} (h : Blk w b t C) (hc : Chg x y w w') (hx : b ≠ x) (hy : b ≠ y) : Blk w' b t C := (hc.block b h.lt hx hy).trans h
end Go.Proofs.YtcepigekibidfaaGreatDoor
namespace Go.Proofs.YtcepigekibidfaaGreatDoor
open Go.RowKit

/-- All cells of other types stay. -/
def KeepsBut (T : TypeId) (W W' : World) : Prop := ∀ (k : Nat) (cs : Array Value) (t : TypeId) (fr : Nat × Nat), t ≠ T → W.heap[k]? = some (.cells cs t fr) → W'.heap[k]? = some (.cells cs t fr)
theorem KeepsBut.refl (T : TypeId) (W : World) : KeepsBut T W W := fun _ _ _ _ _ e => e
theorem KeepsBut.of_row {X X' : World} {T : TypeId} {lo : Nat} {v : Value} {n : Nat} {vs : List Value} (hrow : X.ownsRow lo T 1 v n vs) (hg : X.grownBy X' v.ownBlock) : KeepsBut T X X' := by
  intro k cs t fr ht e
  refine (hg.block k (Array.getElem?_eq_some_iff.1 e).1 fun e1 => ?_).trans e
  rcases hrow.2 with ⟨rfl, _⟩ | ⟨g, cap, cur, rfl, _, hh, _⟩
  · cases e1
  · have e2 : k = g := by simpa [Value.ownBlock] using e1
    subst e2
    rw [e] at hh
    cases hh
    exact ht rfl
theorem KeepsBut.of_below {X X' : World} (T : TypeId) (h : Below X.heap.size X X') : KeepsBut T X X' := fun k _ _ _ _ e => (h.block k (Array.getElem?_eq_some_iff.1 e).1).trans e
theorem KeepsBut.trans {X Y Z : World} {T : TypeId} (h : KeepsBut T X Y) (k : KeepsBut T Y Z) : KeepsBut T X Z := fun i cs t fr ht e => k i cs t fr ht (h i cs t fr ht e)
theorem Blk.but {W W' : World} {g : Nat} {t T : TypeId} {C : List Value} (h : Blk W g t C) (hk : KeepsBut T W W') (ht : t ≠ T) : Blk W' g t C := hk g _ t _ ht h

theorem run_appK (w : World) (base : Nat) (ty : TypeId) (v : Value) (n : Nat) (l : List UInt8) (hown : Own w base v n l)
    (B : Nat) (A : Option Addr) (m c : Nat) (k : List UInt8) (hr : Bs w B A m k) (hs : n + m ≤ 1000000000) (hbase : base ≤ w.heap.size) :
    ∃ v' w', (Builtin.append_ #[36, 36] ty #[v, .slice A m c]).run Tryz.prog w = .ok v' w' ∧ Own w' base v' (n + m) (l ++ k) ∧ Below base w w' ∧ KeepsBut 5 w w' := by
  obtain ⟨i, hi, hz, h1, h2⟩ := info_parts byte_info
  rcases A with _ | ad
  · obtain ⟨rfl, rfl⟩ := hr.nil_
    refine ⟨v, w, ?_, by simpa using hown, Below.refl _ _, KeepsBut.refl _ _⟩
    rcases hown.2 with ⟨rfl, rfl⟩ | ⟨g, cap, cur, rfl, _, _, hnc, _⟩
    · simp [Builtin.append_, run_underlying Tryz.underlying36, sizeOf, typeInfo, hi, Builtin.lenOf, Builtin.firstCells]
    · simp [Builtin.append_, run_underlying Tryz.underlying36, sizeOf, typeInfo, hi, Builtin.lenOf, Builtin.firstCells, hnc, storeCells]
  · have hcells : ∀ j u, (vbs k)[j]? = some u → w.cell? (ad.add j) = some u := by
      intro j u hu
      obtain ⟨x, hx, rfl⟩ := vbs_get hu
      have hm : 0 < m := by
        have := (List.getElem?_eq_some_iff.1 hx).1
        have := hr.1
        omega
      obtain ⟨b, off, e, _, hc⟩ := hr.2 hm
      have e := Option.some.inj e
      subst e
      rw [Addr.add_lit]
      exact hc j x hx
    obtain ⟨v', w', hrun, h3, h4, _, h5⟩ := run_append_own_at (P := Tryz.prog) w base 36 ty 5 i _ 1 1 Tryz.underlying36 hi hz h1 h2 rfl (by omega) v n (vbs l) hown ad m c (vbs k)
      (by rw [vbs_length, Nat.mul_one]; exact hr.1) hcells (vbs_one k) (by unfold maxLen; omega) (by omega) hbase
    exact ⟨v', w', hrun, by rw [← vbs_append] at h3; exact h3, (Below.refl _ _).grown h4 hbase (Own.base_le hown), KeepsBut.of_row hown h4⟩
/-- The same at the operation of a walk. -/
theorem wp_appK {ops : Array Oper} {rest : List Oper} {o : Oper} {a : Act} {Q : Exit → Act → World → Prop} (w : World) (hgd : o.guard = none) (s x : Operand)
    (ho : o.op = .call { callee := .builtin .append, args := #[s, x], argTypes := #[36, 36] })
    (base : Nat) (v : Value) (n : Nat) (l : List UInt8) (hs : a.eval s = v) (hown : Own w base v n l)
    (B : Nat) (A : Option Addr) (m c : Nat) (k : List UInt8) (hx : a.eval x = .slice A m c) (hr : Bs w B A m k) (hsz : n + m ≤ 1000000000) (hbase : base ≤ w.heap.size)
    (h : ∀ v' w', Own w' base v' (n + m) (l ++ k) → Below base w w' → KeepsBut 5 w w' → wpList Tryz.prog ops Q rest (a.put o.dst v') w') : wpList Tryz.prog ops Q (o :: rest) a w := by
  refine wpList_plain hgd fun K hK => ?_
  obtain ⟨v', w', hrun, h2, h3, h4⟩ := run_appK w base o.type v n l hown B A m c k hr hsz hbase
  unfold Oper.wp execOp
  simp only [ho, resolve, invoke, builtin, Sem.run_bind, Sem.run_pure, Result.andThen_ok, List.map_toArray, List.map_cons, List.map_nil, hs, hx, hrun]
  exact hK _ _ (h v' w' h2 h3 h4)
end Go.Proofs.YtcepigekibidfaaGreatDoor
namespace Go.Proofs.YtcepigekibidfaaGreatDoor

def hexs : List UInt8 := [48, 49, 50, 51, 52, 53, 54, 55, 56, 57, 65, 66, 67, 68, 69, 70]
/-- A digit to base sixteen, in upper case. -/
def hex (n : Nat) : UInt8 := hexs.getD n 0
def enc1 (p : UInt8 → Bool) (c : UInt8) : List UInt8 := if p c then [37, hex (c.toNat / 16), hex (c.toNat % 16)] else [c]
def enc (p : UInt8 → Bool) (l : List UInt8) : List UInt8 := l.flatMap (enc1 p)

/-- What a digit to base sixteen tells; 16: it is none. -/
def dig (c : UInt8) : Nat := if 48 ≤ c.toNat ∧ c.toNat ≤ 57 then c.toNat - 48 else if 65 ≤ c.toNat ∧ c.toNat ≤ 70 then c.toNat - 65 + 10 else if 97 ≤ c.toNat ∧ c.toNat ≤ 102 then c.toNat - 97 + 10 else 16
/-- The byte that two digits tell, if they are digits. -/
def pair (b c : UInt8) : Option UInt8 := if dig b < 16 ∧ dig c < 16 then some (UInt8.ofNat (dig b * 16 + dig c)) else none

def dec : List UInt8 → List UInt8
  | [] => []
  | [a] => [a]
  | [a, b] => [a, b]
  | a :: b :: c :: r => if a = 37 then
      match pair b c with
      | some v => v :: dec r
      | none => a :: dec (b :: c :: r)
    else a :: dec (b :: c :: r)

/-- The byte that a text begins with when it is decoded, and how many bytes tell it. -/
def fst : List UInt8 → UInt8 × Nat
  | 37 :: b :: c :: _ => match pair b c with
    | some v => (v, 3)
    | none => (37, 1)
  | a :: _ => (a, 1)
  | [] => (0, 1)

theorem enc_cons (p : UInt8 → Bool) (c : UInt8) (l : List UInt8) : enc p (c :: l) = enc1 p c ++ enc p l := by simp [enc]
theorem enc_append (p : UInt8 → Bool) (l m : List UInt8) : enc p (l ++ m) = enc p l ++ enc p m := by simp [enc]
theorem enc1_len (p : UInt8 → Bool) (c : UInt8) : (enc1 p c).length ≤ 3 := by
  unfold enc1
  split <;> simp
theorem enc_len (p : UInt8 → Bool) (l : List UInt8) : (enc p l).length ≤ 3 * l.length := by
  induction l with
  | nil => simp [enc]
  | cons c l ih =>
    have := enc1_len p c
    rw [enc_cons, List.length_append, List.length_cons]
    omega
theorem enc_take_succ (p : UInt8 → Bool) (l : List UInt8) (k : Nat) (h : k < l.length) : enc p (l.take (k + 1)) = enc p (l.take k) ++ enc1 p (l.getD k 0) := by
  rw [List.take_succ_eq_append_getElem h, enc_append]
  simp [enc, List.getD, List.getElem?_eq_getElem h]

/-- Decoded byte by byte: what is not a percent sign with two digits behind stands for itself. -/
theorem dec_other (a : UInt8) (l : List UInt8) (h : a ≠ 37) : dec (a :: l) = a :: dec l := by
  match l with
  | [] => rfl
  | [b] => rfl
  | b :: c :: r => simp [dec, h]
theorem dec_short (a b : UInt8) : dec [a, b] = a :: dec [b] := rfl
theorem dec_pair (b c v : UInt8) (r : List UInt8) (h : pair b c = some v) : dec (37 :: b :: c :: r) = v :: dec r := by simp [dec, h]
theorem dec_nopair (b c : UInt8) (r : List UInt8) (h : pair b c = none) : dec (37 :: b :: c :: r) = 37 :: dec (b :: c :: r) := by simp [dec, h]

theorem fst_other (a : UInt8) (l : List UInt8) (h : a ≠ 37) : fst (a :: l) = (a, 1) := by
  unfold fst
  split
  · simp_all
  · simp_all
  · simp_all
theorem fst_short (a : UInt8) (l : List UInt8) (h : l.length < 2) : fst (a :: l) = (a, 1) := by
  unfold fst
  split
  · simp_all; omega
  · simp_all
  · simp_all
theorem fst_pair (b c v : UInt8) (r : List UInt8) (h : pair b c = some v) : fst (37 :: b :: c :: r) = (v, 3) := by simp [fst, h]
theorem fst_nopair (b c : UInt8) (r : List UInt8) (h : pair b c = none) : fst (37 :: b :: c :: r) = (37, 1) := by simp [fst, h]

/-- The first byte, and the rest. -/
theorem dec_fst (l : List UInt8) (h : l ≠ []) : dec l = (fst l).1 :: dec (l.drop (fst l).2) := by
  match l, h with
  | [a], _ => rw [fst_short a [] (by simp)]; rfl
  | [a, b], _ => rw [fst_short a [b] (by simp)]; rfl
  | a :: b :: c :: r, _ =>
    by_cases ha : a = 37
    · subst ha
      cases hp : pair b c with
      | some v => rw [fst_pair b c v r hp, dec_pair b c v r hp]; rfl
      | none => rw [fst_nopair b c r hp, dec_nopair b c r hp]; rfl
    · rw [fst_other a _ ha, dec_other a _ ha]; rfl
theorem fst_size (l : List UInt8) (h : l ≠ []) : 1 ≤ (fst l).2 ∧ (fst l).2 ≤ l.length := by
  match l, h with
  | [a], _ => rw [fst_short a [] (by simp)]; simp
  | [a, b], _ => rw [fst_short a [b] (by simp)]; simp
  | a :: b :: c :: r, _ =>
    by_cases ha : a = 37
    · subst ha
      cases hp : pair b c with
      | some v => rw [fst_pair b c v r hp]; simp
      | none => rw [fst_nopair b c r hp]; simp
    · rw [fst_other a _ ha]; simp
theorem dec_len (n : Nat) : ∀ l : List UInt8, l.length ≤ n → (dec l).length ≤ l.length := by
  induction n with
  | zero =>
    intro l h
    have : l = [] := List.eq_nil_of_length_eq_zero (by omega)
    subst this
    simp [dec]
  | succ n ih =>
    intro l h
    by_cases hl : l = []
    · subst hl
      simp [dec]
    · rw [dec_fst l hl]
      have h1 := fst_size l hl
      have := ih (l.drop (fst l).2) (by rw [List.length_drop]; omega)
      rw [List.length_drop] at this
      simp
      omega
end Go.Proofs.YtcepigekibidfaaGreatDoor
namespace Go.Proofs.YtcepigekibidfaaGreatDoor
open Go.RowKit

theorem str_at (l : List UInt8) (k : Nat) (hk : k < l.length) (h : k < (str l).size) : ((str l)[k]'h).toNat = (l.getD k 0).toNat := by
  simp [str, List.getD, List.getElem?_eq_getElem hk, ByteArray.getElem_eq_getElem_data]
theorem dig_lt {m : Nat} {c : UInt8} (h : c.toNat = m) : (dig c < 16 ↔ (48 ≤ m ∧ m ≤ 57) ∨ (65 ≤ m ∧ m ≤ 70) ∨ (97 ≤ m ∧ m ≤ 102)) := by
  unfold dig
  rw [h]
  split
  · omega
  · split
    · omega
    · split <;> omega

set_option maxHeartbeats 1000000 in
theorem digit_in (c : UInt8) (h : dig c < 16) (w : World) : Calls Tryz.prog 161 #[vb c] w fun e w' => e = .returned (.tuple #[.int .u8 (dig c : Int), .bool true]) ∧ w' = w := by
  obtain ⟨m, hm⟩ : ∃ m, c.toNat = m := ⟨_, rfl⟩
  have hc := (dig_lt hm).1 h
  have hd : Hid (dig c = if 48 ≤ m ∧ m ≤ 57 then m - 48 else if 65 ≤ m ∧ m ≤ 70 then m - 65 + 10 else if 97 ≤ m ∧ m ≤ 102 then m - 97 + 10 else 16) := by show _ = _; unfold dig; rw [hm]
  obtain ⟨d, hdd⟩ : ∃ d, d = dig c := ⟨_, rfl⟩
  rw [← hdd] at hd ⊢
  unfold vb
  rw [hm]
  clear h hm hdd
  rcases hc with hc | hc | hc
  · have e1 : Hid (d = m - 48) := by show _ = _; rw [hd.out, if_pos hc]
    have a0 : decide ((48 : Int) ≤ (m : Int)) = true := by simp; omega
    have b0 : decide ((m : Int) ≤ 57) = true := by simp; omega
    have a1 : decide ((65 : Int) ≤ (m : Int)) = false := by simp; omega
    have b1 : decide ((m : Int) ≤ 70) = true := by simp; omega
    have a2 : decide ((97 : Int) ≤ (m : Int)) = false := by simp; omega
    have b2 : decide ((m : Int) ≤ 102) = true := by simp; omega
    go_enter Tryz.func161, Tryz.ntmps161
    go_wp2_with fail
    go_ret2
    refine ⟨?_, rfl⟩
    have := e1.out
    have e2 : (d : Int) = (m : Int) - 48 := by omega
    rw [e2]
    rfl
  · have e1 : Hid (d = m - 65 + 10) := by show _ = _; rw [hd.out, if_neg (by omega), if_pos hc]
    have a0 : decide ((48 : Int) ≤ (m : Int)) = true := by simp; omega
    have b0 : decide ((m : Int) ≤ 57) = false := by simp; omega
    have a1 : decide ((65 : Int) ≤ (m : Int)) = true := by simp; omega
    have b1 : decide ((m : Int) ≤ 70) = true := by simp; omega
    have a2 : decide ((97 : Int) ≤ (m : Int)) = false := by simp; omega
    have b2 : decide ((m : Int) ≤ 102) = true := by simp; omega
    go_enter Tryz.func161, Tryz.ntmps161
    go_wp2_with fail
    go_ret2
    refine ⟨?_, rfl⟩
    have := e1.out
    have e2 : (d : Int) = (m : Int) - 65 + 10 := by omega
    rw [e2]
    rfl
  · have e1 : Hid (d = m - 97 + 10) := by show _ = _; rw [hd.out, if_neg (by omega), if_neg (by omega), if_pos hc]
    have a0 : decide ((48 : Int) ≤ (m : Int)) = true := by simp; omega
    have b0 : decide ((m : Int) ≤ 57) = false := by simp; omega
    have a1 : decide ((65 : Int) ≤ (m : Int)) = true := by simp; omega
    have b1 : decide ((m : Int) ≤ 70) = false := by simp; omega
    have a2 : decide ((97 : Int) ≤ (m : Int)) = true := by simp; omega
    have b2 : decide ((m : Int) ≤ 102) = true := by simp; omega
    go_enter Tryz.func161, Tryz.ntmps161
    go_wp2_with fail
    go_ret2
    refine ⟨?_, rfl⟩
    have := e1.out
    have e2 : (d : Int) = (m : Int) - 97 + 10 := by omega
    rw [e2]
    rfl

set_option maxHeartbeats 1000000 in
theorem digit_out (c : UInt8) (h : ¬ dig c < 16) (w : World) : Calls Tryz.prog 161 #[vb c] w fun e w' => e = .returned (.tuple #[.int .u8 0, .bool false]) ∧ w' = w := by
  obtain ⟨m, hm⟩ : ∃ m, c.toNat = m := ⟨_, rfl⟩
  rw [dig_lt hm] at h
  unfold vb
  rw [hm]
  clear hm
  have hc : m < 48 ∨ (57 < m ∧ m < 65) ∨ (70 < m ∧ m < 97) ∨ 102 < m := by omega
  clear h
  rcases hc with hc | hc | hc | hc
  · have a0 : decide ((48 : Int) ≤ (m : Int)) = false := by simp; omega
    have b0 : decide ((m : Int) ≤ 57) = true := by simp; omega
    have a1 : decide ((65 : Int) ≤ (m : Int)) = false := by simp; omega
    have b1 : decide ((m : Int) ≤ 70) = true := by simp; omega
    have a2 : decide ((97 : Int) ≤ (m : Int)) = false := by simp; omega
    have b2 : decide ((m : Int) ≤ 102) = true := by simp; omega
    go_enter Tryz.func161, Tryz.ntmps161
    go_wp2_with fail
    go_ret2
    exact ⟨rfl, rfl⟩
  · have a0 : decide ((48 : Int) ≤ (m : Int)) = true := by simp; omega
    have b0 : decide ((m : Int) ≤ 57) = false := by simp; omega
    have a1 : decide ((65 : Int) ≤ (m : Int)) = false := by simp; omega
    have b1 : decide ((m : Int) ≤ 70) = true := by simp; omega
    have a2 : decide ((97 : Int) ≤ (m : Int)) = false := by simp; omega
    have b2 : decide ((m : Int) ≤ 102) = true := by simp; omega
    go_enter Tryz.func161, Tryz.ntmps161
    go_wp2_with fail
    go_ret2
    exact ⟨rfl, rfl⟩
  · have a0 : decide ((48 : Int) ≤ (m : Int)) = true := by simp; omega
    have b0 : decide ((m : Int) ≤ 57) = false := by simp; omega
    have a1 : decide ((65 : Int) ≤ (m : Int)) = true := by simp; omega
    have b1 : decide ((m : Int) ≤ 70) = false := by simp; omega
    have a2 : decide ((97 : Int) ≤ (m : Int)) = false := by simp; omega
    have b2 : decide ((m : Int) ≤ 102) = true := by simp; omega
    go_enter Tryz.func161, Tryz.ntmps161
    go_wp2_with fail
    go_ret2
    exact ⟨rfl, rfl⟩
  · have a0 : decide ((48 : Int) ≤ (m : Int)) = true := by simp; omega
    have b0 : decide ((m : Int) ≤ 57) = false := by simp; omega
    have a1 : decide ((65 : Int) ≤ (m : Int)) = true := by simp; omega
    have b1 : decide ((m : Int) ≤ 70) = false := by simp; omega
    have a2 : decide ((97 : Int) ≤ (m : Int)) = true := by simp; omega
    have b2 : decide ((m : Int) ≤ 102) = false := by simp; omega
    go_enter Tryz.func161, Tryz.ntmps161
    go_wp2_with fail
    go_ret2
    exact ⟨rfl, rfl⟩

theorem or16 : ∀ a, a < 16 → ∀ b, b < 16 → (a * 16) % 256 ||| b = a * 16 + b := by decide
theorem shl_or (a b : Nat) (ha : a < 16) (hb : b < 16) : bits .or .u8 ((a : Int) * 16) (b : Int) = ((a * 16 + b : Nat) : Int) := by
  have h := u8_or_nat (a * 16) b (by omega) (by omega)
  have h2 := or16 a ha b hb
  rw [Nat.mod_eq_of_lt (by omega)] at h2
  rw [h2] at h
  rw [show ((a * 16 : Nat) : Int) = (a : Int) * 16 by omega] at h
  exact h

def fstV (l : List UInt8) : Value := .tuple #[vb (fst l).1, .int .i64 ((fst l).2 : Int)]

set_option maxHeartbeats 4000000 in
theorem first_any (l : List UInt8) (hl : l ≠ []) (h9 : l.length ≤ 100000000) (w : World) : Calls Tryz.prog 127 #[.string (str l)] w fun e w' => e = .returned (fstV l) ∧ w' = w := by
  obtain ⟨a, t, rfl⟩ := List.exists_cons_of_ne_nil hl
  have hsz := str_size (a :: t)
  obtain ⟨S, hS⟩ : ∃ S, S = (a :: t).length := ⟨_, rfl⟩
  obtain ⟨m, hm⟩ : ∃ m, m = a.toNat := ⟨_, rfl⟩
  have h0 : ∀ h, ((str (a :: t))[0]'h).toNat = m := fun h => by rw [str_at _ 0 (by simp) h, hm]; rfl
  rw [← hS] at hsz h9
  have hS0 : 0 < S := by rw [hS]; simp
  have HM := Lib.hid hm
  have HS := Lib.hid hS
  clear hm hS hl
  by_cases ha : a = 37
  · have hm37 : ((m : Int) != 37) = false := by rw [HM.out, ha]; rfl
    by_cases hs : S < 3
    · have hf : Hid (fst (a :: t) = (a, 1)) := by show _ = _; exact fst_short a t (by have := HS.out; simp at this; omega)
      have hsi : (S : Int) < 3 := by omega
      have hs0i : (0 : Int) < (S : Int) := by omega
      obtain ⟨L, hL⟩ : ∃ L, L = a :: t := ⟨_, rfl⟩
      rw [← hL] at hsz h0 hf ⊢
      clear hL ha HS
      go_enter Tryz.func127, Tryz.ntmps127
      go_wp2_with fail
      go_ret2
      refine ⟨?_, rfl⟩
      rw [fstV, hf.out, vb, ← HM.out]
      rfl
    · match t, HS with
      | [], HS => have := HS.out; simp at this; omega
      | [x], HS => have := HS.out; simp at this; omega
      | b :: c :: r, HS =>
        obtain ⟨x, hx⟩ : ∃ x, x = b.toNat := ⟨_, rfl⟩
        obtain ⟨y, hy⟩ : ∃ y, y = c.toNat := ⟨_, rfl⟩
        have h1 : ∀ h, ((str (a :: b :: c :: r))[1]'h).toNat = x := fun h => by rw [str_at _ 1 (by simp) h, hx]; rfl
        have h2 : ∀ h, ((str (a :: b :: c :: r))[2]'h).toNat = y := fun h => by rw [str_at _ 2 (by simp) h, hy]; rfl
        have DI := fun h => digit_in b h w
        have DO := fun h => digit_out b h w
        have EI := fun h => digit_in c h w
        have EO := fun h => digit_out c h w
        unfold vb at DI DO EI EO
        rw [← hx] at DI DO
        rw [← hy] at EI EO
        subst ha
        have hfp := fun v h => fst_pair b c v r h
        have hfn := fst_nopair b c r
        obtain ⟨L, hL⟩ : ∃ L, L = 37 :: b :: c :: r := ⟨_, rfl⟩
        rw [← hL] at hsz h0 h1 h2 hfp hfn ⊢
        have hsi : ¬ (S : Int) < 3 := by omega
        have hs0i : (0 : Int) < (S : Int) := by omega
        have hs1i : (1 : Int) < (S : Int) := by omega
        have hs2i : (2 : Int) < (S : Int) := by omega
        have HF := Lib.hid (And.intro hfp hfn)
        clear hL HS hx hy hfp hfn hs
        by_cases hb : dig b < 16
        · have DI' := Lib.hid (DI hb)
          clear DI DO
          by_cases hc : dig c < 16
          · have EI' := Lib.hid (EI hc)
            clear EI EO
            have hpair : pair b c = some (UInt8.ofNat (dig b * 16 + dig c)) := by unfold pair; rw [if_pos ⟨hb, hc⟩]
            have hf : Hid (fst L = (UInt8.ofNat (dig b * 16 + dig c), 3)) := by show _ = _; exact HF.out.1 _ hpair
            clear hpair HF
            obtain ⟨u, hu⟩ : ∃ u, u = dig b := ⟨_, rfl⟩
            obtain ⟨v, hv⟩ : ∃ v, v = dig c := ⟨_, rfl⟩
            rw [← hu] at DI' hf hb
            rw [← hv] at EI' hf hc
            clear hu hv
            have hor := shl_or u v hb hc
            go_enter Tryz.func127, Tryz.ntmps127
            go_wp2_with (go_at_call 161; first | (with_reducible refine DI'.out.mono ?_; rintro e w1 ⟨rfl, rfl⟩) | (with_reducible refine EI'.out.mono ?_; rintro e w2 ⟨rfl, rfl⟩))
            go_ret2
            refine ⟨?_, rfl⟩
            rw [fstV, hf.out, vb, toNat_ofNat_lt _ (by omega)]
            rfl
          · have EO' := Lib.hid (EO hc)
            clear EI EO
            have hpair : pair b c = none := by unfold pair; rw [if_neg (fun h => hc h.2)]
            have hf : Hid (fst L = (37, 1)) := by show _ = _; exact HF.out.2 hpair
            clear hpair HF hb hc
            obtain ⟨u, hu⟩ : ∃ u, u = dig b := ⟨_, rfl⟩
            rw [← hu] at DI'
            clear hu
            go_enter Tryz.func127, Tryz.ntmps127
            go_wp2_with (go_at_call 161; first | (with_reducible refine DI'.out.mono ?_; rintro e w1 ⟨rfl, rfl⟩) | (with_reducible refine EO'.out.mono ?_; rintro e w2 ⟨rfl, rfl⟩))
            go_ret2
            refine ⟨?_, rfl⟩
            rw [fstV, hf.out, vb, ← HM.out]
            rfl
        · have DO' := Lib.hid (DO hb)
          clear DI DO
          have hpair : pair b c = none := by unfold pair; rw [if_neg (fun h => hb h.1)]
          have hf : Hid (fst L = (37, 1)) := by show _ = _; exact HF.out.2 hpair
          clear hpair HF hb
          by_cases hc : dig c < 16
          · have EI' := Lib.hid (EI hc)
            clear EI EO hc
            obtain ⟨u, hu⟩ : ∃ u, u = dig c := ⟨_, rfl⟩
            rw [← hu] at EI'
            clear hu
            go_enter Tryz.func127, Tryz.ntmps127
            go_wp2_with (go_at_call 161; first | (with_reducible refine DO'.out.mono ?_; rintro e w1 ⟨rfl, rfl⟩) | (with_reducible refine EI'.out.mono ?_; rintro e w2 ⟨rfl, rfl⟩))
            go_ret2
            refine ⟨?_, rfl⟩
            rw [fstV, hf.out, vb, ← HM.out]
            rfl
          · have EO' := Lib.hid (EO hc)
            clear EI EO hc
            go_enter Tryz.func127, Tryz.ntmps127
            go_wp2_with (go_at_call 161; first | (with_reducible refine DO'.out.mono ?_; rintro e w1 ⟨rfl, rfl⟩) | (with_reducible refine EO'.out.mono ?_; rintro e w2 ⟨rfl, rfl⟩))
            go_ret2
            refine ⟨?_, rfl⟩
            rw [fstV, hf.out, vb, ← HM.out]
            rfl
  · have hm37 : ((m : Int) != 37) = true := by
      have : m ≠ 37 := fun h => ha (by rw [HM.out] at h; exact UInt8.toNat_inj.1 h)
      simp
      omega
    have hf : Hid (fst (a :: t) = (a, 1)) := by show _ = _; exact fst_other a t ha
    have hs0i : (0 : Int) < (S : Int) := by omega
    obtain ⟨L, hL⟩ : ∃ L, L = a :: t := ⟨_, rfl⟩
    rw [← hL] at hsz h0 hf ⊢
    clear hL ha HS
    go_enter Tryz.func127, Tryz.ntmps127
    go_wp2_with fail
    go_ret2
    refine ⟨?_, rfl⟩
    rw [fstV, hf.out, vb, ← HM.out]
    rfl

theorem str_drop (l : List UInt8) (k n : Nat) (hn : n = l.length) (hk : k ≤ n) : (str l).extract k n = str (l.drop k) := by
  subst hn
  apply ByteArray.ext
  apply Array.ext'
  simp [str]
  exact List.take_of_length_le (by simp)

set_option maxHeartbeats 4000000 in
set_option maxRecDepth 100000 in
theorem decode_any (l : List UInt8) (w : World) (hl : l.length ≤ 100000000) : Calls Tryz.prog 92 #[.string (str l)] w fun e w' => e = .returned (.string (str (dec l))) ∧ Below w.heap.size w w' := by
  obtain ⟨i0, hi, hz, hi1, hi2⟩ := info_parts byte_info
  have hsz := str_size l
  obtain ⟨S, hS⟩ : ∃ S, S = l.length := ⟨_, rfl⟩
  have hdl : Hid ((dec l).length ≤ S) := by show _ ≤ _; rw [hS]; exact dec_len _ l (Nat.le_refl _)
  obtain ⟨D, hD⟩ : ∃ D, D = dec l := ⟨_, rfl⟩
  rw [← hD] at hdl ⊢
  rw [← hS] at hsz hl
  have HS := Lib.hid (And.intro hS hD)
  clear hS hD
  go_enter Tryz.func92, Tryz.ntmps92
  go_wp2_with (at_make; refine wpList_make_own _ rfl _ _ 36 rfl w.heap.size 5 i0 _ 1 Tryz.underlying36 hi hz hi1 .i64 .i64 _ S rfl rfl rfl (by rw [hi2]; omega) (by unfold maxLen; omega) (Nat.le_refl _) ?_; intro w4 hown4 hgr4)
  have hown4 : Own w4 w.heap.size _ 0 [] := hown4
  have b4 : Kept w w4 := (Below.refl _ _).grown hgr4 (Nat.le_refl _) (fun k h => by cases h)
  clear hgr4
  go_loopw [4, 3] (fun i v wr => ∃ (k : Nat) (L : List UInt8), k ≤ S ∧ i = .int .i64 (k : Int) ∧ L ++ dec (l.drop k) = D ∧ Kept w wr ∧ Own wr w.heap.size v L.length L) (fun i _ _ => S - (intOf i).toNat)
  case atStart => exact ⟨0, [], by omega, rfl, by rw [HS.out.2]; rfl, b4, hown4⟩
  case round =>
    obtain ⟨k, L, hk, rfl, hLD, hkp, hown⟩ := hrel
    have hLl : L.length ≤ S := by
      have h1 := hdl.out
      rw [← hLD, List.length_append] at h1
      omega
    obtain ⟨NL, hNL⟩ : ∃ NL, NL = L.length := ⟨_, rfl⟩
    rw [← hNL] at hown hLl
    have hkz := hkp.size
    by_cases hlt : k < S
    · have hne : l.drop k ≠ [] := by
        intro h
        have := congrArg List.length h
        rw [List.length_drop, ← HS.out.1] at this
        simp at this
        omega
      have hdk : Hid ((l.drop k).length = S - k) := by show _ = _; rw [List.length_drop, ← HS.out.1]
      have hcut := str_drop l k S HS.out.1 hk
      have hf := first_any (l.drop k) hne (by rw [hdk.out]; omega) wr
      have hfs := fst_size (l.drop k) hne
      have hdf := dec_fst (l.drop k) hne
      rw [hdk.out] at hfs
      rw [hdf, List.drop_drop] at hLD
      unfold fstV at hf
      obtain ⟨T, hT⟩ : ∃ T, T = l.drop k := ⟨_, rfl⟩
      rw [← hT] at hcut hf hfs hLD
      obtain ⟨c, hc⟩ : ∃ c, c = (fst T).1 := ⟨_, rfl⟩
      obtain ⟨z, hz'⟩ : ∃ z, z = (fst T).2 := ⟨_, rfl⟩
      rw [← hc, ← hz'] at hf
      rw [← hc, ← hz'] at hLD
      rw [← hz'] at hfs
      have HLD := Lib.hid (And.intro hLD hNL)
      have HF := Lib.hid hf
      have hkS : (k : Int) < (S : Int) := by omega
      clear hT hc hz' hdf hne hLD hNL hf hdk
      obtain ⟨k2, hk2⟩ : ∃ k2, k2 = k + z := ⟨_, rfl⟩
      have hk2i : (k : Int) + (z : Int) = (k2 : Int) := by omega
      have HK := Lib.hid hk2
      have hk2S : k2 ≤ S := by omega
      have hkk2 : k < k2 := by omega
      clear hk2 hfs
      go_wp2_with (first
        | (go_at_call 127; with_reducible refine HF.out.mono ?_; rintro e w5 ⟨rfl, rfl⟩; unfold vb)
        | (at_builtin; refine wp_app _ rfl (.tmp 21) (.tmp 23) rfl w.heap.size _ NL L rfl (hown.alloc _) (w5.heap.size + 1) _ 1 1 [c] rfl (Bs.one' _ _ _ rfl) (by omega) (by simp; omega) ?_; intro v6 w6 hown6 hb6))
      go_roundw
      case rel =>
        refine ⟨k2, L ++ [c], hk2S, by go_num, ?_, hkp.base (((Below.refl _ _).alloc hkz _).trans hb6), ?_⟩
        · rw [← HLD.out.1, ← HK.out, List.append_assoc]
          rfl
        · rw [List.length_append, ← HLD.out.2]
          exact hown6
      case measure => simp [intOf]; omega
    · have hk' : Hid (k = S) := by show k = S; omega
      have hkS : (S : Int) ≤ (k : Int) := by omega
      clear hk hlt
      obtain ⟨A, cc, rfl, hcc, hs⟩ := hown.form
      have HLD := Lib.hid (And.intro hLD hNL)
      clear hLD hNL
      have hst := run_str wr _ A NL cc L hs
      go_wp2_with fail
      go_ret
      refine ⟨?_, hkp⟩
      have h1 := HLD.out.1
      rw [hk'.out, HS.out.1, List.drop_length] at h1
      rw [← h1]
      simp [dec]
end Go.Proofs.YtcepigekibidfaaGreatDoor
namespace Go.Proofs.YtcepigekibidfaaGreatDoor
open Go.RowKit

theorem toList_str (l : List UInt8) : (str l).toList = l := by
  rw [ByteArray.toList_eq]
  rfl
theorem str_add (a b : List UInt8) : str a ++ str b = str (a ++ b) := by
  apply ByteArray.ext
  apply Array.ext'
  simp [str]
theorem str_one (l : List UInt8) (k : Nat) (hk : k < l.length) : (str l).extract k (k + 1) = str [l.getD k 0] := by
  apply ByteArray.ext
  apply Array.ext'
  simp [str, List.getD, List.getElem?_eq_getElem hk, List.take_one]
theorem str_take (l : List UInt8) (k : Nat) : (str l).extract 0 k = str (l.take k) := by
  apply ByteArray.ext
  apply Array.ext'
  simp [str]

section
variable {ops : Array Oper} {rest : List Oper} {o : Oper} {a : Act} {Q : Exit → Act → World → Prop}
end
end Go.Proofs.YtcepigekibidfaaGreatDoor
