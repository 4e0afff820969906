/-
  Words for bytes in memory: a slice value that holds a list of bytes, a row of bytes that the call itself made. No condition; used by every walk of this seat.
-/
import Derived.Test.YtcfgcakmffkpmaaDoorRows
import Derived.WalkKit
import Derived.WalkSpells
import Derived.WalkLawsBesides
import Derived.Maps.AppendAt
import Derived.Lib.AppendStr
import Derived.Lib.Hide
import Derived.Laws.BytesArg
import Derived.Lib.SliceRun
import Derived.Lib.MinMax
namespace Go.Proofs.YtcfgcakmffkpmaaDoor
open Go.RowKit

def vb (c : UInt8) : Value := .int .u8 (c.toNat : Int)
def vbs (l : List UInt8) : List Value := l.map vb
/-- A list of bytes as a Go string. -/
def str (l : List UInt8) : ByteArray := ⟨l.toArray⟩

theorem vbs_length (l : List UInt8) : (vbs l).length = l.length := by simp [vbs]
theorem vbs_append (l m : List UInt8) : vbs (l ++ m) = vbs l ++ vbs m := by simp [vbs]
theorem vbs_get {l : List UInt8} {j : Nat} {u : Value} (h : (vbs l)[j]? = some u) : ∃ c, l[j]? = some c ∧ u = vb c := by
  simp only [vbs, List.getElem?_map, Option.map_eq_some_iff] at h
  obtain ⟨c, hc, rfl⟩ := h
  exact ⟨c, hc, rfl⟩
theorem vbs_one (l : List UInt8) : ∀ u ∈ vbs l, u.oneCell' = true := by
  intro u hu
  simp only [vbs, List.mem_map] at hu
  obtain ⟨c, _, rfl⟩ := hu
  rfl
theorem str_size (l : List UInt8) : (str l).size = l.length := by simp [str, ByteArray.size]
theorem str_cells (l : List UInt8) : Lib.strCells (str l) = vbs l := by
  simp only [Lib.strCells, str, vbs]
  rfl

/-- The slice value '.slice A n c' holds the bytes l, in a block below B. -/
def Bs (w : World) (B : Nat) (A : Option Addr) (n : Nat) (l : List UInt8) : Prop :=
  l.length = n ∧ (0 < n → ∃ b off, A = some ⟨b, off, none⟩ ∧ b < B ∧ ∀ j c, l[j]? = some c → w.cell? ⟨b, off + j, none⟩ = some (vb c))

/-- The value v is a row of bytes of the call's own (blocks from base on), of n bytes l. -/
def Own (w : World) (base : Nat) (v : Value) (n : Nat) (l : List UInt8) : Prop := w.ownsRow base 5 1 v n (vbs l)

section
variable {w w' : World} {B B' n c : Nat} {A : Option Addr} {l : List UInt8}
theorem Bs.empty (w : World) (B : Nat) (A : Option Addr) : Bs w B A 0 [] := ⟨rfl, fun h => absurd h (by omega)⟩
theorem Bs.nil_ (h : Bs w B none n l) : n = 0 ∧ l = [] := by
  rcases Nat.eq_zero_or_pos n with h0 | h0
  · exact ⟨h0, List.eq_nil_of_length_eq_zero (by rw [h.1, h0])⟩
  · obtain ⟨b, off, e, _⟩ := h.2 h0
    cases e
theorem Bs.keep (h : Bs w B A n l) (hk : ∀ b o, b < B → w'.cell? ⟨b, o, none⟩ = w.cell? ⟨b, o, none⟩) : Bs w' B A n l :=
  ⟨h.1, fun hn => by
    obtain ⟨b, off, e, hb, hc⟩ := h.2 hn
    exact ⟨b, off, e, hb, fun j c hj => (hk _ _ hb).trans (hc j c hj)⟩⟩
theorem Bs.more (h : Bs w B A n l) (hB : B ≤ B') : Bs w B' A n l :=
  ⟨h.1, fun hn => by
    obtain ⟨b, off, e, hb, hc⟩ := h.2 hn
    exact ⟨b, off, e, by omega, hc⟩⟩
theorem Bs.below (h : Bs w B A n l) (hb : Below B w w') : Bs w' B A n l := h.keep fun b o hlt => hb.cell (p := ⟨b, o, none⟩) hlt
theorem Bs.below' (h : Bs w B A n l) {B2 : Nat} (hb : Below B2 w w') (hB : B ≤ B2) : Bs w' B A n l := h.below (hb.mono hB)
theorem Bs.drewN (h : Bs w B A n l) (k : Nat) : Bs (w.drewN k) B A n l := h
theorem Bs.drew (h : Bs w B A n l) : Bs w.drew B A n l := h
theorem Bs.alloc (h : Bs w B A n l) (hB : B ≤ w.heap.size) (o : Obj) : Bs (w.alloc o) B A n l :=
  h.keep fun b off hb => World.cell?_alloc_lt w o ⟨b, off, none⟩ (by show b < _; omega)
theorem Bs.set (h : Bs w B A n l) {p : Addr} (hB : B ≤ p.block) (u : Value) : Bs (w.setCell p u) B A n l :=
  h.keep fun b o hb => World.cell?_setCell_other w p ⟨b, o, none⟩ u (fun e => by subst e; simp at hB; omega)
theorem Bs.at_ (h : Bs w B A n l) {k : Nat} (hk : k < n) : ∃ b off, A = some ⟨b, off, none⟩ ∧ b < B ∧ w.cell? ⟨b, off + k, none⟩ = some (vb (l.getD k 0)) := by
  obtain ⟨b, off, e, hb, hc⟩ := h.2 (by omega)
  have hl : k < l.length := by rw [h.1]; exact hk
  refine ⟨b, off, e, hb, ?_⟩
  rw [hc k l[k] (List.getElem?_eq_getElem hl)]
  simp [List.getD, List.getElem?_eq_getElem hl]
theorem Bs.take (h : Bs w B A n l) (k : Nat) (hk : k ≤ n) : Bs w B A k (l.take k) := by
  refine ⟨by rw [List.length_take, h.1]; omega, fun hn => ?_⟩
  obtain ⟨b, off, e, hb, hc⟩ := h.2 (by omega)
  refine ⟨b, off, e, hb, fun j c hj => hc j c ?_⟩
  rw [List.getElem?_take] at hj
  split at hj
  · exact hj
  · cases hj
/-- 's[k:]', as the model has it: at the capacity the address stays. -/
theorem Bs.cut (h : Bs w B A n l) {k cap : Nat} (hk : k ≤ n) (hc : n ≤ cap) : Bs w B (if cap = k then A else A.map (·.add k)) (n - k) (l.drop k) := by
  refine ⟨by rw [List.length_drop, h.1], fun hn => ?_⟩
  obtain ⟨b, off, rfl, hb, hcell⟩ := h.2 (by omega)
  rw [if_neg (by omega)]
  refine ⟨b, off + k, by simp [Addr.add_lit], hb, fun j c hj => ?_⟩
  rw [Nat.add_assoc]
  exact hcell _ c (by rw [← hj, List.getElem?_drop])
theorem Own.form {v : Value} {base : Nat} (h : Own w base v n l) : ∃ A c, v = .slice A n c ∧ n ≤ c ∧ Bs w w.heap.size A n l := by
  have hl := h.1
  rw [vbs_length, Nat.mul_one] at hl
  rcases h.2 with ⟨rfl, rfl⟩ | ⟨g, cap, cur, rfl, hb, hg, hnc, _⟩
  · exact ⟨none, 0, rfl, Nat.le_refl _, hl, fun hn => absurd hn (by omega)⟩
  · have hlt : g < w.heap.size := (Array.getElem?_eq_some_iff.1 hg).1
    refine ⟨some ⟨g, 0, none⟩, cap, rfl, hnc, hl, fun _ => ⟨g, 0, rfl, hlt, fun j c hj => ?_⟩⟩
    have := World.ownsRow.cells (g := g) h rfl j (vb c) (by simp [vbs, hj])
    rwa [Addr.add_lit] at this
theorem Own.len {v : Value} {base : Nat} (h : Own w base v n l) : l.length = n := by
  have hl := h.1
  rwa [vbs_length, Nat.mul_one] at hl
/-- Own's block lies at base or above, so what is below is kept. -/
theorem Own.base_le {v : Value} {base : Nat} (h : Own w base v n l) : ∀ k, v.ownBlock = some k → base ≤ k := fun k hk => (World.ownsRow.lt h k hk).1
theorem Own.down {v : Value} {base base' : Nat} (h : Own w base v n l) (hb : base' ≤ base) : Own w base' v n l := by
  refine ⟨h.1, ?_⟩
  rcases h.2 with h2 | ⟨g, cap, cur, hv, hg, r⟩
  · exact .inl h2
  · exact .inr ⟨g, cap, cur, hv, by omega, r⟩
/-- What is owned stays so while all blocks that were there stay. -/
theorem Own.kept {v : Value} {base : Nat} (h : Own w base v n l) (hb : Below w.heap.size w w') : Own w' base v n l := by
  refine ⟨h.1, ?_⟩
  rcases h.2 with h2 | ⟨g, cap, cur, hv, hg, hh, r⟩
  · exact .inl h2
  · exact .inr ⟨g, cap, cur, hv, hg, by rw [hb.block g (Array.getElem?_eq_some_iff.1 hh).1]; exact hh, r⟩
theorem Own.alloc {v : Value} {base : Nat} (h : Own w base v n l) (o : Obj) : Own (w.alloc o) base v n l := World.ownsRow.alloc h o
end

theorem byte_info : (Tryd.prog.info? 5).map (fun i => (i.zero, i.size, i.bytes)) = some (some (.int .u8 0), 1, 1) := by kernel_rfl

/-- append onto an owned row of bytes, of whatever slice of bytes, nil too. -/
theorem run_app (w : World) (base : Nat) (ty : TypeId) (v : Value) (n : Nat) (l : List UInt8) (hown : Own w base v n l)
    (B : Nat) (A : Option Addr) (m c : Nat) (k : List UInt8) (hr : Bs w B A m k) (hs : n + m ≤ 1000000000) (hbase : base ≤ w.heap.size) :
    ∃ v' w', (Builtin.append_ #[39, 39] ty #[v, .slice A m c]).run Tryd.prog w = .ok v' w' ∧ Own w' base v' (n + m) (l ++ k) ∧ Below base w w' := by
  obtain ⟨i, hi, hz, h1, h2⟩ := info_parts byte_info
  rcases A with _ | ad
  · obtain ⟨rfl, rfl⟩ := hr.nil_
    refine ⟨v, w, ?_, by simpa using hown, Below.refl _ _⟩
    rcases hown.2 with ⟨rfl, rfl⟩ | ⟨g, cap, cur, rfl, _, _, hnc, _⟩
    · simp [Builtin.append_, run_underlying Tryd.underlying39, sizeOf, typeInfo, hi, Builtin.lenOf, Builtin.firstCells]
    · simp [Builtin.append_, run_underlying Tryd.underlying39, sizeOf, typeInfo, hi, Builtin.lenOf, Builtin.firstCells, hnc, storeCells]
  · have hcells : ∀ j u, (vbs k)[j]? = some u → w.cell? (ad.add j) = some u := by
      intro j u hu
      obtain ⟨x, hx, rfl⟩ := vbs_get hu
      have hm : 0 < m := by
        have := (List.getElem?_eq_some_iff.1 hx).1
        have := hr.1
        omega
      obtain ⟨b, off, e, _, hc⟩ := hr.2 hm
      have e := Option.some.inj e
      subst e
      rw [Addr.add_lit]
      exact hc j x hx
    obtain ⟨v', w', hrun, h3, h4, _, h5⟩ := run_append_own_at (P := Tryd.prog) w base 39 ty 5 i _ 1 1 Tryd.underlying39 hi hz h1 h2 rfl (by omega) v n (vbs l) hown ad m c (vbs k)
      (by rw [vbs_length, Nat.mul_one]; exact hr.1) hcells (vbs_one k) (by unfold maxLen; omega) (by omega) hbase
    exact ⟨v', w', hrun, by rw [← vbs_append] at h3; exact h3, (Below.refl _ _).grown h4 hbase (Own.base_le hown)⟩

/-- The same at the operation of a walk. -/
theorem wp_app {ops : Array Oper} {rest : List Oper} {o : Oper} {a : Act} {Q : Exit → Act → World → Prop} (w : World) (hgd : o.guard = none) (s x : Operand)
    (ho : o.op = .call { callee := .builtin .append, args := #[s, x], argTypes := #[39, 39] })
    (base : Nat) (v : Value) (n : Nat) (l : List UInt8) (hs : a.eval s = v) (hown : Own w base v n l)
    (B : Nat) (A : Option Addr) (m c : Nat) (k : List UInt8) (hx : a.eval x = .slice A m c) (hr : Bs w B A m k) (hsz : n + m ≤ 1000000000) (hbase : base ≤ w.heap.size)
    (h : ∀ v' w', Own w' base v' (n + m) (l ++ k) → Below base w w' → wpList Tryd.prog ops Q rest (a.put o.dst v') w') : wpList Tryd.prog ops Q (o :: rest) a w := by
  refine wpList_plain hgd fun K hK => ?_
  obtain ⟨v', w', hrun, h2, h3⟩ := run_app w base o.type v n l hown B A m c k hr hsz hbase
  unfold Oper.wp execOp
  simp only [ho, resolve, invoke, builtin, Sem.run_bind, Sem.run_pure, Result.andThen_ok, List.map_toArray, List.map_cons, List.map_nil, hs, hx, hrun]
  exact hK _ _ (h v' w' h2 h3)

/-- append of a string's bytes onto an owned row of bytes. -/
theorem wp_appStr {ops : Array Oper} {rest : List Oper} {o : Oper} {a : Act} {Q : Exit → Act → World → Prop} (w : World) (hgd : o.guard = none) (s x : Operand)
    (ho : o.op = .call { callee := .builtin .append, args := #[s, x], argTypes := #[39, 9] })
    (base : Nat) (v : Value) (n : Nat) (l : List UInt8) (hs : a.eval s = v) (hown : Own w base v n l)
    (k : List UInt8) (hx : a.eval x = .string (str k)) (hsz : n + k.length ≤ 1000000000) (hbase : base ≤ w.heap.size)
    (h : ∀ v' w', Own w' base v' (n + k.length) (l ++ k) → Below base w w' → wpList Tryd.prog ops Q rest (a.put o.dst v') w') : wpList Tryd.prog ops Q (o :: rest) a w := by
  obtain ⟨i, hi, hz, h1, h2⟩ := info_parts byte_info
  refine Lib.wpList_append_own_string w hgd s x 39 9 ho base 5 i Tryd.underlying39 Tryd.underlying9 hi hz h1 h2 v n (vbs l) hs hown (str k) hx
    (by rw [str_size]; unfold maxLen; omega) (by rw [str_size]; omega) hbase ?_
  intro v' w' h3 h4 _
  rw [str_size, str_cells, ← vbs_append] at h3
  exact h v' w' h3 ((Below.refl _ _).grown h4 hbase (Own.base_le hown))

/-- string(b) is b's bytes. -/
theorem run_str (w : World) (B : Nat) (A : Option Addr) (n c : Nat) (l : List UInt8) (h : Bs w B A n l) : (convert 39 9 (.slice A n c)).run Tryd.prog w = .ok (.string (str l)) w := by
  rcases A with _ | ⟨b, off, sp⟩
  · obtain ⟨rfl, rfl⟩ := h.nil_
    exact run_convert_bytes_nil w 39 5 Tryd.underlying39 Tryd.underlying5 0 c 9 Tryd.underlying9
  · rcases Nat.eq_zero_or_pos n with h0 | h0
    · subst h0
      have hl : l = [] := List.eq_nil_of_length_eq_zero h.1
      subst hl
      rw [run_convert_bytes_string w 39 9 5 _ 0 c Tryd.underlying39 Tryd.underlying5 Tryd.underlying9, run_bytesToString w _ 0 c [] (by simp [loadCells, loadCellsFrom])]
      rfl
    · obtain ⟨b', off', e, _, hc⟩ := h.2 h0
      obtain ⟨e1, e2, e3⟩ := Addr.mk.inj (Option.some.inj e)
      subst e1 e2 e3
      have := run_convert_bytes_arg (P := Tryd.prog) w 39 5 Tryd.underlying39 Tryd.underlying5 b off n c (l.map fun x => (x.toNat : Int)) (by rw [List.length_map]; exact h.1)
        (fun i hi => by
          have hl : i < l.length := by rw [h.1]; exact hi
          rw [hc i l[i] (List.getElem?_eq_getElem hl)]
          simp [vb, List.getD, List.getElem?_eq_getElem hl]) 9 Tryd.underlying9
      rw [this]
      have e : strOfNums (l.map fun x => (x.toNat : Int)) = str l := by
        apply ByteArray.ext
        apply Array.ext'
        rw [strOfNums_data]
        simp [str, Function.comp_def]
      rw [e]

/-- The same at the operation of a walk. -/
theorem wp_str {ops : Array Oper} {rest : List Oper} {o : Oper} {a : Act} {Q : Exit → Act → World → Prop} (w : World) (hgd : o.guard = none) (x : Operand)
    (ho : o.op = .convert 39 9 x) (B : Nat) (A : Option Addr) (n c : Nat) (l : List UInt8) (hx : a.eval x = .slice A n c) (hr : Bs w B A n l)
    (h : wpList Tryd.prog ops Q rest (a.put o.dst (.string (str l))) w) : wpList Tryd.prog ops Q (o :: rest) a w := by
  refine wpList_plain hgd fun K hK => ?_
  have hrun := run_str w B A n c l hr
  unfold Oper.wp execOp
  simp only [ho, hx, hrun, Sem.run_bind, Sem.run_pure, Result.andThen_ok]
  exact hK _ _ h

/-- One byte in a block of its own, as 'append(b, c)' lays it. -/
theorem Bs.one (w : World) (c : UInt8) : Bs (w.alloc (.cells #[vb c] 5)) (w.heap.size + 1) (some ⟨w.heap.size, 0, none⟩) 1 [c] := by
  refine ⟨rfl, fun _ => ⟨w.heap.size, 0, rfl, by omega, fun j u hj => ?_⟩⟩
  match j, hj with
  | 0, hj =>
    simp at hj
    subst hj
    simp
theorem Bs.one' (w : World) (x : Int) (c : UInt8) (h : x = (c.toNat : Int)) : Bs (w.alloc (.cells #[.int .u8 x] 5)) (w.heap.size + 1) (some ⟨w.heap.size, 0, none⟩) 1 [c] := by
  subst h
  exact Bs.one w c
theorem toNat_ofNat_lt (k : Nat) (h : k < 256) : (UInt8.ofNat k).toNat = k := by
  simp
  omega
end Go.Proofs.YtcfgcakmffkpmaaDoor
