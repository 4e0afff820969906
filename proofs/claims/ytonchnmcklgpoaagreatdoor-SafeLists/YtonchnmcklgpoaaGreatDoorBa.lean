/-
  Words of this seat's walks: bytes in memory, append onto rows of the call's own, blocks known whole, '==' of strings, rows of texts, a text made into bytes. No condition.
-/
import Derived.Test.YtonchnmcklgpoaaGreatDoorProg
import Derived.WalkKit
import Derived.WalkSpells
import Derived.WalkLawsBesides
import Derived.Maps.AppendAt
import Derived.Lib.AppendStr
import Derived.Lib.Hide
import Derived.Laws.BytesArg
import Derived.Lib.SliceRun
import Derived.Lib.MinMax
import Derived.Deep.RegionHeld3
import Derived.Deep.MidRow
import Derived.Laws.Rows
import Derived.Laws.CopyRow
import Derived.Lib.ConvBytes
namespace Go.Proofs.YtonchnmcklgpoaaGreatDoor
open Go.RowKit


def vb (c : UInt8) : Value := .int .u8 (c.toNat : Int)
def vbs (l : List UInt8) : List Value := l.map vb
/-- A list of bytes as a Go string. -/
def str (l : List UInt8) : ByteArray := ⟨l.toArray⟩

theorem vbs_length (l : List UInt8) : (vbs l).length = l.length := by simp [vbs]
theorem vbs_append (l m : List UInt8) : vbs (l ++ m) = vbs l ++ vbs m := by simp [vbs]
theorem vbs_get {l : List UInt8} {j : Nat} {u : Value} (h : (vbs l)[j]? = some u) : ∃ c, l[j]? = some c ∧ u = vb c := by
  simp only [vbs, List.getElem?_map, Option.map_eq_some_iff] at h
  obtain ⟨c, hc, rfl⟩ := h
  exact ⟨c, hc, rfl⟩
theorem vbs_one (l : List UInt8) : ∀ u ∈ vbs l, u.oneCell' = true := by
  intro u hu
  simp only [vbs, List.mem_map] at hu
  obtain ⟨c, _, rfl⟩ := hu
  rfl
theorem str_size (l : List UInt8) : (str l).size = l.length := by simp [str, ByteArray.size]
theorem str_cells (l : List UInt8) : Lib.strCells (str l) = vbs l := by
  simp only [Lib.strCells, str, vbs]
  rfl

/-- The slice value '.slice A n c' holds the bytes l, in a block below B. -/
def Bs (w : World) (B : Nat) (A : Option Addr) (n : Nat) (l : List UInt8) : Prop :=
  l.length = n ∧ (0 < n → ∃ b off, A = some ⟨b, off, none⟩ ∧ b < B ∧ ∀ j c, l[j]? = some c → w.cell? ⟨b, off + j, none⟩ = some (vb c))

/-- The value v is a row of bytes of the call's own (blocks from base on), of n bytes l. -/
def Own (w : World) (base : Nat) (v : Value) (n : Nat) (l : List UInt8) : Prop := w.ownsRow base 5 1 v n (vbs l)

section
variable {w w' : World} {B B' n c : Nat} {A : Option Addr} {l : List UInt8}
theorem Bs.empty (w : World) (B : Nat) (A : Option Addr) : Bs w B A 0 [] := ⟨rfl, fun h => absurd h (by omega)⟩
theorem Bs.nil_ (h : Bs w B none n l) : n = 0 ∧ l = [] := by
  rcases Nat.eq_zero_or_pos n with h0 | h0
  · exact ⟨h0, List.eq_nil_of_length_eq_zero (by rw [h.1, h0])⟩
  · obtain ⟨b, off, e, _⟩ := h.2 h0
    cases e
theorem Bs.keep (h : Bs w B A n l) (hk : ∀ b o, b < B → w'.cell? ⟨b, o, none⟩ = w.cell? ⟨b, o, none⟩) : Bs w' B A n l :=
  ⟨h.1, fun hn => by
    obtain ⟨b, off, e, hb, hc⟩ := h.2 hn
    exact ⟨b, off, e, hb, fun j c hj => (hk _ _ hb).trans (hc j c hj)⟩⟩
theorem Bs.more (h : Bs w B A n l) (hB : B ≤ B') : Bs w B' A n l :=
  ⟨h.1, fun hn => by
    obtain ⟨b, off, e, hb, hc⟩ := h.2 hn
    exact ⟨b, off, e, by omega, hc⟩⟩
theorem Bs.below (h : Bs w B A n l) (hb : Below B w w') : Bs w' B A n l := h.keep fun b o hlt => hb.cell (p := ⟨b, o, none⟩) hlt
theorem Bs.below' (h : Bs w B A n l) {B2 : Nat} (hb : Below B2 w w') (hB : B ≤ B2) : Bs w' B A n l := h.below (hb.mono hB)
theorem Bs.drewN (h : Bs w B A n l) (k : Nat) : Bs (w.drewN k) B A n l := h
theorem Bs.drew (h : Bs w B A n l) : Bs w.drew B A n l := h
theorem Bs.alloc (h : Bs w B A n l) (hB : B ≤ w.heap.size) (o : Obj) : Bs (w.alloc o) B A n l :=
  h.keep fun b off hb => World.cell?_alloc_lt w o ⟨b, off, none⟩ (by show b < _; omega)
theorem Bs.set (h : Bs w B A n l) {p : Addr} (hB : B ≤ p.block) (u : Value) : Bs (w.setCell p u) B A n l :=
  h.keep fun b o hb => World.cell?_setCell_other w p ⟨b, o, none⟩ u (fun e => by subst e; simp at hB; omega)
theorem Bs.at_ (h : Bs w B A n l) {k : Nat} (hk : k < n) : ∃ b off, A = some ⟨b, off, none⟩ ∧ b < B ∧ w.cell? ⟨b, off + k, none⟩ = some (vb (l.getD k 0)) := by
  obtain ⟨b, off, e, hb, hc⟩ := h.2 (by omega)
  have hl : k < l.length := by rw [h.1]; exact hk
  refine ⟨b, off, e, hb, ?_⟩
  rw [hc k l[k] (List.getElem?_eq_getElem hl)]
  simp [List.getD, List.getElem?_eq_getElem hl]
theorem Bs.take (h : Bs w B A n l) (k : Nat) (hk : k ≤ n) : Bs w B A k (l.take k) := by
  refine ⟨by rw [List.length_take, h.1]; omega, fun hn => ?_⟩
  obtain ⟨b, off, e, hb, hc⟩ := h.2 (by omega)
  refine ⟨b, off, e, hb, fun j c hj => hc j c ?_⟩
  rw [List.getElem?_take] at hj
  split at hj
  · exact hj
  · cases hj
/-- 's[k:]', as the model has it: at the capacity the address stays. -/
theorem Bs.cut (h : Bs w B A n l) {k cap : Nat} (hk : k ≤ n) (hc : n ≤ cap) : Bs w B (if cap = k then A else A.map (·.add k)) (n - k) (l.drop k) := by
  refine ⟨by rw [List.length_drop, h.1], fun hn => ?_⟩
  obtain ⟨b, off, rfl, hb, hcell⟩ := h.2 (by omega)
  rw [if_neg (by omega)]
  refine ⟨b, off + k, by simp [Addr.add_lit], hb, fun j c hj => ?_⟩
  rw [Nat.add_assoc]
  exact hcell _ c (by rw [← hj, List.getElem?_drop])
theorem Own.form {v : Value} {base : Nat} (h : Own w base v n l) : ∃ A c, v = .slice A n c ∧ n ≤ c ∧ Bs w w.heap.size A n l := by
  have hl := h.1
  rw [vbs_length, Nat.mul_one] at hl
  rcases h.2 with ⟨rfl, rfl⟩ | ⟨g, cap, cur, rfl, hb, hg, hnc, _⟩
  · exact ⟨none, 0, rfl, Nat.le_refl _, hl, fun hn => absurd hn (by omega)⟩
  · have hlt : g < w.heap.size := (Array.getElem?_eq_some_iff.1 hg).1
    refine ⟨some ⟨g, 0, none⟩, cap, rfl, hnc, hl, fun _ => ⟨g, 0, rfl, hlt, fun j c hj => ?_⟩⟩
    have := World.ownsRow.cells (g := g) h rfl j (vb c) (by simp [vbs, hj])
    rwa [Addr.add_lit] at this
theorem Own.len {v : Value} {base : Nat} (h : Own w base v n l) : l.length = n := by
  have hl := h.1
  rwa [vbs_length, Nat.mul_one] at hl
/-- Own's block lies at base or above, so what is below is kept. -/
theorem Own.base_le {v : Value} {base : Nat} (h : Own w base v n l) : ∀ k, v.ownBlock = some k → base ≤ k := fun k hk => (World.ownsRow.lt h k hk).1
theorem Own.down {v : Value} {base base' : Nat} (h : Own w base v n l) (hb : base' ≤ base) : Own w base' v n l := by
  refine ⟨h.1, ?_⟩
  rcases h.2 with h2 | ⟨g, cap, cur, hv, hg, r⟩
  · exact .inl h2
  · exact .inr ⟨g, cap, cur, hv, by omega, r⟩
/-- What is owned stays so while all blocks that were there stay. -/
theorem Own.kept {v : Value} {base : Nat} (h : Own w base v n l) (hb : Below w.heap.size w w') : Own w' base v n l := by
  refine ⟨h.1, ?_⟩
  rcases h.2 with h2 | ⟨g, cap, cur, hv, hg, hh, r⟩
  · exact .inl h2
  · exact .inr ⟨g, cap, cur, hv, hg, by rw [hb.block g (Array.getElem?_eq_some_iff.1 hh).1]; exact hh, r⟩
theorem Own.alloc {v : Value} {base : Nat} (h : Own w base v n l) (o : Obj) : Own (w.alloc o) base v n l := World.ownsRow.alloc h o
end

theorem byte_info : (Tryz.prog.info? 5).map (fun i => (i.zero, i.size, i.bytes)) = some (some (.int .u8 0), 1, 1) := by kernel_rfl

/-- append onto an owned row of bytes, of whatever slice of bytes, nil too. -/
theorem run_app (w : World) (base : Nat) (ty : TypeId) (v : Value) (n : Nat) (l : List UInt8) (hown : Own w base v n l)
    (B : Nat) (A : Option Addr) (m c : Nat) (k : List UInt8) (hr : Bs w B A m k) (hs : n + m ≤ 1000000000) (hbase : base ≤ w.heap.size) :
    ∃ v' w', (Builtin.append_ #[52, 52] ty #[v, .slice A m c]).run Tryz.prog w = .ok v' w' ∧ Own w' base v' (n + m) (l ++ k) ∧ Below base w w' := by
  obtain ⟨i, hi, hz, h1, h2⟩ := info_parts byte_info
  rcases A with _ | ad
  · obtain ⟨rfl, rfl⟩ := hr.nil_
    refine ⟨v, w, ?_, by simpa using hown, Below.refl _ _⟩
    rcases hown.2 with ⟨rfl, rfl⟩ | ⟨g, cap, cur, rfl, _, _, hnc, _⟩
    · simp [Builtin.append_, run_underlying Tryz.underlying52, sizeOf, typeInfo, hi, Builtin.lenOf, Builtin.firstCells]
    · simp [Builtin.append_, run_underlying Tryz.underlying52, sizeOf, typeInfo, hi, Builtin.lenOf, Builtin.firstCells, hnc, storeCells]
  · have hcells : ∀ j u, (vbs k)[j]? = some u → w.cell? (ad.add j) = some u := by
      intro j u hu
      obtain ⟨x, hx, rfl⟩ := vbs_get hu
      have hm : 0 < m := by
        have := (List.getElem?_eq_some_iff.1 hx).1
        have := hr.1
        omega
      obtain ⟨b, off, e, _, hc⟩ := hr.2 hm
      have e := Option.some.inj e
      subst e
      rw [Addr.add_lit]
      exact hc j x hx
    obtain ⟨v', w', hrun, h3, h4, _, h5⟩ := run_append_own_at (P := Tryz.prog) w base 52 ty 5 i _ 1 1 Tryz.underlying52 hi hz h1 h2 rfl (by omega) v n (vbs l) hown ad m c (vbs k)
      (by rw [vbs_length, Nat.mul_one]; exact hr.1) hcells (vbs_one k) (by unfold maxLen; omega) (by omega) hbase
    exact ⟨v', w', hrun, by rw [← vbs_append] at h3; exact h3, (Below.refl _ _).grown h4 hbase (Own.base_le hown)⟩

/-- The same at the operation of a walk. -/
theorem wp_app {ops : Array Oper} {rest : List Oper} {o : Oper} {a : Act} {Q : Exit → Act → World → Prop} (w : World) (hgd : o.guard = none) (s x : Operand)
    (ho : o.op = .call { callee := .builtin .append, args := #[s, x], argTypes := #[52, 52] })
    (base : Nat) (v : Value) (n : Nat) (l : List UInt8) (hs : a.eval s = v) (hown : Own w base v n l)
    (B : Nat) (A : Option Addr) (m c : Nat) (k : List UInt8) (hx : a.eval x = .slice A m c) (hr : Bs w B A m k) (hsz : n + m ≤ 1000000000) (hbase : base ≤ w.heap.size)
    (h : ∀ v' w', Own w' base v' (n + m) (l ++ k) → Below base w w' → wpList Tryz.prog ops Q rest (a.put o.dst v') w') : wpList Tryz.prog ops Q (o :: rest) a w := by
  refine wpList_plain hgd fun K hK => ?_
  obtain ⟨v', w', hrun, h2, h3⟩ := run_app w base o.type v n l hown B A m c k hr hsz hbase
  unfold Oper.wp execOp
  simp only [ho, resolve, invoke, builtin, Sem.run_bind, Sem.run_pure, Result.andThen_ok, List.map_toArray, List.map_cons, List.map_nil, hs, hx, hrun]
  exact hK _ _ (h v' w' h2 h3)

/-- append of a string's bytes onto an owned row of bytes. -/
theorem wp_appStr {ops : Array Oper} {rest : List Oper} {o : Oper} {a : Act} {Q : Exit → Act → World → Prop} (w : World) (hgd : o.guard = none) (s x : Operand)
    (ho : o.op = .call { callee := .builtin .append, args := #[s, x], argTypes := #[52, 9] })
    (base : Nat) (v : Value) (n : Nat) (l : List UInt8) (hs : a.eval s = v) (hown : Own w base v n l)
    (k : List UInt8) (hx : a.eval x = .string (str k)) (hsz : n + k.length ≤ 1000000000) (hbase : base ≤ w.heap.size)
    (h : ∀ v' w', Own w' base v' (n + k.length) (l ++ k) → Below base w w' → wpList Tryz.prog ops Q rest (a.put o.dst v') w') : wpList Tryz.prog ops Q (o :: rest) a w := by
  obtain ⟨i, hi, hz, h1, h2⟩ := info_parts byte_info
  refine Lib.wpList_append_own_string w hgd s x 52 9 ho base 5 i Tryz.underlying52 Tryz.underlying9 hi hz h1 h2 v n (vbs l) hs hown (str k) hx
    (by rw [str_size]; unfold maxLen; omega) (by rw [str_size]; omega) hbase ?_
  intro v' w' h3 h4 _
  rw [str_size, str_cells, ← vbs_append] at h3
  exact h v' w' h3 ((Below.refl _ _).grown h4 hbase (Own.base_le hown))

/-- string(b) is b's bytes. -/
theorem run_str (w : World) (B : Nat) (A : Option Addr) (n c : Nat) (l : List UInt8) (h : Bs w B A n l) : (convert 52 9 (.slice A n c)).run Tryz.prog w = .ok (.string (str l)) w := by
  rcases A with _ | ⟨b, off, sp⟩
  · obtain ⟨rfl, rfl⟩ := h.nil_
    exact run_convert_bytes_nil w 52 5 Tryz.underlying52 Tryz.underlying5 0 c 9 Tryz.underlying9
  · rcases Nat.eq_zero_or_pos n with h0 | h0
    · subst h0
      have hl : l = [] := List.eq_nil_of_length_eq_zero h.1
      subst hl
      rw [run_convert_bytes_string w 52 9 5 _ 0 c Tryz.underlying52 Tryz.underlying5 Tryz.underlying9, run_bytesToString w _ 0 c [] (by simp [loadCells, loadCellsFrom])]
      rfl
    · obtain ⟨b', off', e, _, hc⟩ := h.2 h0
      obtain ⟨e1, e2, e3⟩ := Addr.mk.inj (Option.some.inj e)
      subst e1 e2 e3
      have := run_convert_bytes_arg (P := Tryz.prog) w 52 5 Tryz.underlying52 Tryz.underlying5 b off n c (l.map fun x => (x.toNat : Int)) (by rw [List.length_map]; exact h.1)
        (fun i hi => by
          have hl : i < l.length := by rw [h.1]; exact hi
          rw [hc i l[i] (List.getElem?_eq_getElem hl)]
          simp [vb, List.getD, List.getElem?_eq_getElem hl]) 9 Tryz.underlying9
      rw [this]
      have e : strOfNums (l.map fun x => (x.toNat : Int)) = str l := by
        apply ByteArray.ext
        apply Array.ext'
        rw [strOfNums_data]
        simp [str, Function.comp_def]
      rw [e]

/-- The same at the operation of a walk. -/
theorem wp_str {ops : Array Oper} {rest : List Oper} {o : Oper} {a : Act} {Q : Exit → Act → World → Prop} (w : World) (hgd : o.guard = none) (x : Operand)
    (ho : o.op = .convert 52 9 x) (B : Nat) (A : Option Addr) (n c : Nat) (l : List UInt8) (hx : a.eval x = .slice A n c) (hr : Bs w B A n l)
    (h : wpList Tryz.prog ops Q rest (a.put o.dst (.string (str l))) w) : wpList Tryz.prog ops Q (o :: rest) a w := by
  refine wpList_plain hgd fun K hK => ?_
  have hrun := run_str w B A n c l hr
  unfold Oper.wp execOp
  simp only [ho, hx, hrun, Sem.run_bind, Sem.run_pure, Result.andThen_ok]
  exact hK _ _ h

/-- One byte in a block of its own, as 'append(b, c)' lays it. -/
theorem Bs.one (w : World) (c : UInt8) : Bs (w.alloc (.cells #[vb c] 5)) (w.heap.size + 1) (some ⟨w.heap.size, 0, none⟩) 1 [c] := by
  refine ⟨rfl, fun _ => ⟨w.heap.size, 0, rfl, by omega, fun j u hj => ?_⟩⟩
  match j, hj with
  | 0, hj =>
    simp at hj
    subst hj
    simp
theorem Bs.one' (w : World) (x : Int) (c : UInt8) (h : x = (c.toNat : Int)) : Bs (w.alloc (.cells #[.int .u8 x] 5)) (w.heap.size + 1) (some ⟨w.heap.size, 0, none⟩) 1 [c] := by
  subst h
  exact Bs.one w c
theorem toNat_ofNat_lt (k : Nat) (h : k < 256) : (UInt8.ofNat k).toNat = k := by
  simp
  omega

/-- A literal of bytes in a block of its own. -/
theorem Bs.new (w : World) (l : List UInt8) (a : Array Value) (ha : a = (vbs l).toArray) (n : Nat) (hn : l.length = n) : Bs (w.alloc (.cells a 5)) (w.alloc (.cells a 5)).heap.size (some ⟨w.heap.size, 0, none⟩) n l := by
  subst ha
  refine ⟨hn, fun _ => ⟨w.heap.size, 0, rfl, by simp, fun j c hj => ?_⟩⟩
  rw [Nat.zero_add, cell_of_row _ _ _ _ _ _ (heap_alloc_new w _)]
  simp [vbs, hj]

theorem wp_appS {ops : Array Oper} {rest : List Oper} {o : Oper} {a : Act} {Q : Exit → Act → World → Prop} (w : World) (hgd : o.guard = none) (s x : Operand)
    (ho : o.op = .call { callee := .builtin .append, args := #[s, x], argTypes := #[52, 52] })
    (base : Nat) (v : Value) (n : Nat) (l : List UInt8) (hs : a.eval s = v) (hown : Own w base v n l)
    (B : Nat) (A : Option Addr) (m c : Nat) (k : List UInt8) (hx : a.eval x = .slice A m c) (hr : Bs w B A m k) (hsz : n + m ≤ 1000000000) (hbase : base ≤ w.heap.size)
    (N : Nat) (L : List UInt8) (hN : n + m = N) (hL : l ++ k = L)
    (h : ∀ A' c' w', N ≤ c' → Bs w' w'.heap.size A' N L → Own w' base (.slice A' N c') N L → Below base w w' → wpList Tryz.prog ops Q rest (a.put o.dst (.slice A' N c')) w') : wpList Tryz.prog ops Q (o :: rest) a w := by
  subst hN hL
  refine wp_app w hgd s x ho base v n l hs hown B A m c k hx hr hsz hbase fun v' w' h1 h2 => ?_
  obtain ⟨A', c', rfl, h3, h4⟩ := h1.form
  exact h A' c' w' h3 h4 h1 h2

/-- The same inside a region that draws its order. -/
theorem step_appS {ops : Array Oper} {o : Oper} {a : Act} {K : Act → World → Prop} {Q : Exit → Act → World → Prop} {E : Prop} (w : World) (hgd : o.guard = none) (s x : Operand)
    (ho : o.op = .call { callee := .builtin .append, args := #[s, x], argTypes := #[52, 52] })
    (base : Nat) (v : Value) (n : Nat) (l : List UInt8) (hs : a.eval s = v) (hown : Own w base v n l)
    (B : Nat) (A : Option Addr) (m c : Nat) (k : List UInt8) (hx : a.eval x = .slice A m c) (hr : Bs w B A m k) (hsz : n + m ≤ 1000000000) (hbase : base ≤ w.heap.size)
    (N : Nat) (L : List UInt8) (hN : n + m = N) (hL : l ++ k = L)
    (h : ∀ A' c' w', N ≤ c' → Bs w' w'.heap.size A' N L → Own w' base (.slice A' N c') N L → Below base w w' → K (a.put o.dst (.slice A' N c')) w') :
    if Region.wanted o (yielded ops a.tmps) = true then Oper.wp Tryz.prog o a w K Q else E := by
  have hw : Region.wanted o (yielded ops a.tmps) = true := by simp [Region.wanted, hgd]
  rw [if_pos hw]
  subst hN hL
  obtain ⟨v', w', hrun, h2, h3⟩ := run_app w base o.type v n l hown B A m c k hr hsz hbase
  obtain ⟨A', c', rfl, h4, h5⟩ := h2.form
  unfold Oper.wp execOp
  simp only [ho, resolve, invoke, builtin, Sem.run_bind, Sem.run_pure, Result.andThen_ok, List.map_toArray, List.map_cons, List.map_nil, hs, hx, hrun]
  exact h A' c' w' h4 h5 h2 h3

/-- In the midst of a region the worlds that it is walked over may be narrowed: behind a call, to the one that the call has left. -/
theorem wpAnyH_switch {P : Program} {md : Region.Mode} {ops : Array Oper} {Q : Exit → Act → World → Prop} {S S' : World → Prop} (hS : ∀ w, S' w → S w) :
    ∀ {fuel : Nat} {listed : Array Bool} {a : Act} {w : World}, wpAnyH P md ops Q S' fuel listed a w → wpAnyH P md ops Q S fuel listed a w
  | 0, _, _, _, h => h
  | _ + 1, _, _, _, h => ⟨h.1, fun i hi => wpOp_mono (fun _ _ h' => ⟨hS _ h'.1, wpAnyH_switch hS h'.2⟩) (h.2 i hi)⟩

/-- '[]byte{}' in a block of its own. -/
theorem own_empty (w : World) (base : Nat) (hb : base ≤ w.heap.size) : Own (w.alloc (.cells #[] 5)) base (.slice (some ⟨w.heap.size, 0, none⟩) 0 0) 0 [] :=
  World.ownsRow_made _ _ _ hb (by decide) rfl

theorem wf_u8 {n : Int} (h : (Lit.int .u8 n).wf = true) : 0 ≤ n ∧ n < 256 := by
  simp [Lit.wf, IntKind.min, IntKind.max, IntKind.signed, IntKind.bits] at h
  omega

/-- A slice of bytes that came in, as the proof's frame opens it. -/
theorem bs_of_row {w : World} {a : Option Addr} {len cap : Nat} {zs : List Int}
    (h : (a = none ∧ len = 0 ∧ cap = 0 ∧ zs = []) ∨
      ∃ x, a = some x ∧ len ≤ cap ∧ cap ≤ maxLen ∧ zs.length = cap ∧ (∀ i, i < zs.length → w.cell? (x.add i) = some (.int .u8 (zs.getD i 0))) ∧ ∀ n ∈ zs, (Lit.int .u8 n).wf = true) :
    ∃ l, Bs w w.heap.size a len l ∧ len ≤ cap ∧ cap ≤ 9223372036854775807 := by
  rcases h with ⟨rfl, rfl, rfl, rfl⟩ | ⟨x, rfl, hl, hm, hz, hcell, hwf⟩
  · exact ⟨[], Bs.empty _ _ _, Nat.le_refl _, by omega⟩
  · refine ⟨(zs.take len).map fun n => UInt8.ofNat n.toNat, ⟨by simp; omega, fun hpos => ?_⟩, hl, by unfold maxLen at hm; omega⟩
    obtain ⟨b, off, sp⟩ := x
    have h0 := hcell 0 (by omega)
    have hsp : sp = none := by simpa [Addr.add] using World.cell?_spot h0
    subst hsp
    have hb : b < w.heap.size := by
      have := World.block_lt_of_cell? w _ h0
      simpa [Addr.add_lit] using this
    refine ⟨b, off, rfl, hb, fun j c hj => ?_⟩
    rw [List.getElem?_map, Option.map_eq_some_iff] at hj
    obtain ⟨z, hz1, rfl⟩ := hj
    rw [List.getElem?_take] at hz1
    split at hz1
    · have hlt := (List.getElem?_eq_some_iff.1 hz1).1
      have hc := hcell j hlt
      rw [Addr.add_lit] at hc
      rw [hc]
      have hzd : zs.getD j 0 = z := by simp [List.getD, hz1]
      have hw := wf_u8 (hwf z (List.mem_of_getElem? hz1))
      rw [hzd, vb]
      congr 2
      simp
      omega
    · cases hz1
/-- All that w held is as it was. -/
def Kept (w W : World) : Prop := Below w.heap.size w W
theorem Kept.refl (w : World) : Kept w w := Below.refl _ _
theorem Kept.drew {w W : World} (h : Kept w W) : Kept w W.drew := Below.drew h
theorem Kept.alloc {w W : World} (h : Kept w W) (o : Obj) : Kept w (W.alloc o) := Below.alloc h h.size o
theorem Kept.base {w W W' : World} (h : Kept w W) (hb : Below w.heap.size W W') : Kept w W' := Below.trans h hb
theorem Kept.step {w W W' : World} (h : Kept w W) (hb : Below W.heap.size W W') : Kept w W' := Below.trans h (hb.mono h.size)
theorem Kept.str {w : World} {A : Option Addr} {n : Nat} {l : List UInt8} (h : Bs w w.heap.size A n l) (W : World) (hk : Kept w W) (c : Nat) : (convert 52 9 (.slice A n c)).run Tryz.prog W = .ok (.string (str l)) W :=
  run_str W _ A n c l (h.below hk)

theorem vbs_getD (l : List UInt8) (j : Nat) (h : j < l.length) : (vbs l)[j]? = some (vb (l.getD j 0)) := by
  simp [vbs, List.getD, List.getElem?_eq_getElem h]

/-- The block b is known whole: the cells C of a variable of type t. -/
def Blk (w : World) (b : Nat) (t : TypeId) (C : List Value) : Prop := w.heap[b]? = some (.cells C.toArray t (0, 0))
/-- Nothing but block b is another one. -/
structure Upd (b : Nat) (w w' : World) : Prop where
  os : w'.os = w.os
  tape : w'.tape = w.tape
  output : w'.output = w.output
  size : w'.heap.size = w.heap.size
  block : ∀ k, k ≠ b → w'.heap[k]? = w.heap[k]?
theorem Upd.refl (b : Nat) (w : World) : Upd b w w := ⟨rfl, rfl, rfl, rfl, fun _ _ => rfl⟩
theorem Upd.trans {b : Nat} {w w1 w2 : World} (h : Upd b w w1) (k : Upd b w1 w2) : Upd b w w2 :=
  ⟨k.os.trans h.os, k.tape.trans h.tape, k.output.trans h.output, k.size.trans h.size, fun i hi => (k.block i hi).trans (h.block i hi)⟩
theorem Upd.below {b B : Nat} {w w' : World} (h : Upd b w w') (hB : B ≤ b) : Below B w w' :=
  ⟨h.os, h.tape, h.output, Nat.le_of_eq h.size.symm, fun k hk => h.block k (by omega)⟩
theorem Upd.setCell (w : World) (b i : Nat) (v : Value) : Upd b w (w.setCell ⟨b, i, none⟩ v) :=
  ⟨rfl, rfl, rfl, by simp [World.setCell], fun k hk => Go.heap_setCell_other w ⟨b, i, none⟩ k v hk⟩
theorem Upd.setCells (b : Nat) : ∀ (vs : List Value) (o : Nat) (w : World), Upd b w (w.setCells b o vs)
  | [], _, w => Upd.refl b w
  | v :: r, o, w => (Upd.setCell w b o v).trans (Upd.setCells b r (o + 1) _)

section
variable {w w' : World} {b : Nat} {t : TypeId} {C : List Value}
theorem Blk.lt (h : Blk w b t C) : b < w.heap.size := (Array.getElem?_eq_some_iff.1 h).1
theorem Blk.new (w : World) (t : TypeId) (C : List Value) : Blk (w.alloc (.cells C.toArray t)) w.heap.size t C := Go.heap_alloc_new w _
theorem Blk.alloc (h : Blk w b t C) (o : Obj) : Blk (w.alloc o) b t C := (Go.heap_alloc_old w o h.lt).trans h
theorem Blk.drew (h : Blk w b t C) : Blk w.drew b t C := h
theorem Blk.drewN (h : Blk w b t C) (k : Nat) : Blk (w.drewN k) b t C := h
theorem Blk.below (h : Blk w b t C) {B : Nat} (hb : Below B w w') (hB : b < B) : Blk w' b t C := (hb.block b hB).trans h
theorem Blk.kept (h : Blk w b t C) (hb : Below w.heap.size w w') : Blk w' b t C := h.below hb h.lt
theorem Blk.upd (h : Blk w b t C) {b' : Nat} (hu : Upd b' w w') (hne : b ≠ b') : Blk w' b t C := (hu.block b hne).trans h
theorem Blk.cell (h : Blk w b t C) {i : Nat} {v : Value} (hv : C[i]? = some v) : w.cell? ⟨b, i, none⟩ = some v := by
  rw [Go.cell_of_row w b i _ _ _ h]
  simpa using hv
theorem Blk.frozen (h : Blk w b t C) (i : Nat) : w.frozen? ⟨b, i, none⟩ = false := Go.frozen_of_row w b i _ _ h
theorem Blk.range (h : Blk w b t C) (X Y Z : List Value) (hC : C = X ++ Y ++ Z) : w.rangeAt b X.length Y := by
  intro j v hv
  refine h.cell ?_
  subst hC
  have hj : j < Y.length := (List.getElem?_eq_some_iff.1 hv).1
  rw [List.append_assoc, List.getElem?_append_right (by omega), Nat.add_sub_cancel_left, List.getElem?_append_left hj]
  exact hv
theorem Blk.whole (h : Blk w b t C) : w.rangeAt b 0 C := by
  intro j v hv
  rw [Nat.zero_add]
  exact h.cell hv
theorem Blk.there (h : Blk w b t C) {o n : Nat} (hn : o + n ≤ C.length) : w.there b o n := fun j hj =>
  ⟨by rw [h.cell (List.getElem?_eq_getElem (by omega : o + j < C.length))]; rfl, h.frozen _⟩
theorem Blk.set (h : Blk w b t C) (i : Nat) (v : Value) : Blk (w.setCell ⟨b, i, none⟩ v) b t (C.set i v) := by
  have := Go.heap_setCell_same w b i _ t v h
  simpa [Blk] using this
end
theorem setCells_blk (b : Nat) (t : TypeId) : ∀ (vs : List Value) (o : Nat) (w : World) (C : List Value), Blk w b t C → o + vs.length ≤ C.length → Blk (w.setCells b o vs) b t (C.take o ++ vs ++ C.drop (o + vs.length))
  | [], o, w, C, h, _ => by
    show Blk w b t _
    simpa using h
  | v :: r, o, w, C, h, hl => by
    have h1 := setCells_blk b t r (o + 1) _ _ (h.set o v) (by simp at hl ⊢; omega)
    have e : (C.set o v).take (o + 1) ++ r ++ (C.set o v).drop (o + 1 + r.length) = C.take o ++ (v :: r) ++ C.drop (o + (v :: r).length) := by
      have ho : o < C.length := by simp at hl; omega
      rw [List.drop_set_of_lt (by omega), List.take_set, List.take_succ_eq_append_getElem ho, List.set_append_right _ _ (by simp; omega)]
      have e2 : o + 1 + r.length = o + (v :: r).length := by simp; omega
      have e3 : o - min o C.length = 0 := by omega
      rw [e2]
      simp [e3]
    rw [e] at h1
    exact h1

/-- The block g was made, and nothing else. -/
structure Fresh (w w' : World) (g : Nat) : Prop where
  is : g = w.heap.size
  size : w'.heap.size = g + 1
  below : Below w.heap.size w w'
theorem Fresh.alloc (w : World) (o : Obj) : Fresh w (w.alloc o) w.heap.size := ⟨rfl, by simp, (Below.refl _ _).alloc (Nat.le_refl _) _⟩
theorem Fresh.blk {w w' : World} {g b : Nat} {t : TypeId} {C : List Value} (h : Fresh w w' g) (hb : Blk w b t C) : Blk w' b t C := hb.kept h.below

section
variable {ops : Array Oper} {rest : List Oper} {o : Oper} {a : Act} {Q : Exit → Act → World → Prop}
/-- 'var x T', T an array or a struct. -/
theorem wp_new (w : World) (hgd : o.guard = none) (t : TypeId) (ho : o.op = .alloc t) (Z : List Value) (hz : (Tryz.prog.info? t).map (fun i => i.zero) = some (some (.agg Z.toArray)))
    (h : ∀ w' g, Blk w' g t Z → Fresh w w' g → wpList Tryz.prog ops Q rest (a.put o.dst (.pointer (some ⟨g, 0, none⟩))) w') : wpList Tryz.prog ops Q (o :: rest) a w := by
  have h := h (w.alloc (.cells Z.toArray t)) _ (Blk.new w t Z) (Fresh.alloc w _)
  refine wpList_plain hgd fun K hK => ?_
  have hzv : ∀ w, (zeroValue t).run Tryz.prog w = .ok (.agg Z.toArray) w := by
    intro w
    cases hq : Tryz.prog.info? t with
    | none => simp [hq] at hz
    | some i =>
      simp [hq] at hz
      simp [zeroValue, typeInfo, hq, hz]
  unfold Oper.wp execOp
  simp only [ho, Instr.alloc, Sem.run_bind, hzv, Result.andThen_ok, Sem.run_pure, newVar, newRow, newObj, Value.cells]
  exact hK _ _ h
/-- A parameter's own variable. -/
theorem wp_box (w : World) (hgd : o.guard = none) (t : TypeId) (x : Operand) (ho : o.op = .box t x) (C : List Value) (hx : a.eval x = .agg C.toArray)
    (h : ∀ w' g, Blk w' g t C → Fresh w w' g → wpList Tryz.prog ops Q rest (a.put o.dst (.pointer (some ⟨g, 0, none⟩))) w') : wpList Tryz.prog ops Q (o :: rest) a w := by
  have h := h (w.alloc (.cells C.toArray t)) _ (Blk.new w t C) (Fresh.alloc w _)
  refine wpList_plain hgd fun K hK => ?_
  unfold Oper.wp execOp
  simp only [ho, hx, Instr.box, Sem.run_bind, Sem.run_pure, newVar, newRow, newObj, Value.cells]
  exact hK _ _ h
/-- A whole array, or a part of a block, is stored. -/
theorem wp_put (w : World) (hgd : o.guard = none) (t : TypeId) (x y : Operand) (ho : o.op = .store t x y) (b off : Nat) (t0 : TypeId) (C cs : List Value)
    (hx : a.eval x = .pointer (some ⟨b, off, none⟩)) (hy : a.eval y = .agg cs.toArray) (hb : Blk w b t0 C) (hn : off + cs.length ≤ C.length) (hi : (Tryz.prog.info? t).map (·.size) = some cs.length) (h1 : ∀ u ∈ cs, u.oneCell' = true)
    (h : ∀ w', Blk w' b t0 (C.take off ++ cs ++ C.drop (off + cs.length)) → Upd b w w' → wpList Tryz.prog ops Q rest (a.put o.dst undef) w') : wpList Tryz.prog ops Q (o :: rest) a w := by
  refine wpList_store_mid hgd t x y ho b off cs.toArray hx hy (by simpa using hb.there hn) (by simpa using hi) (all_oneCell_toArray h1) ?_
  exact h _ (setCells_blk b t0 cs off w C hb hn) (Upd.setCells b cs off w)
/-- The same, where all of the block is stored. -/
theorem wp_putAll (w : World) (hgd : o.guard = none) (t : TypeId) (x y : Operand) (ho : o.op = .store t x y) (b : Nat) (t0 : TypeId) (C cs : List Value)
    (hx : a.eval x = .pointer (some ⟨b, 0, none⟩)) (hy : a.eval y = .agg cs.toArray) (hb : Blk w b t0 C) (hn : cs.length = C.length) (hi : (Tryz.prog.info? t).map (·.size) = some cs.length) (h1 : ∀ u ∈ cs, u.oneCell' = true)
    (h : ∀ w', Blk w' b t0 cs → Upd b w w' → wpList Tryz.prog ops Q rest (a.put o.dst undef) w') : wpList Tryz.prog ops Q (o :: rest) a w := by
  refine wp_put w hgd t x y ho b 0 t0 C cs hx hy hb (by omega) hi h1 fun w' hw hu => h w' ?_ hu
  have e : C.take 0 ++ cs ++ C.drop (0 + cs.length) = cs := by
    rw [List.drop_eq_nil_of_le (by omega)]
    simp
  rwa [e] at hw
/-- A whole array, or a part of a block, is read. -/
theorem wp_get (w : World) (hgd : o.guard = none) (t : TypeId) (x : Operand) (ho : o.op = .load t x) (b off : Nat) (cs : List Value) (d : TypeDesc)
    (hx : a.eval x = .pointer (some ⟨b, off, none⟩)) (hc : w.rangeAt b off cs) (hu : Tryz.prog.underlying t = some d) (hd : d.isRow = true) (hi : (Tryz.prog.info? t).map (·.size) = some cs.length)
    (h : wpList Tryz.prog ops Q rest (a.put o.dst (.agg cs.toArray)) w) : wpList Tryz.prog ops Q (o :: rest) a w :=
  wpList_load_mid hgd t x ho b off hx cs d hc hu hd hi h
/-- 'x[i]', x an array's value. -/
theorem wp_index (w : World) (hgd : o.guard = none) (t : TypeId) (x ix : Operand) (ho : o.op = .index t x ix) (n : Nat) (e : TypeId) (de : TypeDesc) (hu : Tryz.prog.underlying t = some (.array n e))
    (hue : Tryz.prog.underlying e = some de) (hde : de.isRow = false) (hi : (Tryz.prog.info? e).map (·.size) = some 1) (C : List Value) (hx : a.eval x = .agg C.toArray) (k : Nat) (hk : a.eval ix = .int .i64 (k : Int)) (hlt : k < n)
    (v : Value) (hv : C[k]? = some v) (h : wpList Tryz.prog ops Q rest (a.put o.dst v) w) : wpList Tryz.prog ops Q (o :: rest) a w := by
  refine wpList_plain hgd fun K hK => ?_
  have hagg : (isAgg e).run Tryz.prog w = .ok false w := by
    unfold isAgg
    rw [Sem.run_bind, run_underlying hue w]
    cases de <;> simp_all
  have hsz : (sizeOf e).run Tryz.prog w = .ok 1 w := by
    cases hq : Tryz.prog.info? e with
    | none => simp [hq] at hi
    | some i =>
      simp [hq] at hi
      simp [sizeOf, typeInfo, hq, hi]
  have hrun : (Instr.index t (.agg C.toArray) (.int .i64 (k : Int))).run Tryz.prog w = .ok v w := by
    simp [Instr.index, asIntOf, run_underlying hu, hlt, part, hagg, hsz, hv]
  unfold Oper.wp execOp
  simp only [ho, hx, hk, Sem.run_bind, hrun, Result.andThen_ok, Sem.run_pure]
  exact hK _ _ h
end

/-- A result that lies in a cell. -/
theorem ret_cell {fn : Func} {R : Ending → World → Prop} {a : Act} {w : World} (p : Tmp) (ty : TypeId) (hf : fn.results = #[.cell p ty]) (b : Nat) (cs : List Value) (d : TypeDesc)
    (hx : a.tmps.getD p undef = .pointer (some ⟨b, 0, none⟩)) (hc : w.rangeAt b 0 cs) (hu : Tryz.prog.underlying ty = some d) (hd : d.isRow = true) (hi : (Tryz.prog.info? ty).map (·.size) = some cs.length)
    (hdef : a.defers = []) (hR : R (.returned (.agg cs.toArray)) w) : bodyPost Tryz.prog fn R .ret a w := by
  refine bodyPost_ret (v := .agg cs.toArray) ?_ hdef hR
  have hl := run_loadVar_mid (P := Tryz.prog) w b 0 ty cs d hc hu hd hi
  simp only [results, hf]
  simp only [Array.getD_eq_getD_getElem?] at hx
  simp [hx, asAddr, hl]
/-- One cell of a block that is known whole is stored. -/
theorem wp_set {ops : Array Oper} {rest : List Oper} {o : Oper} {a : Act} {Q : Exit → Act → World → Prop} (w : World) (hgd : o.guard = none) (t : TypeId) (x y : Operand) (ho : o.op = .store t x y) (b i : Nat) (t0 : TypeId) (C : List Value) (v : Value)
    (hx : a.eval x = .pointer (some ⟨b, i, none⟩)) (hy : a.eval y = v) (hv : v.cells = #[v]) (h1 : v.oneCell' = true) (hb : Blk w b t0 C) (hi : i < C.length) (hsz : (Tryz.prog.info? t).map (·.size) = some 1)
    (h : ∀ w', Blk w' b t0 (C.set i v) → Upd b w w' → wpList Tryz.prog ops Q rest (a.put o.dst undef) w') : wpList Tryz.prog ops Q (o :: rest) a w := by
  refine wpList_plain hgd fun K hK => ?_
  have hst := run_storeCells_cells (P := Tryz.prog) b i [v] 0 w (fun j hj => (hb.there (o := i) (n := 1) (by omega) j (by simpa using hj)).1) (fun j hj => (hb.there (o := i) (n := 1) (by omega) j (by simpa using hj)).2) (by simpa using h1)
  have hrun : (storeVar t ⟨b, i, none⟩ v).run Tryz.prog w = .ok () (w.setCell ⟨b, i, none⟩ v) := by
    cases hq : Tryz.prog.info? t with
    | none => simp [hq] at hsz
    | some k =>
      have hs : k.size = 1 := by simpa [hq] using hsz
      simpa [storeVar, sizeOf, typeInfo, hq, hv, hs, World.setCells] using hst
  unfold Oper.wp execOp
  simp only [ho, hx, hy, Instr.storeAt, Instr.sureAddr, Sem.run_bind, Sem.run_pure, Result.andThen_ok, hrun]
  exact hK _ _ (h _ (hb.set i v) (Upd.setCell w b i v))
/-- A struct's literal of one field. -/
theorem wp_build1 {ops : Array Oper} {rest : List Oper} {o : Oper} {a : Act} {Q : Exit → Act → World → Prop} (w : World) (hgd : o.guard = none) (t : TypeId) (i : Nat) (x : Operand) (ho : o.op = .build t #[(i, x)])
    (u : Value) (hx : a.eval x = u) (v : Value) (hrun : (Instr.build t #[(i, u)]).run Tryz.prog w = .ok v w)
    (h : wpList Tryz.prog ops Q rest (a.put o.dst v) w) : wpList Tryz.prog ops Q (o :: rest) a w := by
  refine wpList_plain hgd fun K hK => ?_
  unfold Oper.wp execOp
  simp only [ho, List.map_toArray, List.map_cons, List.map_nil, hx, Sem.run_bind, hrun, Result.andThen_ok, Sem.run_pure]
  exact hK _ _ h
/-- A literal of noughts. -/
theorem wp_build0 {ops : Array Oper} {rest : List Oper} {o : Oper} {a : Act} {Q : Exit → Act → World → Prop} (w : World) (hgd : o.guard = none) (t : TypeId) (ho : o.op = .build t #[])
    (v : Value) (hrun : (Instr.build t #[]).run Tryz.prog w = .ok v w)
    (h : wpList Tryz.prog ops Q rest (a.put o.dst v) w) : wpList Tryz.prog ops Q (o :: rest) a w := by
  refine wpList_plain hgd fun K hK => ?_
  unfold Oper.wp execOp
  simp only [ho, List.map_toArray, List.map_nil, Sem.run_bind, hrun, Result.andThen_ok, Sem.run_pure]
  exact hK _ _ h


/-- Nothing that was there is another one, but the blocks x and y. -/
structure Chg (x y : Nat) (w w' : World) : Prop where
  os : w'.os = w.os
  tape : w'.tape = w.tape
  output : w'.output = w.output
  size : w.heap.size ≤ w'.heap.size
  block : ∀ k, k < w.heap.size → k ≠ x → k ≠ y → w'.heap[k]? = w.heap[k]?
theorem Chg.refl (x y : Nat) (w : World) : Chg x y w w := ⟨rfl, rfl, rfl, Nat.le_refl _, fun _ _ _ _ => rfl⟩
theorem Chg.trans {x y : Nat} {w w1 w2 : World} (h : Chg x y w w1) (k : Chg x y w1 w2) : Chg x y w w2 :=
  ⟨k.os.trans h.os, k.tape.trans h.tape, k.output.trans h.output, Nat.le_trans h.size k.size, fun i hi h1 h2 => (k.block i (Nat.lt_of_lt_of_le hi h.size) h1 h2).trans (h.block i hi h1 h2)⟩
theorem Chg.of_below {x y : Nat} {w w' : World} (h : Below w.heap.size w w') : Chg x y w w' := ⟨h.os, h.tape, h.output, h.size, fun k hk _ _ => h.block k hk⟩
theorem Chg.set1 (w : World) (x y i : Nat) (v : Value) : Chg x y w (w.setCell ⟨x, i, none⟩ v) :=
  ⟨rfl, rfl, rfl, by simp [World.setCell], fun k _ h1 _ => Go.heap_setCell_other w ⟨x, i, none⟩ k v h1⟩
theorem Chg.set2 (w : World) (x y i : Nat) (v : Value) : Chg x y w (w.setCell ⟨y, i, none⟩ v) :=
  ⟨rfl, rfl, rfl, by simp [World.setCell], fun k _ _ h1 => Go.heap_setCell_other w ⟨y, i, none⟩ k v h1⟩
theorem Chg.upd1 {x : Nat} {w w' : World} (h : Upd x w w') (y : Nat) : Chg x y w w' := ⟨h.os, h.tape, h.output, Nat.le_of_eq h.size.symm, fun k _ h1 _ => h.block k h1⟩
theorem Chg.upd2 {y : Nat} {w w' : World} (h : Upd y w w') (x : Nat) : Chg x y w w' := ⟨h.os, h.tape, h.output, Nat.le_of_eq h.size.symm, fun k _ _ h1 => h.block k h1⟩
theorem Chg.drew {x y : Nat} {w w' : World} (h : Chg x y w w') : Chg x y w w'.drew := ⟨h.os, h.tape, h.output, h.size, h.block⟩
theorem Chg.drewN {x y : Nat} {w w' : World} (h : Chg x y w w') (k : Nat) : Chg x y w (w'.drewN k) := ⟨h.os, h.tape, h.output, h.size, h.block⟩
theorem Chg.two {x : Nat} {w w' : World} (h : Chg x x w w') (y : Nat) : Chg x y w w' := ⟨h.os, h.tape, h.output, h.size, fun k hk h1 _ => h.block k hk h1 h1⟩
theorem Chg.swap {x y : Nat} {w w' : World} (h : Chg x y w w') : Chg y x w w' := ⟨h.os, h.tape, h.output, h.size, fun k hk h1 h2 => h.block k hk h2 h1⟩
theorem Chg.below {x y B : Nat} {w w' : World} (h : Chg x y w w') (hB : B ≤ w.heap.size) (hx : B ≤ x) (hy : B ≤ y) : Below B w w' :=
  ⟨h.os, h.tape, h.output, h.size, fun k hk => h.block k (by omega) (by omega) (by omega)⟩
theorem Blk.chg {w w' : World} {b x y : Nat} {t : TypeId} {C : List Value} (h : Blk w b t C) (hc : Chg x y w w') (hx : b ≠ x) (hy : b ≠ y) : Blk w' b t C := (hc.block b h.lt hx hy).trans h
theorem Bs.chg {w w' : World} {B x y n : Nat} {A : Option Addr} {l : List UInt8} (h : Bs w B A n l) (hc : Chg x y w w') (hB : B ≤ w.heap.size) (hx : B ≤ x) (hy : B ≤ y) : Bs w' B A n l := h.below (hc.below hB hx hy)
theorem drewN_chg (x y : Nat) (w : World) (k : Nat) : Chg x y w (w.drewN k) := (Chg.refl x y w).drewN k

/-- All cells of other types stay. -/
def KeepsBut (T : TypeId) (W W' : World) : Prop := ∀ (k : Nat) (cs : Array Value) (t : TypeId) (fr : Nat × Nat), t ≠ T → W.heap[k]? = some (.cells cs t fr) → W'.heap[k]? = some (.cells cs t fr)
theorem KeepsBut.refl (T : TypeId) (W : World) : KeepsBut T W W := fun _ _ _ _ _ e => e
theorem KeepsBut.of_row {X X' : World} {T : TypeId} {lo : Nat} {v : Value} {n : Nat} {vs : List Value} (hrow : X.ownsRow lo T 1 v n vs) (hg : X.grownBy X' v.ownBlock) : KeepsBut T X X' := by
  intro k cs t fr ht e
  refine (hg.block k (Array.getElem?_eq_some_iff.1 e).1 fun e1 => ?_).trans e
  rcases hrow.2 with ⟨rfl, _⟩ | ⟨g, cap, cur, rfl, _, hh, _⟩
  · cases e1
  · have e2 : k = g := by simpa [Value.ownBlock] using e1
    subst e2
    rw [e] at hh
    cases hh
    exact ht rfl
theorem KeepsBut.of_below {X X' : World} (T : TypeId) (h : Below X.heap.size X X') : KeepsBut T X X' := fun k _ _ _ _ e => (h.block k (Array.getElem?_eq_some_iff.1 e).1).trans e
theorem KeepsBut.trans {X Y Z : World} {T : TypeId} (h : KeepsBut T X Y) (k : KeepsBut T Y Z) : KeepsBut T X Z := fun i cs t fr ht e => k i cs t fr ht (h i cs t fr ht e)
theorem Blk.but {W W' : World} {g : Nat} {t T : TypeId} {C : List Value} (h : Blk W g t C) (hk : KeepsBut T W W') (ht : t ≠ T) : Blk W' g t C := hk g _ t _ ht h

theorem run_appK (w : World) (base : Nat) (ty : TypeId) (v : Value) (n : Nat) (l : List UInt8) (hown : Own w base v n l)
    (B : Nat) (A : Option Addr) (m c : Nat) (k : List UInt8) (hr : Bs w B A m k) (hs : n + m ≤ 1000000000) (hbase : base ≤ w.heap.size) :
    ∃ v' w', (Builtin.append_ #[52, 52] ty #[v, .slice A m c]).run Tryz.prog w = .ok v' w' ∧ Own w' base v' (n + m) (l ++ k) ∧ Below base w w' ∧ KeepsBut 5 w w' := by
  obtain ⟨i, hi, hz, h1, h2⟩ := info_parts byte_info
  rcases A with _ | ad
  · obtain ⟨rfl, rfl⟩ := hr.nil_
    refine ⟨v, w, ?_, by simpa using hown, Below.refl _ _, KeepsBut.refl _ _⟩
    rcases hown.2 with ⟨rfl, rfl⟩ | ⟨g, cap, cur, rfl, _, _, hnc, _⟩
    · simp [Builtin.append_, run_underlying Tryz.underlying52, sizeOf, typeInfo, hi, Builtin.lenOf, Builtin.firstCells]
    · simp [Builtin.append_, run_underlying Tryz.underlying52, sizeOf, typeInfo, hi, Builtin.lenOf, Builtin.firstCells, hnc, storeCells]
  · have hcells : ∀ j u, (vbs k)[j]? = some u → w.cell? (ad.add j) = some u := by
      intro j u hu
      obtain ⟨x, hx, rfl⟩ := vbs_get hu
      have hm : 0 < m := by
        have := (List.getElem?_eq_some_iff.1 hx).1
        have := hr.1
        omega
      obtain ⟨b, off, e, _, hc⟩ := hr.2 hm
      have e := Option.some.inj e
      subst e
      rw [Addr.add_lit]
      exact hc j x hx
    obtain ⟨v', w', hrun, h3, h4, _, h5⟩ := run_append_own_at (P := Tryz.prog) w base 52 ty 5 i _ 1 1 Tryz.underlying52 hi hz h1 h2 rfl (by omega) v n (vbs l) hown ad m c (vbs k)
      (by rw [vbs_length, Nat.mul_one]; exact hr.1) hcells (vbs_one k) (by unfold maxLen; omega) (by omega) hbase
    exact ⟨v', w', hrun, by rw [← vbs_append] at h3; exact h3, (Below.refl _ _).grown h4 hbase (Own.base_le hown), KeepsBut.of_row hown h4⟩
/-- The same at the operation of a walk. -/
theorem wp_appK {ops : Array Oper} {rest : List Oper} {o : Oper} {a : Act} {Q : Exit → Act → World → Prop} (w : World) (hgd : o.guard = none) (s x : Operand)
    (ho : o.op = .call { callee := .builtin .append, args := #[s, x], argTypes := #[52, 52] })
    (base : Nat) (v : Value) (n : Nat) (l : List UInt8) (hs : a.eval s = v) (hown : Own w base v n l)
    (B : Nat) (A : Option Addr) (m c : Nat) (k : List UInt8) (hx : a.eval x = .slice A m c) (hr : Bs w B A m k) (hsz : n + m ≤ 1000000000) (hbase : base ≤ w.heap.size)
    (h : ∀ v' w', Own w' base v' (n + m) (l ++ k) → Below base w w' → KeepsBut 5 w w' → wpList Tryz.prog ops Q rest (a.put o.dst v') w') : wpList Tryz.prog ops Q (o :: rest) a w := by
  refine wpList_plain hgd fun K hK => ?_
  obtain ⟨v', w', hrun, h2, h3, h4⟩ := run_appK w base o.type v n l hown B A m c k hr hsz hbase
  unfold Oper.wp execOp
  simp only [ho, resolve, invoke, builtin, Sem.run_bind, Sem.run_pure, Result.andThen_ok, List.map_toArray, List.map_cons, List.map_nil, hs, hx, hrun]
  exact hK _ _ (h v' w' h2 h3 h4)
theorem str_at (l : List UInt8) (k : Nat) (hk : k < l.length) (h : k < (str l).size) : ((str l)[k]'h).toNat = (l.getD k 0).toNat := by
  simp [str, List.getD, List.getElem?_eq_getElem hk, ByteArray.getElem_eq_getElem_data]
theorem str_drop (l : List UInt8) (k n : Nat) (hn : n = l.length) (hk : k ≤ n) : (str l).extract k n = str (l.drop k) := by
  subst hn
  apply ByteArray.ext
  apply Array.ext'
  simp [str]
  exact List.take_of_length_le (by simp)

set_option maxHeartbeats 4000000 in
theorem toList_str (l : List UInt8) : (str l).toList = l := by
  rw [ByteArray.toList_eq]
  rfl
theorem str_add (a b : List UInt8) : str a ++ str b = str (a ++ b) := by
  apply ByteArray.ext
  apply Array.ext'
  simp [str]
theorem str_one (l : List UInt8) (k : Nat) (hk : k < l.length) : (str l).extract k (k + 1) = str [l.getD k 0] := by
  apply ByteArray.ext
  apply Array.ext'
  simp [str, List.getD, List.getElem?_eq_getElem hk, List.take_one]
theorem str_take (l : List UInt8) (k : Nat) : (str l).extract 0 k = str (l.take k) := by
  apply ByteArray.ext
  apply Array.ext'
  simp [str]

section
variable {ops : Array Oper} {rest : List Oper} {o : Oper} {a : Act} {Q : Exit → Act → World → Prop}
theorem run_eqS (w : World) (l m : List UInt8) (b : Bool) (hb : b = true ↔ l = m) : (binOp .eql 9 (.string (str l)) (.string (str m))).run Tryz.prog w = .ok (.bool b) w := by
  have h2 : ((str l).toList == (str m).toList) = b := by
    rw [toList_str, toList_str, Bool.eq_iff_iff, beq_iff_eq, hb]
  simp only [binOp, Op.stringOp]
  simp [h2]
theorem wp_eqS (w : World) (hgd : Region.wanted o (yielded ops a.tmps) = true) (x y : Operand) (ho : o.op = .binOp .eql 9 x y 9) (l m : List UInt8)
    (hx : a.eval x = .string (str l)) (hy : a.eval y = .string (str m)) (b : Bool) (hb : b = true ↔ l = m)
    (h : wpList Tryz.prog ops Q rest (a.put o.dst (.bool b)) w) : wpList Tryz.prog ops Q (o :: rest) a w :=
  wpList_step fun K hK => by
    rw [if_pos hgd]
    have h1 := run_eqS w l m b hb
    have h2 : (eqGuard .eql 9 x y (.string (str l)) (.string (str m))).run Tryz.prog w = .ok () w := by simp [eqGuard]
    unfold Oper.wp execOp
    simp only [ho, hx, hy, Sem.run_bind, h1, h2, Result.andThen_ok, Sem.run_pure]
    exact hK _ _ h
end

def vstr (l : List UInt8) : Value := .string (str l)
/-- The block g holds texts. -/
def Ps (w : World) (g : Nat) (ps : List (List UInt8)) : Prop := g < w.heap.size ∧ ∀ j p, ps[j]? = some p → w.cell? ⟨g, j, none⟩ = some (vstr p)
theorem Ps.below {w w' : World} {g B : Nat} {ps : List (List UInt8)} (h : Ps w g ps) (hb : Below B w w') (hB : g < B) (hBw : B ≤ w.heap.size) : Ps w' g ps :=
  ⟨by have := hb.size; omega, fun j p hj => (hb.cell (p := ⟨g, j, none⟩) hB).trans (h.2 j p hj)⟩
theorem Ps.kept {w w' : World} {g : Nat} {ps : List (List UInt8)} (h : Ps w g ps) (hb : Below w.heap.size w w') : Ps w' g ps := h.below hb h.1 (Nat.le_refl _)
/-- The value v is a row of texts of the call's own (blocks from base on). -/
def OwnT (w : World) (base : Nat) (v : Value) (n : Nat) (L : List (List UInt8)) : Prop := w.ownsRow base 9 1 v n (L.map vstr)
theorem text_info : (Tryz.prog.info? 9).map (fun i => (i.zero, i.size, i.bytes)) = some (some (.string ⟨#[]⟩), 1, 16) := by kernel_rfl
theorem vstr_one (L : List (List UInt8)) : ∀ u ∈ L.map vstr, u.oneCell' = true := by
  intro u hu
  obtain ⟨c, _, rfl⟩ := List.mem_map.1 hu
  rfl
section
variable {w w' : World} {base n : Nat} {v : Value} {L : List (List UInt8)}
theorem OwnT.len (h : OwnT w base v n L) : L.length = n := by
  have := h.1
  rwa [List.length_map, Nat.mul_one] at this
theorem OwnT.base_le (h : OwnT w base v n L) : ∀ k, v.ownBlock = some k → base ≤ k := fun k hk => (World.ownsRow.lt h k hk).1
theorem OwnT.kept (h : OwnT w base v n L) (hb : Below w.heap.size w w') : OwnT w' base v n L := by
  refine ⟨h.1, ?_⟩
  rcases h.2 with h2 | ⟨g, cap, cur, hv, hg, hh, r⟩
  · exact .inl h2
  · exact .inr ⟨g, cap, cur, hv, hg, by rw [hb.block g (Array.getElem?_eq_some_iff.1 hh).1]; exact hh, r⟩
theorem OwnT.alloc (h : OwnT w base v n L) (o : Obj) : OwnT (w.alloc o) base v n L := World.ownsRow.alloc h o
theorem OwnT.chg {x : Nat} (h : OwnT w base v n L) (hc : Chg x x w w') (hx : v.ownBlock ≠ some x) : OwnT w' base v n L := by
  refine ⟨h.1, ?_⟩
  rcases h.2 with h2 | ⟨g, cap, cur, hv, hg, hh, r⟩
  · exact .inl h2
  · have hne : g ≠ x := by
      rintro rfl
      rw [hv] at hx
      exact hx rfl
    exact .inr ⟨g, cap, cur, hv, hg, by rw [hc.block g (Array.getElem?_eq_some_iff.1 hh).1 hne hne]; exact hh, r⟩
theorem OwnT.form (h : OwnT w base v n L) : ∃ A c, v = .slice A n c ∧ n ≤ c ∧ c ≤ maxLen ∧ (0 < c → ∃ g, A = some ⟨g, 0, none⟩ ∧ base ≤ g ∧ g < w.heap.size ∧ ∀ (j : Nat) (p : List UInt8), L[j]? = some p → w.cell? ⟨g, j, none⟩ = some (vstr p)) := by
  rcases h.2 with ⟨rfl, rfl⟩ | ⟨g, cap, cur, rfl, hb, hg, hnc, hml, _⟩
  · exact ⟨none, 0, rfl, Nat.le_refl _, Nat.zero_le _, fun hn => absurd hn (by omega)⟩
  · have hlt : g < w.heap.size := (Array.getElem?_eq_some_iff.1 hg).1
    refine ⟨some ⟨g, 0, none⟩, cap, rfl, hnc, hml, fun _ => ⟨g, rfl, hb, hlt, fun j p hj => ?_⟩⟩
    have := World.ownsRow.cells (g := g) h rfl j (vstr p) (by simp [hj])
    rwa [Addr.add_lit, Nat.zero_add] at this
/-- The row's first k texts. -/
theorem OwnT.take {A : Option Addr} {c : Nat} (h : OwnT w base (.slice A n c) n L) (k : Nat) (hk : k ≤ n) : OwnT w base (.slice A k c) k (L.take k) := by
  have hl := h.len
  refine ⟨by simp; omega, ?_⟩
  rcases h.2 with ⟨h1, h2⟩ | ⟨g, cap, cur, hv, hg, hh, hn, hml, hsz, hx⟩
  · cases h1
    exact .inl ⟨by rw [show k = 0 by omega], by omega⟩
  · cases hv
    refine .inr ⟨g, c, cur, rfl, hg, hh, by omega, hml, hsz, ?_⟩
    rw [Nat.mul_one] at hx ⊢
    rw [List.map_take, ← hx, List.take_take, Nat.min_eq_left hk]
end
theorem ownT_made (w : World) (base : Nat) (hb : base ≤ w.heap.size) : OwnT (w.alloc (.cells #[] 9)) base (.slice (some ⟨w.heap.size, 0, none⟩) 0 0) 0 [] :=
  World.ownsRow_made _ _ _ hb (by decide) rfl
theorem ownT_nil (w : World) (base : Nat) : OwnT w base (.slice none 0 0) 0 [] := World.ownsRow_nil w base 9 1

theorem run_appT (w : World) (base : Nat) (ty : TypeId) (v : Value) (n : Nat) (L : List (List UInt8)) (hown : OwnT w base v n L)
    (g off m c : Nat) (K : List (List UInt8)) (hm : K.length = m) (hr : ∀ (j : Nat) (p : List UInt8), K[j]? = some p → w.cell? ⟨g, off + j, none⟩ = some (vstr p)) (hs : n + m ≤ 1000000000) (hbase : base ≤ w.heap.size) :
    ∃ v' w', (Builtin.append_ #[31, 31] ty #[v, .slice (some ⟨g, off, none⟩) m c]).run Tryz.prog w = .ok v' w' ∧ OwnT w' base v' (n + m) (L ++ K) ∧ Below base w w' ∧ KeepsBut 9 w w' ∧ w.grownBy w' v.ownBlock := by
  obtain ⟨i, hi, hz, h1, h2⟩ := info_parts text_info
  have hcells : ∀ j u, (K.map vstr)[j]? = some u → w.cell? ((⟨g, off, none⟩ : Addr).add j) = some u := by
    intro j u hu
    rw [List.getElem?_map, Option.map_eq_some_iff] at hu
    obtain ⟨p, hp, rfl⟩ := hu
    rw [Addr.add_lit]
    exact hr j p hp
  obtain ⟨v', w', hrun, h3, h4, _, h5⟩ := run_append_own_at (P := Tryz.prog) w base 31 ty 9 i _ 1 16 Tryz.underlying31 hi hz h1 h2 rfl (by omega) v n (L.map vstr) hown ⟨g, off, none⟩ m c (K.map vstr)
    (by simpa using hm) hcells (vstr_one K) (by unfold maxLen; omega) (by omega) hbase
  exact ⟨v', w', hrun, by rw [← List.map_append] at h3; exact h3, (Below.refl _ _).grown h4 hbase (OwnT.base_le hown), KeepsBut.of_row hown h4, h4⟩
/-- The same at the operation of a walk. -/
theorem wp_appT {ops : Array Oper} {rest : List Oper} {o : Oper} {a : Act} {Q : Exit → Act → World → Prop} (w : World) (hgd : o.guard = none) (s x : Operand)
    (ho : o.op = .call { callee := .builtin .append, args := #[s, x], argTypes := #[31, 31] })
    (base : Nat) (v : Value) (n : Nat) (L : List (List UInt8)) (hs : a.eval s = v) (hown : OwnT w base v n L)
    (g off m c : Nat) (K : List (List UInt8)) (hm : K.length = m) (hx : a.eval x = .slice (some ⟨g, off, none⟩) m c) (hr : ∀ (j : Nat) (p : List UInt8), K[j]? = some p → w.cell? ⟨g, off + j, none⟩ = some (vstr p)) (hsz : n + m ≤ 1000000000) (hbase : base ≤ w.heap.size)
    (N : Nat) (hN : n + m = N)
    (h : ∀ A' c' w', N ≤ c' → OwnT w' base (.slice A' N c') N (L ++ K) → Below base w w' → KeepsBut 9 w w' → w.grownBy w' v.ownBlock → wpList Tryz.prog ops Q rest (a.put o.dst (.slice A' N c')) w') : wpList Tryz.prog ops Q (o :: rest) a w := by
  subst hN
  refine wpList_plain hgd fun K' hK => ?_
  obtain ⟨v', w', hrun, h2, h3, h4, h5⟩ := run_appT w base o.type v n L hown g off m c K hm hr hsz hbase
  obtain ⟨A', c', rfl, hc, _, _⟩ := h2.form
  unfold Oper.wp execOp
  simp only [ho, resolve, invoke, builtin, Sem.run_bind, Sem.run_pure, Result.andThen_ok, List.map_toArray, List.map_cons, List.map_nil, hs, hx, hrun]
  exact hK _ _ (h A' c' w' hc h2 h3 h4 h5)
/-- Block g is a row of bytes that a text was made into, which may be written over. -/
def Wb (w : World) (g : Nat) (L : List UInt8) : Prop := ∃ (X : Array Value) (fz : Nat × Nat), w.heap[g]? = some (.cells X 5 fz) ∧ (∀ (j : Nat) (c : UInt8), L[j]? = some c → X[j]? = some (vb c)) ∧ (L.length ≤ fz.1 ∨ fz.2 = 0)
theorem Wb.cell {w : World} {g j : Nat} {L : List UInt8} (h : Wb w g L) (hj : j < L.length) : w.cell? ⟨g, j, none⟩ = some (vb (L.getD j 0)) := by
  obtain ⟨X, fz, h1, h2, _⟩ := h
  have := h2 j (L.getD j 0) (by simp [List.getD, List.getElem?_eq_getElem hj])
  simp [World.cell?, h1, this]
theorem Wb.frozen {w : World} {g j : Nat} {L : List UInt8} (h : Wb w g L) (hj : j < L.length) : w.frozen? ⟨g, j, none⟩ = false := by
  obtain ⟨X, fz, h1, _, h3⟩ := h
  simp [World.frozen?, h1]
  intro _
  omega
theorem Wb.set {w : World} {g j : Nat} {L : List UInt8} (h : Wb w g L) (hj : j < L.length) (c : UInt8) : Wb (w.setCell ⟨g, j, none⟩ (vb c)) g (L.set j c) := by
  obtain ⟨X, fz, h1, h2, h3⟩ := h
  have hX : j < X.size := by
    have := h2 j (L.getD j 0) (by simp [List.getD, List.getElem?_eq_getElem hj])
    exact (Array.getElem?_eq_some_iff.1 this).1
  refine ⟨X.setIfInBounds j (vb c), fz, ?_, ?_, by simpa using h3⟩
  · simp [World.setCell, Array.getElem?_modify, h1]
  · intro k d hk
    rw [Array.getElem?_setIfInBounds]
    by_cases e : j = k
    · subst e
      rw [List.getElem?_set_self hj] at hk
      cases hk
      simp [hX]
    · rw [List.getElem?_set_ne e] at hk
      rw [if_neg e]
      exact h2 k d hk
theorem Wb.lt {w : World} {g : Nat} {L : List UInt8} (h : Wb w g L) : g < w.heap.size := by
  obtain ⟨X, fz, h1, _⟩ := h
  exact (Array.getElem?_eq_some_iff.1 h1).1
theorem Wb.bs {w : World} {g : Nat} {L : List UInt8} (h : Wb w g L) : Bs w w.heap.size (some ⟨g, 0, none⟩) L.length L :=
  ⟨rfl, fun _ => ⟨g, 0, rfl, h.lt, fun j c hj => by
    have hlt := (List.getElem?_eq_some_iff.1 hj).1
    rw [Nat.zero_add, h.cell hlt]
    simp [List.getD, hj]⟩⟩
theorem conv_bytes (w : World) (l : List UInt8) (hl : l.length ≤ 9223372036854775807) : ∃ c w', (convert 9 52 (.string (str l))).run Tryz.prog w = .ok (.slice (some ⟨w.heap.size, 0, none⟩) l.length c) w' ∧ l.length ≤ c ∧ c ≤ 9223372036854775807 ∧
    Wb w' w.heap.size l ∧ Below w.heap.size w w' := by
  have h := Lib.run_convert_string_bytes (P := Tryz.prog) w 9 52 5 (str l) Tryz.underlying9 Tryz.underlying52 Tryz.underlying5
  rw [str_size] at h
  refine ⟨_, _, h, grownCap_ge _ _ _ _, ?_, ⟨_, _, Lib.bytesWorld_at_new w 5 (str l), fun j x hx => ?_, ?_⟩, ?_⟩
  · have := grownCap_le_maxLen w l.length 0 5 (by unfold maxLen; omega)
    unfold maxLen at this
    omega
  · have hj := (List.getElem?_eq_some_iff.1 hx).1
    have := Lib.bytesWorld_cell w 5 (str l) j (by rw [str_size]; exact hj)
    simp [World.cell?, Lib.bytesWorld_at_new] at this
    rw [this]
    simp [str, vb, hx]
  · left; simp [Lib.bytesCells, str]
  · exact ⟨rfl, rfl, rfl, by rw [Lib.bytesWorld_size]; omega, fun k hk => Lib.bytesWorld_at_old w 5 (str l) k hk⟩
theorem below_setCell {B : Nat} {w w' : World} (h : Below B w w') (g j : Nat) (v : Value) (hB : B ≤ g) : Below B w (w'.setCell ⟨g, j, none⟩ v) := h.trans ((Upd.setCell w' g j v).below hB)
theorem str_sub (l : List UInt8) (f k : Nat) : (str l).extract f k = str ((l.drop f).take (k - f)) := by
  apply ByteArray.ext
  apply Array.ext'
  simp [str]

end Go.Proofs.YtonchnmcklgpoaaGreatDoor
