/-
  Small words for the walks of this seat's laws: 'append(b, make([]byte, k)...)' onto a row of the call's own; arrays of bytes that are the same are equal. No condition.
-/
import Derived.Test.YtiigmpoopmnnhaaDoorShown
import Derived.Lib.AppendZerosOnto
import Derived.Stop.BytesEq
namespace Go.Proofs.YtiigmpoopmnnhaaDoor
open Go.RowKit

theorem zeroCells_one (k : Nat) : Builtin.zeroCells #[.int .u8 0] k = (vbs (List.replicate k 0)).toArray := by
  apply Array.ext
  · simp [Builtin.zeroCells, vbs]
  · intro i h1 h2
    simp [Builtin.zeroCells, vbs, Nat.mod_one, vb]
theorem cap_small (need old : Nat) (h : need ≤ 1000000) (ho : old < need) : Builtin.nextslicecap need old ≤ 10000000 := by
  unfold Builtin.nextslicecap
  split
  · omega
  · split
    · omega
    · simp only [Builtin.growBy]
      split
      · omega
      · split
        · omega
        · split
          · omega
          · split <;> omega

/-- append onto an owned row of bytes, of k noughts. -/
theorem run_appZ (w : World) (base : Nat) (ty : TypeId) (v : Value) (n : Nat) (l : List UInt8) (hown : Own w base v n l) (k : Nat) (hs : n + k ≤ 1000000) (hbase : base ≤ w.heap.size) :
    ∃ v' w', (Builtin.append_ #[22, 3] ty #[v, .int .i64 (k : Int)]).run Tryd.prog w = .ok v' w' ∧ Own w' base v' (n + k) (l ++ List.replicate k 0) ∧ Below base w w' := by
  obtain ⟨i, hi, hz, h1, h2⟩ := info_parts byte_info
  have hw : IntKind.i64.wrap (k : Int) = k := by rw [IntKind.wrap_i64]; omega
  have hneg : ¬ ((k : Int) < 0) := by omega
  have h48i : ¬ (281474976710656 < (k : Int)) := by omega
  have hl : (vbs l).length = n := by rw [vbs_length]; exact hown.len
  rcases Nat.eq_zero_or_pos k with h0 | h0
  · subst h0
    have hw0 : IntKind.i64.wrap (0 : Int) = 0 := by rw [IntKind.wrap_i64]; omega
    refine ⟨v, w, ?_, by simpa using hown, Below.refl _ _⟩
    rcases hown.2 with ⟨rfl, rfl⟩ | ⟨g, cap, cur, rfl, _, _, hnc, _⟩
    · simp [Builtin.append_, run_underlying Tryd.underlying22, run_underlying Tryd.underlying3, sizeOf, typeInfo, hi, asInt, asIntOf, hw0]
    · simp [Builtin.append_, run_underlying Tryd.underlying22, run_underlying Tryd.underlying3, sizeOf, typeInfo, hi, asInt, asIntOf, hw0, hnc, storeCells]
  · -- the growing arm
    have grow : ∀ (A : Option Addr) (cap : Nat), (Builtin.firstCells i.size n (.slice A n cap)).run Tryd.prog w.drew = .ok (vbs l).toArray w.drew → cap < n + k →
        ∃ v' w', (Builtin.append_ #[22, 3] ty #[.slice A n cap, .int .i64 (k : Int)]).run Tryd.prog w = .ok v' w' ∧ Own w' base v' (n + k) (l ++ List.replicate k 0) ∧ Below base w w' := by
      intro A cap hf hlt
      have hr := Lib.run_append_grow_zeros (P := Tryd.prog) w 22 3 ty 5 i _ .i64 .i64 Tryd.underlying22 Tryd.underlying3 hi hz A n cap (vbs l) hf k h0 (by omega) hlt (by omega) (by rw [h2]; omega)
        (by have := cap_small (n + k) cap hs hlt; rw [h2]; omega)
      refine ⟨_, _, hr, ?_, ((Below.refl _ _).drew).alloc hbase _⟩
      have hge := grownCap_ge w (n + k) cap 5
      have hcm := grownCap_le_maxLen w (n + k) cap 5 (by unfold maxLen; omega)
      refine ⟨by simp [vbs_length, hown.len], .inr ⟨w.heap.size, _, _, rfl, hbase, Go.heap_alloc_new w.drew _, hge, hcm, ?_, ?_⟩⟩
      · simp only [Value.cells, zeroCells_one, Array.size_append, List.size_toArray, hl, vbs_length, List.length_replicate]
        omega
      · simp only [Value.cells, zeroCells_one, Array.toList_append, Nat.mul_one]
        rw [← vbs_append, List.take_append_of_le_length (by simp [vbs_length, hown.len]), List.take_of_length_le (by simp [vbs_length, hown.len])]
    rcases hown.2 with ⟨rfl, rfl⟩ | ⟨g, cap, cur, rfl, hbg, hg, hnc, hcm, hcs, htake⟩
    · refine grow none 0 ?_ (by omega)
      have : l = [] := List.eq_nil_of_length_eq_zero hown.len
      subst this
      simp [Builtin.firstCells, vbs]
    · by_cases hroom : n + k ≤ cap
      · have hb : Blk w g 5 cur.toList := by unfold Blk; simpa using hg
        have hcl : cur.toList.length = cap := by simpa using hcs
        have hst := run_storeCells_cells (P := Tryd.prog) g n (vbs (List.replicate k 0)) 0 w (fun j hj => (hb.there (o := n) (n := k) (by omega) j (by simpa [vbs_length] using hj)).1) (fun j hj => (hb.there (o := n) (n := k) (by omega) j (by simpa [vbs_length] using hj)).2) (vbs_one _)
        simp only [Nat.add_zero] at hst
        have hblk := setCells_blk g 5 (vbs (List.replicate k 0)) n w cur.toList hb (by simp [vbs_length]; omega)
        refine ⟨.slice (some ⟨g, 0, none⟩) (n + k) cap, w.setCells g n (vbs (List.replicate k 0)), ?_, ?_, (Upd.setCells g _ n w).below hbg⟩
        · have hk0 : ¬ (k = 0) := by omega
          simp [Builtin.append_, run_underlying Tryd.underlying22, run_underlying Tryd.underlying3, sizeOf, typeInfo, hi, asInt, asIntOf, hw, h1, h2, hroom, hneg, h48i, hk0, zeroValue, hz, Value.cells, zeroCells_one, Addr.add_lit, hst]
        · refine ⟨by simp [vbs_length, hown.len], .inr ⟨g, cap, _, rfl, hbg, hblk, hroom, hcm, ?_, ?_⟩⟩
          · simp [vbs_length]
            omega
          · rw [Nat.mul_one] at htake
            simp only [Nat.mul_one]
            rw [htake, ← vbs_append, List.take_append_of_le_length (by simp [vbs_length, hown.len]), List.take_of_length_le (by simp [vbs_length, hown.len])]
      · refine grow _ cap ?_ (by omega)
        have hc := World.ownsRow.cells (g := g) hown rfl
        have := run_loadCells_list (P := Tryd.prog) w.drew ⟨g, 0, none⟩ (vbs l) (fun j u hu => hc j u hu)
        simp only [Builtin.firstCells, h1, Nat.mul_one]
        rwa [hl] at this

/-- The same at the operation of a walk. -/
theorem wp_appZ {ops : Array Oper} {rest : List Oper} {o : Oper} {a : Act} {Q : Exit → Act → World → Prop} (w : World) (hgd : o.guard = none) (s x : Operand)
    (ho : o.op = .call { callee := .builtin .append, args := #[s, x], argTypes := #[22, 3] })
    (base : Nat) (v : Value) (n : Nat) (l : List UInt8) (hs : a.eval s = v) (hown : Own w base v n l) (k : Nat) (hx : a.eval x = .int .i64 (k : Int)) (hsz : n + k ≤ 1000000) (hbase : base ≤ w.heap.size)
    (N : Nat) (hN : n + k = N)
    (h : ∀ A' c' w', N ≤ c' → c' ≤ 9223372036854775807 → Bs w' w'.heap.size A' N (l ++ List.replicate k 0) → Own w' base (.slice A' N c') N (l ++ List.replicate k 0) → Below base w w' → wpList Tryd.prog ops Q rest (a.put o.dst (.slice A' N c')) w') : wpList Tryd.prog ops Q (o :: rest) a w := by
  subst hN
  refine wpList_plain hgd fun K hK => ?_
  obtain ⟨v', w', hrun, h2, h3⟩ := run_appZ w base o.type v n l hown k hsz hbase
  obtain ⟨A', c', rfl, h4, h5⟩ := h2.form
  unfold Oper.wp execOp
  simp only [ho, resolve, invoke, builtin, Sem.run_bind, Sem.run_pure, Result.andThen_ok, List.map_toArray, List.map_cons, List.map_nil, hs, hx, hrun]
  exact hK _ _ (h A' c' w' h4 h2.capmax h5 h2 h3)

/-- The same inside a region that draws its order. -/
theorem step_appZ {ops : Array Oper} {o : Oper} {a : Act} {K : Act → World → Prop} {Q : Exit → Act → World → Prop} {E : Prop} (w : World) (hgd : o.guard = none) (s x : Operand)
    (ho : o.op = .call { callee := .builtin .append, args := #[s, x], argTypes := #[22, 3] })
    (base : Nat) (v : Value) (n : Nat) (l : List UInt8) (hs : a.eval s = v) (hown : Own w base v n l) (k : Nat) (hx : a.eval x = .int .i64 (k : Int)) (hsz : n + k ≤ 1000000) (hbase : base ≤ w.heap.size)
    (N : Nat) (hN : n + k = N)
    (h : ∀ A' c' w', N ≤ c' → c' ≤ 9223372036854775807 → Bs w' w'.heap.size A' N (l ++ List.replicate k 0) → Own w' base (.slice A' N c') N (l ++ List.replicate k 0) → Below base w w' → K (a.put o.dst (.slice A' N c')) w') :
    if Region.wanted o (yielded ops a.tmps) = true then Oper.wp Tryd.prog o a w K Q else E := by
  have hw : Region.wanted o (yielded ops a.tmps) = true := by simp [Region.wanted, hgd]
  rw [if_pos hw]
  subst hN
  obtain ⟨v', w', hrun, h2, h3⟩ := run_appZ w base o.type v n l hown k hsz hbase
  obtain ⟨A', c', rfl, h4, h5⟩ := h2.form
  unfold Oper.wp execOp
  simp only [ho, resolve, invoke, builtin, Sem.run_bind, Sem.run_pure, Result.andThen_ok, List.map_toArray, List.map_cons, List.map_nil, hs, hx, hrun]
  exact h A' c' w' h4 h2.capmax h5 h2 h3

theorem sizeOf5 (w : World) : (sizeOf 5).run Tryd.prog w = .ok 1 w := by
  have := size5
  cases hq : Tryd.prog.info? 5 with
  | none => simp [hq] at this
  | some i =>
    simp [hq] at this
    simp [sizeOf, typeInfo, hq, this]
/-- '==' on two digests. -/
theorem eq32 (l m : List UInt8) (hl : l.length = 32) (hm : m.length = 32) (w : World) : (Op.equalIn 10000 25 (.agg (vbs l).toArray) (.agg (vbs m).toArray)).run Tryd.prog w = .ok (l == m) w :=
  run_equalIn_bytes (P := Tryd.prog) w 9998 25 5 32 Tryd.underlying25 Tryd.underlying5 sizeOf5 l m hl hm
end Go.Proofs.YtiigmpoopmnnhaaDoor
