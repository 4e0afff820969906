/-
  What sha.Start and State.More answer: the state of the bytes so far; nothing that was in memory turns. Conditions: the tables hold what the program's text lays; there are at most 2000000000 bytes.
-/
import Derived.Test.YtiigmpoopmnnhaaDoorAfter
namespace Go.Proofs.YtiigmpoopmnnhaaDoor
open Go.RowKit

/-- A state's cells: eight words, 64 bytes, a number. -/
def cells3 (ws : List Nat) (t : List UInt8) (n : Nat) : List Value := vws ws ++ vbs t ++ [.int .u64 (n : Int)]
/-- The state of the bytes l. -/
def stc (l : List UInt8) : List Value := cells3 (wordsOf l).list (tailOf l) l.length
theorem cells3_length {ws : List Nat} {t : List UInt8} (n : Nat) (hw : ws.length = 8) (ht : t.length = 64) : (cells3 ws t n).length = 73 := by simp [cells3, vws_length, vbs_length, hw, ht]
theorem cells3_one (ws : List Nat) (t : List UInt8) (n : Nat) : ∀ u ∈ cells3 ws t n, u.oneCell' = true := by
  intro u hu
  simp only [cells3, List.mem_append, List.mem_singleton] at hu
  rcases hu with (h | h) | rfl
  · exact vws_one _ u h
  · exact vbs_one _ u h
  · rfl
theorem stc_length (l : List UInt8) : (stc l).length = 73 := cells3_length _ rfl (tailOf_length l)
section
variable {ws : List Nat} {t : List UInt8} {n : Nat}
theorem cells3_copy (hw : ws.length = 8) (ht : t.length = 64) (c : List UInt8) (r : Nat) (h : r + c.length ≤ 64) :
    (cells3 ws t n).take (8 + r) ++ vbs c ++ (cells3 ws t n).drop (8 + r + (vbs c).length) = cells3 ws (t.take r ++ c ++ t.drop (r + c.length)) n := by
  have h1 : (vws ws).length = 8 := by rw [vws_length, hw]
  have h2 : (vbs t).length = 64 := by rw [vbs_length, ht]
  have e1 : (cells3 ws t n).take (8 + r) = vws ws ++ (vbs t).take r := by
    simp only [cells3]
    rw [List.append_assoc, List.take_append, List.take_of_length_le (by omega), h1, Nat.add_sub_cancel_left, List.take_append_of_le_length (by omega)]
  have e2 : (cells3 ws t n).drop (8 + r + (vbs c).length) = (vbs t).drop (r + c.length) ++ [.int .u64 (n : Int)] := by
    simp only [cells3]
    rw [vbs_length, List.append_assoc, List.drop_append, List.drop_eq_nil_of_le (by omega), h1, show 8 + r + c.length - 8 = r + c.length by omega, List.drop_append_of_le_length (by omega), List.nil_append]
  rw [e1, e2]
  simp [cells3, vbs]
theorem cells3_size (hw : ws.length = 8) (ht : t.length = 64) (m : Nat) : (cells3 ws t n).set 72 (.int .u64 (m : Int)) = cells3 ws t m := by
  have h : (vws ws ++ vbs t).length = 72 := by simp [vws_length, vbs_length, hw, ht]
  simp only [cells3]
  rw [List.set_append_right _ _ (by omega), h]
  rfl
theorem cells3_words (hw : ws.length = 8) (ws' : List Nat) (hw' : ws'.length = 8) : (cells3 ws t n).take 0 ++ vws ws' ++ (cells3 ws t n).drop (0 + (vws ws').length) = cells3 ws' t n := by
  have h1 : (vws ws).length = 8 := by rw [vws_length, hw]
  simp only [cells3]
  rw [vws_length, hw', List.append_assoc (vws ws), List.drop_append, List.drop_eq_nil_of_le (by omega), h1]
  simp
theorem cells3_tail (hw : ws.length = 8) (ht : t.length = 64) (t' : List UInt8) (ht' : t'.length = 64) : (cells3 ws t n).take 8 ++ vbs t' ++ (cells3 ws t n).drop (8 + (vbs t').length) = cells3 ws t' n := by
  have := cells3_copy (n := n) hw ht t' 0 (by omega)
  rw [Nat.add_zero] at this
  rw [this, List.drop_eq_nil_of_le (by omega)]
  simp
theorem cells3_at (hw : ws.length = 8) (ht : t.length = 64) : (cells3 ws t n)[72]? = some (.int .u64 (n : Int)) := by
  have h : (vws ws ++ vbs t).length = 72 := by simp [vws_length, vbs_length, hw, ht]
  simp only [cells3]
  rw [List.getElem?_append_right (by omega), h]
  rfl
variable {w : World} {g : Nat} {ty : TypeId}
theorem cells3_rwords (h : Blk w g ty (cells3 ws t n)) : w.rangeAt g 0 (vws ws) := by
  have := h.range [] (vws ws) (vbs t ++ [.int .u64 (n : Int)]) (by simp [cells3])
  exact this
theorem cells3_rtail (hw : ws.length = 8) (h : Blk w g ty (cells3 ws t n)) : w.rangeAt g 8 (vbs t) := by
  have := h.range (vws ws) (vbs t) [.int .u64 (n : Int)] rfl
  rwa [vws_length, hw] at this
end

/-- A struct's literal of one field. -/
theorem wp_build1 {ops : Array Oper} {rest : List Oper} {o : Oper} {a : Act} {Q : Exit → Act → World → Prop} (w : World) (hgd : o.guard = none) (t : TypeId) (i : Nat) (x : Operand) (ho : o.op = .build t #[(i, x)])
    (u : Value) (hx : a.eval x = u) (v : Value) (hrun : (Instr.build t #[(i, u)]).run Tryd.prog w = .ok v w)
    (h : wpList Tryd.prog ops Q rest (a.put o.dst v) w) : wpList Tryd.prog ops Q (o :: rest) a w := by
  refine wpList_plain hgd fun K hK => ?_
  unfold Oper.wp execOp
  simp only [ho, List.map_toArray, List.map_cons, List.map_nil, hx, Sem.run_bind, hrun, Result.andThen_ok, Sem.run_pure]
  exact hK _ _ h
/-- A literal of noughts. -/
theorem wp_build0 {ops : Array Oper} {rest : List Oper} {o : Oper} {a : Act} {Q : Exit → Act → World → Prop} (w : World) (hgd : o.guard = none) (t : TypeId) (ho : o.op = .build t #[])
    (v : Value) (hrun : (Instr.build t #[]).run Tryd.prog w = .ok v w)
    (h : wpList Tryd.prog ops Q rest (a.put o.dst v) w) : wpList Tryd.prog ops Q (o :: rest) a w := by
  refine wpList_plain hgd fun K hK => ?_
  unfold Oper.wp execOp
  simp only [ho, List.map_toArray, List.map_nil, Sem.run_bind, hrun, Result.andThen_ok, Sem.run_pure]
  exact hK _ _ h

theorem size40 : (Tryd.prog.info? 40).map (·.size) = some 73 := by kernel_rfl
theorem zero40 : (Tryd.prog.info? 40).map (fun i => i.zero) = some (some (.agg (cells3 (List.replicate 8 0) (List.replicate 64 0) 0).toArray)) := by kernel_rfl
theorem build40 (w : World) : (Instr.build 40 #[(0, .agg (vws H0.list).toArray)]).run Tryd.prog w = .ok (.agg (stc []).toArray) w := by kernel_rfl
theorem build37 (w : World) : (Instr.build 37 #[]).run Tryd.prog w = .ok (.agg (vbs (List.replicate 64 0)).toArray) w := by kernel_rfl

set_option maxHeartbeats 1000000 in
theorem start_any (w : World) (ht : Tab w) : Calls Tryd.prog 15 #[] w fun e w' => e = .returned (.agg (stc []).toArray) ∧ Below w.heap.size w w' := by
  have z36 : (Tryd.prog.info? 36).map (·.size) = some (vws H0.list).length := size36
  have z40 : (Tryd.prog.info? 40).map (·.size) = some (stc []).length := by rw [stc_length]; exact size40
  have b40 := build40
  have n40 : (stc []).length = (cells3 (List.replicate 8 0) (List.replicate 64 0) 0).length := by rw [stc_length, cells3_length _ (by simp) (by simp)]
  have o40 : ∀ u ∈ stc [], u.oneCell' = true := cells3_one _ _ _
  have y40 := zero40
  generalize stc [] = V at *
  generalize cells3 (List.replicate 8 0) (List.replicate 64 0) 0 = Z at n40 y40
  go_enter Tryd.func15, Tryd.ntmps15
  go_wp2_with (first
    | ((with_reducible show wpList _ _ _ _ _ _); first
    | (refine wp_new _ rfl 40 rfl _ y40 ?_; intro w1 g1 hB1 hf1; have ht1 := ht.below hf1.below; simp only [Act.put, List.setIfInBounds_toArray, List.set_cons_zero])
    | (refine wp_get _ rfl 36 (.global 0) rfl 0 0 (vws H0.list) _ rfl ht1.2.1 Tryd.underlying36 rfl z36 ?_; simp only [Act.put, List.setIfInBounds_toArray, List.set_cons_zero, List.set_cons_succ])
    | (refine wp_build1 _ rfl 40 0 (.tmp 1) rfl _ rfl _ (b40 _) ?_; simp only [Act.put, List.setIfInBounds_toArray, List.set_cons_zero, List.set_cons_succ])
    | (refine wp_putAll _ rfl 40 (.tmp 0) (.tmp 2) rfl g1 40 _ V rfl rfl hB1 n40 z40 o40 ?_; intro w6 F3 U6; simp only [Act.put]))
    | ((with_reducible show bodyPost _ _ _ _ _ _); refine ret_cell 0 40 rfl g1 V _ rfl F3.whole Tryd.underlying40 rfl z40 rfl ⟨rfl, ?_⟩; exact hf1.below.trans (U6.below (Nat.le_of_eq hf1.is.symm))))
end Go.Proofs.YtiigmpoopmnnhaaDoor
