/-
  What sha.xored and sha.filled answer: a new row of bytes; the key as one block; nothing that was in memory turns. Conditions: the tables hold what the program's text lays; there are at most 1000000000 bytes.
-/
import Derived.Test.YtiigmpoopmnnhaaDoorSum
namespace Go.Proofs.YtiigmpoopmnnhaaDoor
open Go.RowKit

theorem make64 (w : World) : (Instr.makeSlice 22 (.int .i64 0) (.int .i64 64)).run Tryd.prog w = .ok (.slice (some ⟨w.heap.size, 0, none⟩) 0 64) (w.alloc (.cells (vbs (List.replicate 64 0)).toArray 5)) := by kernel_rfl

/-- 'make([]byte, 0, 64)'. -/
theorem wp_make64 {ops : Array Oper} {rest : List Oper} {o : Oper} {a : Act} {Q : Exit → Act → World → Prop} (w : World) (hgd : o.guard = none) (x y : Operand) (ho : o.op = .makeSlice 22 x y) (hx : a.eval x = .int .i64 0) (hy : a.eval y = .int .i64 64)
    (base : Nat) (hb : base ≤ w.heap.size) (h : ∀ A w', Own w' base (.slice A 0 64) 0 [] → Below w.heap.size w w' → wpList Tryd.prog ops Q rest (a.put o.dst (.slice A 0 64)) w') : wpList Tryd.prog ops Q (o :: rest) a w := by
  refine wpList_plain hgd fun K hK => ?_
  unfold Oper.wp execOp
  simp only [ho, hx, hy, Sem.run_bind, make64, Result.andThen_ok, Sem.run_pure]
  exact hK _ _ (h _ _ (World.ownsRow_made _ _ _ hb (by decide) (by simp [vbs])) ((Below.refl _ _).alloc (Nat.le_refl _) _))

theorem xor_byte (c m : UInt8) : bits .xor .u8 (c.toNat : Int) (m.toNat : Int) = ((c ^^^ m).toNat : Int) := by
  rw [u8_xor_nat _ _ c.toNat_lt m.toNat_lt, UInt8.toNat_xor]
theorem xo_more (b : List UInt8) (m : UInt8) (k : Nat) (h : k < b.length) : xo (b.take k) m ++ [b.getD k 0 ^^^ m] = xo (b.take (k + 1)) m := by
  unfold xo
  rw [List.take_succ_eq_append_getElem h, List.map_append]
  simp [List.getD, List.getElem?_eq_getElem h]

set_option maxHeartbeats 1000000 in
theorem xored_any (b : List UInt8) (m : UInt8) (w : World) (hb : b.length = 64) : Calls Tryd.prog 21 #[.agg (vbs b).toArray, .int .u8 (m.toNat : Int)] w fun e w' => Gives w 64 (xo b m) e w' := by
  have hb37 : (Tryd.prog.info? 37).map (·.size) = some (vbs b).length := by rw [vbs_length, hb]; exact size37
  go_enter Tryd.func21, Tryd.ntmps21
  go_wp2_with (first
    | ((with_reducible show wpList _ _ _ _ _ _); first
      | (refine wp_box _ rfl 37 (.tmp 0) rfl (vbs b) rfl ?_; intro w1 g1 hB1 hf1; simp only [Act.put, List.setIfInBounds_toArray, List.set_cons_zero, List.set_cons_succ])
      | (refine wp_make64 _ rfl _ _ rfl rfl rfl w.heap.size hf1.below.size ?_; intro A2 w2 O2 hb2; simp only [Act.put, List.setIfInBounds_toArray, List.set_cons_zero, List.set_cons_succ])
      | (refine wp_get _ rfl 37 (.tmp 2) rfl g1 0 (vbs b) _ rfl (hB1.kept hb2).whole Tryd.underlying37 rfl hb37 ?_; simp only [Act.put, List.setIfInBounds_toArray, List.set_cons_zero, List.set_cons_succ])))
  have bel2 : Below w.heap.size w w2 := hf1.below.trans (hb2.mono hf1.below.size)
  clear hf1 hb2 hB1
  go_loopw [5, 10] (fun v x wr => ∃ (A : Option Addr) (c k : Nat), v = .slice A k c ∧ x = .int .i64 k ∧ k ≤ 64 ∧ Own wr w.heap.size (.slice A k c) k (xo (b.take k) m) ∧ Below w.heap.size w wr) (fun _ x _ => 64 - (intOf x).toNat)
  case atStart => exact ⟨A2, 64, 0, rfl, rfl, by omega, O2, bel2⟩
  case round =>
    obtain ⟨A, c, k, rfl, rfl, hk, hown, hbel⟩ := hrel
    have hsz := hbel.size
    by_cases hlt : k < 64
    · have hx := vbs_getD b k (by omega)
      have e1 := xor_byte (b.getD k 0) m
      have HE := Lib.hid (xo_more b m k (by omega))
      rw [vb] at hx
      generalize b.getD k 0 = d at *
      go_wp2_with (first
        | ((with_reducible show wpList _ _ _ _ _ _); first
          | (refine wp_index _ rfl 37 (.tmp 9) (.tmp 10) rfl 64 5 _ Tryd.underlying37 Tryd.underlying5 rfl size5 (vbs b) rfl k rfl hlt _ hx ?_)
          | (at_builtin; refine wp_appS _ rfl (.tmp 13) (.tmp 17) rfl w.heap.size _ k (xo (b.take k) m) rfl (hown.alloc _) (wr.heap.size + 1) _ 1 1 [d ^^^ m] rfl (Bs.one' _ _ _ rfl) (by omega) (by simp; omega) (k + 1) (xo (b.take (k + 1)) m) rfl HE.out ?_; intro A1 c1 w3 hc1 hS1 hown1 hbel1)))
      go_roundw
      case rel => exact ⟨A1, c1, k + 1, rfl, by go_num, by omega, hown1, hbel.trans (((Below.refl _ _).alloc (by omega) _).trans hbel1)⟩
      case measure => simp [intOf]; omega
    · have hk64 : k = 64 := by omega
      subst hk64
      rw [List.take_of_length_le (by omega)] at hown
      go_wp2_with fail
      go_ret
      exact Gives.mk hown hbel
end Go.Proofs.YtiigmpoopmnnhaaDoor
