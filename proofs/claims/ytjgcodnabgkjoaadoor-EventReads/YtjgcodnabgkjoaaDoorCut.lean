/-
  What transeptlaw05.cut answers: the event with texts of at most five thousand bytes; nothing that was there turns. No condition.
-/
import Derived.Test.YtjgcodnabgkjoaaDoorDecL
import Derived.Test.YtjgcodnabgkjoaaDoorRefGet
namespace Go.Proofs.YtjgcodnabgkjoaaDoor
open Go.RowKit

def cutE (e : Ev) : Ev := { e with ts := e.ts.map fun t => t.take 5000 }
theorem cutE_ok {e : Ev} (h : EvOk e) : EvOk (cutE e) := ⟨by simp [cutE, h.1], h.2⟩
theorem four {α : Type} (l : List α) (h : l.length = 4) : ∃ a b c d, l = [a, b, c, d] := by
  match l, h with
  | [a, b, c, d], _ => exact ⟨a, b, c, d, rfl⟩
theorem size9 : (Tryd.prog.info? 9).map (·.size) = some 1 := by kernel_rfl

set_option maxHeartbeats 4000000 in
set_option maxRecDepth 100000 in
theorem cut_any (e : Ev) (he : EvOk e) (hsz : ∀ t ∈ e.ts, t.length ≤ 9223372036854775807) (w : World) :
    Calls Tryd.prog 12 #[.agg (evc e).toArray] w fun r w' => r = .returned (.agg (evc (cutE e)).toArray) ∧ Below w.heap.size w w' := by
  obtain ⟨K, tm, id, ts, ns⟩ := e
  obtain ⟨t0, t1, t2, t3, rfl⟩ := four ts he.1
  obtain ⟨x0, x1, x2, rfl⟩ := three ns he.2
  have hE : cutE ⟨K, tm, id, [t0, t1, t2, t3], [x0, x1, x2]⟩ = ⟨K, tm, id, [t0.take 5000, t1.take 5000, t2.take 5000, t3.take 5000], [x0, x1, x2]⟩ := rfl
  rw [hE]
  have q0 : t0.length ≤ 9223372036854775807 := hsz t0 (by simp)
  have z0 : (str t0).size = t0.length := str_size t0
  obtain ⟨m0, h0⟩ : ∃ m : Nat, m = min t0.length 5000 := ⟨_, rfl⟩
  have k0 : min (t0.length : Int) 5000 = (m0 : Int) := by omega
  have j0 : (m0 : Int) ≤ (t0.length : Int) := by omega
  have x0' : (str t0).extract 0 m0 = str (t0.take 5000) := by
    rw [str_take, h0]
    congr 1
    rw [List.take_eq_take_iff]
    omega
  have q1 : t1.length ≤ 9223372036854775807 := hsz t1 (by simp)
  have z1 : (str t1).size = t1.length := str_size t1
  obtain ⟨m1, h1⟩ : ∃ m : Nat, m = min t1.length 5000 := ⟨_, rfl⟩
  have k1 : min (t1.length : Int) 5000 = (m1 : Int) := by omega
  have j1 : (m1 : Int) ≤ (t1.length : Int) := by omega
  have x1' : (str t1).extract 0 m1 = str (t1.take 5000) := by
    rw [str_take, h1]
    congr 1
    rw [List.take_eq_take_iff]
    omega
  have q2 : t2.length ≤ 9223372036854775807 := hsz t2 (by simp)
  have z2 : (str t2).size = t2.length := str_size t2
  obtain ⟨m2, h2⟩ : ∃ m : Nat, m = min t2.length 5000 := ⟨_, rfl⟩
  have k2 : min (t2.length : Int) 5000 = (m2 : Int) := by omega
  have j2 : (m2 : Int) ≤ (t2.length : Int) := by omega
  have x2' : (str t2).extract 0 m2 = str (t2.take 5000) := by
    rw [str_take, h2]
    congr 1
    rw [List.take_eq_take_iff]
    omega
  have q3 : t3.length ≤ 9223372036854775807 := hsz t3 (by simp)
  have z3 : (str t3).size = t3.length := str_size t3
  obtain ⟨m3, h3⟩ : ∃ m : Nat, m = min t3.length 5000 := ⟨_, rfl⟩
  have k3 : min (t3.length : Int) 5000 = (m3 : Int) := by omega
  have j3 : (m3 : Int) ≤ (t3.length : Int) := by omega
  have x3' : (str t3).extract 0 m3 = str (t3.take 5000) := by
    rw [str_take, h3]
    congr 1
    rw [List.take_eq_take_iff]
    omega
  have y24 := zero24
  have z24 : (Tryd.prog.info? 24).map (·.size) = some (evc ⟨K, tm, id, [t0.take 5000, t1.take 5000, t2.take 5000, t3.take 5000], [x0, x1, x2]⟩).length := size24
  have hl : (evc ⟨K, tm, id, [t0.take 5000, t1.take 5000, t2.take 5000, t3.take 5000], [x0, x1, x2]⟩).length = (evc ev0).length := rfl
  clear hE hsz h0 h1 h2 h3
  go_enter Tryd.func12, Tryd.ntmps12
  go_wp2_with (first
    | ((with_reducible show wpList _ _ _ (⟨some 1, _, _, _, _, _⟩ :: _) _ _); refine wp_box _ rfl 24 (.tmp 0) rfl (evc ⟨K, tm, id, [t0, t1, t2, t3], [x0, x1, x2]⟩) rfl ?_; intro w1 g1 hB1 hf1; simp only [Act.put, List.setIfInBounds_toArray, List.set_cons_zero, List.set_cons_succ])
    | ((with_reducible show wpList _ _ _ (⟨some 2, _, _, _, _, _⟩ :: _) _ _); refine wp_new _ rfl 24 rfl _ y24 ?_; intro w2 g2 hZ2 hf2; have V0 := hf2.blk hB1; have c0 : w2.cell? ⟨g1, 3, none⟩ = some (.string (str t0)) := V0.cell rfl; simp only [Act.put, List.setIfInBounds_toArray, List.set_cons_zero, List.set_cons_succ])
    | ((with_reducible show wpList _ _ _ (⟨none, .store 9 (.tmp 10) _, _, _, _, _⟩ :: _) _ _); refine wp_set _ rfl 9 (.tmp 10) (.tmp 9) rfl g1 3 24 _ (.string (str (t0.take 5000))) rfl rfl rfl rfl V0 (by simp [evc]) size9 ?_; intro w3 V1' U1; have V1 : Blk w3 g1 24 (evc ⟨K, tm, id, [t0.take 5000, t1, t2, t3], [x0, x1, x2]⟩) := V1'; have c1 : w3.cell? ⟨g1, 4, none⟩ = some (.string (str t1)) := V1.cell rfl; simp only [Act.put])
    | ((with_reducible show wpList _ _ _ (⟨none, .store 9 (.tmp 18) _, _, _, _, _⟩ :: _) _ _); refine wp_set _ rfl 9 (.tmp 18) (.tmp 17) rfl g1 4 24 _ (.string (str (t1.take 5000))) rfl rfl rfl rfl V1 (by simp [evc]) size9 ?_; intro w4 V2' U2; have V2 : Blk w4 g1 24 (evc ⟨K, tm, id, [t0.take 5000, t1.take 5000, t2, t3], [x0, x1, x2]⟩) := V2'; have c2 : w4.cell? ⟨g1, 5, none⟩ = some (.string (str t2)) := V2.cell rfl; simp only [Act.put])
    | ((with_reducible show wpList _ _ _ (⟨none, .store 9 (.tmp 26) _, _, _, _, _⟩ :: _) _ _); refine wp_set _ rfl 9 (.tmp 26) (.tmp 25) rfl g1 5 24 _ (.string (str (t2.take 5000))) rfl rfl rfl rfl V2 (by simp [evc]) size9 ?_; intro w5 V3' U3; have V3 : Blk w5 g1 24 (evc ⟨K, tm, id, [t0.take 5000, t1.take 5000, t2.take 5000, t3], [x0, x1, x2]⟩) := V3'; have c3 : w5.cell? ⟨g1, 6, none⟩ = some (.string (str t3)) := V3.cell rfl; simp only [Act.put])
    | ((with_reducible show wpList _ _ _ (⟨none, .store 9 (.tmp 34) _, _, _, _, _⟩ :: _) _ _); refine wp_set _ rfl 9 (.tmp 34) (.tmp 33) rfl g1 6 24 _ (.string (str (t3.take 5000))) rfl rfl rfl rfl V3 (by simp [evc]) size9 ?_; intro w6 V4' U4; have V4 : Blk w6 g1 24 (evc ⟨K, tm, id, [t0.take 5000, t1.take 5000, t2.take 5000, t3.take 5000], [x0, x1, x2]⟩) := V4'; simp only [Act.put])
    | ((with_reducible show wpList _ _ _ (⟨some 35, _, _, _, _, _⟩ :: _) _ _); refine wp_getG _ (by rfl) 24 (.tmp 1) rfl g1 0 _ _ rfl V4.whole Tryd.underlying24 rfl z24 ?_; simp only [Act.put, List.setIfInBounds_toArray, List.set_cons_zero, List.set_cons_succ])
    | ((with_reducible show wpList _ _ _ (⟨none, .store 24 _ _, _, _, _, _⟩ :: _) _ _); have hne : g2 ≠ g1 := (by have a1 := hf2.is; have a2 := hB1.lt; omega); have Z6 := ((((hZ2.upd U1 hne).upd U2 hne).upd U3 hne).upd U4 hne); refine wp_putAll _ rfl 24 (.tmp 2) (.tmp 35) rfl g2 24 _ (evc ⟨K, tm, id, [t0.take 5000, t1.take 5000, t2.take 5000, t3.take 5000], [x0, x1, x2]⟩) rfl rfl Z6 hl z24 (evc_one _) ?_; intro w7 Z7 U7; simp only [Act.put]))
  have a1 := hf1.is
  have a2 := hf2.is
  have a3 := hf1.size
  refine ret_cell 2 24 rfl g2 _ _ rfl Z7.whole Tryd.underlying24 rfl z24 rfl ⟨rfl, ?_⟩
  exact (((((hf1.below.trans (hf2.below.mono (by omega))).trans (U1.below (by omega))).trans (U2.below (by omega))).trans (U3.below (by omega))).trans (U4.below (by omega))).trans (U7.below (by omega))
end Go.Proofs.YtjgcodnabgkjoaaDoor
