/-
  The small case at the head of every law of this seat (transeptlaw03.shown) returns true. Condition: the tables hold what the program's text lays.
-/
import Derived.Test.YtiigmpoopmnnhaaDoorZeros
namespace Go.Proofs.YtiigmpoopmnnhaaDoor
open Go.RowKit

theorem Bs.newG (w : World) (g : Nat) (hg : w.heap.size = g) (l : List UInt8) (a : Array Value) (ha : a = (vbs l).toArray) (n : Nat) (hn : l.length = n) (fr : Nat × Nat) : Bs (w.alloc (.cells a 5 fr)) (w.alloc (.cells a 5 fr)).heap.size (some ⟨g, 0, none⟩) n l := by
  subst hg
  exact Bs.newF w l a ha n hn fr
theorem vb_at {V : List UInt8} {i : Nat} {x : UInt8} (h : V.getD i 0 = x) (hi : i < V.length) : (vbs V)[i]? = some (.int .u8 (x.toNat : Int)) := by
  rw [vbs_getD V i hi, h]
  rfl

set_option maxHeartbeats 2000000 in
set_option maxRecDepth 100000 in
theorem shown_any (w : World) (ht : Tab w) : Calls Tryd.prog 9 #[] w fun e w' => e = .returned (.bool true) ∧ Below w.heap.size w w' := by
  have kc := fun (w : World) (C : Array Value) (n c : Nat) => Lib.run_convert_bytes_const (P := Tryd.prog) w 22 5 C n c Tryd.underlying22 Tryd.underlying5
  have kc2 := fun (w : World) (O : Obj) => kc (w.alloc O)
  simp only [World.size_alloc] at kc2
  have S1 := fun (w : World) (h : Tab w) A c hA hc hm => sum_any A 3 c [97, 98, 99] w h hA hc hm (by omega)
  have S2 := fun (w : World) (h : Tab w) => sum_any none 0 0 [] w h (Bs.empty _ _ _) (by omega) (by omega) (by omega)
  have M1 := fun (w : World) (h : Tab w) A c hA hc hm A' c' hA' hc' hm' => mac_any A 4 c jefe A' 28 c' what w h hA hc hm (by omega) hA' hc' hm' (by omega)
  have a0 := vb_at abc0 (by rw [digest_length]; omega)
  have a1 := vb_at abc1 (by rw [digest_length]; omega)
  have a31 := vb_at abc31 (by rw [digest_length]; omega)
  have n0 := vb_at nil0 (by rw [digest_length]; omega)
  have n31 := vb_at nil31 (by rw [digest_length]; omega)
  have m0 := vb_at mac0 (by rw [mac_length]; omega)
  have m1 := vb_at mac1 (by rw [mac_length]; omega)
  have m31 := vb_at mac31 (by rw [mac_length]; omega)
  have d1 : (vbs (digest [97, 98, 99])).length = 32 := by rw [vbs_length, digest_length]
  have d2 : (vbs (digest [])).length = 32 := by rw [vbs_length, digest_length]
  have d3 : (vbs (mac jefe what)).length = 32 := by rw [vbs_length, mac_length]
  have o1 := vbs_one (digest [97, 98, 99])
  have o2 := vbs_one (digest [])
  have o3 := vbs_one (mac jefe what)
  generalize vbs (digest [97, 98, 99]) = V1 at *
  generalize vbs (digest []) = V2 at *
  generalize vbs (mac jefe what) = V3 at *
  have z1 : (Tryd.prog.info? 25).map (·.size) = some V1.length := by rw [d1]; exact size25
  have z2 : (Tryd.prog.info? 25).map (·.size) = some V2.length := by rw [d2]; exact size25
  have z3 : (Tryd.prog.info? 25).map (·.size) = some V3.length := by rw [d3]; exact size25
  have e1 : V1.length = (vbs (List.replicate 32 0)).length := by rw [d1]; rfl
  have e2 : V2.length = (vbs (List.replicate 32 0)).length := by rw [d2]; rfl
  have e3 : V3.length = (vbs (List.replicate 32 0)).length := by rw [d3]; rfl
  clear d1 d2 d3
  go_enter Tryd.func9, Tryd.ntmps9
  go_wp2_with fail
  refine (S1 _ (ht.alloc _) _ _ (Bs.newF w [97, 98, 99] _ rfl 3 rfl _) (by omega) (by omega)).mono ?_
  rintro e w1 ⟨rfl, hb1⟩
  have c1 : Below w.heap.size w w1 := ((Below.refl _ _).alloc (Nat.le_refl _) _).trans (hb1.mono (by simp))
  clear hb1
  go_wp2_with (first
    | ((with_reducible show wpList _ _ _ _ _ _); first
      | (refine wp_new (o := ⟨some 1, _, _, _, _, _⟩) _ rfl 25 rfl _ zero25 ?_; intro w2 g1 B1 hf1; simp only [Act.put, List.setIfInBounds_toArray, List.set_cons_zero, List.set_cons_succ])
      | (refine wp_putAll _ rfl 25 (.tmp 1) (.tmp 6) rfl g1 25 _ _ rfl rfl B1 e1 z1 o1 ?_; intro w3 B3 U3; simp only [Act.put])))
  have q1 := hf1.is
  have c3 : Below w.heap.size w w3 := (c1.trans (hf1.below.mono c1.size)).trans (U3.below (by have := c1.size; omega))
  clear c1 U3 hf1 B1 q1
  refine (S2 _ (ht.below c3)).mono ?_
  rintro e w4 ⟨rfl, hb4⟩
  have c4 : Below w.heap.size w w4 := c3.trans (hb4.mono c3.size)
  have B4 := B3.kept hb4
  clear c3 hb4 B3
  go_wp2_with (first
    | ((with_reducible show wpList _ _ _ _ _ _); first
      | (refine wp_new (o := ⟨some 2, _, _, _, _, _⟩) _ rfl 25 rfl _ zero25 ?_; intro w5 g2 B5 hf5; simp only [Act.put, List.setIfInBounds_toArray, List.set_cons_zero, List.set_cons_succ])
      | (refine wp_putAll _ rfl 25 (.tmp 2) (.tmp 7) rfl g2 25 _ _ rfl rfl B5 e2 z2 o2 ?_; intro w6 C6 U6; have c6 : Below w.heap.size w w6 := (c4.trans (hf5.below.mono c4.size)).trans (U6.below (by have := c4.size; have := hf5.is; omega)); have B6 := (hf5.blk B4).upd U6 (by have := B4.lt; have := hf5.is; omega); simp only [Act.put])))
  clear B4 B5 hf5 c4 U6
  have T7 := ((ht.below c6).alloc (.cells #[.int .u8 74, .int .u8 101, .int .u8 102, .int .u8 101] 5 (4, 5)))
  have J := Bs.newF w6 jefe #[.int .u8 74, .int .u8 101, .int .u8 102, .int .u8 101] rfl 4 rfl (4, 5)
  refine (M1 _ (T7.alloc _) _ 4 ((J.alloc (Nat.le_refl _) _).more (by simp)) (by omega) (by omega) _ 28 (Bs.newG _ (w6.heap.size + 1) (World.size_alloc ..) what _ rfl 28 rfl (28, 29)) (by omega) (by omega)).mono ?_
  rintro e w8 ⟨rfl, hb8⟩
  have h8 : Below w6.heap.size w6 w8 := (((Below.refl _ _).alloc (Nat.le_refl _) _).alloc (by simp) _).trans (hb8.mono (by simp; omega))
  have c8 : Below w.heap.size w w8 := c6.trans (h8.mono c6.size)
  have B8 := B6.kept h8
  have C8 := C6.kept h8
  clear hb8 h8 c6 B6 C6 T7 J
  go_wp2_with (first
    | ((with_reducible show wpList _ _ _ _ _ _); first
      | (refine wp_new (o := ⟨some 3, _, _, _, _, _⟩) _ rfl 25 rfl _ zero25 ?_; intro w9 g3 D9 hf9; simp only [Act.put, List.setIfInBounds_toArray, List.set_cons_zero, List.set_cons_succ])
      | (refine wp_putAll _ rfl 25 (.tmp 3) (.tmp 12) rfl g3 25 _ _ rfl rfl D9 e3 z3 o3 ?_; intro w10 D10 U10; have cA : Below w.heap.size w w10 := (c8.trans (hf9.below.mono c8.size)).trans (U10.below (by have := c8.size; have := hf9.is; omega)); have B10 := (hf9.blk B8).upd U10 (by have := B8.lt; have := hf9.is; omega); have C10 := (hf9.blk C8).upd U10 (by have := C8.lt; have := hf9.is; omega); have x1 := B10.cell a0; have x2 := B10.cell a1; have x3 := B10.cell a31; have x4 := C10.cell n0; have x5 := C10.cell n31; have x6 := D10.cell m0; have x7 := D10.cell m1; have x8 := D10.cell m31; simp only [Act.put])))
  go_ret
  exact ⟨rfl, cA⟩
end Go.Proofs.YtiigmpoopmnnhaaDoor
