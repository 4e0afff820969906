/-
  What sha.filled answers: the key as one block; nothing that was in memory turns. Conditions: the tables hold what the program's text lays; there are at most 1000000000 bytes.
-/
import Derived.Test.YtiigmpoopmnnhaaDoorKey
namespace Go.Proofs.YtiigmpoopmnnhaaDoor
open Go.RowKit

theorem Blk.bs {w : World} {g n : Nat} {t : TypeId} {l : List UInt8} (h : Blk w g t (vbs l)) (hn : l.length = n) : Bs w w.heap.size (some ⟨g, 0, none⟩) n l :=
  ⟨hn, fun _ => ⟨g, 0, rfl, h.lt, fun j c hj => by
    rw [Nat.zero_add]
    exact h.cell (by simp [vbs, hj])⟩⟩
theorem fill_cells (l : List UInt8) (m : Nat) (hl : l.length = m) :
    (vbs (List.replicate 64 0)).take 0 ++ vbs (l.take m) ++ (vbs (List.replicate 64 0)).drop (0 + (vbs (l.take m)).length) = vbs (l ++ List.replicate (64 - l.length) 0) := by
  have h1 : l.take m = l := List.take_of_length_le (by omega)
  rw [h1, vbs_length, hl]
  simp only [vbs, List.map_replicate, List.map_append, List.take_zero, List.nil_append, Nat.zero_add, List.drop_replicate]

set_option maxHeartbeats 1000000 in
theorem filled_any (A : Option Addr) (n c : Nat) (l : List UInt8) (w : World) (ht : Tab w) (h : Bs w w.heap.size A n l) (hc : n ≤ c) (hcm : c ≤ 9223372036854775807) (hn : n ≤ 1000000000) :
    Calls Tryd.prog 20 #[.slice A n c] w fun e w' => e = .returned (.agg (vbs (full l)).toArray) ∧ Below w.heap.size w w' := by
  have s37 := slice37a
  have s25 := slice25
  have hZ : (vbs (List.replicate 64 0)).length = 64 := by simp [vbs]
  have z37 : (Tryd.prog.info? 37).map (·.size) = some (vbs (full l)).length := by rw [vbs_length, full_length]; exact size37
  have n37 : (vbs (full l)).length = (vbs (List.replicate 64 0)).length := by rw [vbs_length, full_length, hZ]
  have o37 := vbs_one (full l)
  by_cases hlt : 64 < n
  · have SU := fun w h1 h2 => sum_any A n c l w h1 h2 hc hcm hn
    have HF : Hid (vbs (digest l ++ List.replicate (64 - (digest l).length) 0) = vbs (full l)) := by
      have : keyOf l = digest l := by unfold keyOf; rw [if_pos (by rw [h.1]; exact hlt)]
      show _ = _
      rw [full, this]
    have dl := digest_length l
    have z25 : (Tryd.prog.info? 25).map (·.size) = some (vbs (digest l)).length := by rw [vbs_length, dl]; exact size25
    have n25 : (vbs (digest l)).length = (vbs (List.replicate 32 0)).length := by rw [vbs_length, dl]; rfl
    have o25 := vbs_one (digest l)
    generalize vbs (full l) = V at *
    generalize digest l = D at *
    go_enter Tryd.func20, Tryd.ntmps20
    go_wp2_with (first
      | ((with_reducible show wpList _ _ _ _ _ _); first
        | (refine wp_new _ rfl 37 rfl _ zero37 ?_; intro w1 g1 B1 hf1; simp only [Act.put, List.setIfInBounds_toArray, List.set_cons_zero, List.set_cons_succ])))
    refine (SU w1 (ht.below hf1.below) ((h.below hf1.below).more hf1.below.size)).mono ?_
    rintro e w2 ⟨rfl, hb2⟩
    have bel2 : Below w.heap.size w w2 := hf1.below.trans (hb2.mono hf1.below.size)
    have C1 := B1.kept hb2
    have L1 := Nat.le_of_eq hf1.is.symm
    clear hf1 hb2 B1
    go_wp2_with (first
      | ((with_reducible show wpList _ _ _ _ _ _); first
        | (refine wp_new (o := ⟨some 3, _, _, _, _, _⟩) _ rfl 25 rfl _ zero25 ?_; intro w3 g2 B2 hf2; simp only [Act.put, List.setIfInBounds_toArray, List.set_cons_zero, List.set_cons_succ])
        | (refine wp_putAll _ rfl 25 (.tmp 3) (.tmp 9) rfl g2 25 _ _ rfl rfl B2 n25 z25 o25 ?_; intro w4 B4 U4; simp only [Act.put])
        | (refine wp_new (o := ⟨some 4, _, _, _, _, _⟩) _ rfl 37 rfl _ zero37 ?_; intro w5 g3 B3 hf3; have S5 := (hf3.blk B4).bs dl; simp only [Act.put, List.setIfInBounds_toArray, List.set_cons_zero, List.set_cons_succ])
        | (refine wp_copy _ rfl (.tmp 11) (.tmp 12) rfl g3 0 64 64 rfl _ 32 32 _ D rfl S5 32 rfl 37 _ B3 (by rw [hZ]; omega) ?_; intro w6 B6 U6; rw [fill_cells D 32 dl, HF.out] at B6; have K1 := ((hf3.blk ((hf2.blk C1).upd U4 (by have := C1.lt; have := hf2.is; omega))).upd U6 (by have := (((hf2.blk C1).upd U4 (by have := C1.lt; have := hf2.is; omega))).lt; have := hf3.is; omega)); simp only [Act.put, List.setIfInBounds_toArray, List.set_cons_zero, List.set_cons_succ])
        | (refine wp_get _ rfl 37 (.tmp 4) rfl g3 0 V _ rfl B6.whole Tryd.underlying37 rfl z37 ?_; simp only [Act.put, List.setIfInBounds_toArray, List.set_cons_zero, List.set_cons_succ])
        | (refine wp_putAll _ rfl 37 (.tmp 2) (.tmp 14) rfl g1 37 _ _ rfl rfl K1 n37 z37 o37 ?_; intro w7 B7 U7; simp only [Act.put]))
      | ((with_reducible show bodyPost _ _ _ _ _ _); refine ret_cell 2 37 rfl g1 V _ rfl B7.whole Tryd.underlying37 rfl z37 rfl ⟨rfl, ?_⟩))
    have e2 := bel2.size
    have e3 := hf2.is
    have e4 := hf2.size
    have e5 := U4.size
    have e6 := hf3.is
    have e7 := hf3.size
    exact ((((bel2.trans (hf2.below.mono e2)).trans (U4.below (by omega))).trans (hf3.below.mono (by omega))).trans (U6.below (by omega))).trans (U7.below L1)
  · have hl := h.1
    have HF : Hid (vbs (l ++ List.replicate (64 - l.length) 0) = vbs (full l)) := by
      have : keyOf l = l := by unfold keyOf; rw [if_neg (by rw [h.1]; exact hlt)]
      show _ = _
      rw [full, this]
    have hm : min n 64 = n := by omega
    have hb' : 0 + n ≤ (vbs (List.replicate 64 0)).length := by rw [hZ]; omega
    generalize vbs (full l) = V at *
    go_enter Tryd.func20, Tryd.ntmps20
    go_wp2_with (first
      | ((with_reducible show wpList _ _ _ _ _ _); first
        | (refine wp_new (o := ⟨some 2, _, _, _, _, _⟩) _ rfl 37 rfl _ zero37 ?_; intro w1 g1 B1 hf1; simp only [Act.put, List.setIfInBounds_toArray, List.set_cons_zero, List.set_cons_succ])
        | (refine wp_new (o := ⟨some 4, _, _, _, _, _⟩) _ rfl 37 rfl _ zero37 ?_; intro w5 g3 B3 hf3; have S5 := (h.below hf1.below).below' hf3.below hf1.below.size; simp only [Act.put, List.setIfInBounds_toArray, List.set_cons_zero, List.set_cons_succ])
        | (refine wp_copy _ rfl (.tmp 11) (.tmp 12) rfl g3 0 64 64 rfl _ n c _ l rfl S5 n hm 37 _ B3 hb' ?_; intro w6 B6 U6; rw [fill_cells l n hl, HF.out] at B6; have K1 := ((hf3.blk B1).upd U6 (by have := B1.lt; have := hf3.is; omega)); simp only [Act.put, List.setIfInBounds_toArray, List.set_cons_zero, List.set_cons_succ])
        | (refine wp_get _ rfl 37 (.tmp 4) rfl g3 0 V _ rfl B6.whole Tryd.underlying37 rfl z37 ?_; simp only [Act.put, List.setIfInBounds_toArray, List.set_cons_zero, List.set_cons_succ])
        | (refine wp_putAll _ rfl 37 (.tmp 2) (.tmp 14) rfl g1 37 _ _ rfl rfl K1 n37 z37 o37 ?_; intro w7 B7 U7; simp only [Act.put]))
      | ((with_reducible show bodyPost _ _ _ _ _ _); refine ret_cell 2 37 rfl g1 V _ rfl B7.whole Tryd.underlying37 rfl z37 rfl ⟨rfl, ?_⟩))
    have e3 := hf1.is
    have e4 := hf1.size
    have e6 := hf3.is
    have e7 := hf3.size
    exact (((hf1.below.trans (hf3.below.mono (by omega))).trans (U6.below (by omega)))).trans (U7.below (by omega))
end Go.Proofs.YtiigmpoopmnnhaaDoor
