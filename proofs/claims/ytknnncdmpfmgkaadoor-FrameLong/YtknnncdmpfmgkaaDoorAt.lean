/-
  What frame.At answers; nothing that was in memory turns. Conditions: at most a million bodies of at most a million bytes each.
-/
import Derived.Test.YtknnncdmpfmgkaaDoorJoin
namespace Go.Proofs.YtknnncdmpfmgkaaDoor
open Go.RowKit

/-- The place of body i. -/
def atS (bs : List (List UInt8)) (i : Nat) : Nat := (join (bs.take i)).length + (leb (bs.getD i []).length).length

theorem fine_take {bs : List (List UInt8)} (h : Fine bs) (k : Nat) : Fine (bs.take k) := ⟨by rw [List.length_take]; have := h.1; omega, fun l hl => h.2 l (List.mem_of_mem_take hl)⟩

set_option maxHeartbeats 1000000 in
theorem at_none (A : Option Addr) (n c : Nat) (i : Int) (w : World) (hi : i < 0 ∨ (n : Int) ≤ i) : Calls Tryd.prog 20 #[.slice A n c, .int .i64 i] w fun e w' => e = .returned (.int .i64 (-1)) ∧ w' = w := by
  by_cases h0 : i < 0
  · go_enter Tryd.func20, Tryd.ntmps20
    go_wp2_with fail
    go_ret
    exact ⟨rfl, rfl⟩
  · have h1 : (n : Int) ≤ i := by omega
    go_enter Tryd.func20, Tryd.ntmps20
    go_wp2_with fail
    go_ret
    exact ⟨rfl, rfl⟩

set_option maxHeartbeats 1000000 in
theorem at_any (A : Option Addr) (n c i : Nat) (bs : List (List UInt8)) (w : World) (h : Rv w A n bs) (hf : Fine bs) (hc : n ≤ c) (hlt : i < n) :
    Calls Tryd.prog 20 #[.slice A n c, .int .i64 i] w fun e w' => e = .returned (.int .i64 (atS bs i)) ∧ Below w.heap.size w w' := by
  have hn : n ≤ 1000000 := by rw [← h.1]; exact hf.1
  have hic : i ≤ c := by omega
  have LS := fun W (hW : Kept w W) => logSize_any A i c (bs.take i) W ((h.take (by omega)).below hW) (fine_take hf i)
  obtain ⟨l, b, off, A', c', hl, rfl, hbl, hcell0, h4, h5, h6⟩ := h.at_ hlt
  have hcell := fun W (hW : Kept w W) => (Below.cell hW (p := ⟨b, off + i, none⟩) hbl).trans hcell0
  have hix := fun W => index24 W b off n c i hlt
  have hll : l.length ≤ 1000000 := hf.2 l (List.mem_of_getElem? hl)
  have HD := fun W => head_any A' l.length c' W (by omega)
  have h10 := leb_len10 (n := l.length) (by omega)
  have HE : Hid (atS bs i = (join (bs.take i)).length + (leb l.length).length) := by
    show atS bs i = _
    unfold atS
    simp [List.getD, hl]
  have hJ : (join (bs.take i)).length ≤ 1000014000004 := by have := frs_take_le hf i; rw [join_len]; omega
  clear hl hcell0 h h6
  generalize (join (bs.take i)).length = J at *
  generalize leb l.length = L at *
  generalize l.length = m at *
  obtain ⟨q, hq⟩ : ∃ q, L.length = q := ⟨_, rfl⟩
  rw [hq] at HD h10 HE
  clear hq
  go_enter Tryd.func20, Tryd.ntmps20
  go_wp2_with fail
  refine Code.wp_mono (Q := fun e a W => e = .normal ∧ (a.defers = [] ∧ a.tmps.getD 4 undef = .int .i64 (IntKind.i64.wrap ((J : Int) + q))) ∧ Kept w W) ?imp ?reg
  case reg =>
    refine wp_region_held_drew (S := Kept w) (by kernel_rfl) (Kept.refl w).drew (fun hS => ?_)
    revert hS
    generalize w.drew = W0
    intro hS
    refine wpAnyH_take (i := 0) (oi := ⟨some 13, _, _, _, _, _⟩) (v := ?va0) rfl (by kernel_rfl) (by kernel_rfl) (by kernel_rfl) (fun _ _ _ h => by cases h.1) (Or.inl ⟨by rfl, ?ya0⟩) hS ?ra0
    case ya0 => intro W hW; go_simp; first | done | with_reducible rfl
    simp only [Act.put, List.setIfInBounds_toArray, List.set_cons_zero, List.set_cons_succ]
    refine wpAnyH_take (i := 1) (oi := ⟨some 14, _, _, _, _, _⟩) (v := ?va1) rfl (by kernel_rfl) (by kernel_rfl) (by kernel_rfl) (fun _ _ _ h => by cases h.1) (Or.inl ⟨by rfl, ?ya1⟩) hS ?ra1
    case ya1 => intro W hW; go_simp; first | done | with_reducible rfl
    simp only [Act.put, List.setIfInBounds_toArray, List.set_cons_zero, List.set_cons_succ]
    refine wpAnyH_take (i := 2) (oi := ⟨some 15, _, _, _, _, _⟩) (v := ?va2) rfl (by kernel_rfl) (by kernel_rfl) (by kernel_rfl) (fun _ _ _ h => by cases h.1) (Or.inl ⟨by rfl, ?ya2⟩) hS ?ra2
    case ya2 => intro W hW; go_simp; first | done | with_reducible rfl
    simp only [Act.put, List.setIfInBounds_toArray, List.set_cons_zero, List.set_cons_succ]
    refine wpAnyH_take (i := 4) (oi := ⟨some 17, _, _, _, _, _⟩) (v := ?va4) rfl (by kernel_rfl) (by kernel_rfl) (by kernel_rfl) (fun _ _ _ h => by cases h.1) (Or.inl ⟨by rfl, ?ya4⟩) hS ?ra4
    case ya4 => intro W hW; go_simp; first | done | with_reducible rfl
    simp only [Act.put, List.setIfInBounds_toArray, List.set_cons_zero, List.set_cons_succ]
    refine wpAnyH_take (i := 5) (oi := ⟨some 18, _, _, _, _, _⟩) (v := ?va5) rfl (by kernel_rfl) (by kernel_rfl) (by kernel_rfl) (fun _ _ _ h => by cases h.1) (Or.inl ⟨by rfl, ?ya5⟩) hS ?ra5
    case ya5 => intro W hW; go_simp; first | done | with_reducible rfl
    simp only [Act.put, List.setIfInBounds_toArray, List.set_cons_zero, List.set_cons_succ]
    refine wpAnyH_take (i := 6) (oi := ⟨some 19, _, _, _, _, _⟩) (v := ?va6) rfl (by kernel_rfl) (by kernel_rfl) (by kernel_rfl) (fun _ _ _ h => by cases h.1) (Or.inl ⟨by rfl, ?ya6⟩) hS ?ra6
    case ya6 => intro W hW; have v0 := hix W; go_simp; first | done | with_reducible rfl
    simp only [Act.put, List.setIfInBounds_toArray, List.set_cons_zero, List.set_cons_succ]
    refine wpAnyH_take (i := 7) (oi := ⟨some 20, _, _, _, _, _⟩) (v := ?va7) rfl (by kernel_rfl) (by kernel_rfl) (by kernel_rfl) (fun _ _ _ h => by cases h.1) (Or.inl ⟨by rfl, ?ya7⟩) hS ?ra7
    case ya7 => intro W hW; have v0 := hcell W hW; go_simp; first | done | with_reducible rfl
    simp only [Act.put, List.setIfInBounds_toArray, List.set_cons_zero, List.set_cons_succ]
    refine wpAnyH_ready (rs := [3]) (by kernel_rfl) (by simp) ?_
    refine (AllReadyH.cons (o := ⟨some 16, _, _, _, _, _⟩) rfl (fun K hK => ?_) AllReadyH.nil)
    go_simp
    refine (LS _ hS).mono ?_
    rintro e wb1 ⟨rfl, g1⟩
    have k1 : Kept w wb1 := Kept.step hS g1
    refine hK.out _ _ k1 (fun _ => ?_)
    clear hK K
    try simp only [Act.put, List.setIfInBounds_toArray, List.set_cons_zero, List.set_cons_succ]
    refine wpAnyH_ready (rs := [8]) (by kernel_rfl) (by simp) ?_
    refine (AllReadyH.cons (o := ⟨some 21, _, _, _, _, _⟩) rfl (fun K hK => ?_) AllReadyH.nil)
    go_simp
    refine (HD _).mono ?_
    rintro e wb2 ⟨A1, c1, rfl, g2, g3, g4, g5⟩
    have k2 : Kept w wb2 := Kept.step k1 g5
    refine hK.out _ _ k2 (fun _ => ?_)
    clear hK K
    try simp only [Act.put, List.setIfInBounds_toArray, List.set_cons_zero, List.set_cons_succ]
    refine wpAnyH_take (i := 9) (oi := ⟨some 22, _, _, _, _, _⟩) (v := ?vb9) rfl (by kernel_rfl) (by kernel_rfl) (by kernel_rfl) (fun _ _ _ h => by cases h.1) (Or.inl ⟨by rfl, ?yb9⟩) k2 ?rb9
    case yb9 => intro W hW; go_simp; first | done | with_reducible rfl
    simp only [Act.put, List.setIfInBounds_toArray, List.set_cons_zero, List.set_cons_succ]
    refine wpAnyH_take (i := 10) (oi := ⟨some 23, _, _, _, _, _⟩) (v := ?vb10) rfl (by kernel_rfl) (by kernel_rfl) (by kernel_rfl) (fun _ _ _ h => by cases h.1) (Or.inl ⟨by rfl, ?yb10⟩) k2 ?rb10
    case yb10 => intro W hW; go_simp; first | done | with_reducible rfl
    simp only [Act.put, List.setIfInBounds_toArray, List.set_cons_zero, List.set_cons_succ]
    refine wpAnyH_take (i := 11) (oi := ⟨some 4, _, _, _, _, _⟩) (v := ?vb11) rfl (by kernel_rfl) (by kernel_rfl) (by kernel_rfl) (fun _ _ _ h => by cases h.1) (Or.inl ⟨by rfl, ?yb11⟩) k2 ?rb11
    case yb11 => intro W hW; go_simp; first | done | with_reducible rfl
    simp only [Act.put, List.setIfInBounds_toArray, List.set_cons_zero, List.set_cons_succ]
    exact wpAnyH_done (by kernel_rfl) ⟨rfl, ⟨rfl, rfl⟩, k2⟩ _
  case imp =>
    rintro e ⟨tm, df⟩ W ⟨rfl, ⟨hd, h4⟩, hk⟩
    go_wp2_with fail
    refine bodyPost_ret (results_tmp rfl _ _ _) rfl ?_
    refine ⟨?_, hk⟩
    rw [HE.out]
    simp only at h4 ⊢
    rw [h4]
    rw [show IntKind.i64.wrap ((J : Int) + q) = ((J + q : Nat) : Int) by rw [IntKind.wrap_i64]; omega]
end Go.Proofs.YtknnncdmpfmgkaaDoor
