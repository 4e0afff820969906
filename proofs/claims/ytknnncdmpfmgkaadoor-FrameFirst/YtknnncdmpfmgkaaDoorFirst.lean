/-
  transeptlaw04.FrameFirst returns true, whatever it is called with, and turns nothing that was there. Condition: the table's cells hold what the program's text lays.
-/
import Derived.Test.YtknnncdmpfmgkaaDoorBase
import Derived.Test.YtknnncdmpfmgkaaDoorFirstPlain
namespace Go.Proofs.YtknnncdmpfmgkaaDoor
open Go.RowKit

set_option maxHeartbeats 4000000 in
set_option maxRecDepth 100000 in
theorem first_walk (A : Option Addr) (n c : Nat) (l : List UInt8) (A' : Option Addr) (n' c' : Nat) (l' : List UInt8) (w : World) (hl : Bs w w.heap.size A n l) (hc : n ≤ c) (hm : c ≤ 9223372036854775807) (hl' : Bs w w.heap.size A' n' l') (hc' : n' ≤ c') (hm' : c' ≤ 9223372036854775807) (ht : Tab w) :
    Calls Tryd.prog 7 #[.slice A n c, .slice A' n' c'] w fun e w' => e = .returned (.bool true) ∧ Below w.heap.size w w' := by
  have hmin : min (n : Int) 2000 = ((min n 2000 : Nat) : Int) := by omega
  have hB := hl.take (min n 2000) (by omega)
  obtain ⟨m, hme⟩ : ∃ m, min n 2000 = m := ⟨_, rfl⟩
  have hm3 : m ≤ 2000 := by omega
  have hmc : m ≤ c := by omega
  rw [hme] at hmin hB
  clear hme hl
  obtain ⟨B, hBe⟩ : ∃ B, l.take m = B := ⟨_, rfl⟩
  rw [hBe] at hB
  clear hBe
  have hmin' : min (n' : Int) 100 = ((min n' 100 : Nat) : Int) := by omega
  have hE := hl'.take (min n' 100) (by omega)
  obtain ⟨q, hqe⟩ : ∃ m, min n' 100 = m := ⟨_, rfl⟩
  have hq1 : q ≤ 100 := by omega
  have hqc : q ≤ c' := by omega
  rw [hqe] at hmin' hE
  clear hqe hl'
  obtain ⟨E, hEe⟩ : ∃ B, l'.take q = B := ⟨_, rfl⟩
  rw [hEe] at hE
  clear hEe
  have hBl := hB.1
  have hEl := hE.1
  obtain ⟨r1, hr1⟩ : ∃ r, (splitS B).1 = r := ⟨_, rfl⟩
  obtain ⟨a, hr2⟩ : ∃ r, (splitS B).2.1 = r := ⟨_, rfl⟩
  obtain ⟨er, hr3⟩ : ∃ r, (splitS B).2.2 = r := ⟨_, rfl⟩
  have HS : splitS B = (r1, a, er) := by rw [← hr1, ← hr2, ← hr3]
  obtain ⟨f1, f2⟩ := splitS_first B r1 a er HS
  have HSB : Hid (splitL B = (r1, a, er)) := by show splitL B = _; rw [splitL_small (by omega), HS]
  have F1 := Lib.hid f1
  have F2 := Lib.hid f2
  clear hr1 hr2 hr3 HS f1 f2
  go_enter Tryd.func7, Tryd.ntmps7
  go_wp2_with fail
  refine (shown_any w ht).mono ?_
  rintro e w1 ⟨rfl, g1⟩
  have SP := splitL_any A m c B w1 (ht.below g1) ((hB.below g1).more g1.size) hmc hm (by omega)
  rw [HSB.out] at SP
  go_wp2_with fail
  refine SP.mono ?_
  rintro e w2 ⟨v2, rfl, r2, g2⟩
  have G2 : Below w.heap.size w w2 := g1.trans (g2.mono g1.size)
  obtain ⟨A2, c2, rfl, r2a, r2b, r2c⟩ := r2.view
  clear SP g1 g2 r2 r2c
  obtain ⟨R, hR⟩ : ∃ R, r1.length = R := ⟨_, rfl⟩
  rw [hR] at r2a ⊢
  by_cases hz : er = 0 ∨ er = 2
  · have ha := F1.out hz
    rw [hBl] at ha
    subst ha
    rcases hz with rfl | rfl
    · go_wp2_with fail
      go_ret
      exact ⟨rfl, G2⟩
    · go_wp2_with fail
      go_ret
      exact ⟨rfl, G2⟩
  · obtain ⟨ha, hmore, g, hg, hcut⟩ := F2.out (by omega) (by omega)
    rw [hBl] at ha
    have hB1 := hB.take (a + 1) (by omega)
    have hB0 := hB.take a (by omega)
    have SPX := fun W A c hT hB hc hm => splitL_any A (a + 1 + q) c (B.take (a + 1) ++ E) W hT hB hc hm (by omega)
    rw [splitL_small (by rw [List.length_append, List.length_take]; omega), hmore E] at SPX
    have SP0 := fun W hT hB => splitL_any A a c (B.take a) W hT hB (by omega) hm (by omega)
    rw [splitL_small (by rw [List.length_take]; omega), hcut] at SP0
    have d1 : ((er : Int) == 0) = false := by simp; omega
    have d2 : ((er : Int) == 2) = false := by simp; omega
    have d3 : decide ((a : Int) < 0) = false := by simp
    have d4 : decide (m ≤ a) = false := by simp; omega
    have i1 : (a : Int) + 1 ≤ (c : Int) := by omega
    have i2 : (a : Int) ≤ (c : Int) := by omega
    have i3 : a + 1 ≤ c := by omega
    have i4 : a ≤ c := by omega
    have e1 : (a : Int) + 1 = ((a + 1 : Nat) : Int) := by omega
    obtain ⟨a1, ha1⟩ : ∃ x, a + 1 = x := ⟨_, rfl⟩
    rw [ha1] at e1 hB1 SPX i3
    rw [e1] at i1
    have HA1 := Lib.hid ha1
    have HR := Lib.hid hR
    have HG := Lib.hid hg
    have ha1m : a1 ≤ m := by omega
    have hwrap : IntKind.i64.wrap (a1 : Int) = (a1 : Int) := by rw [IntKind.wrap_i64]; omega
    clear ha1 hR hg hz hmore hcut F1 F2 HSB
    obtain ⟨D, hD⟩ : ∃ D, B.take a1 = D := ⟨_, rfl⟩
    rw [hD] at hB1 SPX
    clear hD
    go_wp2_with fail
    refine wp_region_held_drew (S := Kept w2) (by kernel_rfl) (Kept.refl w2).drew (fun hS => ?_)
    revert hS
    generalize w2.drew = X0
    intro hS
    have hB2 := (hB1.below G2).more G2.size
    have hE2 := (hE.below G2).more G2.size
    refine wpAnyH_take (i := 1) (oi := ⟨some 50, _, _, _, _, _⟩) (v := ?va1) rfl (by kernel_rfl) (by kernel_rfl) (by kernel_rfl) (fun _ _ _ h => h) (Or.inl ⟨by rfl, ?ya1⟩) hS ?ra1
    case ya1 => intro W hW; go_simp; first | done | with_reducible rfl
    simp only [Act.put, List.setIfInBounds_toArray, List.set_cons_zero, List.set_cons_succ]
    refine wpAnyH_take (i := 2) (oi := ⟨some 51, _, _, _, _, _⟩) (v := ?va2) rfl (by kernel_rfl) (by kernel_rfl) (by kernel_rfl) (fun _ _ _ h => h) (Or.inl ⟨by rfl, ?ya2⟩) hS ?ra2
    case ya2 => intro W hW; go_simp; first | done | with_reducible rfl
    simp only [Act.put, List.setIfInBounds_toArray, List.set_cons_zero, List.set_cons_succ]
    refine wpAnyH_take (i := 3) (oi := ⟨some 52, _, _, _, _, _⟩) (v := ?va3) rfl (by kernel_rfl) (by kernel_rfl) (by kernel_rfl) (fun _ _ _ h => h) (Or.inl ⟨by rfl, ?ya3⟩) hS ?ra3
    case ya3 => intro W hW; go_simp; first | done | with_reducible rfl
    simp only [Act.put, List.setIfInBounds_toArray, List.set_cons_zero, List.set_cons_succ]
    refine wpAnyH_take (i := 4) (oi := ⟨some 53, _, _, _, _, _⟩) (v := ?va4) rfl (by kernel_rfl) (by kernel_rfl) (by kernel_rfl) (fun _ _ _ h => h) (Or.inl ⟨by rfl, ?ya4⟩) hS ?ra4
    case ya4 => intro W hW; go_simp; first | done | with_reducible rfl
    simp only [Act.put, List.setIfInBounds_toArray, List.set_cons_zero, List.set_cons_succ]
    refine wpAnyH_take (i := 6) (oi := ⟨some 55, _, _, _, _, _⟩) (v := ?va6) rfl (by kernel_rfl) (by kernel_rfl) (by kernel_rfl) (fun _ _ _ h => h) (Or.inl ⟨by rfl, ?ya6⟩) hS ?ra6
    case ya6 => intro W hW; go_simp; first | done | with_reducible rfl
    simp only [Act.put, List.setIfInBounds_toArray, List.set_cons_zero, List.set_cons_succ]
    refine wpAnyH_take (i := 7) (oi := ⟨some 56, _, _, _, _, _⟩) (v := ?va7) rfl (by kernel_rfl) (by kernel_rfl) (by kernel_rfl) (fun _ _ _ h => h) (Or.inl ⟨by rfl, ?ya7⟩) hS ?ra7
    case ya7 => intro W hW; go_simp; first | done | with_reducible rfl
    simp only [Act.put, List.setIfInBounds_toArray, List.set_cons_zero, List.set_cons_succ]
    refine wpAnyH_take (i := 8) (oi := ⟨some 57, _, _, _, _, _⟩) (v := ?va8) rfl (by kernel_rfl) (by kernel_rfl) (by kernel_rfl) (fun _ _ _ h => h) (Or.inl ⟨by rfl, ?ya8⟩) hS ?ra8
    case ya8 => intro W hW; go_simp; first | done | with_reducible rfl
    simp only [Act.put, List.setIfInBounds_toArray, List.set_cons_zero, List.set_cons_succ]
    refine wpAnyH_take (i := 9) (oi := ⟨some 58, _, _, _, _, _⟩) (v := ?va9) rfl (by kernel_rfl) (by kernel_rfl) (by kernel_rfl) (fun _ _ _ h => h) (Or.inl ⟨by rfl, ?ya9⟩) hS ?ra9
    case ya9 => intro W hW; go_simp; first | done | with_reducible rfl
    simp only [Act.put, List.setIfInBounds_toArray, List.set_cons_zero, List.set_cons_succ]
    refine wpAnyH_take (i := 10) (oi := ⟨some 59, _, _, _, _, _⟩) (v := ?va10) rfl (by kernel_rfl) (by kernel_rfl) (by kernel_rfl) (fun _ _ _ h => h) (Or.inl ⟨by rfl, ?ya10⟩) hS ?ra10
    case ya10 => intro W hW; go_simp; first | done | with_reducible rfl
    simp only [Act.put, List.setIfInBounds_toArray, List.set_cons_zero, List.set_cons_succ]
    refine wpAnyH_ready (rs := [0]) (by kernel_rfl) (by simp) ?_
    refine (AllReadyH.cons (o := ⟨some 49, _, _, _, _, _⟩) rfl (fun K hK => ?_) AllReadyH.nil)
    go_simp
    have k1 := hS.alloc (.cells #[] 5)
    refine hK.out _ _ k1 (fun _ => ?_)
    clear hK K
    try simp only [Act.put, List.setIfInBounds_toArray, List.set_cons_zero, List.set_cons_succ]
    refine wpAnyH_ready (rs := [5]) (by kernel_rfl) (by simp) ?_
    refine (AllReadyH.cons (o := ⟨some 54, _, _, _, _, _⟩) rfl (fun K hK => ?_) AllReadyH.nil)
    refine step_appS _ rfl (.tmp 49) (.tmp 53) rfl X0.heap.size _ 0 [] rfl (own_empty X0 X0.heap.size (Nat.le_refl _)) w2.heap.size A a1 c D rfl (hB2.below k1) (by omega) (by simp) a1 D (by omega) rfl ?_
    intro A7 c7 X2 _ _ ho7 hb7
    have k2 : Kept w2 X2 := Below.trans k1 (hb7.mono hS.size)
    refine hK.out _ _ k2 (fun _ => ?_)
    clear hK K
    try simp only [Act.put, List.setIfInBounds_toArray, List.set_cons_zero, List.set_cons_succ]
    refine wpAnyH_ready (rs := [11]) (by kernel_rfl) (by simp) ?_
    refine (AllReadyH.cons (o := ⟨some 60, _, _, _, _, _⟩) rfl (fun K hK => ?_) AllReadyH.nil)
    refine step_appS _ rfl (.tmp 54) (.tmp 59) rfl X0.heap.size _ a1 D rfl ho7 w2.heap.size A' q c' E rfl (hE2.below k2) (by omega) (by have := hb7.size; simp at this; omega) (a1 + q) (D ++ E) rfl rfl ?_
    intro A8 c8 X3 hc8 hB8 ho8 hb8
    have k3 : Kept w2 X3 := Below.trans k2 (hb8.mono hS.size)
    have hm8 := ho8.view.2.1
    refine hK.out _ _ k3 (fun _ => ?_)
    clear hK K
    try simp only [Act.put, List.setIfInBounds_toArray, List.set_cons_zero, List.set_cons_succ]
    refine wpAnyH_ready (rs := [12]) (by kernel_rfl) (by simp) ?_
    refine (AllReadyH.cons (o := ⟨some 61, _, _, _, _, _⟩) rfl (fun K hK => ?_) AllReadyH.nil)
    go_simp
    refine (SPX X3 A8 c8 (ht.below (G2.trans (Below.mono k3 G2.size))) hB8 hc8 hm8).mono ?_
    rintro e X4 ⟨v9, rfl, r9, g9⟩
    have k4 : Kept w2 X4 := k3.step g9
    refine hK.out _ _ k4 (fun _ => ?_)
    clear hK K
    obtain ⟨A9, c9, rfl, r9a, r9b, r9c⟩ := r9.view
    rw [HR.out]
    refine wpAnyH_take (i := 13) (oi := ⟨some 48, _, _, _, _, _⟩) (v := ?vb13) rfl (by kernel_rfl) (by kernel_rfl) (by kernel_rfl) (fun _ _ _ h => h) (Or.inl ⟨by rfl, ?yb13⟩) k4 ?rb13
    case yb13 => intro W hW; go_simp; first | done | with_reducible rfl
    simp only [Act.put, List.setIfInBounds_toArray, List.set_cons_zero, List.set_cons_succ]
    refine wpAnyH_take (i := 14) (oi := ⟨some 62, _, _, _, _, _⟩) (v := ?vb14) rfl (by kernel_rfl) (by kernel_rfl) (by kernel_rfl) (fun _ _ _ h => h) (Or.inl ⟨by rfl, ?yb14⟩) k4 ?rb14
    case yb14 => intro W hW; go_simp; first | done | with_reducible rfl
    simp only [Act.put, List.setIfInBounds_toArray, List.set_cons_zero, List.set_cons_succ]
    refine wpAnyH_take (i := 15) (oi := ⟨some 63, _, _, _, _, _⟩) (v := ?vb15) rfl (by kernel_rfl) (by kernel_rfl) (by kernel_rfl) (fun _ _ _ h => h) (Or.inl ⟨by rfl, ?yb15⟩) k4 ?rb15
    case yb15 => intro W hW; go_simp; first | done | with_reducible rfl
    simp only [Act.put, List.setIfInBounds_toArray, List.set_cons_zero, List.set_cons_succ]
    refine wpAnyH_take (i := 16) (oi := ⟨some 64, _, _, _, _, _⟩) (v := ?vb16) rfl (by kernel_rfl) (by kernel_rfl) (by kernel_rfl) (fun _ _ _ h => h) (Or.inl ⟨by rfl, ?yb16⟩) k4 ?rb16
    case yb16 => intro W hW; go_simp; first | done | with_reducible rfl
    simp only [Act.put, List.setIfInBounds_toArray, List.set_cons_zero, List.set_cons_succ]
    refine wpAnyH_take (i := 17) (oi := ⟨some 9, _, _, _, _, _⟩) (v := ?vb17) rfl (by kernel_rfl) (by kernel_rfl) (by kernel_rfl) (fun _ _ _ h => h) (Or.inl ⟨by rfl, ?yb17⟩) k4 ?rb17
    case yb17 => intro W hW; go_simp; first | done | with_reducible rfl
    simp only [Act.put, List.setIfInBounds_toArray, List.set_cons_zero, List.set_cons_succ]
    refine wpAnyH_take (i := 18) (oi := ⟨some 10, _, _, _, _, _⟩) (v := ?vb18) rfl (by kernel_rfl) (by kernel_rfl) (by kernel_rfl) (fun _ _ _ h => h) (Or.inl ⟨by rfl, ?yb18⟩) k4 ?rb18
    case yb18 => intro W hW; go_simp; first | done | with_reducible rfl
    simp only [Act.put, List.setIfInBounds_toArray, List.set_cons_zero, List.set_cons_succ]
    refine wpAnyH_take (i := 19) (oi := ⟨some 11, _, _, _, _, _⟩) (v := ?vb19) rfl (by kernel_rfl) (by kernel_rfl) (by kernel_rfl) (fun _ _ _ h => h) (Or.inl ⟨by rfl, ?yb19⟩) k4 ?rb19
    case yb19 => intro W hW; go_simp; first | done | with_reducible rfl
    simp only [Act.put, List.setIfInBounds_toArray, List.set_cons_zero, List.set_cons_succ]
    refine wpAnyH_done (by kernel_rfl) ?_ _
    have G9 : Below w.heap.size w X4 := G2.trans (Below.mono k4 G2.size)
    have SP1 := SP0 X4 (ht.below G9) ((hB0.below G9).more G9.size)
    clear hE2 hB2 ho7 ho8 hb7 hb8 k1 k2 k3 hS hB8 SPX r9 r9c g9 SP0
    go_wp2_with fail
    refine SP1.mono ?_
    rintro e X5 ⟨v10, rfl, r10, g10⟩
    obtain ⟨A10, c10, rfl, r10a, r10b, r10c⟩ := r10.view
    rw [HR.out]
    have G10 : Below w.heap.size w X5 := G9.trans (g10.mono G9.size)
    clear r10 r10c SP1 g10
    rcases HG.out with h | h
    · subst h
      go_wp2_with fail
      go_ret
      exact ⟨rfl, G10⟩
    · subst h
      go_wp2_with fail
      go_ret
      exact ⟨rfl, G10⟩
end Go.Proofs.YtknnncdmpfmgkaaDoor
