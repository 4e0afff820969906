/-
  transeptlaw04.FrameJoins returns true, whatever it is called with, and turns nothing that was there. Condition: the table's cells hold what the program's text lays.
-/
import Derived.Test.YtknnncdmpfmgkaaDoorBase
namespace Go.Proofs.YtknnncdmpfmgkaaDoor
open Go.RowKit

theorem Rv.cut {w : World} {A : Option Addr} {n : Nat} {bs : List (List UInt8)} (h : Rv w A n bs) {k cap : Nat} (hk : k ≤ n) (hc : n ≤ cap) : Rv w (if cap = k then A else A.map (·.add k)) (n - k) (bs.drop k) := by
  refine ⟨by rw [List.length_drop, h.1], fun i l hl => ?_⟩
  rw [List.getElem?_drop] at hl
  obtain ⟨b, off, A', c', rfl, h2, h3, r⟩ := h.2 (k + i) l hl
  have hlt := (List.getElem?_eq_some_iff.1 hl).1
  rw [h.1] at hlt
  rw [if_neg (by omega)]
  refine ⟨b, off + k, A', c', by simp [Addr.add_lit], h2, ?_, r⟩
  rw [Nat.add_assoc]
  exact h3
theorem join_two (bs cs : List (List UInt8)) : join bs ++ (join cs).drop 4 = join (bs ++ cs) := by
  have e : (join cs).drop 4 = frs cs := rfl
  rw [e]
  simp [join, frs_append]

set_option maxHeartbeats 4000000 in
set_option maxRecDepth 100000 in
theorem joins_walk (A : Option Addr) (n c : Nat) (b0 : List (List UInt8)) (A' : Option Addr) (n' c' : Nat) (d0 : List (List UInt8)) (w : World) (h : Rv w A n b0) (hn : n ≤ 9223372036854775807) (h' : Rv w A' n' d0) (hn' : n' ≤ 9223372036854775807) (ht : Tab w) :
    Calls Tryd.prog 10 #[.slice A n c, .slice A' n' c'] w fun e w' => e = .returned (.bool true) ∧ Below w.heap.size w w' := by
  have hJ := fewS_join b0
  have hJ' := fewS_join d0
  have hfin := fewS_fine b0
  have hov := fewS_over b0
  have hfl := (fewS_neat b0).1
  have hfin' := fewS_fine d0
  have hov' := fewS_over d0
  have hfl' := (fewS_neat d0).1
  have HSP : Hid (splitL (join (fewS b0 ++ fewS d0)) = (fewS b0 ++ fewS d0, (join (fewS b0 ++ fewS d0)).length, 0)) := by
    refine splitL_join (by rw [List.length_append]; omega) (fun l hl => ?_) ?_
    · rcases List.mem_append.1 hl with hl | hl
      · have := (fewS_neat b0).2 l hl; omega
      · have := (fewS_neat d0).2 l hl; omega
    · rw [← join_two, List.length_append, List.length_drop]; omega
  have FE := fun w1 (g : Below w.heap.size w w1) => few_any A n c b0 w1 (h.below g) hn
  have FE' := fun w1 (g : Below w.heap.size w w1) => few_any A' n' c' d0 w1 (h'.below g) hn'
  generalize fewS b0 = bs at *
  generalize fewS d0 = cs at *
  clear h h'
  have HJ2 : Hid (join (bs ++ cs) = join bs ++ (join cs).drop 4) := (join_two bs cs).symm
  have hj4 : 4 ≤ (join cs).length := by rw [join_len]; omega
  go_enter Tryd.func10, Tryd.ntmps10
  go_wp2_with fail
  refine (shown_any w ht).mono ?_
  rintro e w1 ⟨rfl, g1⟩
  go_wp2_with fail
  refine (FE w1 g1).mono ?_
  rintro e w2 ⟨va, vb, rfl, ra, sb, g2⟩
  have G2 : Below w.heap.size w w2 := g1.trans (g2.mono g1.size)
  obtain ⟨Aa, ca, rfl, ha1, ha2, hav⟩ := ra.view
  obtain ⟨Ab, cb, rfl, hb1, hb2, hbv⟩ := sb.view
  clear FE g1 g2 ra sb
  go_wp2_with fail
  refine (FE' w2 G2).mono ?_
  rintro e w3 ⟨va, vb, rfl, ra, sb, g3⟩
  have G3 : Below w.heap.size w w3 := G2.trans (g3.mono G2.size)
  have hav := hav.below g3
  have hbv := hbv.below g3
  obtain ⟨Ad, cd, rfl, hd1, hd2, hdv⟩ := ra.view
  obtain ⟨Ae, ce, rfl, he1, he2, hev⟩ := sb.view
  clear FE' g3 G2 ra sb
  go_wp2_with fail
  refine (join_fit Aa bs.length ca bs w3 (ht.below G3) hav hfin hov).mono ?_
  rintro e w4 ⟨A4, c4, rfl, o4, g4⟩
  have G4 : Below w.heap.size w w4 := G3.trans (g4.mono G3.size)
  obtain ⟨o4a, o4b, o4c⟩ := o4.view
  have hbv := hbv.below g4
  have hdv := hdv.below g4
  have hev := hev.below g4
  clear g4 hav o4 G3
  go_wp2_with fail
  refine (join_fit Ad cs.length cd cs w4 (ht.below G4) hdv hfin' hov').mono ?_
  rintro e w5 ⟨A5, c5, rfl, o5, g5⟩
  have G5 : Below w.heap.size w w5 := G4.trans (g5.mono G4.size)
  obtain ⟨o5a, o5b, o5c⟩ := o5.view
  have hbv := hbv.below g5
  have hev := hev.below g5
  have o4c := (o4c.below g5).more g5.size
  clear g5 hdv o5 G4
  have HSL : Hid ((join (bs ++ cs)).length = (join bs).length + (join cs).length - 4) := by
    show (join (bs ++ cs)).length = _
    rw [HJ2.out, List.length_append, List.length_drop]
    omega
  have hcut := o5c.cut (k := 4) hj4 o5a
  obtain ⟨A6, hA6⟩ : ∃ A6, (if c5 = 4 then A5 else A5.map (fun x => x.add 4)) = A6 := ⟨_, rfl⟩
  rw [hA6] at hcut
  obtain ⟨J, hJe⟩ : ∃ J, (join bs).length = J := ⟨_, rfl⟩
  obtain ⟨U, hKe⟩ : ∃ J, (join cs).length = J := ⟨_, rfl⟩
  rw [hJe, hKe] at HSL
  rw [hJe] at hJ o4a o4c ⊢
  rw [hKe] at hJ' hj4 o5a o5c hcut ⊢
  clear hJe hKe o5c
  have d1 : decide ((U : Int) < 4) = false := by simp; omega
  have h45 : 4 ≤ c5 := by omega
  have i4 : (4 : Int) ≤ (U : Int) := by omega
  have SPX := fun W A c hT hB hc hm => splitL_any A (J + (U - 4)) c (join (bs ++ cs)) W hT hB hc hm (by omega)
  rw [HSP.out] at SPX
  obtain ⟨M, hMe⟩ : ∃ J, (join (bs ++ cs)).length = J := ⟨_, rfl⟩
  rw [hMe] at SPX HSL
  clear hMe HSP
  have eM : (J : Int) + (U : Int) - 4 = (M : Int) := by have := HSL.out; omega
  go_wp2_with fail
  refine wp_region_held_drew (S := Kept w5) (by kernel_rfl) (Kept.refl w5).drew (fun hS => ?_)
  revert hS
  generalize w5.drew = X0
  intro hS
  refine wpAnyH_take (i := 1) (oi := ⟨some 51, _, _, _, _, _⟩) (v := ?va1) rfl (by kernel_rfl) (by kernel_rfl) (by kernel_rfl) (fun _ _ _ h => h) (Or.inl ⟨by rfl, ?ya1⟩) hS ?ra1
  case ya1 => intro W hW; go_simp; first | done | with_reducible rfl
  simp only [Act.put, List.setIfInBounds_toArray, List.set_cons_zero, List.set_cons_succ]
  refine wpAnyH_take (i := 3) (oi := ⟨some 53, _, _, _, _, _⟩) (v := ?va3) rfl (by kernel_rfl) (by kernel_rfl) (by kernel_rfl) (fun _ _ _ h => h) (Or.inl ⟨by rfl, ?ya3⟩) hS ?ra3
  case ya3 => intro W hW; go_simp; first | done | with_reducible rfl
  simp only [Act.put, List.setIfInBounds_toArray, List.set_cons_zero, List.set_cons_succ]
  refine wpAnyH_take (i := 4) (oi := ⟨some 54, _, _, _, _, _⟩) (v := .slice A6 (U - 4) (c5 - 4)) rfl (by kernel_rfl) (by kernel_rfl) (by kernel_rfl) (fun _ _ _ h => h) (Or.inl ⟨by rfl, ?ya4⟩) hS ?ra4
  case ya4 => intro W hW; go_simp; exact hA6
  simp only [Act.put, List.setIfInBounds_toArray, List.set_cons_zero, List.set_cons_succ]
  refine wpAnyH_ready (rs := [0]) (by kernel_rfl) (by simp) ?_
  refine (AllReadyH.cons (o := ⟨some 50, _, _, _, _, _⟩) rfl (fun K hK => ?_) AllReadyH.nil)
  go_simp
  have k1 := hS.alloc (.cells #[] 5)
  refine hK.out _ _ k1 (fun _ => ?_)
  clear hK K
  try simp only [Act.put, List.setIfInBounds_toArray, List.set_cons_zero, List.set_cons_succ]
  refine wpAnyH_ready (rs := [2]) (by kernel_rfl) (by simp) ?_
  refine (AllReadyH.cons (o := ⟨some 52, _, _, _, _, _⟩) rfl (fun K hK => ?_) AllReadyH.nil)
  refine step_appS _ rfl (.tmp 50) (.tmp 51) rfl X0.heap.size _ 0 [] rfl (own_empty X0 X0.heap.size (Nat.le_refl _)) w5.heap.size A4 J c4 (join bs) rfl (o4c.below k1) (by omega) (by simp) J (join bs) (by omega) rfl ?_
  intro A7 c7 X2 _ _ ho7 hb7
  have k2 : Kept w5 X2 := Below.trans k1 (hb7.mono hS.size)
  refine hK.out _ _ k2 (fun _ => ?_)
  clear hK K
  try simp only [Act.put, List.setIfInBounds_toArray, List.set_cons_zero, List.set_cons_succ]
  refine wpAnyH_ready (rs := [5]) (by kernel_rfl) (by simp) ?_
  refine (AllReadyH.cons (o := ⟨some 55, _, _, _, _, _⟩) rfl (fun K hK => ?_) AllReadyH.nil)
  refine step_appS _ rfl (.tmp 52) (.tmp 54) rfl X0.heap.size _ J (join bs) rfl ho7 w5.heap.size A6 (U - 4) (c5 - 4) ((join cs).drop 4) rfl (hcut.below k2) (by omega) (by have := hb7.size; simp at this; omega) (J + (U - 4)) (join (bs ++ cs)) rfl HJ2.out.symm ?_
  intro A8 c8 X3 hc8 hB8 ho8 hb8
  have k3 : Kept w5 X3 := Below.trans k2 (hb8.mono hS.size)
  have hm8 := ho8.view.2.1
  refine hK.out _ _ k3 (fun _ => ?_)
  clear hK K
  try simp only [Act.put, List.setIfInBounds_toArray, List.set_cons_zero, List.set_cons_succ]
  refine wpAnyH_ready (rs := [6]) (by kernel_rfl) (by simp) ?_
  refine (AllReadyH.cons (o := ⟨some 56, _, _, _, _, _⟩) rfl (fun K hK => ?_) AllReadyH.nil)
  go_simp
  refine (SPX X3 A8 c8 (ht.below (G5.trans (Below.mono k3 G5.size))) hB8 hc8 hm8).mono ?_
  rintro e X4 ⟨v9, rfl, r9, g9⟩
  have k4 : Kept w5 X4 := k3.step g9
  refine hK.out _ _ k4 (fun _ => ?_)
  clear hK K
  obtain ⟨A9, c9, rfl, r9a, r9b, r9c⟩ := r9.view
  rw [List.length_append] at r9a r9c ⊢
  refine wpAnyH_take (i := 7) (oi := ⟨some 49, _, _, _, _, _⟩) (v := ?vb7) rfl (by kernel_rfl) (by kernel_rfl) (by kernel_rfl) (fun _ _ _ h => h) (Or.inl ⟨by rfl, ?yb7⟩) k4 ?rb7
  case yb7 => intro W hW; go_simp; first | done | with_reducible rfl
  simp only [Act.put, List.setIfInBounds_toArray, List.set_cons_zero, List.set_cons_succ]
  refine wpAnyH_take (i := 8) (oi := ⟨some 57, _, _, _, _, _⟩) (v := ?vb8) rfl (by kernel_rfl) (by kernel_rfl) (by kernel_rfl) (fun _ _ _ h => h) (Or.inl ⟨by rfl, ?yb8⟩) k4 ?rb8
  case yb8 => intro W hW; go_simp; first | done | with_reducible rfl
  simp only [Act.put, List.setIfInBounds_toArray, List.set_cons_zero, List.set_cons_succ]
  refine wpAnyH_take (i := 9) (oi := ⟨some 58, _, _, _, _, _⟩) (v := ?vb9) rfl (by kernel_rfl) (by kernel_rfl) (by kernel_rfl) (fun _ _ _ h => h) (Or.inl ⟨by rfl, ?yb9⟩) k4 ?rb9
  case yb9 => intro W hW; go_simp; first | done | with_reducible rfl
  simp only [Act.put, List.setIfInBounds_toArray, List.set_cons_zero, List.set_cons_succ]
  refine wpAnyH_take (i := 10) (oi := ⟨some 59, _, _, _, _, _⟩) (v := ?vb10) rfl (by kernel_rfl) (by kernel_rfl) (by kernel_rfl) (fun _ _ _ h => h) (Or.inl ⟨by rfl, ?yb10⟩) k4 ?rb10
  case yb10 => intro W hW; go_simp; first | done | with_reducible rfl
  simp only [Act.put, List.setIfInBounds_toArray, List.set_cons_zero, List.set_cons_succ]
  refine wpAnyH_take (i := 11) (oi := ⟨some 14, _, _, _, _, _⟩) (v := ?vb11) rfl (by kernel_rfl) (by kernel_rfl) (by kernel_rfl) (fun _ _ _ h => h) (Or.inl ⟨by rfl, ?yb11⟩) k4 ?rb11
  case yb11 => intro W hW; go_simp; first | done | with_reducible rfl
  simp only [Act.put, List.setIfInBounds_toArray, List.set_cons_zero, List.set_cons_succ]
  refine wpAnyH_take (i := 12) (oi := ⟨some 15, _, _, _, _, _⟩) (v := ?vb12) rfl (by kernel_rfl) (by kernel_rfl) (by kernel_rfl) (fun _ _ _ h => h) (Or.inl ⟨by rfl, ?yb12⟩) k4 ?rb12
  case yb12 => intro W hW; go_simp; first | done | with_reducible rfl
  simp only [Act.put, List.setIfInBounds_toArray, List.set_cons_zero, List.set_cons_succ]
  refine wpAnyH_take (i := 13) (oi := ⟨some 16, _, _, _, _, _⟩) (v := ?vb13) rfl (by kernel_rfl) (by kernel_rfl) (by kernel_rfl) (fun _ _ _ h => h) (Or.inl ⟨by rfl, ?yb13⟩) k4 ?rb13
  case yb13 => intro W hW; go_simp; first | done | with_reducible rfl
  simp only [Act.put, List.setIfInBounds_toArray, List.set_cons_zero, List.set_cons_succ]
  refine wpAnyH_done (by kernel_rfl) ?_ _
  have G9 : Below w.heap.size w X4 := G5.trans (Below.mono k4 G5.size)
  have hbv9 := hbv.below k4
  have hev9 := hev.below k4
  clear hbv hev o4c hcut ho7 ho8 hb7 hb8 k1 k2 k3 hS hB8 SPX r9 g9 HJ2
  obtain ⟨P, hP⟩ : ∃ P, bs.length = P := ⟨_, rfl⟩
  obtain ⟨Q, hQ⟩ : ∃ P, cs.length = P := ⟨_, rfl⟩
  have r9t := r9c.take (k := P) (by omega)
  have r9d := r9c.cut (k := P) (cap := c9) (by omega) r9a
  rw [List.take_left' hP] at r9t
  rw [List.drop_left' hP, show bs.length + cs.length - P = Q by omega] at r9d
  obtain ⟨A10, hA10⟩ : ∃ A6, (if c9 = P then A9 else A9.map (fun x => x.add P)) = A6 := ⟨_, rfl⟩
  rw [hA10] at r9d
  rw [hP] at hfl hbv9 hb1 ha1 ⊢
  rw [hQ] at hfl' hev9 he1 hd1 ⊢
  rw [hP, hQ] at r9a
  clear r9c
  have SA := same_any A9 P c9 bs Ab P cb bs X4 r9t hbv9 (by omega) (by omega)
  simp only [decide_true] at SA
  have hPc : P ≤ c9 := by omega
  have hPQ : P ≤ P + Q := by omega
  have HPQ := Lib.hid (And.intro hP hQ)
  clear hP hQ
  go_wp2_with fail
  refine SA.mono ?_
  rintro e X5 ⟨rfl, g10⟩
  have G10 : Below w.heap.size w X5 := G9.trans (g10.mono G9.size)
  have SB := same_any A10 Q (c9 - P) cs Ae Q ce cs X5 (r9d.below g10) (hev9.below g10) (by omega) (by omega)
  simp only [decide_true] at SB
  clear SA r9t r9d hbv9 hev9 g10 G9
  have eQ : P + Q - P = Q := by omega
  go_wp2_with fail
  refine SB.mono ?_
  rintro e X6 ⟨rfl, g11⟩
  go_wp2_with fail
  go_ret
  exact ⟨rfl, G10.trans (g11.mono G10.size)⟩
end Go.Proofs.YtknnncdmpfmgkaaDoor
