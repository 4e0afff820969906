/-
  What sha.Mac answers: the tag of the bytes under the key; nothing that was in memory turns. Conditions: the tables hold what the program's text lays; there are at most 1000000 bytes each.
-/
import Derived.Test.YtiigmpoopmnnhaaDoorFill
namespace Go.Proofs.YtiigmpoopmnnhaaDoor
open Go.RowKit

set_option maxHeartbeats 4000000 in
set_option maxRecDepth 100000 in
theorem mac_any (A : Option Addr) (n c : Nat) (k : List UInt8) (A' : Option Addr) (n' c' : Nat) (b : List UInt8) (w : World) (ht : Tab w) (h : Bs w w.heap.size A n k) (hc : n ≤ c) (hcm : c ≤ 9223372036854775807) (hn : n ≤ 1000000)
    (h' : Bs w w.heap.size A' n' b) (hc' : n' ≤ c') (hcm' : c' ≤ 9223372036854775807) (hn' : n' ≤ 1000000) :
    Calls Tryd.prog 13 #[.slice A n c, .slice A' n' c'] w fun e w' => e = .returned (.agg (vbs (mac k b)).toArray) ∧ Below w.heap.size w w' := by
  have FI := fun w h1 h2 => filled_any A n c k w h1 h2 hc hcm (by omega)
  have lf := full_length k
  have ST := start_any
  have X1 : ∀ w, Calls Tryd.prog 21 #[.agg (vbs (full k)).toArray, .int .u8 54] w fun e w' => Gives w 64 (xo (full k) 54) e w' := fun w => xored_any (full k) 54 w lf
  have X2 : ∀ w, Calls Tryd.prog 21 #[.agg (vbs (full k)).toArray, .int .u8 92] w fun e w' => Gives w 64 (xo (full k) 92) e w' := fun w => xored_any (full k) 92 w lf
  have l1 : (xo (full k) 54).length = 64 := by rw [xo_length, lf]
  have l2 : (xo (full k) 92).length = 64 := by rw [xo_length, lf]
  have hlb := h'.1
  obtain ⟨D, hD⟩ : ∃ D, D = digest (xo (full k) 54 ++ b) := ⟨_, rfl⟩
  have lD : D.length = 32 := by rw [hD]; exact digest_length _
  have M1 := fun A c w h1 h2 h3 h4 => more_any [] A 64 c (xo (full k) 54) w h1 h2 h3 h4 (by simp)
  have M2 := fun w h1 h2 => more_any (xo (full k) 54) A' n' c' b w h1 h2 hc' hcm' (by omega)
  have S1 := fun w h1 => stateSum_any (xo (full k) 54 ++ b) w h1 (by simp; omega)
  have M3 := fun A c w h1 h2 h3 h4 => more_any [] A 64 c (xo (full k) 92) w h1 h2 h3 h4 (by simp)
  have M4 := fun A w h1 h2 => more_any (xo (full k) 92) A 32 32 D w h1 h2 (Nat.le_refl _) (by omega) (by omega)
  have S2 := fun w h1 => stateSum_any (xo (full k) 92 ++ D) w h1 (by simp; omega)
  rw [← hD] at S1
  have HM : Hid (vbs (digest (xo (full k) 92 ++ D)) = vbs (mac k b)) := by show _ = _; rw [hD]; rfl
  rw [List.nil_append] at M1 M3
  clear hD
  have z37 : (Tryd.prog.info? 37).map (·.size) = some (vbs (full k)).length := by rw [vbs_length, lf]; exact size37
  have n37 : (vbs (full k)).length = (vbs (List.replicate 64 0)).length := by rw [vbs_length, lf]; simp [vbs]
  have o37 := vbs_one (full k)
  have z25 : (Tryd.prog.info? 25).map (·.size) = some (vbs D).length := by rw [vbs_length, lD]; exact size25
  have n25 : (vbs D).length = (vbs (List.replicate 32 0)).length := by rw [vbs_length, lD]; rfl
  have o25 := vbs_one D
  have y25 : (Tryd.prog.info? 25).map (·.size) = some (vbs (digest (xo (full k) 92 ++ D))).length := by rw [vbs_length, digest_length]; exact size25
  have m25 : (vbs (digest (xo (full k) 92 ++ D))).length = (vbs (List.replicate 32 0)).length := by rw [vbs_length, digest_length]; rfl
  have p25 := vbs_one (digest (xo (full k) 92 ++ D))
  generalize stc (xo (full k) 92 ++ D) = C4 at *
  generalize vbs (digest (xo (full k) 92 ++ D)) = V at *
  generalize stc (xo (full k) 54 ++ b) = C2 at *
  generalize stc (xo (full k) 54) = C1 at *
  generalize stc (xo (full k) 92) = C3 at *
  generalize stc [] = C0 at *
  generalize xo (full k) 54 = K1 at *
  generalize xo (full k) 92 = K2 at *
  generalize vbs (full k) = F at *
  go_enter Tryd.func13, Tryd.ntmps13
  go_wp2_with (first
    | ((with_reducible show wpList _ _ _ _ _ _); first
      | (refine wp_new _ rfl 25 rfl _ zero25 ?_; intro w1 g1 B1 hf1; simp only [Act.put, List.setIfInBounds_toArray, List.set_cons_zero, List.set_cons_succ])))
  refine (FI w1 (ht.below hf1.below) ((h.below hf1.below).more hf1.below.size)).mono ?_
  rintro e w2 ⟨rfl, hb2⟩
  have bel2 : Below w.heap.size w w2 := hf1.below.trans (hb2.mono hf1.below.size)
  have E1 := B1.kept hb2
  have L1 := Nat.le_of_eq hf1.is.symm
  clear hf1 hb2 B1
  go_wp2_with (first
    | ((with_reducible show wpList _ _ _ _ _ _); first
      | (refine wp_new _ rfl 37 rfl _ zero37 ?_; intro w3 g2 B2 hf2; simp only [Act.put, List.setIfInBounds_toArray, List.set_cons_zero, List.set_cons_succ])
      | (refine wp_putAll _ rfl 37 (.tmp 5) (.tmp 8) rfl g2 37 _ _ rfl rfl B2 n37 z37 o37 ?_; intro w4 B4 U4; simp only [Act.put])))
  have q1 := hf2.is
  have q2 := hf2.size
  have q3 := U4.size
  have q4 := E1.lt
  have bel4 : Below w.heap.size w w4 := (bel2.trans (hf2.below.mono bel2.size)).trans (U4.below (by have := bel2.size; omega))
  have D1 := (hf2.blk E1).upd U4 (by omega)
  have T4 := ht.below bel4
  have S4 := (h'.below bel4).more bel4.size
  have LB : Hid (w.heap.size ≤ g1 ∧ g1 < g2) := by refine ⟨?_, ?_⟩ <;> omega
  clear q1 q2 q3 q4 hf2 U4 E1 L1 bel2 B2 FI
  have hS0 : Kept w4 w4.drew := (Kept.refl w4).drew
  refine Code.wp_mono (Q := fun e a' w' => e = .normal ∧ ∃ g3 A2 c2, a' = ⟨#[.slice A n c, .slice A' n' c', undef, undef, .pointer (some ⟨g1, 0, none⟩), .pointer (some ⟨g2, 0, none⟩), .pointer (some ⟨g3, 0, none⟩), .slice A n c, .agg F.toArray, .agg C0.toArray, .agg F.toArray, .slice A2 64 c2, .agg C1.toArray, .slice A' n' c', .agg C2.toArray, .agg (vbs D).toArray, undef, undef, undef, undef, undef, undef, undef], []⟩ ∧ Kept w4 w' ∧ w4.heap.size ≤ g3 ∧ Blk w' g3 25 (vbs D)) ?imp ?reg
  case reg =>
    refine wp_region_held_drew (S := fun W => Kept w4 W) (by kernel_rfl) hS0 (fun hS => ?_)
    refine wpAnyH_take (i := 1) (oi := ⟨some 10, _, _, _, _, _⟩) (v := _) rfl (by kernel_rfl) (by kernel_rfl) (by kernel_rfl) (fun _ _ _ h => by cases h.1) (yieldsIf_load_mid (by rfl) 37 (.tmp 5) rfl g2 0 rfl F _ (fun W hW => (B4.kept hW).whole) Tryd.underlying37 rfl z37) hS ?_
    simp only [Act.put, List.setIfInBounds_toArray, List.set_cons_zero, List.set_cons_succ]
    refine wpAnyH_take (i := 4) (oi := ⟨some 13, _, _, _, _, _⟩) (v := ?va4) rfl (by kernel_rfl) (by kernel_rfl) (by kernel_rfl) (fun _ _ _ h => by cases h.1) (Or.inl ⟨by rfl, ?ya4⟩) hS ?ra4
    case ya4 => intro W hW; go_simp; first | done | with_reducible rfl
    simp only [Act.put, List.setIfInBounds_toArray, List.set_cons_zero, List.set_cons_succ]
    have hK0 := hS
    refine wpAnyH_ready (rs := [0, 7]) (by kernel_rfl) (by simp) ?_
    refine (AllReadyH.cons (o := ⟨some 9, _, _, _, _, _⟩) rfl (fun K hK => ?_) (AllReadyH.cons (o := ⟨some 6, _, _, _, _, _⟩) rfl (fun K hK => ?_) AllReadyH.nil))
    · go_simp
      refine (ST _ (T4.below hK0)).mono ?_
      rintro e v1 ⟨rfl, hb1⟩
      have hK1 : Kept w4 v1 := hK0.step hb1
      refine hK.out _ _ hK1 (fun _ => ?_)
      clear hK K
      try simp only [Act.put, List.setIfInBounds_toArray, List.set_cons_zero, List.set_cons_succ]
      refine wpAnyH_ready (rs := [2, 7]) (by kernel_rfl) (by simp) ?_
      refine (AllReadyH.cons (o := ⟨some 11, _, _, _, _, _⟩) rfl (fun K hK => ?_) (AllReadyH.cons (o := ⟨some 6, _, _, _, _, _⟩) rfl (fun K hK => ?_) AllReadyH.nil))
      · go_simp
        refine (X1 _).mono ?_
        rintro e v2 ⟨A2, c2, rfl, hc1, hc2, hA2, hb2⟩
        have hK2 : Kept w4 v2 := hK1.step hb2
        refine hK.out _ _ hK2 (fun _ => ?_)
        clear hK K
        try simp only [Act.put, List.setIfInBounds_toArray, List.set_cons_zero, List.set_cons_succ]
        refine wpAnyH_ready (rs := [3, 7]) (by kernel_rfl) (by simp) ?_
        refine (AllReadyH.cons (o := ⟨some 12, _, _, _, _, _⟩) rfl (fun K hK => ?_) (AllReadyH.cons (o := ⟨some 6, _, _, _, _, _⟩) rfl (fun K hK => ?_) AllReadyH.nil))
        · go_simp
          refine (M1 A2 c2 _ (T4.below hK2) hA2 hc1 hc2).mono ?_
          rintro e v3 ⟨rfl, hb3⟩
          have hK3 : Kept w4 v3 := hK2.step hb3
          have hA3 := (hA2.below hb3).more hb3.size
          refine hK.out _ _ hK3 (fun _ => ?_)
          clear hK K
          try simp only [Act.put, List.setIfInBounds_toArray, List.set_cons_zero, List.set_cons_succ]
          refine wpAnyH_ready (rs := [5, 7]) (by kernel_rfl) (by simp) ?_
          refine (AllReadyH.cons (o := ⟨some 14, _, _, _, _, _⟩) rfl (fun K hK => ?_) (AllReadyH.cons (o := ⟨some 6, _, _, _, _, _⟩) rfl (fun K hK => ?_) AllReadyH.nil))
          · go_simp
            refine (M2 _ (T4.below hK3) ((S4.below hK3).more hK3.size)).mono ?_
            rintro e v4 ⟨rfl, hb4⟩
            have hK4 : Kept w4 v4 := hK3.step hb4
            refine hK.out _ _ hK4 (fun _ => ?_)
            clear hK K
            try simp only [Act.put, List.setIfInBounds_toArray, List.set_cons_zero, List.set_cons_succ]
            refine wpAnyH_ready (rs := [6, 7]) (by kernel_rfl) (by simp) ?_
            refine (AllReadyH.cons (o := ⟨some 15, _, _, _, _, _⟩) rfl (fun K hK => ?_) (AllReadyH.cons (o := ⟨some 6, _, _, _, _, _⟩) rfl (fun K hK => ?_) AllReadyH.nil))
            · go_simp
              refine (S1 _ (T4.below hK4)).mono ?_
              rintro e v5 ⟨rfl, hb5⟩
              have hK5 : Kept w4 v5 := hK4.step hb5
              refine hK.out _ _ hK5 (fun _ => ?_)
              clear hK K
              try simp only [Act.put, List.setIfInBounds_toArray, List.set_cons_zero, List.set_cons_succ]
              refine wpAnyH_ready (rs := [7]) (by kernel_rfl) (by simp) ?_
              refine (AllReadyH.cons (o := ⟨some 6, _, _, _, _, _⟩) rfl (fun K hK => ?_) AllReadyH.nil)
              refine step_new _ rfl 25 rfl _ zero25 ?_
              intro v6 g3 B6 F6
              have hK6 : Kept w4 v6 := hK5.step F6.below
              have G3 : w4.heap.size ≤ g3 := by rw [F6.is]; exact hK5.size
              refine hK.out _ _ hK6 (fun _ => ?_)
              clear hK K
              simp only [Act.put, List.setIfInBounds_toArray, List.set_cons_zero, List.set_cons_succ]
              refine wpAnyH_ready (rs := [8]) (by kernel_rfl) (by simp) ?_
              refine (AllReadyH.cons (o := ⟨none, _, _, _, _, _⟩) rfl (fun K hK => ?_) AllReadyH.nil)
              refine step_putAll _ rfl 25 (.tmp 6) (.tmp 15) rfl g3 25 _ (vbs D) rfl rfl B6 n25 z25 o25 ?_
              intro v9 B9 U9
              have hK9 : Kept w4 v9 := hK6.base (U9.below G3)
              refine hK.out _ _ hK9 (fun _ => ?_)
              clear hK K
              refine wpAnyH_done (by kernel_rfl) ?_ _
              exact ⟨rfl, g3, A2, c2, rfl, hK9, G3, B9⟩
            · refine step_new _ rfl 25 rfl _ zero25 ?_
              intro v5 g3 B5 F5
              have hK5 : Kept w4 v5 := hK4.step F5.below
              have G3 : w4.heap.size ≤ g3 := by rw [F5.is]; exact hK4.size
              refine hK.out _ _ hK5 (fun _ => ?_)
              clear hK K
              simp only [Act.put, List.setIfInBounds_toArray, List.set_cons_zero, List.set_cons_succ]
              refine wpAnyH_ready (rs := [6]) (by kernel_rfl) (by simp) ?_
              refine (AllReadyH.cons (o := ⟨some 15, _, _, _, _, _⟩) rfl (fun K hK => ?_) AllReadyH.nil)
              go_simp
              refine (S1 _ (T4.below hK5)).mono ?_
              rintro e v6 ⟨rfl, hb6⟩
              have hK6 : Kept w4 v6 := hK5.step hb6
              have B6 := B5.kept hb6
              refine hK.out _ _ hK6 (fun _ => ?_)
              clear hK K
              try simp only [Act.put, List.setIfInBounds_toArray, List.set_cons_zero, List.set_cons_succ]
              refine wpAnyH_ready (rs := [8]) (by kernel_rfl) (by simp) ?_
              refine (AllReadyH.cons (o := ⟨none, _, _, _, _, _⟩) rfl (fun K hK => ?_) AllReadyH.nil)
              refine step_putAll _ rfl 25 (.tmp 6) (.tmp 15) rfl g3 25 _ (vbs D) rfl rfl B6 n25 z25 o25 ?_
              intro v9 B9 U9
              have hK9 : Kept w4 v9 := hK6.base (U9.below G3)
              refine hK.out _ _ hK9 (fun _ => ?_)
              clear hK K
              refine wpAnyH_done (by kernel_rfl) ?_ _
              exact ⟨rfl, g3, A2, c2, rfl, hK9, G3, B9⟩
          · refine step_new _ rfl 25 rfl _ zero25 ?_
            intro v4 g3 B4 F4
            have hK4 : Kept w4 v4 := hK3.step F4.below
            have G3 : w4.heap.size ≤ g3 := by rw [F4.is]; exact hK3.size
            refine hK.out _ _ hK4 (fun _ => ?_)
            clear hK K
            simp only [Act.put, List.setIfInBounds_toArray, List.set_cons_zero, List.set_cons_succ]
            refine wpAnyH_ready (rs := [5]) (by kernel_rfl) (by simp) ?_
            refine (AllReadyH.cons (o := ⟨some 14, _, _, _, _, _⟩) rfl (fun K hK => ?_) AllReadyH.nil)
            go_simp
            refine (M2 _ (T4.below hK4) ((S4.below hK4).more hK4.size)).mono ?_
            rintro e v5 ⟨rfl, hb5⟩
            have hK5 : Kept w4 v5 := hK4.step hb5
            have B5 := B4.kept hb5
            refine hK.out _ _ hK5 (fun _ => ?_)
            clear hK K
            try simp only [Act.put, List.setIfInBounds_toArray, List.set_cons_zero, List.set_cons_succ]
            refine wpAnyH_ready (rs := [6]) (by kernel_rfl) (by simp) ?_
            refine (AllReadyH.cons (o := ⟨some 15, _, _, _, _, _⟩) rfl (fun K hK => ?_) AllReadyH.nil)
            go_simp
            refine (S1 _ (T4.below hK5)).mono ?_
            rintro e v6 ⟨rfl, hb6⟩
            have hK6 : Kept w4 v6 := hK5.step hb6
            have B6 := B5.kept hb6
            refine hK.out _ _ hK6 (fun _ => ?_)
            clear hK K
            try simp only [Act.put, List.setIfInBounds_toArray, List.set_cons_zero, List.set_cons_succ]
            refine wpAnyH_ready (rs := [8]) (by kernel_rfl) (by simp) ?_
            refine (AllReadyH.cons (o := ⟨none, _, _, _, _, _⟩) rfl (fun K hK => ?_) AllReadyH.nil)
            refine step_putAll _ rfl 25 (.tmp 6) (.tmp 15) rfl g3 25 _ (vbs D) rfl rfl B6 n25 z25 o25 ?_
            intro v9 B9 U9
            have hK9 : Kept w4 v9 := hK6.base (U9.below G3)
            refine hK.out _ _ hK9 (fun _ => ?_)
            clear hK K
            refine wpAnyH_done (by kernel_rfl) ?_ _
            exact ⟨rfl, g3, A2, c2, rfl, hK9, G3, B9⟩
        · refine step_new _ rfl 25 rfl _ zero25 ?_
          intro v3 g3 B3 F3
          have hK3 : Kept w4 v3 := hK2.step F3.below
          have G3 : w4.heap.size ≤ g3 := by rw [F3.is]; exact hK2.size
          have hA3 := (hA2.below F3.below).more F3.below.size
          refine hK.out _ _ hK3 (fun _ => ?_)
          clear hK K
          simp only [Act.put, List.setIfInBounds_toArray, List.set_cons_zero, List.set_cons_succ]
          refine wpAnyH_ready (rs := [3]) (by kernel_rfl) (by simp) ?_
          refine (AllReadyH.cons (o := ⟨some 12, _, _, _, _, _⟩) rfl (fun K hK => ?_) AllReadyH.nil)
          go_simp
          refine (M1 A2 c2 _ (T4.below hK3) hA3 hc1 hc2).mono ?_
          rintro e v4 ⟨rfl, hb4⟩
          have hK4 : Kept w4 v4 := hK3.step hb4
          have B4 := B3.kept hb4
          have hA4 := (hA3.below hb4).more hb4.size
          refine hK.out _ _ hK4 (fun _ => ?_)
          clear hK K
          try simp only [Act.put, List.setIfInBounds_toArray, List.set_cons_zero, List.set_cons_succ]
          refine wpAnyH_ready (rs := [5]) (by kernel_rfl) (by simp) ?_
          refine (AllReadyH.cons (o := ⟨some 14, _, _, _, _, _⟩) rfl (fun K hK => ?_) AllReadyH.nil)
          go_simp
          refine (M2 _ (T4.below hK4) ((S4.below hK4).more hK4.size)).mono ?_
          rintro e v5 ⟨rfl, hb5⟩
          have hK5 : Kept w4 v5 := hK4.step hb5
          have B5 := B4.kept hb5
          refine hK.out _ _ hK5 (fun _ => ?_)
          clear hK K
          try simp only [Act.put, List.setIfInBounds_toArray, List.set_cons_zero, List.set_cons_succ]
          refine wpAnyH_ready (rs := [6]) (by kernel_rfl) (by simp) ?_
          refine (AllReadyH.cons (o := ⟨some 15, _, _, _, _, _⟩) rfl (fun K hK => ?_) AllReadyH.nil)
          go_simp
          refine (S1 _ (T4.below hK5)).mono ?_
          rintro e v6 ⟨rfl, hb6⟩
          have hK6 : Kept w4 v6 := hK5.step hb6
          have B6 := B5.kept hb6
          refine hK.out _ _ hK6 (fun _ => ?_)
          clear hK K
          try simp only [Act.put, List.setIfInBounds_toArray, List.set_cons_zero, List.set_cons_succ]
          refine wpAnyH_ready (rs := [8]) (by kernel_rfl) (by simp) ?_
          refine (AllReadyH.cons (o := ⟨none, _, _, _, _, _⟩) rfl (fun K hK => ?_) AllReadyH.nil)
          refine step_putAll _ rfl 25 (.tmp 6) (.tmp 15) rfl g3 25 _ (vbs D) rfl rfl B6 n25 z25 o25 ?_
          intro v9 B9 U9
          have hK9 : Kept w4 v9 := hK6.base (U9.below G3)
          refine hK.out _ _ hK9 (fun _ => ?_)
          clear hK K
          refine wpAnyH_done (by kernel_rfl) ?_ _
          exact ⟨rfl, g3, A2, c2, rfl, hK9, G3, B9⟩
      · refine step_new _ rfl 25 rfl _ zero25 ?_
        intro v2 g3 B2 F2
        have hK2 : Kept w4 v2 := hK1.step F2.below
        have G3 : w4.heap.size ≤ g3 := by rw [F2.is]; exact hK1.size
        refine hK.out _ _ hK2 (fun _ => ?_)
        clear hK K
        simp only [Act.put, List.setIfInBounds_toArray, List.set_cons_zero, List.set_cons_succ]
        refine wpAnyH_ready (rs := [2]) (by kernel_rfl) (by simp) ?_
        refine (AllReadyH.cons (o := ⟨some 11, _, _, _, _, _⟩) rfl (fun K hK => ?_) AllReadyH.nil)
        go_simp
        refine (X1 _).mono ?_
        rintro e v3 ⟨A2, c2, rfl, hc1, hc2, hA3, hb3⟩
        have hK3 : Kept w4 v3 := hK2.step hb3
        have B3 := B2.kept hb3
        refine hK.out _ _ hK3 (fun _ => ?_)
        clear hK K
        try simp only [Act.put, List.setIfInBounds_toArray, List.set_cons_zero, List.set_cons_succ]
        refine wpAnyH_ready (rs := [3]) (by kernel_rfl) (by simp) ?_
        refine (AllReadyH.cons (o := ⟨some 12, _, _, _, _, _⟩) rfl (fun K hK => ?_) AllReadyH.nil)
        go_simp
        refine (M1 A2 c2 _ (T4.below hK3) hA3 hc1 hc2).mono ?_
        rintro e v4 ⟨rfl, hb4⟩
        have hK4 : Kept w4 v4 := hK3.step hb4
        have B4 := B3.kept hb4
        have hA4 := (hA3.below hb4).more hb4.size
        refine hK.out _ _ hK4 (fun _ => ?_)
        clear hK K
        try simp only [Act.put, List.setIfInBounds_toArray, List.set_cons_zero, List.set_cons_succ]
        refine wpAnyH_ready (rs := [5]) (by kernel_rfl) (by simp) ?_
        refine (AllReadyH.cons (o := ⟨some 14, _, _, _, _, _⟩) rfl (fun K hK => ?_) AllReadyH.nil)
        go_simp
        refine (M2 _ (T4.below hK4) ((S4.below hK4).more hK4.size)).mono ?_
        rintro e v5 ⟨rfl, hb5⟩
        have hK5 : Kept w4 v5 := hK4.step hb5
        have B5 := B4.kept hb5
        refine hK.out _ _ hK5 (fun _ => ?_)
        clear hK K
        try simp only [Act.put, List.setIfInBounds_toArray, List.set_cons_zero, List.set_cons_succ]
        refine wpAnyH_ready (rs := [6]) (by kernel_rfl) (by simp) ?_
        refine (AllReadyH.cons (o := ⟨some 15, _, _, _, _, _⟩) rfl (fun K hK => ?_) AllReadyH.nil)
        go_simp
        refine (S1 _ (T4.below hK5)).mono ?_
        rintro e v6 ⟨rfl, hb6⟩
        have hK6 : Kept w4 v6 := hK5.step hb6
        have B6 := B5.kept hb6
        refine hK.out _ _ hK6 (fun _ => ?_)
        clear hK K
        try simp only [Act.put, List.setIfInBounds_toArray, List.set_cons_zero, List.set_cons_succ]
        refine wpAnyH_ready (rs := [8]) (by kernel_rfl) (by simp) ?_
        refine (AllReadyH.cons (o := ⟨none, _, _, _, _, _⟩) rfl (fun K hK => ?_) AllReadyH.nil)
        refine step_putAll _ rfl 25 (.tmp 6) (.tmp 15) rfl g3 25 _ (vbs D) rfl rfl B6 n25 z25 o25 ?_
        intro v9 B9 U9
        have hK9 : Kept w4 v9 := hK6.base (U9.below G3)
        refine hK.out _ _ hK9 (fun _ => ?_)
        clear hK K
        refine wpAnyH_done (by kernel_rfl) ?_ _
        exact ⟨rfl, g3, A2, c2, rfl, hK9, G3, B9⟩
    · refine step_new _ rfl 25 rfl _ zero25 ?_
      intro v1 g3 B1 F1
      have hK1 : Kept w4 v1 := hK0.step F1.below
      have G3 : w4.heap.size ≤ g3 := by rw [F1.is]; exact hK0.size
      refine hK.out _ _ hK1 (fun _ => ?_)
      clear hK K
      simp only [Act.put, List.setIfInBounds_toArray, List.set_cons_zero, List.set_cons_succ]
      refine wpAnyH_ready (rs := [0]) (by kernel_rfl) (by simp) ?_
      refine (AllReadyH.cons (o := ⟨some 9, _, _, _, _, _⟩) rfl (fun K hK => ?_) AllReadyH.nil)
      go_simp
      refine (ST _ (T4.below hK1)).mono ?_
      rintro e v2 ⟨rfl, hb2⟩
      have hK2 : Kept w4 v2 := hK1.step hb2
      have B2 := B1.kept hb2
      refine hK.out _ _ hK2 (fun _ => ?_)
      clear hK K
      try simp only [Act.put, List.setIfInBounds_toArray, List.set_cons_zero, List.set_cons_succ]
      refine wpAnyH_ready (rs := [2]) (by kernel_rfl) (by simp) ?_
      refine (AllReadyH.cons (o := ⟨some 11, _, _, _, _, _⟩) rfl (fun K hK => ?_) AllReadyH.nil)
      go_simp
      refine (X1 _).mono ?_
      rintro e v3 ⟨A2, c2, rfl, hc1, hc2, hA3, hb3⟩
      have hK3 : Kept w4 v3 := hK2.step hb3
      have B3 := B2.kept hb3
      refine hK.out _ _ hK3 (fun _ => ?_)
      clear hK K
      try simp only [Act.put, List.setIfInBounds_toArray, List.set_cons_zero, List.set_cons_succ]
      refine wpAnyH_ready (rs := [3]) (by kernel_rfl) (by simp) ?_
      refine (AllReadyH.cons (o := ⟨some 12, _, _, _, _, _⟩) rfl (fun K hK => ?_) AllReadyH.nil)
      go_simp
      refine (M1 A2 c2 _ (T4.below hK3) hA3 hc1 hc2).mono ?_
      rintro e v4 ⟨rfl, hb4⟩
      have hK4 : Kept w4 v4 := hK3.step hb4
      have B4 := B3.kept hb4
      have hA4 := (hA3.below hb4).more hb4.size
      refine hK.out _ _ hK4 (fun _ => ?_)
      clear hK K
      try simp only [Act.put, List.setIfInBounds_toArray, List.set_cons_zero, List.set_cons_succ]
      refine wpAnyH_ready (rs := [5]) (by kernel_rfl) (by simp) ?_
      refine (AllReadyH.cons (o := ⟨some 14, _, _, _, _, _⟩) rfl (fun K hK => ?_) AllReadyH.nil)
      go_simp
      refine (M2 _ (T4.below hK4) ((S4.below hK4).more hK4.size)).mono ?_
      rintro e v5 ⟨rfl, hb5⟩
      have hK5 : Kept w4 v5 := hK4.step hb5
      have B5 := B4.kept hb5
      refine hK.out _ _ hK5 (fun _ => ?_)
      clear hK K
      try simp only [Act.put, List.setIfInBounds_toArray, List.set_cons_zero, List.set_cons_succ]
      refine wpAnyH_ready (rs := [6]) (by kernel_rfl) (by simp) ?_
      refine (AllReadyH.cons (o := ⟨some 15, _, _, _, _, _⟩) rfl (fun K hK => ?_) AllReadyH.nil)
      go_simp
      refine (S1 _ (T4.below hK5)).mono ?_
      rintro e v6 ⟨rfl, hb6⟩
      have hK6 : Kept w4 v6 := hK5.step hb6
      have B6 := B5.kept hb6
      refine hK.out _ _ hK6 (fun _ => ?_)
      clear hK K
      try simp only [Act.put, List.setIfInBounds_toArray, List.set_cons_zero, List.set_cons_succ]
      refine wpAnyH_ready (rs := [8]) (by kernel_rfl) (by simp) ?_
      refine (AllReadyH.cons (o := ⟨none, _, _, _, _, _⟩) rfl (fun K hK => ?_) AllReadyH.nil)
      refine step_putAll _ rfl 25 (.tmp 6) (.tmp 15) rfl g3 25 _ (vbs D) rfl rfl B6 n25 z25 o25 ?_
      intro v9 B9 U9
      have hK9 : Kept w4 v9 := hK6.base (U9.below G3)
      refine hK.out _ _ hK9 (fun _ => ?_)
      clear hK K
      refine wpAnyH_done (by kernel_rfl) ?_ _
      exact ⟨rfl, g3, A2, c2, rfl, hK9, G3, B9⟩
  case imp =>
    rintro e a' w5 ⟨rfl, g3, A2, c2, rfl, hK5, G3, B3⟩
    have bel5 : Below w.heap.size w w5 := bel4.trans (hK5.mono bel4.size)
    have E1 := D1.kept hK5
    have E2 := B4.kept hK5
    have T5 := ht.below bel5
    have S5 := B3.bs lD
    have s25 := slice25
    have LB2 : Hid (w.heap.size ≤ g1 ∧ g1 < g2 ∧ g2 < g3) := by
      obtain ⟨L1, L2⟩ := LB.out
      have := B4.lt
      refine ⟨?_, ?_, ?_⟩ <;> omega
    clear hK5 G3 D1 B4 hS0 T4 S4 LB
    go_wp2_with fail
    have hS0 : Below w.heap.size w w5.drew ∧ Blk w5.drew g2 37 F := ⟨bel5.drew, E2.drew⟩
    refine Code.wp_mono (Q := fun e a' w' => e = .normal ∧ Below w.heap.size w w' ∧ a'.defers = [] ∧ a'.tmps.getD 4 undef = .pointer (some ⟨g1, 0, none⟩) ∧ Blk w' g1 25 V) ?imp2 ?reg2
    case reg2 =>
      refine wp_region_held_drew (S := fun W => Below w.heap.size w W ∧ Blk W g2 37 F) (by kernel_rfl) hS0 (fun hS => ?_)
      refine wpAnyH_take (i := 1) (oi := ⟨some 17, _, _, _, _, _⟩) (v := _) rfl (by kernel_rfl) (by kernel_rfl) (by kernel_rfl) (fun _ _ _ h => by cases h.1) (yieldsIf_load_mid (by rfl) 37 (.tmp 5) rfl g2 0 rfl F _ (fun W hW => hW.2.whole) Tryd.underlying37 rfl z37) hS ?_
      simp only [Act.put, List.setIfInBounds_toArray, List.set_cons_zero, List.set_cons_succ]
      refine wpAnyH_take (i := 4) (oi := ⟨some 20, _, _, _, _, _⟩) (v := ?vz4) rfl (by kernel_rfl) (by kernel_rfl) (by kernel_rfl) (fun _ _ _ h => by cases h.1) (Or.inl ⟨by rfl, ?yz4⟩) hS ?rz4
      case yz4 => intro W hW; have s1 := s25 W g3; go_simp; first | done | with_reducible rfl
      simp only [Act.put, List.setIfInBounds_toArray, List.set_cons_zero, List.set_cons_succ]
      have hK0 : Kept w5 w5.drew := (Kept.refl w5).drew
      refine wpAnyH_ready (rs := [0]) (by kernel_rfl) (by simp) ?_
      refine (AllReadyH.cons (o := ⟨some 16, _, _, _, _, _⟩) rfl (fun K hK => ?_) AllReadyH.nil)
      go_simp
      refine (ST _ (T5.below hK0)).mono ?_
      rintro e v1 ⟨rfl, hb1⟩
      have hK1 : Kept w5 v1 := hK0.step hb1
      refine hK.out _ _ ⟨bel5.trans (hK1.mono bel5.size), E2.kept hK1⟩ (fun _ => ?_)
      clear hK K
      try simp only [Act.put, List.setIfInBounds_toArray, List.set_cons_zero, List.set_cons_succ]
      refine wpAnyH_ready (rs := [2]) (by kernel_rfl) (by simp) ?_
      refine (AllReadyH.cons (o := ⟨some 18, _, _, _, _, _⟩) rfl (fun K hK => ?_) AllReadyH.nil)
      go_simp
      refine (X2 _).mono ?_
      rintro e v2 ⟨A3, c3, rfl, hc1, hc2, hA, hb2⟩
      have hK2 : Kept w5 v2 := hK1.step hb2
      refine hK.out _ _ ⟨bel5.trans (hK2.mono bel5.size), E2.kept hK2⟩ (fun _ => ?_)
      clear hK K
      try simp only [Act.put, List.setIfInBounds_toArray, List.set_cons_zero, List.set_cons_succ]
      refine wpAnyH_ready (rs := [3]) (by kernel_rfl) (by simp) ?_
      refine (AllReadyH.cons (o := ⟨some 19, _, _, _, _, _⟩) rfl (fun K hK => ?_) AllReadyH.nil)
      go_simp
      refine (M3 A3 c3 _ (T5.below hK2) hA hc1 hc2).mono ?_
      rintro e v3 ⟨rfl, hb3⟩
      have hK3 : Kept w5 v3 := hK2.step hb3
      refine hK.out _ _ ⟨bel5.trans (hK3.mono bel5.size), E2.kept hK3⟩ (fun _ => ?_)
      clear hK K
      try simp only [Act.put, List.setIfInBounds_toArray, List.set_cons_zero, List.set_cons_succ]
      refine wpAnyH_ready (rs := [5]) (by kernel_rfl) (by simp) ?_
      refine (AllReadyH.cons (o := ⟨some 21, _, _, _, _, _⟩) rfl (fun K hK => ?_) AllReadyH.nil)
      go_simp
      refine (M4 _ _ (T5.below hK3) ((S5.below hK3).more hK3.size)).mono ?_
      rintro e v4 ⟨rfl, hb4⟩
      have hK4 : Kept w5 v4 := hK3.step hb4
      refine hK.out _ _ ⟨bel5.trans (hK4.mono bel5.size), E2.kept hK4⟩ (fun _ => ?_)
      clear hK K
      try simp only [Act.put, List.setIfInBounds_toArray, List.set_cons_zero, List.set_cons_succ]
      refine wpAnyH_ready (rs := [6]) (by kernel_rfl) (by simp) ?_
      refine (AllReadyH.cons (o := ⟨some 22, _, _, _, _, _⟩) rfl (fun K hK => ?_) AllReadyH.nil)
      go_simp
      refine (S2 _ (T5.below hK4)).mono ?_
      rintro e v5 ⟨rfl, hb5⟩
      have hK5 : Kept w5 v5 := hK4.step hb5
      refine hK.out _ _ ⟨bel5.trans (hK5.mono bel5.size), E2.kept hK5⟩ (fun _ => ?_)
      clear hK K
      try simp only [Act.put, List.setIfInBounds_toArray, List.set_cons_zero, List.set_cons_succ]
      refine wpAnyH_ready (rs := [7]) (by kernel_rfl) (by simp) ?_
      refine (AllReadyH.cons (o := ⟨none, _, _, _, _, _⟩) rfl (fun K hK => ?_) AllReadyH.nil)
      refine step_putAll _ rfl 25 (.tmp 4) (.tmp 22) rfl g1 25 _ V rfl rfl (E1.kept hK5) m25 y25 p25 ?_
      intro v9 B9 U9
      obtain ⟨L1, L2, L3⟩ := LB2.out
      have b9 : Below w.heap.size w v9 := (bel5.trans (hK5.mono bel5.size)).trans (U9.below L1)
      refine hK.out _ _ ⟨b9, (E2.kept hK5).upd U9 (by omega)⟩ (fun _ => ?_)
      clear hK K
      refine wpAnyH_done (by kernel_rfl) ?_ _
      exact ⟨rfl, b9, rfl, rfl, B9⟩
    case imp2 =>
      rintro e a' w6 ⟨rfl, b6, hd, h4, B6⟩
      go_wp2_with ((with_reducible show bodyPost _ _ _ _ _ _); refine ret_cell 4 25 rfl g1 V _ h4 B6.whole Tryd.underlying25 rfl y25 hd ⟨?_, b6⟩; rw [HM.out])
end Go.Proofs.YtiigmpoopmnnhaaDoor
