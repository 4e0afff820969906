/-
  What the laws' own helper few answers: rows of its own; nothing that was in memory turns. No condition.
-/
import Derived.Test.YtknnncdmpfmgkaaDoorFew
namespace Go.Proofs.YtknnncdmpfmgkaaDoor
open Go.RowKit

/-- At most fifty bodies, of at most three hundred bytes. -/
def fewS (bs : List (List UInt8)) : List (List UInt8) := (bs.take 50).map (List.take 300)
def fewK (bs : List (List UInt8)) (k : Nat) : List (List UInt8) := (bs.take k).map (List.take 300)
theorem fewS_neat (bs : List (List UInt8)) : (fewS bs).length ≤ 50 ∧ ∀ l ∈ fewS bs, l.length ≤ 300 := by
  refine ⟨by simp [fewS]; omega, fun l hl => ?_⟩
  simp only [fewS, List.mem_map] at hl
  obtain ⟨x, _, rfl⟩ := hl
  simp
  omega
theorem take_min (l : List UInt8) (k : Nat) : l.take (min l.length k) = l.take k := by
  rcases Nat.le_total l.length k with h | h
  · rw [Nat.min_eq_left h, List.take_of_length_le (Nat.le_refl _), List.take_of_length_le h]
  · rw [Nat.min_eq_right h]

set_option maxHeartbeats 2000000 in
theorem few_any (A : Option Addr) (n c : Nat) (bs : List (List UInt8)) (w : World) (h : Rv w A n bs) (hn : n ≤ 9223372036854775807) :
    Calls Tryd.prog 17 #[.slice A n c] w fun e w' => ∃ va vb, e = .returned (.tuple #[va, vb]) ∧ Rs w' w.heap.size va (fewS bs) ∧ Strs w' w.heap.size vb (fewS bs) ∧ Below w.heap.size w w' := by
  have hln := Lib.hid h.1
  go_enter Tryd.func17, Tryd.ntmps17
  go_wp2_with fail
  go_loopw [4, 5, 6] (fun va vb i wr => ∃ k : Nat, k ≤ n ∧ k ≤ 50 ∧ i = .int .i64 k ∧ Rs wr w.heap.size va (fewK bs k) ∧ Strs wr w.heap.size vb (fewK bs k) ∧ Below w.heap.size w wr) (fun _ _ i _ => n - (intOf i).toNat)
  case atStart => exact ⟨0, by omega, by omega, rfl, Rs.nil _ _, Strs.nil _ _, Below.refl _ _⟩
  case round =>
    obtain ⟨k, hk, hk50, rfl, hra, hsb, hb⟩ := hrel
    obtain ⟨Aa, ca, rfl⟩ := hra.form
    obtain ⟨Ab, cb, rfl⟩ := hsb.form
    have hkl : Hid ((fewK bs k).length = k) := by show (fewK bs k).length = k; simp [fewK, hln.out]; omega
    by_cases hlt : k < n ∧ k < 50
    · obtain ⟨h1, h2⟩ := hlt
      obtain ⟨l, b, off, B, cB, hl, rfl, hbl, hcell0, h4, h5, h6⟩ := h.at_ h1
      have hcell := fun W (hW : Kept w W) => (Below.cell hW (p := ⟨b, off + k, none⟩) hbl).trans hcell0
      have hix := fun W => index24 W b off n c k h1
      have HL : Hid (fewK bs (k + 1) = fewK bs k ++ [l.take 300]) := by show fewK bs (k + 1) = _; unfold fewK; rw [take_next hl]; simp
      have hmin : min (l.length : Int) 300 = ((min l.length 300 : Nat) : Int) := by omega
      have hml : min l.length 300 ≤ l.length := by omega
      have hm3 : min l.length 300 ≤ 300 := by omega
      have hB7 := h6.take (min l.length 300) hml
      rw [take_min] at hB7
      obtain ⟨m, hm⟩ : ∃ m, min l.length 300 = m := ⟨_, rfl⟩
      rw [hm] at hmin hml hm3 hB7
      clear hl hcell0 h6 hm
      obtain ⟨L, hL⟩ : ∃ L, l.length = L := ⟨_, rfl⟩
      rw [hL] at hcell hmin hml h4
      obtain ⟨T, hT⟩ : ∃ T, l.take 300 = T := ⟨_, rfl⟩
      rw [hT] at hB7 HL
      have hTm := Lib.hid hB7.1
      clear hL hT
      have hmc : m ≤ cB := by omega
      have d1 : decide (k < n) = true := by simp; omega
      have d2 : decide ((k : Int) < 50) = true := by simp; omega
      obtain ⟨P, hP⟩ : ∃ P, fewK bs k = P := ⟨_, rfl⟩
      rw [hP] at hra hsb hkl HL ⊢
      have hPk : P.length ≤ 50 := by rw [hkl.out]; exact hk50
      clear hP
      go_wp2_with fail
      refine wp_region_held_drew (S := Kept w) (by kernel_rfl) (Kept.drew hb) (fun hS => ?_)
      have hra1 := hra.keep (w' := wr.drew) (fun _ _ _ _ _ _ e => e)
      have hsb1 : Strs wr.drew w.heap.size (.slice Ab P.length cb) P := hsb
      revert hS hra1 hsb1
      generalize wr.drew = W0
      intro hS hra1 hsb1
      clear hra hsb
      refine wpAnyH_take (i := 0) (oi := ⟨some 18, _, _, _, _, _⟩) (v := ?va0) rfl (by kernel_rfl) (by kernel_rfl) (by kernel_rfl) (fun _ _ _ h => h) (Or.inl ⟨by rfl, ?ya0⟩) hS ?ra0
      case ya0 => intro W hW; go_simp; first | done | with_reducible rfl
      simp only [Act.put, List.setIfInBounds_toArray, List.set_cons_zero, List.set_cons_succ]
      refine wpAnyH_take (i := 1) (oi := ⟨some 19, _, _, _, _, _⟩) (v := ?va1) rfl (by kernel_rfl) (by kernel_rfl) (by kernel_rfl) (fun _ _ _ h => h) (Or.inl ⟨by rfl, ?ya1⟩) hS ?ra1
      case ya1 => intro W hW; go_simp; first | done | with_reducible rfl
      simp only [Act.put, List.setIfInBounds_toArray, List.set_cons_zero, List.set_cons_succ]
      refine wpAnyH_take (i := 2) (oi := ⟨some 20, _, _, _, _, _⟩) (v := ?va2) rfl (by kernel_rfl) (by kernel_rfl) (by kernel_rfl) (fun _ _ _ h => h) (Or.inl ⟨by rfl, ?ya2⟩) hS ?ra2
      case ya2 => intro W hW; have v0 := hix W; go_simp; first | done | with_reducible rfl
      simp only [Act.put, List.setIfInBounds_toArray, List.set_cons_zero, List.set_cons_succ]
      refine wpAnyH_take (i := 3) (oi := ⟨some 21, _, _, _, _, _⟩) (v := ?va3) rfl (by kernel_rfl) (by kernel_rfl) (by kernel_rfl) (fun _ _ _ h => h) (Or.inl ⟨by rfl, ?ya3⟩) hS ?ra3
      case ya3 => intro W hW; have v0 := hcell W hW; go_simp; first | done | with_reducible rfl
      simp only [Act.put, List.setIfInBounds_toArray, List.set_cons_zero, List.set_cons_succ]
      refine wpAnyH_take (i := 4) (oi := ⟨some 22, _, _, _, _, _⟩) (v := ?va4) rfl (by kernel_rfl) (by kernel_rfl) (by kernel_rfl) (fun _ _ _ h => h) (Or.inl ⟨by rfl, ?ya4⟩) hS ?ra4
      case ya4 => intro W hW; go_simp; first | done | with_reducible rfl
      simp only [Act.put, List.setIfInBounds_toArray, List.set_cons_zero, List.set_cons_succ]
      refine wpAnyH_take (i := 5) (oi := ⟨some 23, _, _, _, _, _⟩) (v := ?va5) rfl (by kernel_rfl) (by kernel_rfl) (by kernel_rfl) (fun _ _ _ h => h) (Or.inl ⟨by rfl, ?ya5⟩) hS ?ra5
      case ya5 => intro W hW; go_simp; first | done | with_reducible rfl
      simp only [Act.put, List.setIfInBounds_toArray, List.set_cons_zero, List.set_cons_succ]
      refine wpAnyH_take (i := 6) (oi := ⟨some 24, _, _, _, _, _⟩) (v := ?va6) rfl (by kernel_rfl) (by kernel_rfl) (by kernel_rfl) (fun _ _ _ h => h) (Or.inl ⟨by rfl, ?ya6⟩) hS ?ra6
      case ya6 => intro W hW; have v0 := hix W; go_simp; first | done | with_reducible rfl
      simp only [Act.put, List.setIfInBounds_toArray, List.set_cons_zero, List.set_cons_succ]
      refine wpAnyH_take (i := 7) (oi := ⟨some 25, _, _, _, _, _⟩) (v := ?va7) rfl (by kernel_rfl) (by kernel_rfl) (by kernel_rfl) (fun _ _ _ h => h) (Or.inl ⟨by rfl, ?ya7⟩) hS ?ra7
      case ya7 => intro W hW; have v0 := hcell W hW; go_simp; first | done | with_reducible rfl
      simp only [Act.put, List.setIfInBounds_toArray, List.set_cons_zero, List.set_cons_succ]
      refine wpAnyH_take (i := 8) (oi := ⟨some 26, _, _, _, _, _⟩) (v := ?va8) rfl (by kernel_rfl) (by kernel_rfl) (by kernel_rfl) (fun _ _ _ h => h) (Or.inl ⟨by rfl, ?ya8⟩) hS ?ra8
      case ya8 => intro W hW; go_simp; first | done | with_reducible rfl
      simp only [Act.put, List.setIfInBounds_toArray, List.set_cons_zero, List.set_cons_succ]
      refine wpAnyH_take (i := 9) (oi := ⟨some 27, _, _, _, _, _⟩) (v := ?va9) rfl (by kernel_rfl) (by kernel_rfl) (by kernel_rfl) (fun _ _ _ h => h) (Or.inl ⟨by rfl, ?ya9⟩) hS ?ra9
      case ya9 => intro W hW; go_simp; first | done | with_reducible rfl
      simp only [Act.put, List.setIfInBounds_toArray, List.set_cons_zero, List.set_cons_succ]
      refine wpAnyH_take (i := 10) (oi := ⟨some 28, _, _, _, _, _⟩) (v := ?va10) rfl (by kernel_rfl) (by kernel_rfl) (by kernel_rfl) (fun _ _ _ h => h) (Or.inl ⟨by rfl, ?ya10⟩) hS ?ra10
      case ya10 => intro W hW; go_simp; first | done | with_reducible rfl
      simp only [Act.put, List.setIfInBounds_toArray, List.set_cons_zero, List.set_cons_succ]
      refine wpAnyH_take (i := 11) (oi := ⟨some 7, _, _, _, _, _⟩) (v := ?va11) rfl (by kernel_rfl) (by kernel_rfl) (by kernel_rfl) (fun _ _ _ h => h) (Or.inl ⟨by rfl, ?ya11⟩) hS ?ra11
      case ya11 => intro W hW; go_simp; first | done | with_reducible rfl
      simp only [Act.put, List.setIfInBounds_toArray, List.set_cons_zero, List.set_cons_succ]
      refine wpAnyH_done (by kernel_rfl) ?_ _
      have hW0 := hS.size
      have kb : Below W0.heap.size W0 (W0.alloc (.cells #[] 5)) := (Below.refl _ _).alloc (Nat.le_refl _) _
      clear hcell hix
      go_wp2_with (first
        | (at_builtin; refine wp_appS _ rfl (.tmp 30) (.tmp 31) rfl W0.heap.size _ 0 [] rfl (own_empty W0 W0.heap.size (Nat.le_refl _)) w.heap.size B m cB T rfl (hB7.below (Below.trans hS (kb.mono hS.size))) (by omega) (by simp) m T (by omega) rfl ?_; intro A2 c2 W2 _ _ ho2 hb2; have hb2' : Below W0.heap.size W0 W2 := kb.trans hb2; have kb2 : Below W0.heap.size W0 (W2.alloc (.cells #[.slice A2 m c2] 22)) := hb2'.alloc hb2'.size _; have hra3 := hra1.below kb2; have hsb3 := hsb1.below kb2; have hl3 : Own (W2.alloc (.cells #[.slice A2 m c2] 22)) w.heap.size (.slice A2 T.length c2) T.length T := (by rw [hTm.out]; exact (ho2.alloc _).down hS.size); have hcc : (W2.alloc (.cells #[.slice A2 m c2] 22)).cell? ⟨W2.heap.size, 0, none⟩ = some (.slice A2 T.length c2) := (by rw [hTm.out]; exact (Boxed.new W2 22 _).cell); have hz2 : w.heap.size ≤ (W2.alloc (.cells #[.slice A2 m c2] 22)).heap.size := Nat.le_trans hS.size kb2.size)
        | (at_builtin; refine wp_appR _ rfl (.tmp 29) (.tmp 33) rfl w.heap.size _ P rfl hra3 _ 1 A2 c2 T rfl hcc hl3 (by omega) hz2 ?_; intro A4 c4 W4 r4 k4 b4; have hb4 : Below w.heap.size w W4 := Below.trans (Below.trans hS (kb2.mono hS.size)) b4; have hsb4 := hsb3.but k4 (by decide); have hcv := Kept.str hB7 W4 hb4 cB)
        | (at_builtin; refine wp_appT _ rfl (.tmp 35) (.tmp 38) rfl w.heap.size _ P rfl (hsb4.below ((Below.refl _ _).alloc (Nat.le_refl _) _)) _ 1 T rfl (Boxed.new W4 9 _).cell (by omega) (by have := hb4.size; simp; omega) ?_; intro A5 c5 W5 s5 k5 b5))
      have r5 := (r4.below ((Below.refl _ _).alloc (Nat.le_refl _) _)).but k5 (by decide) (by decide)
      go_roundw
      case rel =>
        refine ⟨k + 1, by omega, by omega, by go_num, ?_, ?_, (hb4.alloc hb4.size _).trans b5⟩
        · rw [HL.out]; exact r5
        · rw [HL.out]; exact s5
      case measure => simp [intOf]; omega
    · have HE : Hid (fewK bs k = fewS bs) := by
        show fewK bs k = _
        unfold fewK fewS
        rcases (show k = 50 ∨ k = n by omega) with e | e
        · rw [e]
        · rw [List.take_of_length_le (by rw [hln.out]; omega), List.take_of_length_le (by rw [hln.out]; omega)]
      rw [HE.out] at hra hsb
      by_cases hkn : k < n
      · have d1 : decide (k < n) = true := by simp; omega
        have d2 : decide ((k : Int) < 50) = false := by simp; omega
        go_wp2_with fail
        go_ret2
        exact ⟨_, _, by rw [HE.out]; rfl, hra, hsb, hb⟩
      · have d1 : decide (k < n) = false := by simp; omega
        go_wp2_with fail
        go_ret2
        exact ⟨_, _, by rw [HE.out]; rfl, hra, hsb, hb⟩
end Go.Proofs.YtknnncdmpfmgkaaDoor
