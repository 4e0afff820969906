/-
  What transeptref04.Split and the laws' own helpers same and few answer; nothing that was in memory turns. Conditions: texts of at most 1000000 bytes.
-/
import Derived.Test.YtknnncdmpfmgkaaDoorRefSplit
namespace Go.Proofs.YtknnncdmpfmgkaaDoor
open Go.RowKit

set_option maxHeartbeats 400000 in
theorem refSplitL_any (b : List UInt8) (w : World) (hb : b.length ≤ 1000000) : Calls Tryd.prog 15 #[.string (str b)] w (SplitStr w (splitL b)) := by
  have hsz := str_size b
  have RS := refSplit_any b w hb
  have HE : Hid (splitL b = splitS b) := by show splitL b = _; unfold splitL; rw [if_pos (by omega)]
  have hd : decide ((b.length : Int) ≤ 1048576) = true := by simp; omega
  generalize splitS b = r at *
  obtain ⟨r1, r2, r3⟩ := r
  go_enter Tryd.func15, Tryd.ntmps15
  go_wp2_with fail
  refine RS.mono ?_
  rintro e w1 ⟨v, rfl, h1, h2⟩
  go_wp2_with fail
  go_ret3
  rw [HE.out]
  exact ⟨v, rfl, h1, h2⟩

theorem str_toList (l : List UInt8) : (str l).toList = l := by
  rw [ByteArray.toList_eq]
  rfl
theorem str_eqv (a b : List UInt8) : ((str a).toList == (str b).toList) = decide (a = b) := by
  rw [str_toList, str_toList]
  by_cases h : a = b
  · simp [h]
  · simp [h]

set_option maxHeartbeats 1000000 in
theorem same_any (A : Option Addr) (n c : Nat) (bs : List (List UInt8)) (A' : Option Addr) (n' c' : Nat) (ss : List (List UInt8)) (w : World) (h : Rv w A n bs) (h' : Sv w A' n' ss) (hn : n ≤ 9223372036854775807) (hn' : n' ≤ 9223372036854775807) :
    Calls Tryd.prog 16 #[.slice A n c, .slice A' n' c'] w fun e w' => e = .returned (.bool (decide (bs = ss))) ∧ Below w.heap.size w w' := by
  by_cases hne : n = n'
  · subst hne
    go_enter Tryd.func16, Tryd.ntmps16
    go_wp2_with fail
    go_loopw [5] (fun i wr => ∃ k : Nat, k ≤ n ∧ i = .int .i64 k ∧ Hid (bs.take k = ss.take k) ∧ Below w.heap.size w wr) (fun i _ => n - (intOf i).toNat)
    case atStart => exact ⟨0, by omega, rfl, Lib.hid (by simp), Below.refl _ _⟩
    case round =>
      obtain ⟨k, hk, rfl, HT, hb⟩ := hrel
      by_cases hlt : k < n
      · obtain ⟨l, b, off, B, cB, hl, rfl, hbl, hcell0, h4, h5, h6⟩ := h.at_ hlt
        obtain ⟨m, b', off', hm, rfl, hbl', hcell0'⟩ := h'.at_ hlt
        have hcell := fun W (hW : Kept w W) => (Below.cell hW (p := ⟨b, off + k, none⟩) hbl).trans hcell0
        have hcell' := fun W (hW : Kept w W) => (Below.cell hW (p := ⟨b', off' + k, none⟩) hbl').trans hcell0'
        have hix := fun W => index24 W b off n c k hlt
        have hix' := fun W => index28 W b' off' n c' k hlt
        have hst := fun W (hW : Kept w W) => Kept.str h6 W hW cB
        have HL := Lib.hid hl
        have HM := Lib.hid hm
        clear hl hm h4 h5 h6 hcell0 hcell0'
        obtain ⟨v, hv⟩ : ∃ v, decide (l = m) = v := ⟨_, rfl⟩
        have HV := Lib.hid hv
        rw [← str_eqv] at hv
        generalize l.length = L at *
        generalize str l = SL at *
        generalize str m = SM at *
        go_wp2_with fail
        refine wp_region_held_drew (S := Kept w) (by kernel_rfl) (Kept.drew hb) (fun hS => ?_)
        revert hS
        generalize wr.drew = W0
        intro hS
        refine wpAnyH_take (i := 0) (oi := ⟨some 17, _, _, _, _, _⟩) (v := ?va0) rfl (by kernel_rfl) (by kernel_rfl) (by kernel_rfl) (fun _ _ _ h => h) (Or.inl ⟨by rfl, ?ya0⟩) hS ?ra0
        case ya0 => intro W hW; go_simp; first | done | with_reducible rfl
        simp only [Act.put, List.setIfInBounds_toArray, List.set_cons_zero, List.set_cons_succ]
        refine wpAnyH_take (i := 1) (oi := ⟨some 18, _, _, _, _, _⟩) (v := ?va1) rfl (by kernel_rfl) (by kernel_rfl) (by kernel_rfl) (fun _ _ _ h => h) (Or.inl ⟨by rfl, ?ya1⟩) hS ?ra1
        case ya1 => intro W hW; go_simp; first | done | with_reducible rfl
        simp only [Act.put, List.setIfInBounds_toArray, List.set_cons_zero, List.set_cons_succ]
        refine wpAnyH_take (i := 2) (oi := ⟨some 19, _, _, _, _, _⟩) (v := ?va2) rfl (by kernel_rfl) (by kernel_rfl) (by kernel_rfl) (fun _ _ _ h => h) (Or.inl ⟨by rfl, ?ya2⟩) hS ?ra2
        case ya2 => intro W hW; have v0 := hix W; go_simp; first | done | with_reducible rfl
        simp only [Act.put, List.setIfInBounds_toArray, List.set_cons_zero, List.set_cons_succ]
        refine wpAnyH_take (i := 3) (oi := ⟨some 20, _, _, _, _, _⟩) (v := ?va3) rfl (by kernel_rfl) (by kernel_rfl) (by kernel_rfl) (fun _ _ _ h => h) (Or.inl ⟨by rfl, ?ya3⟩) hS ?ra3
        case ya3 => intro W hW; have v0 := hcell W hW; go_simp; first | done | with_reducible rfl
        simp only [Act.put, List.setIfInBounds_toArray, List.set_cons_zero, List.set_cons_succ]
        refine wpAnyH_take (i := 4) (oi := ⟨some 21, _, _, _, _, _⟩) (v := ?va4) rfl (by kernel_rfl) (by kernel_rfl) (by kernel_rfl) (fun _ _ _ h => h) (Or.inl ⟨by rfl, ?ya4⟩) hS ?ra4
        case ya4 => intro W hW; have v0 := hst W hW; go_simp; first | done | with_reducible rfl
        simp only [Act.put, List.setIfInBounds_toArray, List.set_cons_zero, List.set_cons_succ]
        refine wpAnyH_take (i := 5) (oi := ⟨some 22, _, _, _, _, _⟩) (v := ?va5) rfl (by kernel_rfl) (by kernel_rfl) (by kernel_rfl) (fun _ _ _ h => h) (Or.inl ⟨by rfl, ?ya5⟩) hS ?ra5
        case ya5 => intro W hW; go_simp; first | done | with_reducible rfl
        simp only [Act.put, List.setIfInBounds_toArray, List.set_cons_zero, List.set_cons_succ]
        refine wpAnyH_take (i := 6) (oi := ⟨some 23, _, _, _, _, _⟩) (v := ?va6) rfl (by kernel_rfl) (by kernel_rfl) (by kernel_rfl) (fun _ _ _ h => h) (Or.inl ⟨by rfl, ?ya6⟩) hS ?ra6
        case ya6 => intro W hW; go_simp; first | done | with_reducible rfl
        simp only [Act.put, List.setIfInBounds_toArray, List.set_cons_zero, List.set_cons_succ]
        refine wpAnyH_take (i := 7) (oi := ⟨some 24, _, _, _, _, _⟩) (v := ?va7) rfl (by kernel_rfl) (by kernel_rfl) (by kernel_rfl) (fun _ _ _ h => h) (Or.inl ⟨by rfl, ?ya7⟩) hS ?ra7
        case ya7 => intro W hW; have v0 := hix' W; go_simp; first | done | with_reducible rfl
        simp only [Act.put, List.setIfInBounds_toArray, List.set_cons_zero, List.set_cons_succ]
        refine wpAnyH_take (i := 8) (oi := ⟨some 25, _, _, _, _, _⟩) (v := ?va8) rfl (by kernel_rfl) (by kernel_rfl) (by kernel_rfl) (fun _ _ _ h => h) (Or.inl ⟨by rfl, ?ya8⟩) hS ?ra8
        case ya8 => intro W hW; have v0 := hcell' W hW; go_simp; first | done | with_reducible rfl
        simp only [Act.put, List.setIfInBounds_toArray, List.set_cons_zero, List.set_cons_succ]
        refine wpAnyH_take (i := 9) (oi := ⟨some 26, _, _, _, _, _⟩) (v := ?va9) rfl (by kernel_rfl) (by kernel_rfl) (by kernel_rfl) (fun _ _ _ h => h) (Or.inl ⟨by rfl, ?ya9⟩) hS ?ra9
        case ya9 => intro W hW; have v0 := hv; go_simp; first | done | with_reducible rfl
        simp only [Act.put, List.setIfInBounds_toArray, List.set_cons_zero, List.set_cons_succ]
        refine wpAnyH_done (by kernel_rfl) ?_ _
        clear hcell hcell' hst hix hix'
        cases v with
        | true =>
          go_wp2_with fail
          go_roundw
          case rel =>
            refine ⟨k + 1, by omega, by go_num, Lib.hid ?_, hS⟩
            rw [take_next HL.out, take_next HM.out, HT.out, of_decide_eq_true HV.out]
          case measure => simp [intOf]; omega
        | false =>
          have HE : Hid (decide (bs = ss) = false) := by
            show decide _ = false
            rw [decide_eq_false_iff_not]
            intro e
            subst e
            have := HL.out.symm.trans HM.out
            simp at this
            exact absurd this (of_decide_eq_false HV.out)
          go_wp2_with fail
          go_ret
          exact ⟨by rw [HE.out]; rfl, hS⟩
      · obtain rfl : k = n := by omega
        have HE : Hid (decide (bs = ss) = true) := by
          show decide _ = true
          rw [decide_eq_true_eq]
          have := HT.out
          rwa [List.take_of_length_le (by rw [h.1]; exact Nat.le_refl _), List.take_of_length_le (by rw [h'.1]; exact Nat.le_refl _)] at this
        go_wp2_with fail
        go_ret
        exact ⟨by rw [HE.out]; rfl, hb⟩
  · have hd : ((n : Int) != (n' : Int)) = true := by simp; omega
    have HE : Hid (decide (bs = ss) = false) := by
      show decide _ = false
      rw [decide_eq_false_iff_not]
      intro e
      subst e
      exact hne (h.1.symm.trans h'.1)
    clear hne
    go_enter Tryd.func16, Tryd.ntmps16
    go_wp2_with fail
    go_ret
    exact ⟨by rw [HE.out]; rfl, Below.refl _ _⟩
end Go.Proofs.YtknnncdmpfmgkaaDoor
