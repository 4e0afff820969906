/-
  SafeApart walked. Condition: texts of at most 140737488351232 bytes.
-/
import Derived.Test.YtonchnmcklgpoaaDoorSo
import Derived.BigQuiet
import Derived.OrdersHeld
namespace Go.Proofs.YtonchnmcklgpoaaDoor
open Go.RowKit Go.Maps
set_option linter.unusedVariables false

theorem rev_drop (L : List (List UInt8 × List UInt8)) (j : Nat) (f : List UInt8 × List UInt8) (h : L[j]? = some f) : (L.drop (j + 1)).reverse ++ [f] = (L.drop j).reverse := by
  have hk := (List.getElem?_eq_some_iff.1 h).1
  have e := (List.getElem?_eq_some_iff.1 h).2
  rw [List.drop_eq_getElem_cons hk, e, List.reverse_cons]
set_option maxHeartbeats 4000000 in
set_option maxRecDepth 100000 in
theorem apart_any (A0 : Option Addr) (n c : Nat) (fs : List (List UInt8 × List UInt8)) (w : World) (hc : n ≤ c) (hc2 : c ≤ 9223372036854775807) (hf : Fs w w.heap.size A0 n fs) (hN : ∀ f ∈ fs, f.1.length ≤ 140737488351232 ∧ f.2.length ≤ 140737488351232) : Calls Tryd.prog 7 #[.slice A0 n c] w fun e w' => e = .returned (.bool true) ∧ Below w.heap.size w w' := by
  have HSh : Hid (∀ w', Calls Tryd.prog 9 #[] w' fun e w2 => e = .returned (.bool true) ∧ Below w'.heap.size w' w2) := fun w' => shown_any w'
  obtain ⟨L, hL⟩ : ∃ L, L = fs.take 50 := ⟨_, rfl⟩
  obtain ⟨k, hk⟩ : ∃ k, k = L.length := ⟨_, rfl⟩
  have hk2 : k = (fs.take 50).length := by rw [hk, hL]
  have hkn : k ≤ n := by rw [hk2, List.length_take, hf.1]; omega
  have hmin : min (n : Int) 50 = (k : Int) := by rw [hk2, List.length_take, hf.1]; omega
  have hk1 : k ≤ 50 := by rw [hk2, List.length_take]; omega
  have HFk : Hid (Fs w w.heap.size A0 k L) := by
    have h := hf.take k hkn
    rw [hk2, List.length_take, ← List.take_take, List.take_length] at h
    rw [hk2, List.length_take, hL]
    exact h
  have hNL : ∀ f ∈ L, f.1.length ≤ 140737488351232 ∧ f.2.length ≤ 140737488351232 := fun f hm => hN f (by rw [hL] at hm; exact List.mem_of_mem_take hm)
  have hkc : (k : Int) ≤ (c : Int) := by omega
  obtain ⟨na, hna⟩ : ∃ na, na = (uns L).length := ⟨_, rfl⟩
  have hna1 : na ≤ k := by rw [hna, hk]; exact uns_len L
  have HU1 : Hid (∀ A c w', Fs w' w'.heap.size A k L → Calls Tryd.prog 16 #[.slice A k c] w' fun e w2 => ∃ A' c', e = .returned (.slice A' na c') ∧ na ≤ c' ∧ Tw w2 A' na (uns L) ∧ Below w'.heap.size w' w2) := fun A c w' h => unsafe_row L k na hk.symm hna.symm (by omega) hNL A c w' h
  have HU2 : Hid (∀ A c w', Fs w' w'.heap.size A k L.reverse → Calls Tryd.prog 16 #[.slice A k c] w' fun e w2 => ∃ A' c', e = .returned (.slice A' na c') ∧ na ≤ c' ∧ Tw w2 A' na (uns L) ∧ Below w'.heap.size w' w2) := fun A c w' h => by
    have h2 := unsafe_row L.reverse k na (by rw [List.length_reverse, hk]) (by rw [uns_rev, hna]) (by omega) (fun f hf => hNL f (List.mem_reverse.1 hf)) A c w' h
    rw [uns_rev] at h2
    exact h2
  have HLat : Hid (∀ i, i < k → ∃ f, L[i]? = some f) := fun i hi => ⟨L[i]'(by omega), List.getElem?_eq_getElem (by omega)⟩
  have HRd : Hid (∀ j f, L[j]? = some f → (L.drop (j + 1)).reverse ++ [f] = (L.drop j).reverse) := rev_drop L
  have HR0 : Hid ((L.drop k).reverse = []) := by show _ = _; rw [hk, List.drop_length]; rfl
  have HR1 : Hid ((L.drop 0).reverse = L.reverse) := rfl
  have HAt : Hid (∀ i, i < na → ∃ x, (uns L)[i]? = some x ∧ low x = x ∧ x.length ≤ 9223372036854775807) := fun i hi => by
    obtain ⟨x, h1⟩ : ∃ x, (uns L)[i]? = some x := ⟨_, List.getElem?_eq_getElem (by omega)⟩
    have hm := List.mem_of_getElem? h1
    refine ⟨x, h1, uns_low hm, ?_⟩
    rcases uns_cases L with ⟨e, _⟩ | ⟨e, _⟩
    · exact Nat.le_trans (nms_size (fs := L) (by rw [← e]; exact hm) 140737488351232 fun f hf => (hNL f hf).1) (by decide)
    · exact Nat.le_trans (nms_size (fs := ask L) (by rw [← e]; exact hm) 140737488351232 fun f hf => (hNL f (ask_mem.1 hf).1).1) (by decide)
  have HLt : Hid (∀ (i : Nat) x y, (uns L)[i]? = some x → (uns L)[i + 1]? = some y → x < y) := fun i x y h1 h2 => by
    obtain ⟨h3, h4⟩ := List.getElem?_eq_some_iff.1 h1
    obtain ⟨h5, h6⟩ := List.getElem?_eq_some_iff.1 h2
    rw [← h4, ← h6]
    exact List.pairwise_iff_getElem.1 (uns_sorted L) i (i + 1) h3 h5 (by omega)
  have HLin : Hid (∀ (B : Option Addr) (d : Nat) (w' : World) (x : List UInt8), Tw w' B na (uns L) → x ∈ uns L → Calls Tryd.prog 17 #[.slice B na d, .string (str x)] w' fun e w2 => e = .returned (.bool true) ∧ w2 = w') := fun B d w' x h hx => by
    have h2 := lin_any (uns L) x B na d w' (by omega) h
    rw [show (uns L).contains x = true by simpa using hx] at h2
    exact h2
  have HOne : Hid (∀ (i : Nat) f, L[i]? = some f → hdr f.1 f.2 = false → low f.1 ∈ uns L) := fun i f h1 h2 => uns_ask (List.mem_of_getElem? h1) h2
  have HNL : Hid (∀ (i : Nat) f, L[i]? = some f → f.1.length ≤ 140737488351232 ∧ f.2.length ≤ 140737488351232) := fun i f h => hNL f (List.mem_of_getElem? h)
  generalize uns L = UA at *
  clear hL hk hk2 hkn hf hna hN hNL
  go_enter Tryd.func7, Tryd.ntmps7
  go_wp2_with (first | (go_at_call 9; (with_reducible refine (HSh.out _).mono ?_); (rintro e w1 ⟨rfl, hb⟩); have HB1 := Lib.hid hb; clear hb HSh))
  go_loopw [5, 4] (fun i o wr => ∃ (j m : Nat) (A1 : Option Addr) (c1 : Nat), m + j = k ∧ i = .int .i64 (j : Int) ∧ o = .slice A1 m c1 ∧ OwnF 30 wr w.heap.size (.slice A1 m c1) m ((L.drop j).reverse) ∧ Kept w wr) (fun i _ _ => (intOf i).toNat)
  case atStart => exact ⟨k, 0, _, _, by omega, rfl, rfl, by rw [HR0.out]; exact ownF_nil _ _ _, HB1.out⟩
  case round =>
    obtain ⟨j0, m, A1, c1, hj, rfl, rfl, hof, hkp⟩ := hrel
    have HO := Lib.hid hof
    have HK := Lib.hid hkp
    clear hof hkp
    by_cases hlt : 0 < j0
    · have hjS : (0 : Int) < (j0 : Int) := by omega
      obtain ⟨j, hjj⟩ : ∃ j, j0 = j + 1 := ⟨j0 - 1, by omega⟩
      obtain ⟨b, off, f, rfl, hbl, hfk, hrg⟩ := ((HFk.out.below HK.out).range (k := j) (by omega))
      have HRj := Lib.hid (HRd.out j f hfk)
      obtain ⟨p, q⟩ := f
      have HR := Lib.hid hrg
      have HO2 : Hid (OwnF 30 wr w.heap.size (.slice A1 m c1) m ((L.drop (j + 1)).reverse)) := by rw [← hjj]; exact HO
      have hjk : (j : Int) < (k : Int) := by omega
      have hj0 : (0 : Int) ≤ (j : Int) := by omega
      have hw1 : (j0 : Int) - 1 = (j : Int) := by omega
      have hw2 : IntKind.i64.wrap (j : Int) = (j : Int) := by rw [IntKind.wrap_i64]; omega
      have hmj : m + 1 + j = k := by omega
      have hm9 : m ≤ 50 := by omega
      clear hfk hrg hbl HO hjj
      go_wp2_with (first
          | ((with_reducible show wpList _ _ _ (⟨some 29, .load 30 _, _, _, _, _⟩ :: _) _ _); refine wp_get _ rfl 30 _ rfl b (off + j * 2) [.string (str p), .string (str q)] _ rfl HR.out Tryd.underlying30 rfl (by kernel_rfl) ?_; simp only [Act.put, List.setIfInBounds_toArray, List.set_cons_zero, List.set_cons_succ])
          | ((with_reducible show wpList _ _ _ (⟨some 31, .call _, _, _, _, _⟩ :: _) _ _); refine wp_appF _ rfl _ _ 26 30 rfl Tryd.underlying26 fd_info w.heap.size _ m ((L.drop (j + 1)).reverse) rfl (HO2.out.alloc _) (wr.heap.size + 1) _ 1 1 [(p, q)] rfl (Fs.one _ _ _ _ _ rfl) (by omega) (Nat.le_trans HK.out.size (by simp)) (m + 1) rfl ?_; intro A7 c7 w7 hc7 hcm7 hown7 hb7 hgr7; simp only [Act.put, List.setIfInBounds_toArray, List.set_cons_zero, List.set_cons_succ]))
      go_roundw
      case rel => exact ⟨j, m + 1, A7, c7, hmj, by go_num, rfl, by rw [← HRj.out]; exact hown7, (HK.out.alloc _).base hb7⟩
      case measure => simp [intOf]; omega
    · have hjS : ¬ (0 : Int) < (j0 : Int) := by omega
      have hj00 : Hid (j0 = 0) := by show _ = _; omega
      have hmk : m = k := by omega
      have HF1 := Lib.hid (HFk.out.below HK.out)
      have ho := HO.out
      rw [hj00.out, HR1.out, hmk] at ho
      have HOr := Lib.hid ho
      obtain ⟨A8, c8, he8, _, _, hfs8⟩ := ho.form
      cases he8
      have HF8 := Lib.hid hfs8
      subst hmk
      clear ho hfs8
      have HFw : Hid (Fs wr wr.heap.size A0 m L) := (HFk.out.below HK.out).more HK.out.size
      go_wp2_with (first
          | (go_at_call 16; (with_reducible refine (HU1.out _ _ _ HFw.out).mono ?_); (rintro e w3 ⟨Aa, ca, rfl, hca, hta, hb⟩); have HTa := Lib.hid hta; have HK3 := Lib.hid (HK.out.step hb); have HF3 := Lib.hid (HFw.out.kept hb); have HF83 := Lib.hid (HF8.out.kept hb); clear hb hta HU1 HF8 HFw)
          | (go_at_call 16; (with_reducible refine (HU2.out _ _ _ HF83.out).mono ?_); (rintro e w4 ⟨Ab, cb, rfl, hcb, htb, hb⟩); have HTb := Lib.hid htb; have HTa4 := Lib.hid (HTa.out.kept hb); have HK4 := Lib.hid (HK3.out.step hb); have HF4 := Lib.hid (HF3.out.kept hb); clear hb htb HU2 HF83))
      go_loopw [8] (fun i wr => ∃ j : Nat, j ≤ na ∧ i = .int .i64 (j : Int) ∧ Kept w4 wr) (fun i _ => na - (intOf i).toNat)
      case atStart => exact ⟨0, by omega, rfl, Kept.refl _⟩
      case round =>
        obtain ⟨j, hj, rfl, hkp⟩ := hrel
        have HKx := Lib.hid hkp
        clear hkp
        by_cases hlt : j < na
        · have hjS : (j : Int) < (na : Int) := by omega
          obtain ⟨x, hx, hlo, hxl⟩ := HAt.out j hlt
          obtain ⟨ga, hga, hca2⟩ := HTa4.out.2 j x hx
          subst hga
          obtain ⟨gb, hgb, hcb2⟩ := HTb.out.2 j x hx
          subst hgb
          have HCa := Lib.hid hca2
          have HCb := Lib.hid hcb2
          have HLx : Hid (∀ w', Calls Tryd.prog 10 #[.string (str x)] w' fun e w2 => e = .returned (.string (str x)) ∧ Below w'.heap.size w' w2) := fun w' => by
            have h := lower_any x w' hxl
            rw [show List.map lwc x = x from hlo] at h
            exact h
          have heq : ((str x).toList == (str x).toList) = true := by rw [eq_str]; exact decide_eq_true rfl
          by_cases hpos : 0 < j
          · obtain ⟨i1, hji⟩ : ∃ i1, j = i1 + 1 := ⟨j - 1, by omega⟩
            obtain ⟨y, hy, _, _⟩ := HAt.out i1 (by omega)
            have hlt2 := HLt.out i1 y x hy (by rw [← hji]; exact hx)
            obtain ⟨gy, hgy, hcy⟩ := HTa4.out.2 i1 y hy
            have egg : ga = gy := by cases hgy; rfl
            subst egg
            have HCy := Lib.hid hcy
            have hge : Op.bytesLess (str y).toList (str x).toList = true := by rw [toList_str, toList_str, Go.Proofs.bytesLess_eq]; exact decide_eq_true hlt2
            have hp : decide ((0 : Int) < (j : Int)) = true := by simp; omega
            have hw3 : (j : Int) - 1 = (i1 : Int) := by omega
            have hw4 : IntKind.i64.wrap (i1 : Int) = (i1 : Int) := by rw [IntKind.wrap_i64]; omega
            have hi1 : (i1 : Int) < (na : Int) := by omega
            have hi0 : (0 : Int) ≤ (i1 : Int) := by omega
            have hj0 : (0 : Int) ≤ (j : Int) := by omega
            clear hx hy hgy hcy hca2 hcb2 hji
            go_wp2_with fail
            refine wp_region_held_drew (S := fun W => Kept w4 W) (by kernel_rfl) (HKx.out.drew) (fun hS => ?_)
            refine wpAnyH_take (i := 0) (oi := ⟨some 47, _, _, _, _, _⟩) (v := ?va0) rfl (by kernel_rfl) (by kernel_rfl) (by kernel_rfl) (fun _ _ _ h => h) (Or.inl ⟨by rfl, ?ya0⟩) hS ?ra0
            case ya0 => intro W hW; go_simp; first | done | with_reducible rfl
            simp only [Act.put, List.setIfInBounds_toArray, List.set_cons_zero, List.set_cons_succ]
            refine wpAnyH_take (i := 1) (oi := ⟨some 48, _, _, _, _, _⟩) (v := ?va1) rfl (by kernel_rfl) (by kernel_rfl) (by kernel_rfl) (fun _ _ _ h => h) (Or.inl ⟨by rfl, ?ya1⟩) hS ?ra1
            case ya1 => intro W hW; go_simp; first | done | with_reducible rfl
            simp only [Act.put, List.setIfInBounds_toArray, List.set_cons_zero, List.set_cons_succ]
            refine wpAnyH_take (i := 2) (oi := ⟨some 49, _, _, _, _, _⟩) (v := ?va2) rfl (by kernel_rfl) (by kernel_rfl) (by kernel_rfl) (fun _ _ _ h => h) (Or.inl ⟨by rfl, ?ya2⟩) hS ?ra2
            case ya2 => intro W hW; go_simp; first | done | with_reducible rfl
            simp only [Act.put, List.setIfInBounds_toArray, List.set_cons_zero, List.set_cons_succ]
            refine wpAnyH_take (i := 3) (oi := ⟨some 50, _, _, _, _, _⟩) (v := ?va3) rfl (by kernel_rfl) (by kernel_rfl) (by kernel_rfl) (fun _ _ _ h => h) (Or.inl ⟨by rfl, ?ya3⟩) hS ?ra3
            case ya3 => intro W hW; have d0 : W.cell? ⟨ga, j, none⟩ = some (.string (str x)) := (hW.cell (p := ⟨ga, j, none⟩) (World.block_lt_of_cell? w4 _ HCa.out)).trans HCa.out; go_simp; first | done | with_reducible rfl
            simp only [Act.put, List.setIfInBounds_toArray, List.set_cons_zero, List.set_cons_succ]
            refine wpAnyH_take (i := 4) (oi := ⟨some 51, _, _, _, _, _⟩) (v := ?va4) rfl (by kernel_rfl) (by kernel_rfl) (by kernel_rfl) (fun _ _ _ h => h) (Or.inl ⟨by rfl, ?ya4⟩) hS ?ra4
            case ya4 => intro W hW; go_simp; first | done | with_reducible rfl
            simp only [Act.put, List.setIfInBounds_toArray, List.set_cons_zero, List.set_cons_succ]
            refine wpAnyH_take (i := 5) (oi := ⟨some 52, _, _, _, _, _⟩) (v := ?va5) rfl (by kernel_rfl) (by kernel_rfl) (by kernel_rfl) (fun _ _ _ h => h) (Or.inl ⟨by rfl, ?ya5⟩) hS ?ra5
            case ya5 => intro W hW; go_simp; first | done | with_reducible rfl
            simp only [Act.put, List.setIfInBounds_toArray, List.set_cons_zero, List.set_cons_succ]
            refine wpAnyH_take (i := 6) (oi := ⟨some 53, _, _, _, _, _⟩) (v := ?va6) rfl (by kernel_rfl) (by kernel_rfl) (by kernel_rfl) (fun _ _ _ h => h) (Or.inl ⟨by rfl, ?ya6⟩) hS ?ra6
            case ya6 => intro W hW; go_simp; first | done | with_reducible rfl
            simp only [Act.put, List.setIfInBounds_toArray, List.set_cons_zero, List.set_cons_succ]
            refine wpAnyH_take (i := 7) (oi := ⟨some 54, _, _, _, _, _⟩) (v := ?va7) rfl (by kernel_rfl) (by kernel_rfl) (by kernel_rfl) (fun _ _ _ h => h) (Or.inl ⟨by rfl, ?ya7⟩) hS ?ra7
            case ya7 => intro W hW; have d1 : W.cell? ⟨gb, j, none⟩ = some (.string (str x)) := (hW.cell (p := ⟨gb, j, none⟩) (World.block_lt_of_cell? w4 _ HCb.out)).trans HCb.out; go_simp; first | done | with_reducible rfl
            simp only [Act.put, List.setIfInBounds_toArray, List.set_cons_zero, List.set_cons_succ]
            refine wpAnyH_take (i := 8) (oi := ⟨some 55, _, _, _, _, _⟩) (v := ?va8) rfl (by kernel_rfl) (by kernel_rfl) (by kernel_rfl) (fun _ _ _ h => h) (Or.inl ⟨by rfl, ?ya8⟩) hS ?ra8
            case ya8 => intro W hW; go_simp; first | done | with_reducible rfl
            simp only [Act.put, List.setIfInBounds_toArray, List.set_cons_zero, List.set_cons_succ]
            refine wpAnyH_take (i := 9) (oi := ⟨some 56, _, _, _, _, _⟩) (v := ?va9) rfl (by kernel_rfl) (by kernel_rfl) (by kernel_rfl) (fun _ _ _ h => h) (Or.inl ⟨by rfl, ?ya9⟩) hS ?ra9
            case ya9 => intro W hW; go_simp; first | done | with_reducible rfl
            simp only [Act.put, List.setIfInBounds_toArray, List.set_cons_zero, List.set_cons_succ]
            refine wpAnyH_take (i := 10) (oi := ⟨some 57, _, _, _, _, _⟩) (v := ?va10) rfl (by kernel_rfl) (by kernel_rfl) (by kernel_rfl) (fun _ _ _ h => h) (Or.inl ⟨by rfl, ?ya10⟩) hS ?ra10
            case ya10 => intro W hW; go_simp; first | done | with_reducible rfl
            simp only [Act.put, List.setIfInBounds_toArray, List.set_cons_zero, List.set_cons_succ]
            refine wpAnyH_take (i := 11) (oi := ⟨some 58, _, _, _, _, _⟩) (v := ?va11) rfl (by kernel_rfl) (by kernel_rfl) (by kernel_rfl) (fun _ _ _ h => h) (Or.inl ⟨by rfl, ?ya11⟩) hS ?ra11
            case ya11 => intro W hW; go_simp; first | done | with_reducible rfl
            simp only [Act.put, List.setIfInBounds_toArray, List.set_cons_zero, List.set_cons_succ]
            refine wpAnyH_take (i := 12) (oi := ⟨some 59, _, _, _, _, _⟩) (v := ?va12) rfl (by kernel_rfl) (by kernel_rfl) (by kernel_rfl) (fun _ _ _ h => h) (Or.inl ⟨by rfl, ?ya12⟩) hS ?ra12
            case ya12 => intro W hW; go_simp; first | done | with_reducible rfl
            simp only [Act.put, List.setIfInBounds_toArray, List.set_cons_zero, List.set_cons_succ]
            refine wpAnyH_take (i := 13) (oi := ⟨some 60, _, _, _, _, _⟩) (v := ?va13) rfl (by kernel_rfl) (by kernel_rfl) (by kernel_rfl) (fun _ _ _ h => h) (Or.inl ⟨by rfl, ?ya13⟩) hS ?ra13
            case ya13 => intro W hW; go_simp; first | done | with_reducible rfl
            simp only [Act.put, List.setIfInBounds_toArray, List.set_cons_zero, List.set_cons_succ]
            refine wpAnyH_take (i := 14) (oi := ⟨some 61, _, _, _, _, _⟩) (v := ?va14) rfl (by kernel_rfl) (by kernel_rfl) (by kernel_rfl) (fun _ _ _ h => h) (Or.inl ⟨by rfl, ?ya14⟩) hS ?ra14
            case ya14 => intro W hW; go_simp; first | done | with_reducible rfl
            simp only [Act.put, List.setIfInBounds_toArray, List.set_cons_zero, List.set_cons_succ]
            refine wpAnyH_take (i := 15) (oi := ⟨some 62, _, _, _, _, _⟩) (v := ?va15) rfl (by kernel_rfl) (by kernel_rfl) (by kernel_rfl) (fun _ _ _ h => h) (Or.inl ⟨by rfl, ?ya15⟩) hS ?ra15
            case ya15 => intro W hW; go_simp; first | done | with_reducible rfl
            simp only [Act.put, List.setIfInBounds_toArray, List.set_cons_zero, List.set_cons_succ]
            refine wpAnyH_take (i := 16) (oi := ⟨some 63, _, _, _, _, _⟩) (v := ?va16) rfl (by kernel_rfl) (by kernel_rfl) (by kernel_rfl) (fun _ _ _ h => h) (Or.inl ⟨by rfl, ?ya16⟩) hS ?ra16
            case ya16 => intro W hW; go_simp; first | done | with_reducible rfl
            simp only [Act.put, List.setIfInBounds_toArray, List.set_cons_zero, List.set_cons_succ]
            refine wpAnyH_take (i := 17) (oi := ⟨some 64, _, _, _, _, _⟩) (v := ?va17) rfl (by kernel_rfl) (by kernel_rfl) (by kernel_rfl) (fun _ _ _ h => h) (Or.inl ⟨by rfl, ?ya17⟩) hS ?ra17
            case ya17 => intro W hW; have d0 : W.cell? ⟨ga, i1, none⟩ = some (.string (str y)) := (hW.cell (p := ⟨ga, i1, none⟩) (World.block_lt_of_cell? w4 _ HCy.out)).trans HCy.out; go_simp; first | done | with_reducible rfl
            simp only [Act.put, List.setIfInBounds_toArray, List.set_cons_zero, List.set_cons_succ]
            refine wpAnyH_take (i := 18) (oi := ⟨some 65, _, _, _, _, _⟩) (v := ?va18) rfl (by kernel_rfl) (by kernel_rfl) (by kernel_rfl) (fun _ _ _ h => h) (Or.inl ⟨by rfl, ?ya18⟩) hS ?ra18
            case ya18 => intro W hW; go_simp; first | done | with_reducible rfl
            simp only [Act.put, List.setIfInBounds_toArray, List.set_cons_zero, List.set_cons_succ]
            refine wpAnyH_take (i := 19) (oi := ⟨some 66, _, _, _, _, _⟩) (v := ?va19) rfl (by kernel_rfl) (by kernel_rfl) (by kernel_rfl) (fun _ _ _ h => h) (Or.inl ⟨by rfl, ?ya19⟩) hS ?ra19
            case ya19 => intro W hW; go_simp; first | done | with_reducible rfl
            simp only [Act.put, List.setIfInBounds_toArray, List.set_cons_zero, List.set_cons_succ]
            refine wpAnyH_take (i := 20) (oi := ⟨some 67, _, _, _, _, _⟩) (v := ?va20) rfl (by kernel_rfl) (by kernel_rfl) (by kernel_rfl) (fun _ _ _ h => h) (Or.inl ⟨by rfl, ?ya20⟩) hS ?ra20
            case ya20 => intro W hW; go_simp; first | done | with_reducible rfl
            simp only [Act.put, List.setIfInBounds_toArray, List.set_cons_zero, List.set_cons_succ]
            refine wpAnyH_take (i := 21) (oi := ⟨some 68, _, _, _, _, _⟩) (v := ?va21) rfl (by kernel_rfl) (by kernel_rfl) (by kernel_rfl) (fun _ _ _ h => h) (Or.inl ⟨by rfl, ?ya21⟩) hS ?ra21
            case ya21 => intro W hW; have d1 : W.cell? ⟨ga, j, none⟩ = some (.string (str x)) := (hW.cell (p := ⟨ga, j, none⟩) (World.block_lt_of_cell? w4 _ HCa.out)).trans HCa.out; go_simp; first | done | with_reducible rfl
            simp only [Act.put, List.setIfInBounds_toArray, List.set_cons_zero, List.set_cons_succ]
            refine wpAnyH_take (i := 22) (oi := ⟨some 69, _, _, _, _, _⟩) (v := ?va22) rfl (by kernel_rfl) (by kernel_rfl) (by kernel_rfl) (fun _ _ _ h => h) (Or.inl ⟨by rfl, ?ya22⟩) hS ?ra22
            case ya22 => intro W hW; go_simp; first | done | with_reducible rfl
            simp only [Act.put, List.setIfInBounds_toArray, List.set_cons_zero, List.set_cons_succ]
            refine wpAnyH_take (i := 23) (oi := ⟨some 70, _, _, _, _, _⟩) (v := ?va23) rfl (by kernel_rfl) (by kernel_rfl) (by kernel_rfl) (fun _ _ _ h => h) (Or.inl ⟨by rfl, ?ya23⟩) hS ?ra23
            case ya23 => intro W hW; go_simp; first | done | with_reducible rfl
            simp only [Act.put, List.setIfInBounds_toArray, List.set_cons_zero, List.set_cons_succ]
            refine wpAnyH_take (i := 24) (oi := ⟨some 71, _, _, _, _, _⟩) (v := ?va24) rfl (by kernel_rfl) (by kernel_rfl) (by kernel_rfl) (fun _ _ _ h => h) (Or.inl ⟨by rfl, ?ya24⟩) hS ?ra24
            case ya24 => intro W hW; go_simp; first | done | with_reducible rfl
            simp only [Act.put, List.setIfInBounds_toArray, List.set_cons_zero, List.set_cons_succ]
            refine wpAnyH_take (i := 25) (oi := ⟨some 72, _, _, _, _, _⟩) (v := ?va25) rfl (by kernel_rfl) (by kernel_rfl) (by kernel_rfl) (fun _ _ _ h => h) (Or.inl ⟨by rfl, ?ya25⟩) hS ?ra25
            case ya25 => intro W hW; go_simp; first | done | with_reducible rfl
            simp only [Act.put, List.setIfInBounds_toArray, List.set_cons_zero, List.set_cons_succ]
            refine wpAnyH_take (i := 26) (oi := ⟨some 73, _, _, _, _, _⟩) (v := ?va26) rfl (by kernel_rfl) (by kernel_rfl) (by kernel_rfl) (fun _ _ _ h => h) (Or.inl ⟨by rfl, ?ya26⟩) hS ?ra26
            case ya26 => intro W hW; go_simp; first | done | with_reducible rfl
            simp only [Act.put, List.setIfInBounds_toArray, List.set_cons_zero, List.set_cons_succ]
            refine wpAnyH_take (i := 27) (oi := ⟨some 74, _, _, _, _, _⟩) (v := ?va27) rfl (by kernel_rfl) (by kernel_rfl) (by kernel_rfl) (fun _ _ _ h => h) (Or.inl ⟨by rfl, ?ya27⟩) hS ?ra27
            case ya27 => intro W hW; go_simp; first | done | with_reducible rfl
            simp only [Act.put, List.setIfInBounds_toArray, List.set_cons_zero, List.set_cons_succ]
            refine wpAnyH_take (i := 28) (oi := ⟨some 75, _, _, _, _, _⟩) (v := ?va28) rfl (by kernel_rfl) (by kernel_rfl) (by kernel_rfl) (fun _ _ _ h => h) (Or.inl ⟨by rfl, ?ya28⟩) hS ?ra28
            case ya28 => intro W hW; go_simp; first | done | with_reducible rfl
            simp only [Act.put, List.setIfInBounds_toArray, List.set_cons_zero, List.set_cons_succ]
            refine wpAnyH_take (i := 29) (oi := ⟨some 76, _, _, _, _, _⟩) (v := ?va29) rfl (by kernel_rfl) (by kernel_rfl) (by kernel_rfl) (fun _ _ _ h => h) (Or.inl ⟨by rfl, ?ya29⟩) hS ?ra29
            case ya29 => intro W hW; have d0 : W.cell? ⟨ga, j, none⟩ = some (.string (str x)) := (hW.cell (p := ⟨ga, j, none⟩) (World.block_lt_of_cell? w4 _ HCa.out)).trans HCa.out; go_simp; first | done | with_reducible rfl
            simp only [Act.put, List.setIfInBounds_toArray, List.set_cons_zero, List.set_cons_succ]
            refine wpAnyH_take (i := 31) (oi := ⟨some 78, _, _, _, _, _⟩) (v := ?va31) rfl (by kernel_rfl) (by kernel_rfl) (by kernel_rfl) (fun _ _ _ h => h) (Or.inl ⟨by rfl, ?ya31⟩) hS ?ra31
            case ya31 => intro W hW; go_simp; first | done | with_reducible rfl
            simp only [Act.put, List.setIfInBounds_toArray, List.set_cons_zero, List.set_cons_succ]
            refine wpAnyH_take (i := 32) (oi := ⟨some 79, _, _, _, _, _⟩) (v := ?va32) rfl (by kernel_rfl) (by kernel_rfl) (by kernel_rfl) (fun _ _ _ h => h) (Or.inl ⟨by rfl, ?ya32⟩) hS ?ra32
            case ya32 => intro W hW; go_simp; first | done | with_reducible rfl
            simp only [Act.put, List.setIfInBounds_toArray, List.set_cons_zero, List.set_cons_succ]
            refine wpAnyH_take (i := 33) (oi := ⟨some 80, _, _, _, _, _⟩) (v := ?va33) rfl (by kernel_rfl) (by kernel_rfl) (by kernel_rfl) (fun _ _ _ h => h) (Or.inl ⟨by rfl, ?ya33⟩) hS ?ra33
            case ya33 => intro W hW; go_simp; first | done | with_reducible rfl
            simp only [Act.put, List.setIfInBounds_toArray, List.set_cons_zero, List.set_cons_succ]
            refine wpAnyH_take (i := 34) (oi := ⟨some 81, _, _, _, _, _⟩) (v := ?va34) rfl (by kernel_rfl) (by kernel_rfl) (by kernel_rfl) (fun _ _ _ h => h) (Or.inl ⟨by rfl, ?ya34⟩) hS ?ra34
            case ya34 => intro W hW; have d0 : W.cell? ⟨ga, j, none⟩ = some (.string (str x)) := (hW.cell (p := ⟨ga, j, none⟩) (World.block_lt_of_cell? w4 _ HCa.out)).trans HCa.out; go_simp; first | done | with_reducible rfl
            simp only [Act.put, List.setIfInBounds_toArray, List.set_cons_zero, List.set_cons_succ]
            refine wpAnyH_ready (rs := [30]) (by kernel_rfl) (by simp) ?_
            refine (AllReadyH.cons (o := ⟨some 77, _, _, _, _, _⟩) rfl (fun K hK => ?_) AllReadyH.nil)
            try go_simp
            (with_reducible refine (HLx.out _).mono ?_)
            rintro e wxa30 ⟨rfl, hb⟩
            have hT := hS.step hb
            clear hS
            have hS := hT
            clear hT
            refine hK.out _ _ hS (fun _ => ?_)
            clear hK K
            try simp only [Act.put, List.setIfInBounds_toArray, List.set_cons_zero, List.set_cons_succ]
            refine wpAnyH_take (i := 35) (oi := ⟨some 82, _, _, _, _, _⟩) (v := ?va35) rfl (by kernel_rfl) (by kernel_rfl) (by kernel_rfl) (fun _ _ _ h => h) (Or.inl ⟨by rfl, ?ya35⟩) hS ?ra35
            case ya35 => intro W hW; go_simp; first | done | with_reducible rfl
            simp only [Act.put, List.setIfInBounds_toArray, List.set_cons_zero, List.set_cons_succ]
            refine wpAnyH_take (i := 36) (oi := ⟨some 83, _, _, _, _, _⟩) (v := ?va36) rfl (by kernel_rfl) (by kernel_rfl) (by kernel_rfl) (fun _ _ _ h => h) (Or.inl ⟨by rfl, ?ya36⟩) hS ?ra36
            case ya36 => intro W hW; go_simp; first | done | with_reducible rfl
            simp only [Act.put, List.setIfInBounds_toArray, List.set_cons_zero, List.set_cons_succ]
            refine wpAnyH_done (by kernel_rfl) ?_ _
            go_wp2_with fail
            go_roundw
            case rel => exact ⟨j + 1, by omega, by go_num, hS⟩
            case measure => simp [intOf]; omega
          · have hp : decide ((0 : Int) < (j : Int)) = false := by simp; omega
            have hj0 : (0 : Int) ≤ (j : Int) := by omega
            clear hx hca2 hcb2
            go_wp2_with fail
            refine wp_region_held_drew (S := fun W => Kept w4 W) (by kernel_rfl) (HKx.out.drew) (fun hS => ?_)
            refine wpAnyH_take (i := 0) (oi := ⟨some 47, _, _, _, _, _⟩) (v := ?vb0) rfl (by kernel_rfl) (by kernel_rfl) (by kernel_rfl) (fun _ _ _ h => h) (Or.inl ⟨by rfl, ?yb0⟩) hS ?rb0
            case yb0 => intro W hW; go_simp; first | done | with_reducible rfl
            simp only [Act.put, List.setIfInBounds_toArray, List.set_cons_zero, List.set_cons_succ]
            refine wpAnyH_take (i := 1) (oi := ⟨some 48, _, _, _, _, _⟩) (v := ?vb1) rfl (by kernel_rfl) (by kernel_rfl) (by kernel_rfl) (fun _ _ _ h => h) (Or.inl ⟨by rfl, ?yb1⟩) hS ?rb1
            case yb1 => intro W hW; go_simp; first | done | with_reducible rfl
            simp only [Act.put, List.setIfInBounds_toArray, List.set_cons_zero, List.set_cons_succ]
            refine wpAnyH_take (i := 2) (oi := ⟨some 49, _, _, _, _, _⟩) (v := ?vb2) rfl (by kernel_rfl) (by kernel_rfl) (by kernel_rfl) (fun _ _ _ h => h) (Or.inl ⟨by rfl, ?yb2⟩) hS ?rb2
            case yb2 => intro W hW; go_simp; first | done | with_reducible rfl
            simp only [Act.put, List.setIfInBounds_toArray, List.set_cons_zero, List.set_cons_succ]
            refine wpAnyH_take (i := 3) (oi := ⟨some 50, _, _, _, _, _⟩) (v := ?vb3) rfl (by kernel_rfl) (by kernel_rfl) (by kernel_rfl) (fun _ _ _ h => h) (Or.inl ⟨by rfl, ?yb3⟩) hS ?rb3
            case yb3 => intro W hW; have d0 : W.cell? ⟨ga, j, none⟩ = some (.string (str x)) := (hW.cell (p := ⟨ga, j, none⟩) (World.block_lt_of_cell? w4 _ HCa.out)).trans HCa.out; go_simp; first | done | with_reducible rfl
            simp only [Act.put, List.setIfInBounds_toArray, List.set_cons_zero, List.set_cons_succ]
            refine wpAnyH_take (i := 4) (oi := ⟨some 51, _, _, _, _, _⟩) (v := ?vb4) rfl (by kernel_rfl) (by kernel_rfl) (by kernel_rfl) (fun _ _ _ h => h) (Or.inl ⟨by rfl, ?yb4⟩) hS ?rb4
            case yb4 => intro W hW; go_simp; first | done | with_reducible rfl
            simp only [Act.put, List.setIfInBounds_toArray, List.set_cons_zero, List.set_cons_succ]
            refine wpAnyH_take (i := 5) (oi := ⟨some 52, _, _, _, _, _⟩) (v := ?vb5) rfl (by kernel_rfl) (by kernel_rfl) (by kernel_rfl) (fun _ _ _ h => h) (Or.inl ⟨by rfl, ?yb5⟩) hS ?rb5
            case yb5 => intro W hW; go_simp; first | done | with_reducible rfl
            simp only [Act.put, List.setIfInBounds_toArray, List.set_cons_zero, List.set_cons_succ]
            refine wpAnyH_take (i := 6) (oi := ⟨some 53, _, _, _, _, _⟩) (v := ?vb6) rfl (by kernel_rfl) (by kernel_rfl) (by kernel_rfl) (fun _ _ _ h => h) (Or.inl ⟨by rfl, ?yb6⟩) hS ?rb6
            case yb6 => intro W hW; go_simp; first | done | with_reducible rfl
            simp only [Act.put, List.setIfInBounds_toArray, List.set_cons_zero, List.set_cons_succ]
            refine wpAnyH_take (i := 7) (oi := ⟨some 54, _, _, _, _, _⟩) (v := ?vb7) rfl (by kernel_rfl) (by kernel_rfl) (by kernel_rfl) (fun _ _ _ h => h) (Or.inl ⟨by rfl, ?yb7⟩) hS ?rb7
            case yb7 => intro W hW; have d1 : W.cell? ⟨gb, j, none⟩ = some (.string (str x)) := (hW.cell (p := ⟨gb, j, none⟩) (World.block_lt_of_cell? w4 _ HCb.out)).trans HCb.out; go_simp; first | done | with_reducible rfl
            simp only [Act.put, List.setIfInBounds_toArray, List.set_cons_zero, List.set_cons_succ]
            refine wpAnyH_take (i := 8) (oi := ⟨some 55, _, _, _, _, _⟩) (v := ?vb8) rfl (by kernel_rfl) (by kernel_rfl) (by kernel_rfl) (fun _ _ _ h => h) (Or.inl ⟨by rfl, ?yb8⟩) hS ?rb8
            case yb8 => intro W hW; go_simp; first | done | with_reducible rfl
            simp only [Act.put, List.setIfInBounds_toArray, List.set_cons_zero, List.set_cons_succ]
            refine wpAnyH_take (i := 9) (oi := ⟨some 56, _, _, _, _, _⟩) (v := ?vb9) rfl (by kernel_rfl) (by kernel_rfl) (by kernel_rfl) (fun _ _ _ h => h) (Or.inl ⟨by rfl, ?yb9⟩) hS ?rb9
            case yb9 => intro W hW; go_simp; first | done | with_reducible rfl
            simp only [Act.put, List.setIfInBounds_toArray, List.set_cons_zero, List.set_cons_succ]
            refine wpAnyH_take (i := 10) (oi := ⟨some 57, _, _, _, _, _⟩) (v := ?vb10) rfl (by kernel_rfl) (by kernel_rfl) (by kernel_rfl) (fun _ _ _ h => h) (Or.inl ⟨by rfl, ?yb10⟩) hS ?rb10
            case yb10 => intro W hW; go_simp; first | done | with_reducible rfl
            simp only [Act.put, List.setIfInBounds_toArray, List.set_cons_zero, List.set_cons_succ]
            refine wpAnyH_take (i := 11) (oi := ⟨some 58, _, _, _, _, _⟩) (v := ?vb11) rfl (by kernel_rfl) (by kernel_rfl) (by kernel_rfl) (fun _ _ _ h => h) (Or.inl ⟨by rfl, ?yb11⟩) hS ?rb11
            case yb11 => intro W hW; go_simp; first | done | with_reducible rfl
            simp only [Act.put, List.setIfInBounds_toArray, List.set_cons_zero, List.set_cons_succ]
            refine wpAnyH_take (i := 12) (oi := ⟨some 59, _, _, _, _, _⟩) (v := ?vb12) rfl (by kernel_rfl) (by kernel_rfl) (by kernel_rfl) (fun _ _ _ h => h) (Or.inl ⟨by rfl, ?yb12⟩) hS ?rb12
            case yb12 => intro W hW; go_simp; first | done | with_reducible rfl
            simp only [Act.put, List.setIfInBounds_toArray, List.set_cons_zero, List.set_cons_succ]
            refine wpAnyH_take (i := 13) (oi := ⟨some 60, _, _, _, _, _⟩) (v := undef) rfl (by kernel_rfl) (by kernel_rfl) (by kernel_rfl) (fun _ _ _ h => h) (Or.inr ⟨by rfl, rfl⟩) hS ?_
            simp only [Act.put, List.setIfInBounds_toArray, List.set_cons_zero, List.set_cons_succ]
            refine wpAnyH_take (i := 14) (oi := ⟨some 61, _, _, _, _, _⟩) (v := undef) rfl (by kernel_rfl) (by kernel_rfl) (by kernel_rfl) (fun _ _ _ h => h) (Or.inr ⟨by rfl, rfl⟩) hS ?_
            simp only [Act.put, List.setIfInBounds_toArray, List.set_cons_zero, List.set_cons_succ]
            refine wpAnyH_take (i := 15) (oi := ⟨some 62, _, _, _, _, _⟩) (v := undef) rfl (by kernel_rfl) (by kernel_rfl) (by kernel_rfl) (fun _ _ _ h => h) (Or.inr ⟨by rfl, rfl⟩) hS ?_
            simp only [Act.put, List.setIfInBounds_toArray, List.set_cons_zero, List.set_cons_succ]
            refine wpAnyH_take (i := 16) (oi := ⟨some 63, _, _, _, _, _⟩) (v := undef) rfl (by kernel_rfl) (by kernel_rfl) (by kernel_rfl) (fun _ _ _ h => h) (Or.inr ⟨by rfl, rfl⟩) hS ?_
            simp only [Act.put, List.setIfInBounds_toArray, List.set_cons_zero, List.set_cons_succ]
            refine wpAnyH_take (i := 17) (oi := ⟨some 64, _, _, _, _, _⟩) (v := undef) rfl (by kernel_rfl) (by kernel_rfl) (by kernel_rfl) (fun _ _ _ h => h) (Or.inr ⟨by rfl, rfl⟩) hS ?_
            simp only [Act.put, List.setIfInBounds_toArray, List.set_cons_zero, List.set_cons_succ]
            refine wpAnyH_take (i := 18) (oi := ⟨some 65, _, _, _, _, _⟩) (v := undef) rfl (by kernel_rfl) (by kernel_rfl) (by kernel_rfl) (fun _ _ _ h => h) (Or.inr ⟨by rfl, rfl⟩) hS ?_
            simp only [Act.put, List.setIfInBounds_toArray, List.set_cons_zero, List.set_cons_succ]
            refine wpAnyH_take (i := 19) (oi := ⟨some 66, _, _, _, _, _⟩) (v := undef) rfl (by kernel_rfl) (by kernel_rfl) (by kernel_rfl) (fun _ _ _ h => h) (Or.inr ⟨by rfl, rfl⟩) hS ?_
            simp only [Act.put, List.setIfInBounds_toArray, List.set_cons_zero, List.set_cons_succ]
            refine wpAnyH_take (i := 20) (oi := ⟨some 67, _, _, _, _, _⟩) (v := undef) rfl (by kernel_rfl) (by kernel_rfl) (by kernel_rfl) (fun _ _ _ h => h) (Or.inr ⟨by rfl, rfl⟩) hS ?_
            simp only [Act.put, List.setIfInBounds_toArray, List.set_cons_zero, List.set_cons_succ]
            refine wpAnyH_take (i := 21) (oi := ⟨some 68, _, _, _, _, _⟩) (v := undef) rfl (by kernel_rfl) (by kernel_rfl) (by kernel_rfl) (fun _ _ _ h => h) (Or.inr ⟨by rfl, rfl⟩) hS ?_
            simp only [Act.put, List.setIfInBounds_toArray, List.set_cons_zero, List.set_cons_succ]
            refine wpAnyH_take (i := 22) (oi := ⟨some 69, _, _, _, _, _⟩) (v := undef) rfl (by kernel_rfl) (by kernel_rfl) (by kernel_rfl) (fun _ _ _ h => h) (Or.inr ⟨by rfl, rfl⟩) hS ?_
            simp only [Act.put, List.setIfInBounds_toArray, List.set_cons_zero, List.set_cons_succ]
            refine wpAnyH_take (i := 23) (oi := ⟨some 70, _, _, _, _, _⟩) (v := ?vb23) rfl (by kernel_rfl) (by kernel_rfl) (by kernel_rfl) (fun _ _ _ h => h) (Or.inl ⟨by rfl, ?yb23⟩) hS ?rb23
            case yb23 => intro W hW; go_simp; first | done | with_reducible rfl
            simp only [Act.put, List.setIfInBounds_toArray, List.set_cons_zero, List.set_cons_succ]
            refine wpAnyH_take (i := 24) (oi := ⟨some 71, _, _, _, _, _⟩) (v := ?vb24) rfl (by kernel_rfl) (by kernel_rfl) (by kernel_rfl) (fun _ _ _ h => h) (Or.inl ⟨by rfl, ?yb24⟩) hS ?rb24
            case yb24 => intro W hW; go_simp; first | done | with_reducible rfl
            simp only [Act.put, List.setIfInBounds_toArray, List.set_cons_zero, List.set_cons_succ]
            refine wpAnyH_take (i := 25) (oi := ⟨some 72, _, _, _, _, _⟩) (v := ?vb25) rfl (by kernel_rfl) (by kernel_rfl) (by kernel_rfl) (fun _ _ _ h => h) (Or.inl ⟨by rfl, ?yb25⟩) hS ?rb25
            case yb25 => intro W hW; go_simp; first | done | with_reducible rfl
            simp only [Act.put, List.setIfInBounds_toArray, List.set_cons_zero, List.set_cons_succ]
            refine wpAnyH_take (i := 26) (oi := ⟨some 73, _, _, _, _, _⟩) (v := ?vb26) rfl (by kernel_rfl) (by kernel_rfl) (by kernel_rfl) (fun _ _ _ h => h) (Or.inl ⟨by rfl, ?yb26⟩) hS ?rb26
            case yb26 => intro W hW; go_simp; first | done | with_reducible rfl
            simp only [Act.put, List.setIfInBounds_toArray, List.set_cons_zero, List.set_cons_succ]
            refine wpAnyH_take (i := 27) (oi := ⟨some 74, _, _, _, _, _⟩) (v := ?vb27) rfl (by kernel_rfl) (by kernel_rfl) (by kernel_rfl) (fun _ _ _ h => h) (Or.inl ⟨by rfl, ?yb27⟩) hS ?rb27
            case yb27 => intro W hW; go_simp; first | done | with_reducible rfl
            simp only [Act.put, List.setIfInBounds_toArray, List.set_cons_zero, List.set_cons_succ]
            refine wpAnyH_take (i := 28) (oi := ⟨some 75, _, _, _, _, _⟩) (v := ?vb28) rfl (by kernel_rfl) (by kernel_rfl) (by kernel_rfl) (fun _ _ _ h => h) (Or.inl ⟨by rfl, ?yb28⟩) hS ?rb28
            case yb28 => intro W hW; go_simp; first | done | with_reducible rfl
            simp only [Act.put, List.setIfInBounds_toArray, List.set_cons_zero, List.set_cons_succ]
            refine wpAnyH_take (i := 29) (oi := ⟨some 76, _, _, _, _, _⟩) (v := ?vb29) rfl (by kernel_rfl) (by kernel_rfl) (by kernel_rfl) (fun _ _ _ h => h) (Or.inl ⟨by rfl, ?yb29⟩) hS ?rb29
            case yb29 => intro W hW; have d0 : W.cell? ⟨ga, j, none⟩ = some (.string (str x)) := (hW.cell (p := ⟨ga, j, none⟩) (World.block_lt_of_cell? w4 _ HCa.out)).trans HCa.out; go_simp; first | done | with_reducible rfl
            simp only [Act.put, List.setIfInBounds_toArray, List.set_cons_zero, List.set_cons_succ]
            refine wpAnyH_take (i := 31) (oi := ⟨some 78, _, _, _, _, _⟩) (v := ?vb31) rfl (by kernel_rfl) (by kernel_rfl) (by kernel_rfl) (fun _ _ _ h => h) (Or.inl ⟨by rfl, ?yb31⟩) hS ?rb31
            case yb31 => intro W hW; go_simp; first | done | with_reducible rfl
            simp only [Act.put, List.setIfInBounds_toArray, List.set_cons_zero, List.set_cons_succ]
            refine wpAnyH_take (i := 32) (oi := ⟨some 79, _, _, _, _, _⟩) (v := ?vb32) rfl (by kernel_rfl) (by kernel_rfl) (by kernel_rfl) (fun _ _ _ h => h) (Or.inl ⟨by rfl, ?yb32⟩) hS ?rb32
            case yb32 => intro W hW; go_simp; first | done | with_reducible rfl
            simp only [Act.put, List.setIfInBounds_toArray, List.set_cons_zero, List.set_cons_succ]
            refine wpAnyH_take (i := 33) (oi := ⟨some 80, _, _, _, _, _⟩) (v := ?vb33) rfl (by kernel_rfl) (by kernel_rfl) (by kernel_rfl) (fun _ _ _ h => h) (Or.inl ⟨by rfl, ?yb33⟩) hS ?rb33
            case yb33 => intro W hW; go_simp; first | done | with_reducible rfl
            simp only [Act.put, List.setIfInBounds_toArray, List.set_cons_zero, List.set_cons_succ]
            refine wpAnyH_take (i := 34) (oi := ⟨some 81, _, _, _, _, _⟩) (v := ?vb34) rfl (by kernel_rfl) (by kernel_rfl) (by kernel_rfl) (fun _ _ _ h => h) (Or.inl ⟨by rfl, ?yb34⟩) hS ?rb34
            case yb34 => intro W hW; have d0 : W.cell? ⟨ga, j, none⟩ = some (.string (str x)) := (hW.cell (p := ⟨ga, j, none⟩) (World.block_lt_of_cell? w4 _ HCa.out)).trans HCa.out; go_simp; first | done | with_reducible rfl
            simp only [Act.put, List.setIfInBounds_toArray, List.set_cons_zero, List.set_cons_succ]
            refine wpAnyH_ready (rs := [30]) (by kernel_rfl) (by simp) ?_
            refine (AllReadyH.cons (o := ⟨some 77, _, _, _, _, _⟩) rfl (fun K hK => ?_) AllReadyH.nil)
            try go_simp
            (with_reducible refine (HLx.out _).mono ?_)
            rintro e wxb30 ⟨rfl, hb⟩
            have hT := hS.step hb
            clear hS
            have hS := hT
            clear hT
            refine hK.out _ _ hS (fun _ => ?_)
            clear hK K
            try simp only [Act.put, List.setIfInBounds_toArray, List.set_cons_zero, List.set_cons_succ]
            refine wpAnyH_take (i := 35) (oi := ⟨some 82, _, _, _, _, _⟩) (v := ?vb35) rfl (by kernel_rfl) (by kernel_rfl) (by kernel_rfl) (fun _ _ _ h => h) (Or.inl ⟨by rfl, ?yb35⟩) hS ?rb35
            case yb35 => intro W hW; go_simp; first | done | with_reducible rfl
            simp only [Act.put, List.setIfInBounds_toArray, List.set_cons_zero, List.set_cons_succ]
            refine wpAnyH_take (i := 36) (oi := ⟨some 83, _, _, _, _, _⟩) (v := ?vb36) rfl (by kernel_rfl) (by kernel_rfl) (by kernel_rfl) (fun _ _ _ h => h) (Or.inl ⟨by rfl, ?yb36⟩) hS ?rb36
            case yb36 => intro W hW; go_simp; first | done | with_reducible rfl
            simp only [Act.put, List.setIfInBounds_toArray, List.set_cons_zero, List.set_cons_succ]
            refine wpAnyH_done (by kernel_rfl) ?_ _
            go_wp2_with fail
            go_roundw
            case rel => exact ⟨j + 1, by omega, by go_num, hS⟩
            case measure => simp [intOf]; omega
        · have hjS : ¬ (j : Int) < (na : Int) := by omega
          have hHx : Hid (Kept w wr) := HK4.out.step HKx.out
          have HFx : Hid (Fs wr wr.heap.size A0 m L) := HF4.out.kept HKx.out
          have HTx : Hid (Tw wr Aa na UA) := HTa4.out.kept HKx.out
          clear HKx HK4 HF4 HTa4 HTb
          go_wp2_with fail
          go_loopw [9] (fun i wz => ∃ i1 : Nat, i1 ≤ m ∧ i = .int .i64 (i1 : Int) ∧ Kept w wz ∧ Below wr.heap.size wr wz) (fun i _ => m - (intOf i).toNat)
          case atStart => exact ⟨0, by omega, rfl, hHx.out, Below.refl _ _⟩
          case round =>
            obtain ⟨i1, hi1, rfl, hkp, hbz⟩ := hrel
            have HKz := Lib.hid hkp
            have HBz := Lib.hid hbz
            clear hkp hbz
            by_cases hlt3 : i1 < m
            · have hiS : (i1 : Int) < (m : Int) := by omega
              obtain ⟨b, off, f, rfl, hbl, hfi, h0, h1⟩ := (HFx.out.below HBz.out).at_ hlt3
              have hNf := HNL.out i1 f hfi
              have hOf := HOne.out i1 f hfi
              obtain ⟨p, q⟩ := f
              have hNf : p.length ≤ 140737488351232 ∧ q.length ≤ 140737488351232 := hNf
              have hOf : hdr p q = false → low p ∈ UA := hOf
              have hFo : Fs wr wr.heap.size (some ⟨b, off + i1 * 2, none⟩) 1 [(p, q)] := ⟨rfl, fun _ => ⟨b, off + i1 * 2, rfl, Nat.lt_of_lt_of_le hbl HBz.out.size, fun j f hj => by
                match j, hj with
                | 0, hj =>
                  simp at hj
                  subst hj
                  exact ⟨h0, h1⟩⟩⟩
              have HFo := Lib.hid hFo
              have HC0 := Lib.hid h0
              have HC1 := Lib.hid h1
              have HTz : Hid (Tw wr Aa na UA) := HTx.out.kept HBz.out
              have hic : ¬ (c : Int) = (i1 : Int) := by omega
              have HHd : Hid (∀ w', Calls Tryd.prog 12 #[.string (str p), .string (str q)] w' fun e w2 => e = .returned (.bool (hdr p q)) ∧ Below w'.heap.size w' w2) := fun w' => header_any p q w' (by omega) (by omega)
              have hiS1 : (i1 : Int) + 1 ≤ (c : Int) := by omega
              cases hH : hdr p q
              · have HU3 : Hid (∀ A c w', Fs w' w'.heap.size A 1 [(p, q)] → Calls Tryd.prog 16 #[.slice A 1 c] w' fun e w2 => ∃ A' c', e = .returned (.slice A' 1 c') ∧ 1 ≤ c' ∧ Tw w2 A' 1 [low p] ∧ Below w'.heap.size w' w2) := fun A c w' h => by
                  have h2 := unsafe_row [(p, q)] 1 1 rfl (by rw [uns_one, if_neg (by rw [hH]; decide)]; rfl) (by omega) (fun f hf => by rw [List.mem_singleton.1 hf]; exact hNf) A c w' h
                  rw [uns_one, if_neg (by rw [hH]; decide)] at h2
                  exact h2
                rw [hH] at HHd
                have HMem := Lib.hid (hOf hH)
                clear hH hOf hNf hFo h0 h1 hbl hfi
                go_wp2_with (first | (go_at_call 16; (with_reducible refine (HU3.out _ _ _ HFo.out).mono ?_); (rintro e w5 ⟨A5, c5, rfl, hc5, ht5, hb⟩); have HB5 := Lib.hid hb; have HT5 := Lib.hid ht5; have HD0 : Hid (w5.cell? ⟨b, off + i1 * 2, none⟩ = some (.string (str p))) := (hb.cell (p := ⟨b, off + i1 * 2, none⟩) (World.block_lt_of_cell? wr _ HC0.out)).trans HC0.out; have HD1 : Hid (w5.cell? ⟨b, off + i1 * 2 + 1, none⟩ = some (.string (str q))) := (hb.cell (p := ⟨b, off + i1 * 2 + 1, none⟩) (World.block_lt_of_cell? wr _ HC1.out)).trans HC1.out; clear hb ht5 hc5 HU3))
                refine wp_region_held_drew (S := fun W => Kept w5 W) (by kernel_rfl) ((Kept.refl w5).drew) (fun hS => ?_)
                refine wpAnyH_take (i := 0) (oi := ⟨some 96, _, _, _, _, _⟩) (v := ?ve0) rfl (by kernel_rfl) (by kernel_rfl) (by kernel_rfl) (fun _ _ _ h => h) (Or.inl ⟨by rfl, ?ye0⟩) hS ?re0
                case ye0 => intro W hW; go_simp; first | done | with_reducible rfl
                simp only [Act.put, List.setIfInBounds_toArray, List.set_cons_zero, List.set_cons_succ]
                refine wpAnyH_take (i := 1) (oi := ⟨some 97, _, _, _, _, _⟩) (v := ?ve1) rfl (by kernel_rfl) (by kernel_rfl) (by kernel_rfl) (fun _ _ _ h => h) (Or.inl ⟨by rfl, ?ye1⟩) hS ?re1
                case ye1 => intro W hW; go_simp; first | done | with_reducible rfl
                simp only [Act.put, List.setIfInBounds_toArray, List.set_cons_zero, List.set_cons_succ]
                refine wpAnyH_take (i := 2) (oi := ⟨some 98, _, _, _, _, _⟩) (v := ?ve2) rfl (by kernel_rfl) (by kernel_rfl) (by kernel_rfl) (fun _ _ _ h => h) (Or.inl ⟨by rfl, ?ye2⟩) hS ?re2
                case ye2 => intro W hW; go_simp; first | done | with_reducible rfl
                simp only [Act.put, List.setIfInBounds_toArray, List.set_cons_zero, List.set_cons_succ]
                refine wpAnyH_take (i := 3) (oi := ⟨some 99, _, _, _, _, _⟩) (v := ?ve3) rfl (by kernel_rfl) (by kernel_rfl) (by kernel_rfl) (fun _ _ _ h => h) (Or.inl ⟨by rfl, ?ye3⟩) hS ?re3
                case ye3 => intro W hW; go_simp; first | done | with_reducible rfl
                simp only [Act.put, List.setIfInBounds_toArray, List.set_cons_zero, List.set_cons_succ]
                refine wpAnyH_take (i := 4) (oi := ⟨some 100, _, _, _, _, _⟩) (v := ?ve4) rfl (by kernel_rfl) (by kernel_rfl) (by kernel_rfl) (fun _ _ _ h => h) (Or.inl ⟨by rfl, ?ye4⟩) hS ?re4
                case ye4 => intro W hW; have d0 : W.cell? ⟨b, off + i1 * 2, none⟩ = some (.string (str p)) := (hW.cell (p := ⟨b, off + i1 * 2, none⟩) (World.block_lt_of_cell? w5 _ HD0.out)).trans HD0.out; go_simp; first | done | with_reducible rfl
                simp only [Act.put, List.setIfInBounds_toArray, List.set_cons_zero, List.set_cons_succ]
                refine wpAnyH_take (i := 5) (oi := ⟨some 101, _, _, _, _, _⟩) (v := ?ve5) rfl (by kernel_rfl) (by kernel_rfl) (by kernel_rfl) (fun _ _ _ h => h) (Or.inl ⟨by rfl, ?ye5⟩) hS ?re5
                case ye5 => intro W hW; go_simp; first | done | with_reducible rfl
                simp only [Act.put, List.setIfInBounds_toArray, List.set_cons_zero, List.set_cons_succ]
                refine wpAnyH_take (i := 6) (oi := ⟨some 102, _, _, _, _, _⟩) (v := ?ve6) rfl (by kernel_rfl) (by kernel_rfl) (by kernel_rfl) (fun _ _ _ h => h) (Or.inl ⟨by rfl, ?ye6⟩) hS ?re6
                case ye6 => intro W hW; go_simp; first | done | with_reducible rfl
                simp only [Act.put, List.setIfInBounds_toArray, List.set_cons_zero, List.set_cons_succ]
                refine wpAnyH_take (i := 7) (oi := ⟨some 103, _, _, _, _, _⟩) (v := ?ve7) rfl (by kernel_rfl) (by kernel_rfl) (by kernel_rfl) (fun _ _ _ h => h) (Or.inl ⟨by rfl, ?ye7⟩) hS ?re7
                case ye7 => intro W hW; go_simp; first | done | with_reducible rfl
                simp only [Act.put, List.setIfInBounds_toArray, List.set_cons_zero, List.set_cons_succ]
                refine wpAnyH_take (i := 8) (oi := ⟨some 104, _, _, _, _, _⟩) (v := ?ve8) rfl (by kernel_rfl) (by kernel_rfl) (by kernel_rfl) (fun _ _ _ h => h) (Or.inl ⟨by rfl, ?ye8⟩) hS ?re8
                case ye8 => intro W hW; go_simp; first | done | with_reducible rfl
                simp only [Act.put, List.setIfInBounds_toArray, List.set_cons_zero, List.set_cons_succ]
                refine wpAnyH_take (i := 9) (oi := ⟨some 105, _, _, _, _, _⟩) (v := ?ve9) rfl (by kernel_rfl) (by kernel_rfl) (by kernel_rfl) (fun _ _ _ h => h) (Or.inl ⟨by rfl, ?ye9⟩) hS ?re9
                case ye9 => intro W hW; have d1 : W.cell? ⟨b, off + i1 * 2 + 1, none⟩ = some (.string (str q)) := (hW.cell (p := ⟨b, off + i1 * 2 + 1, none⟩) (World.block_lt_of_cell? w5 _ HD1.out)).trans HD1.out; go_simp; first | done | with_reducible rfl
                simp only [Act.put, List.setIfInBounds_toArray, List.set_cons_zero, List.set_cons_succ]
                refine wpAnyH_ready (rs := [10]) (by kernel_rfl) (by simp) ?_
                refine (AllReadyH.cons (o := ⟨some 106, _, _, _, _, _⟩) rfl (fun K hK => ?_) AllReadyH.nil)
                try go_simp
                (with_reducible refine (HHd.out _).mono ?_)
                rintro e wxe10 ⟨rfl, hb⟩
                have hT := hS.step hb
                clear hS
                have hS := hT
                clear hT
                refine hK.out _ _ hS (fun _ => ?_)
                clear hK K
                try simp only [Act.put, List.setIfInBounds_toArray, List.set_cons_zero, List.set_cons_succ]
                refine wpAnyH_take (i := 11) (oi := ⟨some 11, _, _, _, _, _⟩) (v := ?ve11) rfl (by kernel_rfl) (by kernel_rfl) (by kernel_rfl) (fun _ _ _ h => h) (Or.inl ⟨by rfl, ?ye11⟩) hS ?re11
                case ye11 => intro W hW; go_simp; first | done | with_reducible rfl
                simp only [Act.put, List.setIfInBounds_toArray, List.set_cons_zero, List.set_cons_succ]
                refine wpAnyH_done (by kernel_rfl) ?_ _
                have HB5S := HB5.out.trans (Below.mono hS HB5.out.size)
                obtain ⟨g5, hg5, hc5x⟩ := HT5.out.2 0 _ rfl
                subst hg5
                have hcell := (hS.cell (p := ⟨g5, 0, none⟩) (World.block_lt_of_cell? w5 _ hc5x)).trans hc5x
                unfold vstr at hcell
                have HTl := Lib.hid (HTz.out.kept HB5S)
                go_wp2_with (first | (go_at_call 17; (with_reducible refine (HLin.out Aa ca _ (low p) HTl.out HMem.out).mono ?_); (rintro e w7 ⟨rfl, hq⟩); subst w7))
                go_roundw
                case rel => exact ⟨i1 + 1, by omega, by go_num, HKz.out.step HB5S, HBz.out.trans (HB5S.mono HBz.out.size)⟩
                case measure => simp [intOf]; omega
              · have HU3 : Hid (∀ A c w', Fs w' w'.heap.size A 1 [(p, q)] → Calls Tryd.prog 16 #[.slice A 1 c] w' fun e w2 => ∃ A' c', e = .returned (.slice A' 0 c') ∧ 0 ≤ c' ∧ Tw w2 A' 0 [] ∧ Below w'.heap.size w' w2) := fun A c w' h => by
                  have h2 := unsafe_row [(p, q)] 1 0 rfl (by rw [uns_one, if_pos hH]; rfl) (by omega) (fun f hf => by rw [List.mem_singleton.1 hf]; exact hNf) A c w' h
                  rw [uns_one, if_pos hH] at h2
                  exact h2
                rw [hH] at HHd
                clear hH hOf hNf hFo h0 h1 hbl hfi
                go_wp2_with (first | (go_at_call 16; (with_reducible refine (HU3.out _ _ _ HFo.out).mono ?_); (rintro e w5 ⟨A5, c5, rfl, hc5, ht5, hb⟩); have HB5 := Lib.hid hb; have HT5 := Lib.hid ht5; have HD0 : Hid (w5.cell? ⟨b, off + i1 * 2, none⟩ = some (.string (str p))) := (hb.cell (p := ⟨b, off + i1 * 2, none⟩) (World.block_lt_of_cell? wr _ HC0.out)).trans HC0.out; have HD1 : Hid (w5.cell? ⟨b, off + i1 * 2 + 1, none⟩ = some (.string (str q))) := (hb.cell (p := ⟨b, off + i1 * 2 + 1, none⟩) (World.block_lt_of_cell? wr _ HC1.out)).trans HC1.out; clear hb ht5 hc5 HU3))
                refine wp_region_held_drew (S := fun W => Kept w5 W) (by kernel_rfl) ((Kept.refl w5).drew) (fun hS => ?_)
                refine wpAnyH_take (i := 0) (oi := ⟨some 96, _, _, _, _, _⟩) (v := ?vf0) rfl (by kernel_rfl) (by kernel_rfl) (by kernel_rfl) (fun _ _ _ h => h) (Or.inl ⟨by rfl, ?yf0⟩) hS ?rf0
                case yf0 => intro W hW; go_simp; first | done | with_reducible rfl
                simp only [Act.put, List.setIfInBounds_toArray, List.set_cons_zero, List.set_cons_succ]
                refine wpAnyH_take (i := 1) (oi := ⟨some 97, _, _, _, _, _⟩) (v := ?vf1) rfl (by kernel_rfl) (by kernel_rfl) (by kernel_rfl) (fun _ _ _ h => h) (Or.inl ⟨by rfl, ?yf1⟩) hS ?rf1
                case yf1 => intro W hW; go_simp; first | done | with_reducible rfl
                simp only [Act.put, List.setIfInBounds_toArray, List.set_cons_zero, List.set_cons_succ]
                refine wpAnyH_take (i := 2) (oi := ⟨some 98, _, _, _, _, _⟩) (v := ?vf2) rfl (by kernel_rfl) (by kernel_rfl) (by kernel_rfl) (fun _ _ _ h => h) (Or.inl ⟨by rfl, ?yf2⟩) hS ?rf2
                case yf2 => intro W hW; go_simp; first | done | with_reducible rfl
                simp only [Act.put, List.setIfInBounds_toArray, List.set_cons_zero, List.set_cons_succ]
                refine wpAnyH_take (i := 3) (oi := ⟨some 99, _, _, _, _, _⟩) (v := ?vf3) rfl (by kernel_rfl) (by kernel_rfl) (by kernel_rfl) (fun _ _ _ h => h) (Or.inl ⟨by rfl, ?yf3⟩) hS ?rf3
                case yf3 => intro W hW; go_simp; first | done | with_reducible rfl
                simp only [Act.put, List.setIfInBounds_toArray, List.set_cons_zero, List.set_cons_succ]
                refine wpAnyH_take (i := 4) (oi := ⟨some 100, _, _, _, _, _⟩) (v := ?vf4) rfl (by kernel_rfl) (by kernel_rfl) (by kernel_rfl) (fun _ _ _ h => h) (Or.inl ⟨by rfl, ?yf4⟩) hS ?rf4
                case yf4 => intro W hW; have d0 : W.cell? ⟨b, off + i1 * 2, none⟩ = some (.string (str p)) := (hW.cell (p := ⟨b, off + i1 * 2, none⟩) (World.block_lt_of_cell? w5 _ HD0.out)).trans HD0.out; go_simp; first | done | with_reducible rfl
                simp only [Act.put, List.setIfInBounds_toArray, List.set_cons_zero, List.set_cons_succ]
                refine wpAnyH_take (i := 5) (oi := ⟨some 101, _, _, _, _, _⟩) (v := ?vf5) rfl (by kernel_rfl) (by kernel_rfl) (by kernel_rfl) (fun _ _ _ h => h) (Or.inl ⟨by rfl, ?yf5⟩) hS ?rf5
                case yf5 => intro W hW; go_simp; first | done | with_reducible rfl
                simp only [Act.put, List.setIfInBounds_toArray, List.set_cons_zero, List.set_cons_succ]
                refine wpAnyH_take (i := 6) (oi := ⟨some 102, _, _, _, _, _⟩) (v := ?vf6) rfl (by kernel_rfl) (by kernel_rfl) (by kernel_rfl) (fun _ _ _ h => h) (Or.inl ⟨by rfl, ?yf6⟩) hS ?rf6
                case yf6 => intro W hW; go_simp; first | done | with_reducible rfl
                simp only [Act.put, List.setIfInBounds_toArray, List.set_cons_zero, List.set_cons_succ]
                refine wpAnyH_take (i := 7) (oi := ⟨some 103, _, _, _, _, _⟩) (v := ?vf7) rfl (by kernel_rfl) (by kernel_rfl) (by kernel_rfl) (fun _ _ _ h => h) (Or.inl ⟨by rfl, ?yf7⟩) hS ?rf7
                case yf7 => intro W hW; go_simp; first | done | with_reducible rfl
                simp only [Act.put, List.setIfInBounds_toArray, List.set_cons_zero, List.set_cons_succ]
                refine wpAnyH_take (i := 8) (oi := ⟨some 104, _, _, _, _, _⟩) (v := ?vf8) rfl (by kernel_rfl) (by kernel_rfl) (by kernel_rfl) (fun _ _ _ h => h) (Or.inl ⟨by rfl, ?yf8⟩) hS ?rf8
                case yf8 => intro W hW; go_simp; first | done | with_reducible rfl
                simp only [Act.put, List.setIfInBounds_toArray, List.set_cons_zero, List.set_cons_succ]
                refine wpAnyH_take (i := 9) (oi := ⟨some 105, _, _, _, _, _⟩) (v := ?vf9) rfl (by kernel_rfl) (by kernel_rfl) (by kernel_rfl) (fun _ _ _ h => h) (Or.inl ⟨by rfl, ?yf9⟩) hS ?rf9
                case yf9 => intro W hW; have d1 : W.cell? ⟨b, off + i1 * 2 + 1, none⟩ = some (.string (str q)) := (hW.cell (p := ⟨b, off + i1 * 2 + 1, none⟩) (World.block_lt_of_cell? w5 _ HD1.out)).trans HD1.out; go_simp; first | done | with_reducible rfl
                simp only [Act.put, List.setIfInBounds_toArray, List.set_cons_zero, List.set_cons_succ]
                refine wpAnyH_ready (rs := [10]) (by kernel_rfl) (by simp) ?_
                refine (AllReadyH.cons (o := ⟨some 106, _, _, _, _, _⟩) rfl (fun K hK => ?_) AllReadyH.nil)
                try go_simp
                (with_reducible refine (HHd.out _).mono ?_)
                rintro e wxf10 ⟨rfl, hb⟩
                have hT := hS.step hb
                clear hS
                have hS := hT
                clear hT
                refine hK.out _ _ hS (fun _ => ?_)
                clear hK K
                try simp only [Act.put, List.setIfInBounds_toArray, List.set_cons_zero, List.set_cons_succ]
                refine wpAnyH_take (i := 11) (oi := ⟨some 11, _, _, _, _, _⟩) (v := ?vf11) rfl (by kernel_rfl) (by kernel_rfl) (by kernel_rfl) (fun _ _ _ h => h) (Or.inl ⟨by rfl, ?yf11⟩) hS ?rf11
                case yf11 => intro W hW; go_simp; first | done | with_reducible rfl
                simp only [Act.put, List.setIfInBounds_toArray, List.set_cons_zero, List.set_cons_succ]
                refine wpAnyH_done (by kernel_rfl) ?_ _
                have HB5S := HB5.out.trans (Below.mono hS HB5.out.size)
                go_wp2_with fail
                go_roundw
                case rel => exact ⟨i1 + 1, by omega, by go_num, HKz.out.step HB5S, HBz.out.trans (HB5S.mono HBz.out.size)⟩
                case measure => simp [intOf]; omega
            · have hiS : ¬ (i1 : Int) < (m : Int) := by omega
              go_wp2_with fail
              go_ret
              exact ⟨rfl, HKz.out⟩
end Go.Proofs.YtonchnmcklgpoaaDoor
