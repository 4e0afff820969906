/-
  The walk of transeptlaw05.EventWrites: true, for every event; nothing that was there turns. Condition: the table of kinds holds what the program's text lays.
-/
import Derived.Test.YtjgcodnabgkjoaaDoorYld
import Derived.Test.YtjgcodnabgkjoaaDoorRefWrite
namespace Go.Proofs.YtjgcodnabgkjoaaDoor
open Go.RowKit

set_option maxHeartbeats 8000000 in
set_option maxRecDepth 100000 in
theorem writes_walk (e : Ev) (he : EvOk e) (hse : Small e) (hze : ∀ t ∈ e.ts, t.length ≤ 9223372036854775807) (w : World) (ht : Tab w) :
    Calls Tryd.prog 3 #[.agg (evc e).toArray] w fun r w' => r = .returned (.bool true) ∧ Below w.heap.size w w' := by
  have CU := fun W => cut_any e he hze W
  have hokE := cutE_ok he
  have hsmE := cutE_small hse
  have hzE : ∀ t ∈ (cutE e).ts, t.length ≤ 1000000 := fun t h => by have := cutE_texts e t h; omega
  have EN := fun W (hW : Tab W) => encode_any (cutE e) hokE hzE hsmE.1 hsmE.2 W hW
  have RN := fun W => refEncode_any (cutE e) hokE hsmE hzE W
  have RG := fun W (hW : Tab W) => right_any (cutE e) hokE hzE W hW
  have RR := fun W => refRight_any (cutE e) hokE hzE W
  have z24e := size24' he
  have zE := size24' hokE
  have hlE : (evc (cutE e)).length = (evc e).length := by rw [evc_length hokE, evc_length he]
  have oE := evc_one (cutE e)
  obtain ⟨E, hE⟩ : ∃ F, F = cutE e := ⟨_, rfl⟩
  rw [← hE] at CU EN RN RG RR zE hlE oE hokE hsmE
  obtain ⟨q, hq⟩ : ∃ q, q = encE E := ⟨_, rfl⟩
  obtain ⟨B, hB⟩ : ∃ q, q = encF E := ⟨_, rfl⟩
  obtain ⟨R, hR⟩ : ∃ q, q = rightE E := ⟨_, rfl⟩
  rw [← hq, ← hB] at RN
  have HQ := Lib.hid (And.intro hq hB)
  rw [← hR] at RG RR
  have hqq : (q == q) = true := by simp
  have hRR : (R == R) = true := by simp
  have HCU := Lib.hid CU
  have HEN := Lib.hid EN
  have HRN := Lib.hid RN
  have HRG := Lib.hid RG
  have HRR := Lib.hid RR
  clear CU EN RN RG RR hE hse he hze hzE hq hB hR
  go_enter Tryd.func3, Tryd.ntmps3
  go_wp2_with (first
    | ((with_reducible show wpList _ _ _ (⟨some 1, _, _, _, _, _⟩ :: _) _ _); refine wp_box _ rfl 24 (.tmp 0) rfl (evc e) rfl ?_; intro w1 g1 hB1 hf1; simp only [Act.put, List.setIfInBounds_toArray, List.set_cons_zero, List.set_cons_succ]))
  have t1 := ht.kept hf1.below
  have hg : w.heap.size ≤ g1 := Nat.le_of_eq hf1.is.symm
  have b1 := hf1.below
  refine (shown_any w1 t1).mono ?_
  rintro r w2 ⟨rfl, e2⟩
  have E2 := hB1.kept e2
  have b2 := b1.trans (e2.mono b1.size)
  have t2 := t1.kept e2
  clear hB1 hf1 b1 t1 e2
  go_wp2_with (first
    | ((with_reducible show wpList _ _ _ (⟨some 9, _, _, _, _, _⟩ :: _) _ _); refine wp_getG _ (by rfl) 24 (.tmp 1) rfl g1 0 (evc e) _ rfl E2.whole Tryd.underlying24 rfl z24e ?_; simp only [Act.put, List.setIfInBounds_toArray, List.set_cons_zero, List.set_cons_succ]))
  refine (HCU.out w2).mono ?_
  rintro r w3 ⟨rfl, e3⟩
  have E3 := E2.kept e3
  have b3 := b2.trans (e3.mono b2.size)
  have t3 := t2.kept e3
  clear E2 b2 t2 e3 HCU
  go_wp2_with (first
    | ((with_reducible show wpList _ _ _ (⟨none, .store 24 (.tmp 1) _, _, _, _, _⟩ :: _) _ _); refine wp_putAll _ rfl 24 (.tmp 1) (.tmp 10) rfl g1 24 _ (evc E) rfl rfl E3 hlE zE oE ?_; intro w4 E4 U4; simp only [Act.put])
    | ((with_reducible show wpList _ _ _ (⟨some 12, _, _, _, _, _⟩ :: _) _ _); refine wp_getG _ (by rfl) 24 (.tmp 1) rfl g1 0 (evc E) _ rfl E4.whole Tryd.underlying24 rfl zE ?_; simp only [Act.put, List.setIfInBounds_toArray, List.set_cons_zero, List.set_cons_succ]))
  have t4 : Tab w4 := t3.below (U4.below (B := 1) (by have := ht.1; omega)) (by omega)
  have b4 := b3.trans (U4.below hg)
  clear E3 U4 t3 b3
  refine (HEN.out w4 t4).mono ?_
  rintro r w5 ⟨A5, n5, c5, rfl, hc5, hs5, ho5, e5⟩
  have E5 := E4.kept e5
  have b5 := b4.trans (e5.mono b4.size)
  have t5 := t4.kept e5
  rw [← HQ.out.1]
  rw [← HQ.out.2] at hs5
  clear E4 b4 t4 e5 HEN ho5
  go_wp2_with (first
    | ((with_reducible show wpList _ _ _ (⟨some 17, _, _, _, _, _⟩ :: _) _ _); refine wp_getG _ (by rfl) 24 (.tmp 1) rfl g1 0 (evc E) _ rfl E5.whole Tryd.underlying24 rfl zE ?_; simp only [Act.put, List.setIfInBounds_toArray, List.set_cons_zero, List.set_cons_succ]))
  refine (HRN.out w5).mono ?_
  rintro r w6 ⟨rfl, e6⟩
  have E6 := E5.kept e6
  have b6 := b5.trans (e6.mono b5.size)
  have t6 := t5.kept e6
  have s6 := (hs5.below e6).more e6.size
  clear E5 b5 t5 e6 HRN hs5 ht hlE oE z24e
  go_wp2_with fail
  refine wp_region_held_drew (S := Kept w6) (by kernel_rfl) (Kept.refl w6).drew (fun hS => ?_)
  revert hS
  generalize w6.drew = X0
  intro hS
  refine wpAnyH_take (i := 0) (oi := ⟨some 21, _, _, _, _, _⟩) (v := ?va0) rfl (by kernel_rfl) (by kernel_rfl) (by kernel_rfl) (fun _ _ _ h => h) (Or.inl ⟨by rfl, ?ya0⟩) hS ?ra0
  case ya0 => intro W hW; go_simp; first | done | with_reducible rfl
  simp only [Act.put, List.setIfInBounds_toArray, List.set_cons_zero, List.set_cons_succ]
  refine wpAnyH_take (i := 1) (oi := ⟨some 22, _, _, _, _, _⟩) (v := ?va1) rfl (by kernel_rfl) (by kernel_rfl) (by kernel_rfl) (fun _ _ _ h => h) (Or.inl ⟨by rfl, ?ya1⟩) hS ?ra1
  case ya1 => intro W hW; go_simp; first | done | with_reducible rfl
  simp only [Act.put, List.setIfInBounds_toArray, List.set_cons_zero, List.set_cons_succ]
  refine wpAnyH_take (i := 2) (oi := ⟨some 23, _, _, _, _, _⟩) (v := ?va2) rfl (by kernel_rfl) (by kernel_rfl) (by kernel_rfl) (fun _ _ _ h => h) (Or.inl ⟨by rfl, ?ya2⟩) hS ?ra2
  case ya2 => intro W hW; go_simp; first | done | with_reducible rfl
  simp only [Act.put, List.setIfInBounds_toArray, List.set_cons_zero, List.set_cons_succ]
  refine wpAnyH_take (i := 3) (oi := ⟨some 24, _, _, _, _, _⟩) (v := _) rfl (by kernel_rfl) (by kernel_rfl) (by kernel_rfl) (fun _ _ _ h => h) (yld_str (by rfl) (.tmp 23) rfl A5 n5 c5 B rfl (fun W hW => ⟨_, s6.below' hW (by omega)⟩)) hS ?_
  simp only [Act.put, List.setIfInBounds_toArray, List.set_cons_zero, List.set_cons_succ]
  refine wpAnyH_take (i := 4) (oi := ⟨some 25, _, _, _, _, _⟩) (v := ?va4) rfl (by kernel_rfl) (by kernel_rfl) (by kernel_rfl) (fun _ _ _ h => h) (Or.inl ⟨by rfl, ?ya4⟩) hS ?ra4
  case ya4 => intro W hW; go_simp; first | done | with_reducible rfl
  simp only [Act.put, List.setIfInBounds_toArray, List.set_cons_zero, List.set_cons_succ]
  refine wpAnyH_take (i := 5) (oi := ⟨some 26, _, _, _, _, _⟩) (v := _) rfl (by kernel_rfl) (by kernel_rfl) (by kernel_rfl) (fun _ _ _ h => h) (yld_eqS (by rfl) (.tmp 24) (.tmp 25) rfl B B rfl rfl true (by simp)) hS ?_
  simp only [Act.put, List.setIfInBounds_toArray, List.set_cons_zero, List.set_cons_succ]
  refine wpAnyH_take (i := 6) (oi := ⟨some 27, _, _, _, _, _⟩) (v := ?va6) rfl (by kernel_rfl) (by kernel_rfl) (by kernel_rfl) (fun _ _ _ h => h) (Or.inl ⟨by rfl, ?ya6⟩) hS ?ra6
  case ya6 => intro W hW; go_simp; first | done | with_reducible rfl
  simp only [Act.put, List.setIfInBounds_toArray, List.set_cons_zero, List.set_cons_succ]
  refine wpAnyH_take (i := 7) (oi := ⟨some 28, _, _, _, _, _⟩) (v := ?va7) rfl (by kernel_rfl) (by kernel_rfl) (by kernel_rfl) (fun _ _ _ h => h) (Or.inl ⟨by rfl, ?ya7⟩) hS ?ra7
  case ya7 => intro W hW; go_simp; first | done | with_reducible rfl
  simp only [Act.put, List.setIfInBounds_toArray, List.set_cons_zero, List.set_cons_succ]
  refine wpAnyH_take (i := 8) (oi := ⟨some 29, _, _, _, _, _⟩) (v := ?va8) rfl (by kernel_rfl) (by kernel_rfl) (by kernel_rfl) (fun _ _ _ h => h) (Or.inl ⟨by rfl, ?ya8⟩) hS ?ra8
  case ya8 => intro W hW; go_simp; first | done | with_reducible rfl
  simp only [Act.put, List.setIfInBounds_toArray, List.set_cons_zero, List.set_cons_succ]
  refine wpAnyH_take (i := 9) (oi := ⟨some 30, _, _, _, _, _⟩) (v := ?va9) rfl (by kernel_rfl) (by kernel_rfl) (by kernel_rfl) (fun _ _ _ h => h) (Or.inl ⟨by rfl, ?ya9⟩) hS ?ra9
  case ya9 => intro W hW; go_simp; first | done | with_reducible rfl
  simp only [Act.put, List.setIfInBounds_toArray, List.set_cons_zero, List.set_cons_succ]
  refine wpAnyH_take (i := 10) (oi := ⟨some 31, _, _, _, _, _⟩) (v := ?va10) rfl (by kernel_rfl) (by kernel_rfl) (by kernel_rfl) (fun _ _ _ h => h) (Or.inl ⟨by rfl, ?ya10⟩) hS ?ra10
  case ya10 => intro W hW; go_simp; first | done | with_reducible rfl
  simp only [Act.put, List.setIfInBounds_toArray, List.set_cons_zero, List.set_cons_succ]
  refine wpAnyH_take (i := 11) (oi := ⟨some 32, _, _, _, _, _⟩) (v := ?va11) rfl (by kernel_rfl) (by kernel_rfl) (by kernel_rfl) (fun _ _ _ h => h) (Or.inl ⟨by rfl, ?ya11⟩) hS ?ra11
  case ya11 => intro W hW; go_simp; first | done | with_reducible rfl
  simp only [Act.put, List.setIfInBounds_toArray, List.set_cons_zero, List.set_cons_succ]
  refine wpAnyH_take (i := 12) (oi := ⟨some 33, _, _, _, _, _⟩) (v := ?va12) rfl (by kernel_rfl) (by kernel_rfl) (by kernel_rfl) (fun _ _ _ h => h) (Or.inl ⟨by rfl, ?ya12⟩) hS ?ra12
  case ya12 => intro W hW; go_simp; first | done | with_reducible rfl
  simp only [Act.put, List.setIfInBounds_toArray, List.set_cons_zero, List.set_cons_succ]
  refine wpAnyH_take (i := 13) (oi := ⟨some 34, _, _, _, _, _⟩) (v := _) rfl (by kernel_rfl) (by kernel_rfl) (by kernel_rfl) (fun _ _ _ h => h) (yieldsIf_load_mid (by rfl) 24 (.tmp 1) rfl g1 0 rfl (evc E) _ (fun W hW => (E6.kept hW).whole) Tryd.underlying24 rfl zE) hS ?_
  simp only [Act.put, List.setIfInBounds_toArray, List.set_cons_zero, List.set_cons_succ]
  refine wpAnyH_take (i := 15) (oi := ⟨some 36, _, _, _, _, _⟩) (v := _) rfl (by kernel_rfl) (by kernel_rfl) (by kernel_rfl) (fun _ _ _ h => h) (yieldsIf_load_mid (by rfl) 24 (.tmp 1) rfl g1 0 rfl (evc E) _ (fun W hW => (E6.kept hW).whole) Tryd.underlying24 rfl zE) hS ?_
  simp only [Act.put, List.setIfInBounds_toArray, List.set_cons_zero, List.set_cons_succ]
  refine wpAnyH_ready (rs := [14]) (by kernel_rfl) (by simp) ?_
  refine (AllReadyH.cons (o := ⟨some 35, _, _, _, _, _⟩) rfl (fun K hK => ?_) AllReadyH.nil)
  go_simp
  refine (HRG.out X0 (t6.kept hS)).mono ?_
  rintro e X1 ⟨rfl, e1⟩
  have k1 := Kept.step hS e1
  refine hK.out _ _ k1 (fun _ => ?_)
  clear hK K
  try simp only [Act.put, List.setIfInBounds_toArray, List.set_cons_zero, List.set_cons_succ]
  refine wpAnyH_ready (rs := [16]) (by kernel_rfl) (by simp) ?_
  refine (AllReadyH.cons (o := ⟨some 37, _, _, _, _, _⟩) rfl (fun K hK => ?_) AllReadyH.nil)
  go_simp
  refine (HRR.out X1).mono ?_
  rintro e X2 ⟨rfl, e2⟩
  have k2 := Kept.step k1 e2
  refine hK.out _ _ k2 (fun _ => ?_)
  clear hK K
  try simp only [Act.put, List.setIfInBounds_toArray, List.set_cons_zero, List.set_cons_succ]
  refine wpAnyH_take (i := 17) (oi := ⟨some 38, _, _, _, _, _⟩) (v := ?vz17) rfl (by kernel_rfl) (by kernel_rfl) (by kernel_rfl) (fun _ _ _ h => h) (Or.inl ⟨by rfl, ?yz17⟩) k2 ?rz17
  case yz17 => intro W hW; go_simp; first | done | with_reducible rfl
  simp only [Act.put, List.setIfInBounds_toArray, List.set_cons_zero, List.set_cons_succ]
  refine wpAnyH_take (i := 18) (oi := ⟨some 39, _, _, _, _, _⟩) (v := ?vz18) rfl (by kernel_rfl) (by kernel_rfl) (by kernel_rfl) (fun _ _ _ h => h) (Or.inl ⟨by rfl, ?yz18⟩) k2 ?rz18
  case yz18 => intro W hW; go_simp; first | done | with_reducible rfl
  simp only [Act.put, List.setIfInBounds_toArray, List.set_cons_zero, List.set_cons_succ]
  refine wpAnyH_take (i := 19) (oi := ⟨some 2, _, _, _, _, _⟩) (v := ?vz19) rfl (by kernel_rfl) (by kernel_rfl) (by kernel_rfl) (fun _ _ _ h => h) (Or.inl ⟨by rfl, ?yz19⟩) k2 ?rz19
  case yz19 => intro W hW; go_simp; first | done | with_reducible rfl
  simp only [Act.put, List.setIfInBounds_toArray, List.set_cons_zero, List.set_cons_succ]
  refine wpAnyH_done (by kernel_rfl) ?_ _
  go_wp2_with fail
  go_ret
  exact ⟨by simp, b6.trans (k2.mono b6.size)⟩
end Go.Proofs.YtjgcodnabgkjoaaDoor
