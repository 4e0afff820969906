/-
  transeptlaw03.ShaNothing returns true, whatever bytes and number it is called with, and turns nothing that was there. Condition: the tables hold what the program's text lays.
-/
import Derived.Test.YtiigmpoopmnnhaaDoorHead
namespace Go.Proofs.YtiigmpoopmnnhaaDoor
open Go.RowKit

theorem guard25 : Tryd.prog.eqGuardType Tryd.prog.depth 25 = false := by kernel_rfl
theorem i64_and7 (n : Int) : bits .and .i64 n 7 = n % 8 := by
  have h1 : (BitVec.ofInt 64 7).toNat = 2 ^ 3 - 1 := by decide
  have key : (BitVec.ofInt 64 n &&& BitVec.ofInt 64 7).toNat = (n % ((2 ^ 64 : Nat) : Int)).toNat % 2 ^ 3 := by
    rw [BitVec.toNat_and, BitVec.toNat_ofInt, h1, Nat.and_two_pow_sub_one_eq_mod]
  show IntKind.i64.wrap ((BitVec.ofInt 64 n &&& BitVec.ofInt 64 7).toNat : Nat) = n % 8
  rw [key, IntKind.wrap_i64]
  omega
/-- A digest is equal to itself. -/
theorem eqSelf (l : List UInt8) (hl : l.length = 32) (w : World) : (Op.equalIn 10000 25 (.agg (vbs l).toArray) (.agg (vbs l).toArray)).run Tryd.prog w = .ok true w := by
  rw [eq32 l l hl hl w]
  simp

set_option maxHeartbeats 4000000 in
set_option maxRecDepth 100000 in
theorem nothing_walk (A : Option Addr) (n c : Nat) (l : List UInt8) (k : Int) (w : World) (h : Bs w w.heap.size A n l) (hc : n ≤ c) (hcm : c ≤ 9223372036854775807) (ht : Tab w) :
    Calls Tryd.prog 8 #[.slice A n c, .int .i64 k] w fun e w' => e = .returned (.bool true) ∧ Below w.heap.size w w' := by
  obtain ⟨m, hm, hm1, hm2⟩ : ∃ m : Nat, min (n : Int) 300 = (m : Int) ∧ m ≤ n ∧ m ≤ 300 := ⟨min n 300, by omega, by omega, by omega⟩
  have hcut := h.take m hm1
  obtain ⟨T, hT⟩ : ∃ T, T = l.take m := ⟨_, rfl⟩
  rw [← hT] at hcut
  clear hT h
  have hTl := hcut.1
  obtain ⟨q, hq, hq1⟩ : ∃ q : Nat, bits .and .i64 k 7 = (q : Int) ∧ q ≤ 7 := ⟨(k % 8).toNat, by rw [i64_and7]; omega, by omega⟩
  have gd := guard25
  have eqV := eqSelf (digest T) (digest_length T)
  have z40 : (Tryd.prog.info? 40).map (·.size) = some (stc T).length := by rw [stc_length]; exact size40
  have n40 : (stc T).length = (cells3 (List.replicate 8 0) (List.replicate 64 0) 0).length := by rw [stc_length, cells3_length _ (by simp) (by simp)]
  have o40 : ∀ u ∈ stc T, u.oneCell' = true := cells3_one _ _ _
  have y40 := zero40
  have ST := start_any
  have MO := fun w h1 h2 => more_any [] A m c T w h1 h2 (by omega) hcm (by simp; omega)
  have MN := fun w h1 => more_any T none 0 0 [] w h1 (Bs.empty _ _ _) (by omega) (by omega) (by omega)
  have SU := fun w h1 => stateSum_any T w h1 (by omega)
  have SM := fun w h1 h2 => sum_any A m c T w h1 h2 (by omega) hcm (by omega)
  rw [List.nil_append] at MO
  rw [List.append_nil] at MN
  generalize vbs (digest T) = V at *
  generalize stc T = S1 at *
  generalize stc [] = S0 at *
  generalize cells3 (List.replicate 8 0) (List.replicate 64 0) 0 = Z at n40 y40
  go_enter Tryd.func8, Tryd.ntmps8
  go_wp2_with fail
  refine (shown_any w ht).mono ?_
  rintro e w1 ⟨rfl, hb1⟩
  go_wp2_with fail
  refine (ST w1 (ht.below hb1)).mono ?_
  rintro e w2 ⟨rfl, hb2⟩
  have b2 : Below w.heap.size w w2 := hb1.trans (hb2.mono hb1.size)
  clear hb1 hb2
  go_wp2_with fail
  refine (MO w2 (ht.below b2) ((hcut.below b2).more b2.size)).mono ?_
  rintro e w3 ⟨rfl, hb3⟩
  have b3 : Below w.heap.size w w3 := b2.trans (hb3.mono b2.size)
  clear b2 hb3
  go_wp2_with (first
    | ((with_reducible show wpList _ _ _ _ _ _); first
      | (refine wp_new (o := ⟨some 6, _, _, _, _, _⟩) _ rfl 40 rfl _ y40 ?_; intro w4 g1 B4 hf4; simp only [Act.put, List.setIfInBounds_toArray, List.set_cons_zero, List.set_cons_succ])
      | (refine wp_putAll _ rfl 40 (.tmp 6) (.tmp 17) rfl g1 40 _ _ rfl rfl B4 n40 z40 o40 ?_; intro w5 B5 U5; simp only [Act.put])
      | (refine wp_get _ rfl 40 (.tmp 6) rfl g1 0 _ _ rfl B5.whole Tryd.underlying40 rfl z40 ?_; simp only [Act.put, List.setIfInBounds_toArray, List.set_cons_zero, List.set_cons_succ])
      | (refine wp_new (o := ⟨some 7, _, _, _, _, _⟩) _ rfl 40 rfl _ y40 ?_; intro w6 g2 C6 hf6; simp only [Act.put, List.setIfInBounds_toArray, List.set_cons_zero, List.set_cons_succ])
      | (refine wp_putAll _ rfl 40 (.tmp 7) (.tmp 18) rfl g2 40 _ _ rfl rfl C6 n40 z40 o40 ?_; intro w7 C7 U7; simp only [Act.put])))
  have s3 := b3.size
  have e4 := hf4.is
  have e5 := hf4.size
  have e6 := U5.size
  have e7 := hf6.is
  have e8 := hf6.size
  have b7 : Below w.heap.size w w7 := (((b3.trans (hf4.below.mono s3)).trans (U5.below (by omega))).trans (hf6.below.mono (by omega))).trans (U7.below (by omega))
  have B7 := (hf6.blk B5).upd U7 (by omega)
  have LB : Hid (w.heap.size ≤ g1 ∧ g1 < g2) := by refine ⟨?_, ?_⟩ <;> omega
  clear s3 e4 e5 e6 e7 e8 hf4 hf6 U5 U7 B4 B5 C6 b3 y40 ST MO
  go_loopw [8] (fun v wr => ∃ j : Nat, j ≤ q ∧ v = .int .i64 j ∧ Blk wr g1 40 S1 ∧ Blk wr g2 40 S1 ∧ Below w.heap.size w wr) (fun v _ => q - (intOf v).toNat)
  case atStart => exact ⟨0, by omega, rfl, B7, C7, b7⟩
  case round =>
    obtain ⟨j, hj, rfl, B8, C8, b8⟩ := hrel
    by_cases hlt : j < q
    · go_wp2_with (first
        | ((with_reducible show wpList _ _ _ _ _ _); first
          | (refine wp_get (o := ⟨some 25, _, _, _, _, _⟩) _ rfl 40 (.tmp 7) rfl g2 0 _ _ rfl C8.whole Tryd.underlying40 rfl z40 ?_; simp only [Act.put, List.setIfInBounds_toArray, List.set_cons_zero, List.set_cons_succ])))
      refine (MN wr (ht.below b8)).mono ?_
      rintro e w9 ⟨rfl, hb9⟩
      have b9 : Below w.heap.size w w9 := b8.trans (hb9.mono b8.size)
      have C9 := C8.kept hb9
      have B9 := B8.kept hb9
      clear hb9
      have m40 : S1.length = S1.length := rfl
      go_wp2_with (first
        | ((with_reducible show wpList _ _ _ _ _ _); first
          | (refine wp_putAll _ rfl 40 (.tmp 7) (.tmp 26) rfl g2 40 _ _ rfl rfl C9 rfl z40 o40 ?_; intro w10 D10 U10; simp only [Act.put])
          | (refine wp_get (o := ⟨some 27, _, _, _, _, _⟩) _ rfl 40 (.tmp 7) rfl g2 0 _ _ rfl D10.whole Tryd.underlying40 rfl z40 ?_; simp only [Act.put, List.setIfInBounds_toArray, List.set_cons_zero, List.set_cons_succ])))
      obtain ⟨L1, L2⟩ := LB.out
      have b10 : Below w.heap.size w w10 := b9.trans (U10.below (by omega))
      have B10 := B9.upd U10 (by omega)
      clear U10
      refine (SU w10 (ht.below b10)).mono ?_
      rintro e w11 ⟨rfl, hb11⟩
      have b11 : Below w.heap.size w w11 := b10.trans (hb11.mono b10.size)
      have D11 := D10.kept hb11
      have B11 := B10.kept hb11
      go_wp2_with fail
      go_roundw
      case rel => exact ⟨j + 1, by omega, by go_num, B11, D11, b11⟩
      case measure => simp [intOf]; omega
    · have hjq : j = q := by omega
      subst hjq
      go_wp2_with fail
      have hS0 : Kept wr wr.drew := (Kept.refl wr).drew
      have T8 := ht.below b8
      have A8 := (hcut.below b8).more b8.size
      refine wp_region_held_drew (S := fun W => Kept wr W) (by kernel_rfl) hS0 (fun hS => ?_)
      have hK0 := hS
      refine wpAnyH_take (i := 0) (oi := ⟨some 29, _, _, _, _, _⟩) (v := ?va0) rfl (by kernel_rfl) (by kernel_rfl) (by kernel_rfl) (fun _ _ _ h => h) (Or.inl ⟨by rfl, ?ya0⟩) hS ?ra0
      case ya0 => intro W hW; go_simp; first | done | with_reducible rfl
      simp only [Act.put, List.setIfInBounds_toArray, List.set_cons_zero, List.set_cons_succ]
      refine wpAnyH_take (i := 1) (oi := ⟨some 30, _, _, _, _, _⟩) (v := ?va1) rfl (by kernel_rfl) (by kernel_rfl) (by kernel_rfl) (fun _ _ _ h => h) (Or.inl ⟨by rfl, ?ya1⟩) hS ?ra1
      case ya1 => intro W hW; go_simp; first | done | with_reducible rfl
      simp only [Act.put, List.setIfInBounds_toArray, List.set_cons_zero, List.set_cons_succ]
      refine wpAnyH_take (i := 2) (oi := ⟨some 31, _, _, _, _, _⟩) (v := _) rfl (by kernel_rfl) (by kernel_rfl) (by kernel_rfl) (fun _ _ _ h => h) (yieldsIf_load_mid (by rfl) 40 (.tmp 7) rfl g2 0 rfl S1 _ (fun W hW => (C8.kept hW).whole) Tryd.underlying40 rfl z40) hS ?_
      simp only [Act.put, List.setIfInBounds_toArray, List.set_cons_zero, List.set_cons_succ]
      refine wpAnyH_take (i := 4) (oi := ⟨some 33, _, _, _, _, _⟩) (v := _) rfl (by kernel_rfl) (by kernel_rfl) (by kernel_rfl) (fun _ _ _ h => h) (yieldsIf_load_mid (by rfl) 40 (.tmp 6) rfl g1 0 rfl S1 _ (fun W hW => (B8.kept hW).whole) Tryd.underlying40 rfl z40) hS ?_
      simp only [Act.put, List.setIfInBounds_toArray, List.set_cons_zero, List.set_cons_succ]
      refine wpAnyH_ready (rs := [3]) (by kernel_rfl) (by simp) ?_
      refine (AllReadyH.cons (o := ⟨some 32, _, _, _, _, _⟩) rfl (fun K hK => ?_) AllReadyH.nil)
      go_simp
      refine (SU _ (T8.below hK0)).mono ?_
      rintro e w21 ⟨rfl, hb21⟩
      have hK21 : Kept wr w21 := hK0.step hb21
      refine hK.out _ _ hK21 (fun _ => ?_)
      clear hK K
      try simp only [Act.put, List.setIfInBounds_toArray, List.set_cons_zero, List.set_cons_succ]
      refine wpAnyH_ready (rs := [5]) (by kernel_rfl) (by simp) ?_
      refine (AllReadyH.cons (o := ⟨some 34, _, _, _, _, _⟩) rfl (fun K hK => ?_) AllReadyH.nil)
      go_simp
      refine (SU _ (T8.below hK21)).mono ?_
      rintro e w22 ⟨rfl, hb22⟩
      have hK22 : Kept wr w22 := hK21.step hb22
      refine hK.out _ _ hK22 (fun _ => ?_)
      clear hK K
      try simp only [Act.put, List.setIfInBounds_toArray, List.set_cons_zero, List.set_cons_succ]
      refine wpAnyH_take (i := 6) (oi := ⟨some 35, _, _, _, _, _⟩) (v := ?va6) rfl (by kernel_rfl) (by kernel_rfl) (by kernel_rfl) (fun _ _ _ h => h) (Or.inl ⟨by rfl, ?ya6⟩) hK22 ?ra6
      case ya6 => intro W hW; have v1 := eqV W; go_simp; first | done | with_reducible rfl
      simp only [Act.put, List.setIfInBounds_toArray, List.set_cons_zero, List.set_cons_succ]
      refine wpAnyH_take (i := 7) (oi := ⟨some 36, _, _, _, _, _⟩) (v := ?va7) rfl (by kernel_rfl) (by kernel_rfl) (by kernel_rfl) (fun _ _ _ h => h) (Or.inl ⟨by rfl, ?ya7⟩) hK22 ?ra7
      case ya7 => intro W hW; go_simp; first | done | with_reducible rfl
      simp only [Act.put, List.setIfInBounds_toArray, List.set_cons_zero, List.set_cons_succ]
      refine wpAnyH_take (i := 8) (oi := ⟨some 37, _, _, _, _, _⟩) (v := ?va8) rfl (by kernel_rfl) (by kernel_rfl) (by kernel_rfl) (fun _ _ _ h => h) (Or.inl ⟨by rfl, ?ya8⟩) hK22 ?ra8
      case ya8 => intro W hW; go_simp; first | done | with_reducible rfl
      simp only [Act.put, List.setIfInBounds_toArray, List.set_cons_zero, List.set_cons_succ]
      refine wpAnyH_take (i := 9) (oi := ⟨some 38, _, _, _, _, _⟩) (v := _) rfl (by kernel_rfl) (by kernel_rfl) (by kernel_rfl) (fun _ _ _ h => h) (yieldsIf_load_mid (by rfl) 40 (.tmp 7) rfl g2 0 rfl S1 _ (fun W hW => (C8.kept hW).whole) Tryd.underlying40 rfl z40) hK22 ?_
      simp only [Act.put, List.setIfInBounds_toArray, List.set_cons_zero, List.set_cons_succ]
      refine wpAnyH_take (i := 11) (oi := ⟨some 40, _, _, _, _, _⟩) (v := ?va11) rfl (by kernel_rfl) (by kernel_rfl) (by kernel_rfl) (fun _ _ _ h => h) (Or.inl ⟨by rfl, ?ya11⟩) hK22 ?ra11
      case ya11 => intro W hW; go_simp; first | done | with_reducible rfl
      simp only [Act.put, List.setIfInBounds_toArray, List.set_cons_zero, List.set_cons_succ]
      refine wpAnyH_ready (rs := [10]) (by kernel_rfl) (by simp) ?_
      refine (AllReadyH.cons (o := ⟨some 39, _, _, _, _, _⟩) rfl (fun K hK => ?_) AllReadyH.nil)
      go_simp
      refine (SU _ (T8.below hK22)).mono ?_
      rintro e w23 ⟨rfl, hb23⟩
      have hK23 : Kept wr w23 := hK22.step hb23
      refine hK.out _ _ hK23 (fun _ => ?_)
      clear hK K
      try simp only [Act.put, List.setIfInBounds_toArray, List.set_cons_zero, List.set_cons_succ]
      refine wpAnyH_ready (rs := [12]) (by kernel_rfl) (by simp) ?_
      refine (AllReadyH.cons (o := ⟨some 41, _, _, _, _, _⟩) rfl (fun K hK => ?_) AllReadyH.nil)
      go_simp
      refine (SM _ (T8.below hK23) ((A8.below hK23).more hK23.size)).mono ?_
      rintro e w24 ⟨rfl, hb24⟩
      have hK24 : Kept wr w24 := hK23.step hb24
      refine hK.out _ _ hK24 (fun _ => ?_)
      clear hK K
      try simp only [Act.put, List.setIfInBounds_toArray, List.set_cons_zero, List.set_cons_succ]
      refine wpAnyH_take (i := 13) (oi := ⟨some 42, _, _, _, _, _⟩) (v := ?ve13) rfl (by kernel_rfl) (by kernel_rfl) (by kernel_rfl) (fun _ _ _ h => h) (Or.inl ⟨by rfl, ?ye13⟩) hK24 ?re13
      case ye13 => intro W hW; have v1 := eqV W; go_simp; first | done | with_reducible rfl
      simp only [Act.put, List.setIfInBounds_toArray, List.set_cons_zero, List.set_cons_succ]
      refine wpAnyH_take (i := 14) (oi := ⟨some 43, _, _, _, _, _⟩) (v := ?ve14) rfl (by kernel_rfl) (by kernel_rfl) (by kernel_rfl) (fun _ _ _ h => h) (Or.inl ⟨by rfl, ?ye14⟩) hK24 ?re14
      case ye14 => intro W hW; go_simp; first | done | with_reducible rfl
      simp only [Act.put, List.setIfInBounds_toArray, List.set_cons_zero, List.set_cons_succ]
      refine wpAnyH_take (i := 15) (oi := ⟨some 4, _, _, _, _, _⟩) (v := ?ve15) rfl (by kernel_rfl) (by kernel_rfl) (by kernel_rfl) (fun _ _ _ h => h) (Or.inl ⟨by rfl, ?ye15⟩) hK24 ?re15
      case ye15 => intro W hW; go_simp; first | done | with_reducible rfl
      simp only [Act.put, List.setIfInBounds_toArray, List.set_cons_zero, List.set_cons_succ]
      refine wpAnyH_done (by kernel_rfl) ?_ _
      go_wp2_with fail
      go_ret
      exact ⟨rfl, b8.trans (hK24.mono b8.size)⟩
end Go.Proofs.YtiigmpoopmnnhaaDoor
