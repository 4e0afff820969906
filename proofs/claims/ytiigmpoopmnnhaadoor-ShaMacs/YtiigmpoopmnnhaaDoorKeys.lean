/-
  transeptlaw03.ShaKeys returns true, whatever bytes and number it is called with, and turns nothing that was there. Condition: the tables hold what the program's text lays.
-/
import Derived.Test.YtiigmpoopmnnhaaDoorForks
namespace Go.Proofs.YtiigmpoopmnnhaaDoor
open Go.RowKit

theorem i64_and65535 (n : Int) : bits .and .i64 n 65535 = n % 65536 := by
  have h1 : (BitVec.ofInt 64 65535).toNat = 2 ^ 16 - 1 := by decide
  have key : (BitVec.ofInt 64 n &&& BitVec.ofInt 64 65535).toNat = (n % ((2 ^ 64 : Nat) : Int)).toNat % 2 ^ 16 := by
    rw [BitVec.toNat_and, BitVec.toNat_ofInt, h1, Nat.and_two_pow_sub_one_eq_mod]
  show IntKind.i64.wrap ((BitVec.ofInt 64 n &&& BitVec.ofInt 64 65535).toNat : Nat) = n % 65536
  rw [key, IntKind.wrap_i64]
  omega
theorem mac_zeros (T b : List UInt8) (r : Nat) (h : T.length + r ≤ 64) : mac (T ++ List.replicate r 0) b = mac T b := by
  have e1 : keyOf T = T := by unfold keyOf; rw [if_neg (by omega)]
  have e2 : keyOf (T ++ List.replicate r 0) = T ++ List.replicate r 0 := by unfold keyOf; rw [if_neg (by simp; omega)]
  have e : full (T ++ List.replicate r 0) = full T := by
    unfold full
    rw [e1, e2, List.append_assoc, List.replicate_append_replicate]
    congr 2
    simp
    omega
  unfold mac
  rw [e]
theorem mac_long (M b : List UInt8) (h : 64 < M.length) : mac M b = mac (digest M) b := by
  have e1 : keyOf M = digest M := by unfold keyOf; rw [if_pos h]
  have e2 : keyOf (digest M) = digest M := by unfold keyOf; rw [if_neg (by rw [digest_length]; omega)]
  have e : full M = full (digest M) := by unfold full; rw [e1, e2]
  unfold mac
  rw [e]

set_option maxHeartbeats 8000000 in
set_option maxRecDepth 100000 in
theorem keys_walk (A : Option Addr) (n c : Nat) (l : List UInt8) (A1 : Option Addr) (n1 c1 : Nat) (l1 : List UInt8) (k : Int) (w : World)
    (h : Bs w w.heap.size A n l) (hc : n ≤ c) (hcm : c ≤ 9223372036854775807) (h1 : Bs w w.heap.size A1 n1 l1) (hc1 : n1 ≤ c1) (hcm1 : c1 ≤ 9223372036854775807) (ht : Tab w) :
    Calls Tryd.prog 7 #[.slice A n c, .slice A1 n1 c1, .int .i64 k] w fun e w' => e = .returned (.bool true) ∧ Below w.heap.size w w' := by
  obtain ⟨m1, hm1, ma1, mb1⟩ : ∃ m : Nat, min (n1 : Int) 200 = (m : Int) ∧ m ≤ n1 ∧ m ≤ 200 := ⟨min n1 200, by omega, by omega, by omega⟩
  obtain ⟨m, hm, ma, mb⟩ : ∃ m : Nat, min (n : Int) 64 = (m : Int) ∧ m ≤ n ∧ m ≤ 64 := ⟨min n 64, by omega, by omega, by omega⟩
  obtain ⟨m2, hm2, ma2, mb2⟩ : ∃ m : Nat, min (n : Int) 200 = (m : Int) ∧ m ≤ n ∧ m ≤ 200 := ⟨min n 200, by omega, by omega, by omega⟩
  replace h1 := h1.take m1 ma1
  have hk := h.take m ma
  have hl := h.take m2 ma2
  clear h
  generalize l1.take m1 = Y at h1
  generalize l.take m = T at hk
  generalize l.take m2 = X at hl
  have t1 := h1.1
  have tk := hk.1
  have tl := hl.1
  obtain ⟨q, hq, hq1⟩ : ∃ q : Nat, bits .and .i64 k 65535 = (q : Int) ∧ q ≤ 65535 := ⟨(k % 65536).toNat, by rw [i64_and65535]; omega, by omega⟩
  obtain ⟨dv, hdv, dpos⟩ : ∃ dv : Nat, (65 : Int) - (m : Int) = (dv : Int) ∧ 0 < dv := ⟨65 - m, by omega, by omega⟩
  have dne : ¬ ((dv : Int) = 0) := by omega
  have dne2 : ¬ (dv = 0) := by omega
  obtain ⟨r, hr⟩ : ∃ r, q % dv = r := ⟨_, rfl⟩
  have hr2 : r < dv := by rw [← hr]; exact Nat.mod_lt _ dpos
  have er : (q : Int) % (dv : Int) = (r : Int) := by rw [← hr]; rfl
  have et : Int.tmod (q : Int) (dv : Int) = (r : Int) := by rw [Int.tmod_eq_emod_of_nonneg (by omega)]; exact er
  have wdv : IntKind.i64.wrap (dv : Int) = (dv : Int) := by rw [IntKind.wrap_i64]; omega
  have hmr : m + r ≤ 64 := by omega
  have gd := guard25
  have s25 := slice25
  have E1 := Lib.hid (mac_zeros T Y r (by omega))
  have E2 := Lib.hid (mac_long (X ++ List.replicate 65 0) Y (by simp))
  have q1 := eqSelf (mac T Y) (mac_length _ _)
  have q2 := eqSelf (mac (X ++ List.replicate 65 0) Y) (mac_length _ _)
  have MA := fun A' c' w p1 p2 p3 p4 p5 => mac_any A' m c' T A1 m1 c1 Y w p1 p2 p3 p4 (by omega) p5 (by omega) hcm1 (by omega)
  have MB := fun A' c' w p1 p2 p3 p4 p5 => mac_any A' (m + r) c' (T ++ List.replicate r 0) A1 m1 c1 Y w p1 p2 p3 p4 (by omega) p5 (by omega) hcm1 (by omega)
  have MC := fun A' c' w p1 p2 p3 p4 p5 => mac_any A' (m2 + 65) c' (X ++ List.replicate 65 0) A1 m1 c1 Y w p1 p2 p3 p4 (by omega) p5 (by omega) hcm1 (by omega)
  have MD := fun A' w p1 p2 p5 => mac_any A' 32 32 (digest (X ++ List.replicate 65 0)) A1 m1 c1 Y w p1 p2 (by omega) (by omega) (by omega) p5 (by omega) hcm1 (by omega)
  have SU := fun A' c' w p1 p2 p3 p4 => sum_any A' (m2 + 65) c' (X ++ List.replicate 65 0) w p1 p2 p3 p4 (by omega)
  rw [E1.out] at MB
  rw [← E2.out] at MD
  have dl := digest_length (X ++ List.replicate 65 0)
  generalize digest (X ++ List.replicate 65 0) = D at *
  have z25 : (Tryd.prog.info? 25).map (·.size) = some (vbs D).length := by rw [vbs_length, dl]; exact size25
  have n25 : (vbs D).length = (vbs (List.replicate 32 0)).length := by rw [vbs_length, dl]; rfl
  have o25 := vbs_one D
  generalize vbs (mac T Y) = V1 at *
  generalize vbs (mac (X ++ List.replicate 65 0) Y) = V2 at *
  clear hr hr2 dpos
  go_enter Tryd.func7, Tryd.ntmps7
  go_wp2_with fail
  refine (shown_any w ht).mono ?_
  rintro e w1 ⟨rfl, b1⟩
  have hk1 := (hk.below b1).more b1.size
  go_wp2_with (first
    | ((with_reducible show wpList _ _ _ _ _ _); first
      | (at_builtin; refine wp_appS (o := ⟨some 24, _, _, _, _, _⟩) _ rfl (.tmp 18) (.tmp 23) rfl w1.heap.size _ 0 [] rfl (own_empty _ _ (Nat.le_refl _)) w1.heap.size _ m _ T rfl (hk1.alloc (Nat.le_refl _) _) (by omega) (by simp) m T (by omega) rfl ?_; intro A2 c2 w2 hc2 hS2 hO2 hbel2; have K2 : Kept w1 w2 := ((Below.refl _ _).alloc (Nat.le_refl _) _).trans hbel2; simp only [Act.put, List.setIfInBounds_toArray, List.set_cons_zero, List.set_cons_succ])))
  have b2 : Below w.heap.size w w2 := b1.trans (K2.mono b1.size)
  have cap2 := hO2.capmax
  clear hbel2 hO2 K2 hk1 b1
  have hS0 : Kept w2 w2.drew := (Kept.refl w2).drew
  refine wp_region_held_drew (S := fun W => Kept w2 W) (by kernel_rfl) hS0 (fun hS => ?_)
  refine wpAnyH_take (i := 1) (oi := ⟨some 26, _, _, _, _, _⟩) (v := ?va1) rfl (by kernel_rfl) (by kernel_rfl) (by kernel_rfl) (fun _ _ _ h => h) (Or.inl ⟨by rfl, ?ya1⟩) hS ?ra1
  case ya1 => intro W hW; go_simp; first | done | with_reducible rfl
  simp only [Act.put, List.setIfInBounds_toArray, List.set_cons_zero, List.set_cons_succ]
  refine wpAnyH_take (i := 3) (oi := ⟨some 28, _, _, _, _, _⟩) (v := ?va3) rfl (by kernel_rfl) (by kernel_rfl) (by kernel_rfl) (fun _ _ _ h => h) (Or.inl ⟨by rfl, ?ya3⟩) hS ?ra3
  case ya3 => intro W hW; go_simp; first | done | with_reducible rfl
  simp only [Act.put, List.setIfInBounds_toArray, List.set_cons_zero, List.set_cons_succ]
  refine wpAnyH_take (i := 4) (oi := ⟨some 29, _, _, _, _, _⟩) (v := ?va4) rfl (by kernel_rfl) (by kernel_rfl) (by kernel_rfl) (fun _ _ _ h => h) (Or.inl ⟨by rfl, ?ya4⟩) hS ?ra4
  case ya4 => intro W hW; go_simp; first | done | with_reducible rfl
  simp only [Act.put, List.setIfInBounds_toArray, List.set_cons_zero, List.set_cons_succ]
  refine wpAnyH_take (i := 5) (oi := ⟨some 30, _, _, _, _, _⟩) (v := ?va5) rfl (by kernel_rfl) (by kernel_rfl) (by kernel_rfl) (fun _ _ _ h => h) (Or.inl ⟨by rfl, ?ya5⟩) hS ?ra5
  case ya5 => intro W hW; go_simp; first | done | with_reducible rfl
  simp only [Act.put, List.setIfInBounds_toArray, List.set_cons_zero, List.set_cons_succ]
  refine wpAnyH_take (i := 6) (oi := ⟨some 31, _, _, _, _, _⟩) (v := ?va6) rfl (by kernel_rfl) (by kernel_rfl) (by kernel_rfl) (fun _ _ _ h => h) (Or.inl ⟨by rfl, ?ya6⟩) hS ?ra6
  case ya6 => intro W hW; go_simp; first | done | with_reducible rfl
  simp only [Act.put, List.setIfInBounds_toArray, List.set_cons_zero, List.set_cons_succ]
  refine wpAnyH_take (i := 7) (oi := ⟨some 32, _, _, _, _, _⟩) (v := ?va7) rfl (by kernel_rfl) (by kernel_rfl) (by kernel_rfl) (fun _ _ _ h => h) (Or.inl ⟨by rfl, ?ya7⟩) hS ?ra7
  case ya7 => intro W hW; go_simp; first | done | with_reducible rfl
  simp only [Act.put, List.setIfInBounds_toArray, List.set_cons_zero, List.set_cons_succ]
  refine wpAnyH_take (i := 8) (oi := ⟨some 33, _, _, _, _, _⟩) (v := ?va8) rfl (by kernel_rfl) (by kernel_rfl) (by kernel_rfl) (fun _ _ _ h => h) (Or.inl ⟨by rfl, ?ya8⟩) hS ?ra8
  case ya8 => intro W hW; go_simp; first | done | with_reducible rfl
  simp only [Act.put, List.setIfInBounds_toArray, List.set_cons_zero, List.set_cons_succ]
  refine wpAnyH_ready (rs := [0]) (by kernel_rfl) (by simp) ?_
  refine (AllReadyH.cons (o := ⟨some 25, _, _, _, _, _⟩) rfl (fun K hK => ?_) AllReadyH.nil)
  go_simp
  refine hK.out _ _ (hS.alloc _) (fun hS3 => ?_)
  clear hK K
  refine wpAnyH_ready (rs := [2]) (by kernel_rfl) (by simp) ?_
  refine (AllReadyH.cons (o := ⟨some 27, _, _, _, _, _⟩) rfl (fun K hK => ?_) AllReadyH.nil)
  refine step_appS _ rfl (.tmp 25) (.tmp 26) rfl w2.heap.size _ 0 [] rfl (own_empty w2.drew w2.heap.size (Nat.le_refl _)) w2.heap.size _ m _ T rfl ((hS2.drew).alloc (Nat.le_refl _) _) (by omega) (by simp) m T (by omega) rfl ?_
  intro A3 c3 w3 hc3 hS3' hO3 hbel3
  have hK3 : Kept w2 w3 := hS3.base hbel3
  refine hK.out _ _ hK3 (fun _ => ?_)
  clear hK K
  simp only [Act.put, List.setIfInBounds_toArray, List.set_cons_zero, List.set_cons_succ]
  refine wpAnyH_ready (rs := [9]) (by kernel_rfl) (by simp) ?_
  refine (AllReadyH.cons (o := ⟨some 34, _, _, _, _, _⟩) rfl (fun K hK => ?_) AllReadyH.nil)
  refine step_appZ _ rfl (.tmp 27) (.tmp 33) rfl w2.heap.size _ m T rfl hO3 r rfl (by omega) hK3.size (m + r) rfl ?_
  intro A4 c4 w4 hc4 cap4 hS4 hO4 hbel4
  have hK4 : Kept w2 w4 := hK3.base hbel4
  refine hK.out _ _ hK4 (fun _ => ?_)
  clear hK K
  simp only [Act.put, List.setIfInBounds_toArray, List.set_cons_zero, List.set_cons_succ]
  refine wpAnyH_take (i := 10) (oi := ⟨some 9, _, _, _, _, _⟩) (v := ?vf10) rfl (by kernel_rfl) (by kernel_rfl) (by kernel_rfl) (fun _ _ _ h => h) (Or.inl ⟨by rfl, ?yf10⟩) hK4 ?rf10
  case yf10 => intro W hW; go_simp; first | done | with_reducible rfl
  simp only [Act.put, List.setIfInBounds_toArray, List.set_cons_zero, List.set_cons_succ]
  refine wpAnyH_done (by kernel_rfl) ?_ _
  have b4 : Below w.heap.size w w4 := b2.trans (hK4.mono b2.size)
  have hS2' := (hS2.below hK4).more hK4.size
  clear hS3 hS3' hO3 hbel3 hK3 hO4 hbel4 hS hS0 hK4 b2 hS2
  go_wp2_with fail
  refine (MA A2 c2 w4 (ht.below b4) hS2' hc2 cap2 ((h1.below b4).more b4.size)).mono ?_
  rintro e w5 ⟨rfl, hb5⟩
  have b5 : Below w.heap.size w w5 := b4.trans (hb5.mono b4.size)
  go_wp2_with fail
  refine (MB A4 c4 w5 (ht.below b5) ((hS4.below hb5).more hb5.size) hc4 cap4 ((h1.below b5).more b5.size)).mono ?_
  rintro e w6 ⟨rfl, hb6⟩
  have b6 : Below w.heap.size w w6 := b5.trans (hb6.mono b5.size)
  clear hb5 hb6 hS4 hS2' b4 b5
  have hl6 := (hl.below b6).more b6.size
  go_wp2_with (first
    | ((with_reducible show wpList _ _ _ _ _ _); first
      | (at_builtin; refine wp_appS (o := ⟨some 48, _, _, _, _, _⟩) _ rfl (.tmp 42) (.tmp 47) rfl w6.heap.size _ 0 [] rfl (own_empty _ _ (Nat.le_refl _)) w6.heap.size _ m2 _ X rfl (hl6.alloc (Nat.le_refl _) _) (by omega) (by simp) m2 X (by omega) rfl ?_; intro A5 c5 w7 hc5 hS5 hO5 hbel5; have K7 : Kept w6 w7 := ((Below.refl _ _).alloc (Nat.le_refl _) _).trans hbel5; simp only [Act.put, List.setIfInBounds_toArray, List.set_cons_zero, List.set_cons_succ])
      | (at_builtin; refine wp_appZ (o := ⟨some 49, _, _, _, _, _⟩) _ rfl (.tmp 48) _ rfl w6.heap.size _ m2 X rfl hO5 65 rfl (by omega) K7.size (m2 + 65) rfl ?_; intro A6 c6 w8 hc6 cap6 hS6 hO6 hbel6; have K8 : Kept w6 w8 := K7.base hbel6; simp only [Act.put, List.setIfInBounds_toArray, List.set_cons_zero, List.set_cons_succ])))
  have b8 : Below w.heap.size w w8 := b6.trans (K8.mono b6.size)
  clear K7 K8 hbel5 hbel6 hO5 hO6 hS5 hl6 b6
  refine (SU A6 c6 w8 (ht.below b8) hS6 hc6 cap6).mono ?_
  rintro e w9 ⟨rfl, hb9⟩
  have b9 : Below w.heap.size w w9 := b8.trans (hb9.mono b8.size)
  have hS9 := (hS6.below hb9).more hb9.size
  clear hb9 hS6 b8
  go_wp2_with (first
    | ((with_reducible show wpList _ _ _ _ _ _); first
      | (refine wp_new (o := ⟨some 11, _, _, _, _, _⟩) _ rfl 25 rfl _ zero25 ?_; intro w10 g1 B10 hf10; simp only [Act.put, List.setIfInBounds_toArray, List.set_cons_zero, List.set_cons_succ])
      | (refine wp_putAll _ rfl 25 (.tmp 11) (.tmp 51) rfl g1 25 _ _ rfl rfl B10 n25 z25 o25 ?_; intro w11 B11 U11; have K11 : Kept w9 w11 := hf10.below.trans (U11.below (Nat.le_of_eq hf10.is.symm)); simp only [Act.put])))
  have b11 : Below w.heap.size w w11 := b9.trans (K11.mono b9.size)
  have hS11 := (hS9.below K11).more K11.size
  have hD := B11.bs dl
  have T11 := ht.below b11
  have Y11 := (h1.below b11).more b11.size
  clear hf10 U11 B10 hS9 K11 b9 B11
  have hS0 : Kept w11 w11.drew := (Kept.refl w11).drew
  refine wp_region_held_drew (S := fun W => Kept w11 W) (by kernel_rfl) hS0 (fun hS => ?_)
  have hK0 := hS
  refine wpAnyH_take (i := 0) (oi := ⟨some 52, _, _, _, _, _⟩) (v := ?vg0) rfl (by kernel_rfl) (by kernel_rfl) (by kernel_rfl) (fun _ _ _ h => h) (Or.inl ⟨by rfl, ?yg0⟩) hS ?rg0
  case yg0 => intro W hW; go_simp; first | done | with_reducible rfl
  simp only [Act.put, List.setIfInBounds_toArray, List.set_cons_zero, List.set_cons_succ]
  refine wpAnyH_take (i := 1) (oi := ⟨some 53, _, _, _, _, _⟩) (v := ?vg1) rfl (by kernel_rfl) (by kernel_rfl) (by kernel_rfl) (fun _ _ _ h => h) (Or.inl ⟨by rfl, ?yg1⟩) hS ?rg1
  case yg1 => intro W hW; go_simp; first | done | with_reducible rfl
  simp only [Act.put, List.setIfInBounds_toArray, List.set_cons_zero, List.set_cons_succ]
  refine wpAnyH_take (i := 2) (oi := ⟨some 54, _, _, _, _, _⟩) (v := ?vg2) rfl (by kernel_rfl) (by kernel_rfl) (by kernel_rfl) (fun _ _ _ h => h) (Or.inl ⟨by rfl, ?yg2⟩) hS ?rg2
  case yg2 => intro W hW; go_simp; first | done | with_reducible rfl
  simp only [Act.put, List.setIfInBounds_toArray, List.set_cons_zero, List.set_cons_succ]
  refine wpAnyH_take (i := 3) (oi := ⟨some 55, _, _, _, _, _⟩) (v := ?vg3) rfl (by kernel_rfl) (by kernel_rfl) (by kernel_rfl) (fun _ _ _ h => h) (Or.inl ⟨by rfl, ?yg3⟩) hS ?rg3
  case yg3 => intro W hW; go_simp; first | done | with_reducible rfl
  simp only [Act.put, List.setIfInBounds_toArray, List.set_cons_zero, List.set_cons_succ]
  refine wpAnyH_take (i := 5) (oi := ⟨some 57, _, _, _, _, _⟩) (v := ?vg5) rfl (by kernel_rfl) (by kernel_rfl) (by kernel_rfl) (fun _ _ _ h => h) (Or.inl ⟨by rfl, ?yg5⟩) hS ?rg5
  case yg5 => intro W hW; have s1 := s25 W g1; go_simp; first | done | with_reducible rfl
  simp only [Act.put, List.setIfInBounds_toArray, List.set_cons_zero, List.set_cons_succ]
  refine wpAnyH_take (i := 6) (oi := ⟨some 58, _, _, _, _, _⟩) (v := ?vg6) rfl (by kernel_rfl) (by kernel_rfl) (by kernel_rfl) (fun _ _ _ h => h) (Or.inl ⟨by rfl, ?yg6⟩) hS ?rg6
  case yg6 => intro W hW; go_simp; first | done | with_reducible rfl
  simp only [Act.put, List.setIfInBounds_toArray, List.set_cons_zero, List.set_cons_succ]
  refine wpAnyH_ready (rs := [4]) (by kernel_rfl) (by simp) ?_
  refine (AllReadyH.cons (o := ⟨some 56, _, _, _, _, _⟩) rfl (fun K hK => ?_) AllReadyH.nil)
  go_simp
  refine (MC A6 c6 _ (T11.below hK0) ((hS11.below hK0).more hK0.size) hc6 cap6 ((Y11.below hK0).more hK0.size)).mono ?_
  rintro e w21 ⟨rfl, hb21⟩
  have hK21 : Kept w11 w21 := hK0.step hb21
  refine hK.out _ _ hK21 (fun _ => ?_)
  clear hK K
  try simp only [Act.put, List.setIfInBounds_toArray, List.set_cons_zero, List.set_cons_succ]
  refine wpAnyH_ready (rs := [7]) (by kernel_rfl) (by simp) ?_
  refine (AllReadyH.cons (o := ⟨some 59, _, _, _, _, _⟩) rfl (fun K hK => ?_) AllReadyH.nil)
  go_simp
  refine (MD _ _ (T11.below hK21) ((hD.below hK21).more hK21.size) ((Y11.below hK21).more hK21.size)).mono ?_
  rintro e w22 ⟨rfl, hb22⟩
  have hK22 : Kept w11 w22 := hK21.step hb22
  refine hK.out _ _ hK22 (fun _ => ?_)
  clear hK K
  try simp only [Act.put, List.setIfInBounds_toArray, List.set_cons_zero, List.set_cons_succ]
  refine wpAnyH_take (i := 8) (oi := ⟨some 60, _, _, _, _, _⟩) (v := ?ve8) rfl (by kernel_rfl) (by kernel_rfl) (by kernel_rfl) (fun _ _ _ h => h) (Or.inl ⟨by rfl, ?ye8⟩) hK22 ?re8
  case ye8 => intro W hW; have v1 := q2 W; go_simp; first | done | with_reducible rfl
  simp only [Act.put, List.setIfInBounds_toArray, List.set_cons_zero, List.set_cons_succ]
  refine wpAnyH_take (i := 9) (oi := ⟨some 61, _, _, _, _, _⟩) (v := ?ve9) rfl (by kernel_rfl) (by kernel_rfl) (by kernel_rfl) (fun _ _ _ h => h) (Or.inl ⟨by rfl, ?ye9⟩) hK22 ?re9
  case ye9 => intro W hW; go_simp; first | done | with_reducible rfl
  simp only [Act.put, List.setIfInBounds_toArray, List.set_cons_zero, List.set_cons_succ]
  refine wpAnyH_take (i := 10) (oi := ⟨some 6, _, _, _, _, _⟩) (v := ?ve10) rfl (by kernel_rfl) (by kernel_rfl) (by kernel_rfl) (fun _ _ _ h => h) (Or.inl ⟨by rfl, ?ye10⟩) hK22 ?re10
  case ye10 => intro W hW; go_simp; first | done | with_reducible rfl
  simp only [Act.put, List.setIfInBounds_toArray, List.set_cons_zero, List.set_cons_succ]
  refine wpAnyH_done (by kernel_rfl) ?_ _
  go_wp2_with fail
  go_ret
  exact ⟨rfl, b11.trans (hK22.mono b11.size)⟩
end Go.Proofs.YtiigmpoopmnnhaaDoor
