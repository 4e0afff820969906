/-
  transeptlaw01.NumberRows returns true, whatever numbers and texts it is called with, and turns nothing that was there; no condition.
-/
import Derived.Test.YtjkjleadhmmajaaBack
namespace Go.Proofs.Ytjkjleadhmmajaa
open Go.RowKit

/-- The slice of n elements at A holds the values f 0, f 1, .. -/
def Vals (w : World) (A : Option Addr) (n : Nat) (f : Nat → Value) : Prop :=
  0 < n → ∃ b off, A = some ⟨b, off, none⟩ ∧ b < w.heap.size ∧ ∀ j, j < n → w.cell? ⟨b, off + j, none⟩ = some (f j)

def enc1 (z : Nat → Nat) (t : Nat → List UInt8) (j : Nat) : List UInt8 := leb (z j) ++ (leb (t j).length ++ t j)
def seg (z : Nat → Nat) (t : Nat → List UInt8) : Nat → Nat → List UInt8
  | _, 0 => []
  | i, d + 1 => enc1 z t i ++ seg z t (i + 1) d
theorem seg_snoc (z : Nat → Nat) (t : Nat → List UInt8) : ∀ d i, seg z t i (d + 1) = seg z t i d ++ enc1 z t (i + d) := by
  intro d
  induction d with
  | zero => intro i; simp [seg]
  | succ d ih =>
    intro i
    rw [seg, ih (i + 1), seg, List.append_assoc, show i + 1 + d = i + (d + 1) by omega]
theorem enc1_len (z : Nat → Nat) (t : Nat → List UInt8) (hz : ∀ j, z j < 18446744073709551616) (ht : ∀ j, (t j).length ≤ 200) (j : Nat) : (enc1 z t j).length ≤ 220 := by
  have h1 := leb_len10 (hz j)
  have h2 := leb_len10 (n := (t j).length) (by have := ht j; omega)
  have h3 := ht j
  simp only [enc1, List.length_append]
  omega
theorem seg_len (z : Nat → Nat) (t : Nat → List UInt8) (hz : ∀ j, z j < 18446744073709551616) (ht : ∀ j, (t j).length ≤ 200) : ∀ d i, (seg z t i d).length ≤ 220 * d := by
  intro d
  induction d with
  | zero => intro i; simp [seg]
  | succ d ih =>
    intro i
    rw [seg, List.length_append]
    have := ih (i + 1)
    have := enc1_len z t hz ht i
    omega

set_option maxHeartbeats 2000000 in
set_option maxRecDepth 100000 in
theorem rows_walk (A : Option Addr) (n c : Nat) (z : Nat → Nat) (B : Option Addr) (m d : Nat) (s : Nat → List UInt8) (w : World) (hA : Vals w A n fun j => .int .u64 (z j)) (hB : Vals w B m fun j => .string (str (s j)))
    (hz : ∀ j, z j < 18446744073709551616) (hs : ∀ j, j < m → (s j).length ≤ 9223372036854775807) (hn : n ≤ 9223372036854775807) (hm : m ≤ 9223372036854775807) :
    Calls Try.prog 8 #[.slice A n c, .slice B m d] w fun e w' => e = .returned (.bool true) ∧ Below w.heap.size w w' := by
  obtain ⟨r, hr, hr1, hr2⟩ : ∃ r : Nat, (if m < n then (m : Int) else (n : Int)) = (r : Int) ∧ r ≤ m ∧ r ≤ n := by
    by_cases h : m < n
    · exact ⟨m, by rw [if_pos h], by omega, by omega⟩
    · exact ⟨n, by rw [if_neg h], by omega, by omega⟩
  obtain ⟨k, hk, hk1, hk2, hk3⟩ : ∃ k : Nat, (if (10 : Int) < (r : Int) then (10 : Int) else (r : Int)) = (k : Int) ∧ k ≤ n ∧ k ≤ m ∧ k ≤ 10 := by
    by_cases h : 10 < r
    · exact ⟨10, by rw [if_pos (by omega)]; rfl, by omega, by omega, by omega⟩
    · exact ⟨r, by rw [if_neg (by omega)], by omega, by omega, by omega⟩
  obtain ⟨t, ht⟩ : ∃ t : Nat → List UInt8, t = fun j => (s j).take (min (s j).length 200) := ⟨_, rfl⟩
  have htl : ∀ j, (t j).length ≤ 200 := fun j => by rw [ht]; simp; omega
  have HT := Lib.hid ht
  have HZ := Lib.hid hz
  have HTL := Lib.hid htl
  have HSL := Lib.hid hs
  clear ht hz htl hs
  go_enter Try.func8, Try.ntmps8
  go_wp2_with fail
  refine (shown_any w).mono ?_
  rintro e w1 ⟨rfl, hb1⟩
  go_wp2_with fail
  go_loopw [7, 8] (fun v i wr => ∃ (j N cb : Nat) (X : Option Addr), j ≤ k ∧ i = .int .i64 j ∧ v = .slice X N cb ∧ N ≤ cb ∧ Bs wr wr.heap.size X N (seg z t 0 j) ∧ Below w.heap.size w wr) (fun _ i _ => k - (intOf i).toNat)
  case atStart => exact ⟨0, 0, 0, _, by omega, rfl, rfl, by omega, Bs.empty _ _ _, hb1.alloc hb1.size _⟩
  case round =>
    obtain ⟨j, N, cb, X, hj, rfl, rfl, hcb, hX, hbr⟩ := hrel
    by_cases hlt : j < k
    · obtain ⟨ga, oa, rfl, hga, hca⟩ := hA (by omega)
      obtain ⟨gb, ob, rfl, hgb, hcb'⟩ := hB (by omega)
      have hNl : N ≤ 220 * j := by rw [← hX.1]; exact seg_len z t HZ.out HTL.out j 0
      obtain ⟨Z, hZ⟩ : ∃ Z, z j = Z := ⟨_, rfl⟩
      obtain ⟨S, hS⟩ : ∃ S, s j = S := ⟨_, rfl⟩
      obtain ⟨T, hTj⟩ : ∃ T, t j = T := ⟨_, rfl⟩
      obtain ⟨q, hq, hq1, hq2⟩ : ∃ q : Nat, min (S.length : Int) 200 = (q : Int) ∧ q ≤ S.length ∧ q ≤ 200 := ⟨min S.length 200, by omega, by omega, by omega⟩
      have hTq : S.take q = T := by
        rw [← hTj, HT.out, ← hS]
        rw [← hS] at hq
        show List.take q (s j) = List.take (min (s j).length 200) (s j)
        rw [show q = min (s j).length 200 by omega]
      have hex : (str S).extract 0 q = str T := by rw [← hTq]; exact str_take S q
      have hss := str_size S
      have hSl : S.length ≤ 9223372036854775807 := by rw [← hS]; exact HSL.out j (by omega)
      have hTl : T.length ≤ 200 := by rw [← hTj]; exact HTL.out j
      have hZl : Z < 18446744073709551616 := by rw [← hZ]; exact HZ.out j
      have hc1 : ∀ W, Kept wr W → W.cell? ⟨ga, oa + j, none⟩ = some (.int .u64 Z) := fun W hW => by
        rw [Below.cell hW (p := ⟨ga, oa + j, none⟩) (by have := hbr.size; show ga < _; omega), hbr.cell (p := ⟨ga, oa + j, none⟩) hga, ← hZ]
        exact hca j (by omega)
      have hc2 : ∀ W, Kept wr W → W.cell? ⟨gb, ob + j, none⟩ = some (.string (str S)) := fun W hW => by
        rw [Below.cell hW (p := ⟨gb, ob + j, none⟩) (by have := hbr.size; show gb < _; omega), hbr.cell (p := ⟨gb, ob + j, none⟩) hgb, ← hS]
        exact hcb' j (by omega)
      have HE : Hid (seg z t 0 (j + 1) = seg z t 0 j ++ leb Z ++ leb T.length ++ T) := by
        show seg z t 0 (j + 1) = _
        rw [seg_snoc, Nat.zero_add, enc1, hZ, hTj]
        simp
      have b1 : (0 : Int) ≤ (j : Int) := by omega
      have b2 : (j : Int) < (n : Int) := by omega
      have b3 : (j : Int) < (m : Int) := by omega
      have hK := (Kept.refl wr).drew
      clear hca hcb' hZ hS hTj hTq
      go_wp2_with fail
      refine wp_region_held_drew (S := fun W => Kept wr W) (by kernel_rfl) hK (fun hS => ?_)
      refine wpAnyH_take (i := 0) (oi := ⟨some 28, _, _, _, _, _⟩) (v := ?va0) rfl (by kernel_rfl) (by kernel_rfl) (by kernel_rfl) (fun _ _ _ h => h) (Or.inl ⟨by rfl, ?ya0⟩) hS ?ra0
      case ya0 => intro W hW; go_simp; first | done | with_reducible rfl
      simp only [Act.put, List.setIfInBounds_toArray, List.set_cons_zero, List.set_cons_succ]
      refine wpAnyH_take (i := 1) (oi := ⟨some 29, _, _, _, _, _⟩) (v := ?va1) rfl (by kernel_rfl) (by kernel_rfl) (by kernel_rfl) (fun _ _ _ h => h) (Or.inl ⟨by rfl, ?ya1⟩) hS ?ra1
      case ya1 => intro W hW; go_simp; first | done | with_reducible rfl
      simp only [Act.put, List.setIfInBounds_toArray, List.set_cons_zero, List.set_cons_succ]
      refine wpAnyH_take (i := 2) (oi := ⟨some 30, _, _, _, _, _⟩) (v := ?va2) rfl (by kernel_rfl) (by kernel_rfl) (by kernel_rfl) (fun _ _ _ h => h) (Or.inl ⟨by rfl, ?ya2⟩) hS ?ra2
      case ya2 => intro W hW; go_simp; first | done | with_reducible rfl
      simp only [Act.put, List.setIfInBounds_toArray, List.set_cons_zero, List.set_cons_succ]
      refine wpAnyH_take (i := 3) (oi := ⟨some 31, _, _, _, _, _⟩) (v := ?va3) rfl (by kernel_rfl) (by kernel_rfl) (by kernel_rfl) (fun _ _ _ h => h) (Or.inl ⟨by rfl, ?ya3⟩) hS ?ra3
      case ya3 => intro W hW; go_simp; first | done | with_reducible rfl
      simp only [Act.put, List.setIfInBounds_toArray, List.set_cons_zero, List.set_cons_succ]
      refine wpAnyH_take (i := 4) (oi := ⟨some 32, _, _, _, _, _⟩) (v := ?va4) rfl (by kernel_rfl) (by kernel_rfl) (by kernel_rfl) (fun _ _ _ h => h) (Or.inl ⟨by rfl, ?ya4⟩) hS ?ra4
      case ya4 => intro W hW; go_simp; first | done | with_reducible rfl
      simp only [Act.put, List.setIfInBounds_toArray, List.set_cons_zero, List.set_cons_succ]
      refine wpAnyH_take (i := 6) (oi := ⟨some 34, _, _, _, _, _⟩) (v := ?va6) rfl (by kernel_rfl) (by kernel_rfl) (by kernel_rfl) (fun _ _ _ h => h) (Or.inl ⟨by rfl, ?ya6⟩) hS ?ra6
      case ya6 => intro W hW; go_simp; first | done | with_reducible rfl
      simp only [Act.put, List.setIfInBounds_toArray, List.set_cons_zero, List.set_cons_succ]
      refine wpAnyH_take (i := 7) (oi := ⟨some 35, _, _, _, _, _⟩) (v := ?va7) rfl (by kernel_rfl) (by kernel_rfl) (by kernel_rfl) (fun _ _ _ h => h) (Or.inl ⟨by rfl, ?ya7⟩) hS ?ra7
      case ya7 => intro W hW; go_simp; first | done | with_reducible rfl
      simp only [Act.put, List.setIfInBounds_toArray, List.set_cons_zero, List.set_cons_succ]
      refine wpAnyH_take (i := 8) (oi := ⟨some 36, _, _, _, _, _⟩) (v := ?va8) rfl (by kernel_rfl) (by kernel_rfl) (by kernel_rfl) (fun _ _ _ h => h) (Or.inl ⟨by rfl, ?ya8⟩) hS ?ra8
      case ya8 => intro W hW; go_simp; first | done | with_reducible rfl
      simp only [Act.put, List.setIfInBounds_toArray, List.set_cons_zero, List.set_cons_succ]
      refine wpAnyH_take (i := 9) (oi := ⟨some 37, _, _, _, _, _⟩) (v := ?va9) rfl (by kernel_rfl) (by kernel_rfl) (by kernel_rfl) (fun _ _ _ h => h) (Or.inl ⟨by rfl, ?ya9⟩) hS ?ra9
      case ya9 => intro W hW; go_simp; first | done | with_reducible rfl
      simp only [Act.put, List.setIfInBounds_toArray, List.set_cons_zero, List.set_cons_succ]
      refine wpAnyH_take (i := 10) (oi := ⟨some 38, _, _, _, _, _⟩) (v := ?va10) rfl (by kernel_rfl) (by kernel_rfl) (by kernel_rfl) (fun _ _ _ h => h) (Or.inl ⟨by rfl, ?ya10⟩) hS ?ra10
      case ya10 => intro W hW; go_simp; first | done | with_reducible rfl
      simp only [Act.put, List.setIfInBounds_toArray, List.set_cons_zero, List.set_cons_succ]
      refine wpAnyH_take (i := 11) (oi := ⟨some 39, _, _, _, _, _⟩) (v := ?va11) rfl (by kernel_rfl) (by kernel_rfl) (by kernel_rfl) (fun _ _ _ h => h) (Or.inl ⟨by rfl, ?ya11⟩) hS ?ra11
      case ya11 => intro W hW; go_simp; first | done | with_reducible rfl
      simp only [Act.put, List.setIfInBounds_toArray, List.set_cons_zero, List.set_cons_succ]
      refine wpAnyH_take (i := 12) (oi := ⟨some 40, _, _, _, _, _⟩) (v := ?va12) rfl (by kernel_rfl) (by kernel_rfl) (by kernel_rfl) (fun _ _ _ h => h) (Or.inl ⟨by rfl, ?ya12⟩) hS ?ra12
      case ya12 => intro W hW; go_simp; first | done | with_reducible rfl
      simp only [Act.put, List.setIfInBounds_toArray, List.set_cons_zero, List.set_cons_succ]
      refine wpAnyH_take (i := 13) (oi := ⟨some 41, _, _, _, _, _⟩) (v := ?va13) rfl (by kernel_rfl) (by kernel_rfl) (by kernel_rfl) (fun _ _ _ h => h) (Or.inl ⟨by rfl, ?ya13⟩) hS ?ra13
      case ya13 => intro W hW; go_simp; first | done | with_reducible rfl
      simp only [Act.put, List.setIfInBounds_toArray, List.set_cons_zero, List.set_cons_succ]
      refine wpAnyH_take (i := 14) (oi := ⟨some 42, _, _, _, _, _⟩) (v := ?va14) rfl (by kernel_rfl) (by kernel_rfl) (by kernel_rfl) (fun _ _ _ h => h) (Or.inl ⟨by rfl, ?ya14⟩) hS ?ra14
      case ya14 => intro W hW; go_simp; first | done | with_reducible rfl
      simp only [Act.put, List.setIfInBounds_toArray, List.set_cons_zero, List.set_cons_succ]
      refine wpAnyH_take (i := 15) (oi := ⟨some 43, _, _, _, _, _⟩) (v := ?va15) rfl (by kernel_rfl) (by kernel_rfl) (by kernel_rfl) (fun _ _ _ h => h) (Or.inl ⟨by rfl, ?ya15⟩) hS ?ra15
      case ya15 => intro W hW; go_simp; first | done | with_reducible rfl
      simp only [Act.put, List.setIfInBounds_toArray, List.set_cons_zero, List.set_cons_succ]
      refine wpAnyH_take (i := 16) (oi := ⟨some 44, _, _, _, _, _⟩) (v := ?va16) rfl (by kernel_rfl) (by kernel_rfl) (by kernel_rfl) (fun _ _ _ h => h) (Or.inl ⟨by rfl, ?ya16⟩) hS ?ra16
      case ya16 => intro W hW; go_simp; first | done | with_reducible rfl
      simp only [Act.put, List.setIfInBounds_toArray, List.set_cons_zero, List.set_cons_succ]
      refine wpAnyH_ready (rs := [5]) (by kernel_rfl) (by simp) ?_
      refine AllReadyH.cons (o := ⟨some 33, _, _, _, _, _⟩) rfl (fun K hK => ?_) AllReadyH.nil
      go_simp
      refine (put_any X N cb (seg z t 0 j) Z _ hX.drew (by omega) hZl).mono ?_
      rintro e w3 ⟨Y, cy, rfl, hcy, hY, _, hb3⟩
      have hK3 : Kept wr w3 := hS.step hb3
      go_simp
      refine hK.out _ _ hK3 (fun _ => ?_)
      clear hK K hX hcb
      refine wpAnyH_ready (rs := [17]) (by kernel_rfl) (by simp) ?_
      refine AllReadyH.cons (o := ⟨some 45, _, _, _, _, _⟩) rfl (fun K hK => ?_) AllReadyH.nil
      go_simp
      have hlz := leb_len10 hZl
      refine (putText_any Y (N + (leb Z).length) cy (seg z t 0 j ++ leb Z) T _ hY (by omega) (by omega)).mono ?_
      rintro e w4 ⟨V, cv, rfl, hcv, hV, _, hb4⟩
      have hK4 : Kept wr w4 := hK3.step hb4
      clear hY hb3 hb4 hK3
      go_simp
      refine hK.out _ _ hK4 (fun _ => ?_)
      clear hK K
      refine wpAnyH_switch (S' := fun W => W = w4) (fun W hW => hW ▸ hK4) ?_
      refine wpAnyH_take (i := 18) (oi := ⟨some 7, _, _, _, _, _⟩) (v := ?va18) rfl (by kernel_rfl) (by kernel_rfl) (by kernel_rfl) (fun _ _ _ h => h) (Or.inl ⟨by rfl, ?ya18⟩) rfl ?ra18
      case ya18 => intro W hW; subst hW; go_simp; first | done | with_reducible rfl
      simp only [Act.put, List.setIfInBounds_toArray, List.set_cons_zero, List.set_cons_succ]
      refine wpAnyH_done (by kernel_rfl) ?_ _
      clear hc1 hc2 hex hss hq hS
      go_wp2_with fail
      go_roundw
      case rel => exact ⟨j + 1, _, cv, V, by omega, by go_num, rfl, hcv, by rw [HE.out]; exact hV, hbr.trans (hK4.mono hbr.size)⟩
      case measure => simp [intOf]; omega
    · obtain rfl : k = j := by omega
      obtain ⟨wo, rfl⟩ : ∃ wo : World, wo = wr := ⟨_, rfl⟩
      clear hj hlt hb1
      go_wp2_with fail
      go_loopw [7, 9] (fun v i wr => ∃ (j N cb : Nat) (X : Option Addr), j ≤ k ∧ i = .int .i64 j ∧ v = .slice X N cb ∧ N ≤ cb ∧ Bs wr wr.heap.size X N (seg z t j (k - j)) ∧ Below w.heap.size w wr) (fun _ i _ => k - (intOf i).toNat)
      case atStart => exact ⟨0, N, cb, X, by omega, rfl, rfl, hcb, hX, hbr⟩
      case round =>
        clear hX hcb hbr
        obtain ⟨j, N, cb, X, hj, rfl, rfl, hcb, hX, hbr⟩ := hrel
        by_cases hlt : j < k
        · obtain ⟨ga, oa, rfl, hga, hca⟩ := hA (by omega)
          obtain ⟨gb, ob, rfl, hgb, hcb'⟩ := hB (by omega)
          have hNl : N ≤ 220 * (k - j) := by rw [← hX.1]; exact seg_len z t HZ.out HTL.out _ _
          obtain ⟨Z, hZ⟩ : ∃ Z, z j = Z := ⟨_, rfl⟩
          obtain ⟨S, hS⟩ : ∃ S, s j = S := ⟨_, rfl⟩
          obtain ⟨T, hTj⟩ : ∃ T, t j = T := ⟨_, rfl⟩
          obtain ⟨R, hR⟩ : ∃ R, seg z t (j + 1) (k - (j + 1)) = R := ⟨_, rfl⟩
          have hseg : seg z t j (k - j) = leb Z ++ (leb T.length ++ T ++ R) := by
            rw [show k - j = (k - (j + 1)) + 1 by omega, seg, hR, enc1, hZ, hTj, List.append_assoc]
          obtain ⟨q, hq, hq1, hq2⟩ : ∃ q : Nat, min (S.length : Int) 200 = (q : Int) ∧ q ≤ S.length ∧ q ≤ 200 := ⟨min S.length 200, by omega, by omega, by omega⟩
          have hTq : S.take q = T := by
            rw [← hTj, HT.out, ← hS]
            rw [← hS] at hq
            show List.take q (s j) = List.take (min (s j).length 200) (s j)
            rw [show q = min (s j).length 200 by omega]
          have hex : (str S).extract 0 q = str T := by rw [← hTq]; exact str_take S q
          have hss := str_size S
          have hSl : S.length ≤ 9223372036854775807 := by rw [← hS]; exact HSL.out j (by omega)
          have hTl : T.length ≤ 200 := by rw [← hTj]; exact HTL.out j
          have hZl : Z < 18446744073709551616 := by rw [← hZ]; exact HZ.out j
          rw [hseg] at hX
          obtain ⟨p, hp⟩ : ∃ p, (leb Z).length = p := ⟨_, rfl⟩
          obtain ⟨u, hu⟩ : ∃ u, (leb T.length).length + T.length = u := ⟨_, rfl⟩
          have hu1 : 1 ≤ u := by have := leb_pos T.length; omega
          have hpN : p + u ≤ N := by
            rw [← hX.1, ← hp, ← hu]
            simp only [List.length_append]
            omega
          have G1 : Hid (getS (leb Z ++ (leb T.length ++ T ++ R)) = (Z, p, 0)) := by rw [← hp]; exact getS_leb Z _ hZl
          have G2 : Hid (textS (leb T.length ++ T ++ R) 200 = (T, u, 0)) := by rw [← hu]; exact textS_back T R 200 (by omega) (by omega)
          have D1 : Hid ((leb Z ++ (leb T.length ++ T ++ R)).drop p = leb T.length ++ T ++ R) := by rw [← hp]; exact List.drop_left
          have D2 : Hid ((leb T.length ++ T ++ R).drop u = R) := by rw [← hu, ← List.length_append]; exact List.drop_left
          have hc1 : ∀ W, Kept wr W → W.cell? ⟨ga, oa + j, none⟩ = some (.int .u64 Z) := fun W hW => by
            rw [Below.cell hW (p := ⟨ga, oa + j, none⟩) (by have := hbr.size; show ga < _; omega), hbr.cell (p := ⟨ga, oa + j, none⟩) hga, ← hZ]
            exact hca j (by omega)
          have hc2 : ∀ W, Kept wr W → W.cell? ⟨gb, ob + j, none⟩ = some (.string (str S)) := fun W hW => by
            rw [Below.cell hW (p := ⟨gb, ob + j, none⟩) (by have := hbr.size; show gb < _; omega), hbr.cell (p := ⟨gb, ob + j, none⟩) hgb, ← hS]
            exact hcb' j (by omega)
          obtain ⟨bx, ox, rfl, hbx, _⟩ := hX.2 (by omega)
          have hcp : ¬ cb = p := by omega
          have b1 : (0 : Int) ≤ (j : Int) := by omega
          have b2 : (j : Int) < (n : Int) := by omega
          have b3 : (j : Int) < (m : Int) := by omega
          have HR := Lib.hid hR
          clear hca hcb' hZ hS hTj hTq hseg hp hu hR
          go_wp2_with fail
          refine (get_of _ (Z, p, 0) G1.out hX hcb (by omega)).mono ?_
          rintro e w3 ⟨rfl, hb3⟩
          have hK3 : Kept wr w3 := (Kept.refl wr).step hb3
          have hX3 := ((hX.below hb3).more hb3.size).cut (k := p) (cap := cb) (by omega) hcb
          rw [D1.out, if_neg hcp] at hX3
          have hX3' : Bs w3 w3.heap.size (some ⟨bx, ox + p, none⟩) (N - p) (leb T.length ++ T ++ R) := by simpa [Addr.add_lit] using hX3
          have hc13 := hc1 w3 hK3
          clear hX3 hb3 hX
          simp only [got]
          go_wp2_with fail
          refine (text_of _ 200 (T, u, 0) G2.out hX3' (by omega) (by omega) (by omega) (by omega)).mono ?_
          rintro e w4 ⟨rfl, hb4⟩
          have hK4 : Kept wr w4 := hK3.step hb4
          have hX4 := ((hX3'.below hb4).more hb4.size).cut (k := u) (cap := cb - p) (by omega) (by omega)
          rw [D2.out] at hX4
          clear hX3' hb4 hK3 hc13
          have hc24 := hc2 w4 hK4
          have hbr4 : Below w.heap.size w w4 := hbr.trans (hK4.mono hbr.size)
          have hd4 : w4.drew.cell? ⟨gb, ob + j, none⟩ = some (.string (str S)) := hc24
          simp only [gotText]
          go_wp2_with fail
          refine wp_region_held_drew (S := fun W => W = w4.drew) (by kernel_rfl) rfl (fun _ => ?_)
          refine wpAnyH_take (i := 0) (oi := ⟨some 76, _, _, _, _, _⟩) (v := ?vb0) rfl (by kernel_rfl) (by kernel_rfl) (by kernel_rfl) (fun _ _ _ h => h) (Or.inl ⟨by rfl, ?yb0⟩) rfl ?rb0
          case yb0 => intro W hW; subst hW; go_simp; first | done | with_reducible rfl
          simp only [Act.put, List.setIfInBounds_toArray, List.set_cons_zero, List.set_cons_succ]
          refine wpAnyH_take (i := 1) (oi := ⟨some 77, _, _, _, _, _⟩) (v := ?vb1) rfl (by kernel_rfl) (by kernel_rfl) (by kernel_rfl) (fun _ _ _ h => h) (Or.inl ⟨by rfl, ?yb1⟩) rfl ?rb1
          case yb1 => intro W hW; subst hW; go_simp; first | done | with_reducible rfl
          simp only [Act.put, List.setIfInBounds_toArray, List.set_cons_zero, List.set_cons_succ]
          refine wpAnyH_take (i := 2) (oi := ⟨some 78, _, _, _, _, _⟩) (v := ?vb2) rfl (by kernel_rfl) (by kernel_rfl) (by kernel_rfl) (fun _ _ _ h => h) (Or.inl ⟨by rfl, ?yb2⟩) rfl ?rb2
          case yb2 => intro W hW; subst hW; go_simp; first | done | with_reducible rfl
          simp only [Act.put, List.setIfInBounds_toArray, List.set_cons_zero, List.set_cons_succ]
          refine wpAnyH_take (i := 3) (oi := ⟨some 79, _, _, _, _, _⟩) (v := ?vb3) rfl (by kernel_rfl) (by kernel_rfl) (by kernel_rfl) (fun _ _ _ h => h) (Or.inl ⟨by rfl, ?yb3⟩) rfl ?rb3
          case yb3 => intro W hW; subst hW; go_simp; first | done | with_reducible rfl
          simp only [Act.put, List.setIfInBounds_toArray, List.set_cons_zero, List.set_cons_succ]
          refine wpAnyH_take (i := 4) (oi := ⟨some 80, _, _, _, _, _⟩) (v := ?vb4) rfl (by kernel_rfl) (by kernel_rfl) (by kernel_rfl) (fun _ _ _ h => h) (Or.inl ⟨by rfl, ?yb4⟩) rfl ?rb4
          case yb4 => intro W hW; subst hW; go_simp; first | done | with_reducible rfl
          simp only [Act.put, List.setIfInBounds_toArray, List.set_cons_zero, List.set_cons_succ]
          refine wpAnyH_take (i := 5) (oi := ⟨some 81, _, _, _, _, _⟩) (v := ?vb5) rfl (by kernel_rfl) (by kernel_rfl) (by kernel_rfl) (fun _ _ _ h => h) (Or.inl ⟨by rfl, ?yb5⟩) rfl ?rb5
          case yb5 => intro W hW; subst hW; go_simp; first | done | with_reducible rfl
          simp only [Act.put, List.setIfInBounds_toArray, List.set_cons_zero, List.set_cons_succ]
          refine wpAnyH_take (i := 6) (oi := ⟨some 82, _, _, _, _, _⟩) (v := ?vb6) rfl (by kernel_rfl) (by kernel_rfl) (by kernel_rfl) (fun _ _ _ h => h) (Or.inl ⟨by rfl, ?yb6⟩) rfl ?rb6
          case yb6 => intro W hW; subst hW; go_simp; first | done | with_reducible rfl
          simp only [Act.put, List.setIfInBounds_toArray, List.set_cons_zero, List.set_cons_succ]
          refine wpAnyH_take (i := 7) (oi := ⟨some 83, _, _, _, _, _⟩) (v := ?vb7) rfl (by kernel_rfl) (by kernel_rfl) (by kernel_rfl) (fun _ _ _ h => h) (Or.inl ⟨by rfl, ?yb7⟩) rfl ?rb7
          case yb7 => intro W hW; subst hW; go_simp; first | done | with_reducible rfl
          simp only [Act.put, List.setIfInBounds_toArray, List.set_cons_zero, List.set_cons_succ]
          refine wpAnyH_take (i := 8) (oi := ⟨some 84, _, _, _, _, _⟩) (v := ?vb8) rfl (by kernel_rfl) (by kernel_rfl) (by kernel_rfl) (fun _ _ _ h => h) (Or.inl ⟨by rfl, ?yb8⟩) rfl ?rb8
          case yb8 => intro W hW; subst hW; go_simp; first | done | with_reducible rfl
          simp only [Act.put, List.setIfInBounds_toArray, List.set_cons_zero, List.set_cons_succ]
          refine wpAnyH_take (i := 9) (oi := ⟨some 85, _, _, _, _, _⟩) (v := ?vb9) rfl (by kernel_rfl) (by kernel_rfl) (by kernel_rfl) (fun _ _ _ h => h) (Or.inl ⟨by rfl, ?yb9⟩) rfl ?rb9
          case yb9 => intro W hW; subst hW; go_simp; first | done | with_reducible rfl
          simp only [Act.put, List.setIfInBounds_toArray, List.set_cons_zero, List.set_cons_succ]
          refine wpAnyH_take (i := 10) (oi := ⟨some 86, _, _, _, _, _⟩) (v := ?vb10) rfl (by kernel_rfl) (by kernel_rfl) (by kernel_rfl) (fun _ _ _ h => h) (Or.inl ⟨by rfl, ?yb10⟩) rfl ?rb10
          case yb10 => intro W hW; subst hW; go_simp; first | done | with_reducible rfl
          simp only [Act.put, List.setIfInBounds_toArray, List.set_cons_zero, List.set_cons_succ]
          refine wpAnyH_take (i := 11) (oi := ⟨some 87, _, _, _, _, _⟩) (v := ?vb11) rfl (by kernel_rfl) (by kernel_rfl) (by kernel_rfl) (fun _ _ _ h => h) (Or.inl ⟨by rfl, ?yb11⟩) rfl ?rb11
          case yb11 => intro W hW; subst hW; go_simp; first | done | with_reducible rfl
          simp only [Act.put, List.setIfInBounds_toArray, List.set_cons_zero, List.set_cons_succ]
          refine wpAnyH_take (i := 12) (oi := ⟨some 88, _, _, _, _, _⟩) (v := ?vb12) rfl (by kernel_rfl) (by kernel_rfl) (by kernel_rfl) (fun _ _ _ h => h) (Or.inl ⟨by rfl, ?yb12⟩) rfl ?rb12
          case yb12 => intro W hW; subst hW; go_simp; first | done | with_reducible rfl
          simp only [Act.put, List.setIfInBounds_toArray, List.set_cons_zero, List.set_cons_succ]
          refine wpAnyH_take (i := 13) (oi := ⟨some 89, _, _, _, _, _⟩) (v := ?vb13) rfl (by kernel_rfl) (by kernel_rfl) (by kernel_rfl) (fun _ _ _ h => h) (Or.inl ⟨by rfl, ?yb13⟩) rfl ?rb13
          case yb13 => intro W hW; subst hW; go_simp; first | done | with_reducible rfl
          simp only [Act.put, List.setIfInBounds_toArray, List.set_cons_zero, List.set_cons_succ]
          refine wpAnyH_take (i := 14) (oi := ⟨some 90, _, _, _, _, _⟩) (v := ?vb14) rfl (by kernel_rfl) (by kernel_rfl) (by kernel_rfl) (fun _ _ _ h => h) (Or.inl ⟨by rfl, ?yb14⟩) rfl ?rb14
          case yb14 => intro W hW; subst hW; go_simp; first | done | with_reducible rfl
          simp only [Act.put, List.setIfInBounds_toArray, List.set_cons_zero, List.set_cons_succ]
          refine wpAnyH_take (i := 15) (oi := ⟨some 91, _, _, _, _, _⟩) (v := ?vb15) rfl (by kernel_rfl) (by kernel_rfl) (by kernel_rfl) (fun _ _ _ h => h) (Or.inl ⟨by rfl, ?yb15⟩) rfl ?rb15
          case yb15 => intro W hW; subst hW; go_simp; first | done | with_reducible rfl
          simp only [Act.put, List.setIfInBounds_toArray, List.set_cons_zero, List.set_cons_succ]
          refine wpAnyH_take (i := 16) (oi := ⟨some 92, _, _, _, _, _⟩) (v := ?vb16) rfl (by kernel_rfl) (by kernel_rfl) (by kernel_rfl) (fun _ _ _ h => h) (Or.inl ⟨by rfl, ?yb16⟩) rfl ?rb16
          case yb16 => intro W hW; subst hW; go_simp; first | done | with_reducible rfl
          simp only [Act.put, List.setIfInBounds_toArray, List.set_cons_zero, List.set_cons_succ]
          refine wpAnyH_done (by kernel_rfl) ?_ _
          have hX5 : Bs w4.drew w4.drew.heap.size (if cb - p = u then some ⟨bx, ox + p, none⟩ else some ⟨bx, ox + p + u, none⟩) (N - p - u) (seg z t (j + 1) (k - (j + 1))) := by
            rw [HR.out]
            refine Bs.drew (w := w4) ?_
            simpa [Addr.add_lit] using hX4
          have HX5 := Lib.hid hX5
          clear hX4 hX5 hc24 hd4 hc1 hc2
          go_wp2_with fail
          go_roundw
          case rel => exact ⟨j + 1, N - p - u, cb - p - u, _, by omega, by go_num, rfl, by omega, HX5.out, hbr4.drew⟩
          case measure => simp [intOf]; omega
        · obtain rfl : k = j := by omega
          have hN0 : N = 0 := by
            have := hX.1
            rw [Nat.sub_self] at this
            exact this.symm
          have t1 : ((N : Int) == 0) = true := by simp [hN0]
          clear hN0
          go_wp2_with fail
          go_ret
          exact ⟨rfl, hbr⟩
end Go.Proofs.Ytjkjleadhmmajaa
