/-
  transeptlaw03.ShaTells returns true, whatever bytes and number it is called with, and turns nothing that was there. Condition: the tables hold what the program's text lays.
-/
import Derived.Test.YtiigmpoopmnnhaaDoorKeys
import Derived.Test.YtiigmpoopmnnhaaDoorRefMac
namespace Go.Proofs.YtiigmpoopmnnhaaDoor
open Go.RowKit

set_option maxHeartbeats 2000000 in
set_option maxRecDepth 100000 in
theorem tells_walk (A : Option Addr) (n c : Nat) (l : List UInt8) (k : Int) (w : World) (h : Bs w w.heap.size A n l) (hc : n ≤ c) (hcm : c ≤ 9223372036854775807) (ht : Tab w) :
    Calls Tryd.prog 3 #[.slice A n c, .int .i64 k] w fun e w' => e = .returned (.bool true) ∧ Below w.heap.size w w' := by
  obtain ⟨m, hm, hm1, hm2⟩ : ∃ m : Nat, min (n : Int) 300 = (m : Int) ∧ m ≤ n ∧ m ≤ 300 := ⟨min n 300, by omega, by omega, by omega⟩
  have hcut := h.take m hm1
  obtain ⟨T, hT⟩ : ∃ T, T = l.take m := ⟨_, rfl⟩
  rw [← hT] at hcut
  clear hT h
  have tl := hcut.1
  obtain ⟨q, hq, hq1⟩ : ∃ q : Nat, bits .and .i64 k 65535 = (q : Int) ∧ q ≤ 65535 := ⟨(k % 65536).toNat, by rw [i64_and65535]; omega, by omega⟩
  obtain ⟨r, hr⟩ : ∃ r, r = q % 71 := ⟨_, rfl⟩
  have er : (q : Int) % 71 = (r : Int) := by omega
  have et : Int.tmod (q : Int) 71 = (r : Int) := by rw [Int.tmod_eq_emod_of_nonneg (by omega)]; exact er
  have lr : r ≤ 70 := by omega
  have SU := fun A' c' w p1 p2 p3 p4 => sum_any A' (m + r) c' (T ++ List.replicate r 0) w p1 p2 p3 p4 (by omega)
  have TX := fun w => text_any (digest (T ++ List.replicate r 0)) w (digest_length _)
  have RS := fun w => refSum_any (T ++ List.replicate r 0) w (by simp; omega)
  generalize digest (T ++ List.replicate r 0) = D at *
  clear hr
  go_enter Tryd.func3, Tryd.ntmps3
  go_wp2_with fail
  refine (shown_any w ht).mono ?_
  rintro e w1 ⟨rfl, b1⟩
  have hk1 := (hcut.below b1).more b1.size
  go_wp2_with (first
    | ((with_reducible show wpList _ _ _ (⟨some 16, _, _, _, _, _⟩ :: _) _ _); refine wp_appS _ rfl (.tmp 14) (.tmp 15) rfl w1.heap.size _ 0 [] rfl (own_empty _ _ (Nat.le_refl _)) w1.heap.size _ m _ T rfl (hk1.alloc (Nat.le_refl _) _) (by omega) (by simp) m T (by omega) rfl ?_; intro A2 c2 w2 hc2 hS2 hO2 hbel2; have K2 : Kept w1 w2 := ((Below.refl _ _).alloc (Nat.le_refl _) _).trans hbel2; simp only [Act.put, List.setIfInBounds_toArray, List.set_cons_zero, List.set_cons_succ])
    | ((with_reducible show wpList _ _ _ (⟨some 21, _, _, _, _, _⟩ :: _) _ _); refine wp_appZ _ rfl (.tmp 17) (.tmp 20) rfl w1.heap.size _ m T rfl hO2 r rfl (by omega) K2.size (m + r) rfl ?_; intro A3 c3 w3 hc3 cap3 hS3 hO3 hbel3; have K3 : Kept w1 w3 := K2.base hbel3; have hv := fun c' => run_str w3 _ A3 (m + r) c' _ hS3; simp only [Act.put, List.setIfInBounds_toArray, List.set_cons_zero, List.set_cons_succ]))
  have b3 : Below w.heap.size w w3 := b1.trans (K3.mono b1.size)
  clear hk1 hbel2 hO2 K2 hbel3 hO3 K3 b1 hv
  refine (SU A3 c3 w3 (ht.below b3) hS3 hc3 cap3).mono ?_
  rintro e w4 ⟨rfl, hb4⟩
  have b4 : Below w.heap.size w w4 := b3.trans (hb4.mono b3.size)
  have hS4 := (hS3.below hb4).more hb4.size
  clear hb4 hS3 b3
  go_wp2_with fail
  refine (TX w4).mono ?_
  rintro e w5 ⟨rfl, hb5⟩
  have b5 : Below w.heap.size w w5 := b4.trans (hb5.mono b4.size)
  have hS5 := (hS4.below hb5).more hb5.size
  clear hb5 hS4 b4
  go_wp2_with fail
  refine (RS w5).mono ?_
  rintro e w6 ⟨rfl, hb6⟩
  have b6 : Below w.heap.size w w6 := b5.trans (hb6.mono b5.size)
  have hS6 := (hS5.below hb6).more hb6.size
  clear hb6 hS5 b5
  have hv6 := fun c' => run_str w6 _ A3 (m + r) c' _ hS6
  go_wp2_with fail
  go_ret
  exact ⟨rfl, b6⟩
end Go.Proofs.YtiigmpoopmnnhaaDoor
