/-
  transeptlaw02.CrcTells returns true, whatever bytes and number it is called with, and turns nothing that was there. Condition: the table's cells hold what the program's text lays.
-/
import Derived.Test.YtdohfnddffkljaaDoorShown
import Derived.Test.YtdohfnddffkljaaDoorRef
namespace Go.Proofs.YtdohfnddffkljaaDoor
open Go.RowKit

set_option maxHeartbeats 2000000 in
set_option maxRecDepth 100000 in
theorem tells_walk (A : Option Addr) (n c : Nat) (l : List UInt8) (s : Nat) (w : World) (h : Bs w w.heap.size A n l) (hc : n ≤ c) (hcm : c ≤ 9223372036854775807) (hs : s < 4294967296) (ht : Tab w) :
    Calls Tryd.prog 3 #[.slice A n c, .int .u32 s] w fun e w' => e = .returned (.bool true) ∧ Below w.heap.size w w' := by
  obtain ⟨k, hk, hk1, hk2⟩ : ∃ k : Nat, min (n : Int) 1500 = (k : Int) ∧ k ≤ n ∧ k ≤ 1500 := ⟨min n 1500, by omega, by omega, by omega⟩
  have hcut := h.take k hk1
  obtain ⟨T, hT⟩ : ∃ T, T = l.take k := ⟨_, rfl⟩
  rw [← hT] at hcut
  clear hT h
  go_enter Tryd.func3, Tryd.ntmps3
  go_wp2_with fail
  refine (shown_any w ht).mono ?_
  rintro e w1 ⟨rfl, hb1⟩
  have hz1 := hb1.size
  have hB1 := hcut.below hb1
  have hl : T.length ≤ 1500 := by rw [hcut.1]; exact hk2
  go_wp2_with (at_builtin; refine wp_appS _ rfl (.tmp 14) (.tmp 15) rfl w.heap.size _ 0 [] rfl (own_empty _ _ hz1) w.heap.size _ k _ T rfl (hB1.alloc hz1 _) (by omega) (by simp; omega) k T (by omega) rfl ?_; intro A2 c2 w2 hc2 hS2 _ hbel2; have hb2 : Below w.heap.size w w2 := (hb1.alloc hz1 _).trans hbel2; have hv := fun c' => run_str w2 _ A k c' T (hcut.below hb2); have hv2 := fun c' => run_str w2 _ A2 k c' T hS2; have ht2 := ht.below hb2; clear hbel2 hb1 hB1)
  refine (sum_any A2 k c2 T w2 ht2 _ hS2 (by omega)).mono ?_
  rintro e w3 ⟨rfl, rfl⟩
  go_wp2_with fail
  refine (refSum_any T w3 (by omega)).mono ?_
  rintro e w4 ⟨rfl, rfl⟩
  go_wp2_with fail
  refine (more_any s A2 k c2 T w4 ht2 hs _ hS2 (by omega)).mono ?_
  rintro e w5 ⟨rfl, rfl⟩
  go_wp2_with fail
  refine (refMore_any s T w5 hs (by omega)).mono ?_
  rintro e w6 ⟨rfl, rfl⟩
  go_wp2_with fail
  go_ret
  exact ⟨rfl, hb2⟩
end Go.Proofs.YtdohfnddffkljaaDoor
