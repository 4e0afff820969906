/-
  transeptlaw02.CrcRests returns true, whatever bytes and number it is called with, and turns nothing that was there. Condition: the table's cells hold what the program's text lays.
-/
import Derived.Test.YtdohfnddffkljaaDoorFours
namespace Go.Proofs.YtdohfnddffkljaaDoor
open Go.RowKit

set_option maxHeartbeats 2000000 in
set_option maxRecDepth 100000 in
theorem rests_walk (A : Option Addr) (n c : Nat) (l : List UInt8) (o : Nat) (w : World) (h : Bs w w.heap.size A n l) (hc : n ≤ c) (hcm : c ≤ 9223372036854775807) (ho : o < 4294967296) (ht : Tab w) :
    Calls Tryd.prog 8 #[.slice A n c, .int .u32 o] w fun e w' => e = .returned (.bool true) ∧ Below w.heap.size w w' := by
  obtain ⟨k, hk, hk1, hk2⟩ : ∃ k : Nat, min (n : Int) 1000 = (k : Int) ∧ k ≤ n ∧ k ≤ 1000 := ⟨min n 1000, by omega, by omega, by omega⟩
  have hcut := h.take k hk1
  obtain ⟨T, hT⟩ : ∃ T, T = l.take k := ⟨_, rfl⟩
  rw [← hT] at hcut
  clear hT h
  obtain ⟨s, hs⟩ : ∃ s, more 0 T = s := ⟨_, rfl⟩
  have hsl : s < 4294967296 := by rw [← hs]; exact more_lt T (by omega)
  obtain ⟨r, hr⟩ : ∃ r, more 0 (T ++ four o) = r := ⟨_, rfl⟩
  have HO : Hid (more 0 (T ++ four s) = 558161692) := (more_rest T s hsl).2 hs.symm
  obtain ⟨t, t1, t2⟩ := eq_dec (p := r) (q := 558161692) (b := o) (c := s) (by rw [← hr, ← hs]; exact more_rest T o ho)
  rw [show ((558161692 : Nat) : Int) = 558161692 from rfl] at t1
  have HS := Lib.hid hs
  have HR := Lib.hid hr
  clear hs hr
  go_enter Tryd.func8, Tryd.ntmps8
  go_wp2_with fail
  refine (shown_any w ht).mono ?_
  rintro e w1 ⟨rfl, hb1⟩
  have hz1 := hb1.size
  have hB1 := hcut.below hb1
  have hl : T.length ≤ 1000 := by rw [hcut.1]; exact hk2
  go_wp2_with (at_builtin; refine wp_appS _ rfl (.tmp 10) (.tmp 15) rfl w.heap.size _ 0 [] rfl (own_empty _ _ hz1) w.heap.size _ k _ T rfl (hB1.alloc hz1 _) (by omega) (by simp; omega) k T (by omega) rfl ?_; intro A2 c2 w2 hc2 hS2 _ hbel2; have hb2 : Below w.heap.size w w2 := (hb1.alloc hz1 _).trans hbel2; have ht2 := ht.below hb2; clear hbel2 hb1 hB1)
  refine (sum_of T s HS.out ht2 hS2 (by omega)).mono ?_
  rintro e w3 ⟨rfl, rfl⟩
  have hlt : (T ++ four s).length = k + 4 := by rw [List.length_append, hcut.1]; rfl
  go_wp2_with (first
    | (at_builtin; refine wp_appS _ rfl (.tmp 19) (.tmp 20) rfl w3.heap.size _ 0 [] rfl (own_empty _ _ (Nat.le_refl _)) w3.heap.size _ k _ T rfl (hS2.alloc (Nat.le_refl _) _) (by omega) (by simp) k T (by omega) rfl ?_; intro A4 c4 w4 hc4 _ hO4 hbel4; have hd4 : Below w3.heap.size w3 w4 := ((Below.refl _ _).alloc (Nat.le_refl _) _).trans hbel4; clear hbel4)
    | (at_builtin; refine wp_appS _ rfl (.tmp 21) (.tmp 33) rfl w3.heap.size _ k T rfl (hO4.alloc _) (w4.heap.size + 1) _ 4 _ (four s) rfl (bs_four w4 s w4.heap.size rfl _ _ _ _ hsl rfl rfl rfl rfl) (by omega) (by have := hd4.size; simp; omega) (k + 4) (T ++ four s) rfl rfl ?_; intro A5 c5 w5 hc5 hS5 _ hbel5; have hd5 : Below w3.heap.size w3 w5 := (hd4.alloc hd4.size _).trans hbel5; have hT5 := hS2.below hd5; have hz5 := hd5.size; clear hbel5 hd4 hO4)
    | (at_builtin; refine wp_appS _ rfl (.tmp 35) (.tmp 36) rfl w5.heap.size _ 0 [] rfl (own_empty _ _ (Nat.le_refl _)) w3.heap.size _ k _ T rfl (hT5.alloc hz5 _) (by omega) (by simp) k T (by omega) rfl ?_; intro A6 c6 w6 hc6 _ hO6 hbel6; have hd6 : Below w5.heap.size w5 w6 := ((Below.refl _ _).alloc (Nat.le_refl _) _).trans hbel6; clear hbel6)
    | (at_builtin; refine wp_appS _ rfl (.tmp 37) (.tmp 49) rfl w5.heap.size _ k T rfl (hO6.alloc _) (w6.heap.size + 1) _ 4 _ (four o) rfl (bs_four w6 o w6.heap.size rfl _ _ _ _ ho rfl rfl rfl rfl) (by omega) (by have := hd6.size; simp; omega) (k + 4) (T ++ four o) rfl rfl ?_; intro A7 c7 w7 hc7 hS7 _ hbel7; have hd7 : Below w5.heap.size w5 w7 := (hd6.alloc hd6.size _).trans hbel7; have hT7 := (hS5.below hd7); have ht7 := (ht2.below hd5).below hd7; clear hbel7 hd6 hO6))
  refine (sum_of (T ++ four s) 558161692 HO.out ht7 hT7 (by omega)).mono ?_
  rintro e w8 ⟨rfl, rfl⟩
  go_wp2_with fail
  refine (sum_of (T ++ four o) r HR.out ht7 hS7 (by omega)).mono ?_
  rintro e w9 ⟨rfl, rfl⟩
  go_wp2_with fail
  go_ret
  exact ⟨rfl, (hb2.trans (hd5.mono hb2.size)).trans (hd7.mono (Nat.le_trans hb2.size hz5))⟩
end Go.Proofs.YtdohfnddffkljaaDoor
