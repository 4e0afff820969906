/-
  transeptlaw01.NumberWrites returns true, whatever bytes, number and text it is called with, and turns nothing that was there; no condition.
-/
import Derived.Test.YtjkjleadhmmajaaRefText
import Derived.Test.YtjkjleadhmmajaaLaw
import Derived.Deep.RegionHeld3
namespace Go.Proofs.Ytjkjleadhmmajaa
open Go.RowKit

set_option maxHeartbeats 2000000 in
set_option maxRecDepth 100000 in
theorem writes_walk (A : Option Addr) (n c : Nat) (l : List UInt8) (N : Nat) (S : List UInt8) (w : World) (h : Bs w w.heap.size A n l) (hc : n ≤ c) (hcm : c ≤ 9223372036854775807)
    (hN : N < 18446744073709551616) (hS : S.length ≤ 9223372036854775807) :
    Calls Try.prog 3 #[.slice A n c, .int .u64 N, .string (str S)] w fun e w' => e = .returned (.bool true) ∧ Below w.heap.size w w' := by
  obtain ⟨k, hk, hk1, hk2⟩ : ∃ k : Nat, min (n : Int) 100 = (k : Int) ∧ k ≤ n ∧ k ≤ 100 := ⟨min n 100, by omega, by omega, by omega⟩
  obtain ⟨j, hj, hj1, hj2⟩ : ∃ j : Nat, min (S.length : Int) 300 = (j : Int) ∧ j ≤ S.length ∧ j ≤ 300 := ⟨min S.length 300, by omega, by omega, by omega⟩
  have hcut := h.take k hk1
  obtain ⟨T, hT⟩ : ∃ T, T = l.take k := ⟨_, rfl⟩
  obtain ⟨U, hU⟩ : ∃ U, U = S.take j := ⟨_, rfl⟩
  have hUl : U.length ≤ 300 := by rw [hU, List.length_take]; omega
  have hex : (str S).extract 0 j = str U := by rw [hU]; exact str_take S j
  have hss := str_size S
  rw [← hT] at hcut
  have hl : T.length ≤ 100 := by rw [hcut.1]; exact hk2
  clear hT h hU
  go_enter Try.func3, Try.ntmps3
  go_wp2_with fail
  refine (shown_any w).mono ?_
  rintro e w1 ⟨rfl, hb1⟩
  have hz1 := hb1.size
  have hB1 := hcut.below hb1
  go_wp2_with (first
    | (at_builtin; refine wp_appS _ rfl (.tmp 12) (.tmp 17) rfl w.heap.size _ 0 [] rfl (own_empty _ _ hz1) w.heap.size _ k _ T rfl (hB1.alloc hz1 _) (by omega) (by simp; omega) k T (by omega) rfl ?_; intro A2 c2 w2 hc2 hS2 _ hbel2; have hb2 : Below w.heap.size w w2 := (hb1.alloc hz1 _).trans hbel2; have hv2 := fun c' => run_str w2 _ A2 k c' T hS2)
    | (at_builtin; refine wp_appS _ rfl (.tmp 26) (.tmp 27) rfl w2.heap.size _ 0 [] rfl (own_empty _ _ (Nat.le_refl _)) w2.heap.size _ k _ T rfl (hS2.alloc (Nat.le_refl _) _) (by omega) (by simp) k T (by omega) rfl ?_; intro A3 c3 w3 hc3 hS3 _ hbel3; have hd3 : Below w2.heap.size w2 w3 := ((Below.refl _ _).alloc (Nat.le_refl _) _).trans hbel3))
  have hS2' := hS2.below hd3
  have hb3 : Below w.heap.size w w3 := hb2.trans (hd3.mono hb2.size)
  refine (put_any A3 k c3 T N w3 hS3 (by omega) hN).mono ?_
  rintro e w4 ⟨X, cx, rfl, hcx, hX, _, hd4⟩
  have hz4 : w2.heap.size ≤ w3.heap.size := hd3.size
  have hS4 := (hS2'.below' hd4 hz4).more (Nat.le_trans hz4 hd4.size)
  have hb4 : Below w.heap.size w w4 := hb3.trans (hd4.mono hb3.size)
  clear hd3 hd4 hS2 hS2' hb2 hb3 hbel2 hbel3 hv2 hB1 hb1 hS3 hz4
  go_wp2_with (at_builtin; refine wp_appS _ rfl (.tmp 31) (.tmp 32) rfl w4.heap.size _ 0 [] rfl (own_empty _ _ (Nat.le_refl _)) w4.heap.size _ k _ T rfl (hS4.alloc (Nat.le_refl _) _) (by omega) (by simp) k T (by omega) rfl ?_; intro A5 c5 w5 hc5 hS5 _ hbel5; have hd5 : Below w4.heap.size w4 w5 := ((Below.refl _ _).alloc (Nat.le_refl _) _).trans hbel5)
  have hX5 := hX.below hd5
  have hb5 : Below w.heap.size w w5 := hb4.trans (hd5.mono hb4.size)
  refine (putText_any A5 k c5 T U w5 hS5 (by omega) (by omega)).mono ?_
  rintro e w6 ⟨Y, cy, rfl, hcy, hY, _, hd6⟩
  have hX6 := (hX5.below' hd6 hd5.size).more (Nat.le_trans hd5.size hd6.size)
  have hb6 : Below w.heap.size w w6 := hb5.trans (hd6.mono hb5.size)
  clear hd5 hd6 hX hX5 hb4 hb5 hbel5 hS4 hS5
  rw [List.append_assoc] at hY
  have hvx := Kept.str hX6
  have hvy := Kept.str hY
  have hK6 := (Kept.refl w6).drew
  have hsz := str_size
  have hap := str_append
  have hlN := leb_len10 hN
  have hlU := leb_len10 (n := U.length) (by omega)
  have hq1 : ¬ 9223372036854775807 < T.length + (leb N).length := by omega
  have hq2 : ¬ 9223372036854775807 < T.length + ((leb U.length).length + U.length) := by omega
  clear hX6 hY hcut hex hk hj hss
  go_wp2_with fail
  go_region_held3 (fun W => Kept w6 W) (first | exact hK6 | exact hK7 | exact hK8) (first | (go_at_call 13; refine (refPut_any (N + 1) N _ ?_ ?_).mono ?_; omega; exact hN; rintro e w7 ⟨rfl, hb7⟩; have hK7 := hK6.step hb7) | (go_at_call 14; refine (refPutText_any U _ ?_).mono ?_; omega; rintro e w8 ⟨rfl, hb8⟩; have hK8 := hK7.step hb8))
  go_wp2_with fail
  go_ret
  exact ⟨rfl, hb6.trans (hK8.mono hb6.size)⟩
end Go.Proofs.Ytjkjleadhmmajaa
