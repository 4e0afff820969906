/-
  transeptlaw01.NumberReads returns true, whatever bytes and int it is called with, and turns nothing that was there; no condition.
-/
import Derived.Test.YtjkjleadhmmajaaRefText
import Derived.Test.YtjkjleadhmmajaaLaw
namespace Go.Proofs.Ytjkjleadhmmajaa
open Go.RowKit

set_option maxHeartbeats 1000000 in
set_option maxRecDepth 100000 in
theorem reads_walk (A : Option Addr) (n c : Nat) (l : List UInt8) (most : Int) (w : World) (h : Bs w w.heap.size A n l) (hc : n ≤ c) (hcm : c ≤ 9223372036854775807)
    (h1 : -9223372036854775808 ≤ most) (h2 : most ≤ 9223372036854775807) :
    Calls Try.prog 4 #[.slice A n c, .int .i64 most] w fun e w' => e = .returned (.bool true) ∧ Below w.heap.size w w' := by
  obtain ⟨k, hk, hk1, hk2⟩ : ∃ k : Nat, min (n : Int) 500 = (k : Int) ∧ k ≤ n ∧ k ≤ 500 := ⟨min n 500, by omega, by omega, by omega⟩
  have hcut := h.take k hk1
  obtain ⟨T, hT⟩ : ∃ T, T = l.take k := ⟨_, rfl⟩
  rw [← hT] at hcut
  clear hT h
  go_enter Try.func4, Try.ntmps4
  go_wp2_with fail
  refine (shown_any w).mono ?_
  rintro e w1 ⟨rfl, hb1⟩
  have hz1 := hb1.size
  have hB1 := hcut.below hb1
  have hl : T.length ≤ 500 := by rw [hcut.1]; exact hk2
  go_wp2_with (at_builtin; refine wp_appS _ rfl (.tmp 25) (.tmp 26) rfl w.heap.size _ 0 [] rfl (own_empty _ _ hz1) w.heap.size _ k _ T rfl (hB1.alloc hz1 _) (by omega) (by simp; omega) k T (by omega) rfl ?_; intro A2 c2 w2 hc2 hS2 _ hbel2)
  have hb2 : Below w.heap.size w w2 := (hb1.alloc hz1 _).trans hbel2
  clear hbel2 hb1 hB1
  refine (get_any A2 k c2 T w2 hS2 hc2 (by omega)).mono ?_
  rintro e w3 ⟨rfl, hb3⟩
  have hb3' : Below w.heap.size w w3 := hb2.trans (hb3.mono hb2.size)
  have hS3 := (hS2.below hb3).more hb3.size
  have hv3 := fun c' => run_str w3 _ A k c' T (hcut.below hb3')
  clear hb3 hb2 hS2
  generalize hr : getS T = r
  obtain ⟨N, i, e⟩ := r
  have HR := Lib.hid hr
  clear hr
  simp only [got]
  go_wp2_with fail
  refine (refGet_any T w3 (by omega)).mono ?_
  rintro e w4 ⟨rfl, rfl⟩
  rw [HR.out]
  simp only [got]
  go_wp2_with fail
  refine (text_any A2 k c2 T most w3 hS3 hc2 (by omega) h1 h2).mono ?_
  rintro e w4 ⟨rfl, hb4⟩
  have hb4' : Below w.heap.size w w4 := hb3'.trans (hb4.mono hb3'.size)
  have hv4 := fun c' => run_str w4 _ A k c' T (hcut.below hb4')
  have hu4 := fun c' => run_str w4 _ A2 k c' T (hS3.below hb4)
  clear hb4 hb3' hS3 hv3
  generalize hr : textS T most = r
  obtain ⟨M, j, f⟩ := r
  have HM := Lib.hid hr
  clear hr
  simp only [gotText]
  go_wp2_with fail
  refine (refText_any T most w4 (by omega) h1 h2).mono ?_
  rintro e w5 ⟨rfl, rfl⟩
  rw [HM.out]
  simp only [gotText]
  go_wp2_with fail
  go_ret
  exact ⟨rfl, hb4'⟩
end Go.Proofs.Ytjkjleadhmmajaa
