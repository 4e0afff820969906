/-
  transeptlaw01.NumberBack returns true, whatever number, text, bytes and int it is called with, and turns nothing that was there; no condition.
-/
import Derived.Test.YtjkjleadhmmajaaRefText
import Derived.Test.YtjkjleadhmmajaaLaw
import Derived.Test.YtjkjleadhmmajaaBackPlain
namespace Go.Proofs.Ytjkjleadhmmajaa
open Go.RowKit

theorem i64_and65535 (n : Int) : bits .and .i64 n 65535 = n % 65536 := by
  have h1 : (BitVec.ofInt 64 65535).toNat = 2 ^ 16 - 1 := by decide
  have key : (BitVec.ofInt 64 n &&& BitVec.ofInt 64 65535).toNat = (n % ((2 ^ 64 : Nat) : Int)).toNat % 2 ^ 16 := by
    rw [BitVec.toNat_and, BitVec.toNat_ofInt, h1, Nat.and_two_pow_sub_one_eq_mod]
  show IntKind.i64.wrap ((BitVec.ofInt 64 n &&& BitVec.ofInt 64 65535).toNat : Nat) = n % 65536
  rw [key, IntKind.wrap_i64]
  omega
theorem text_of {A : Option Addr} {n c : Nat} {w : World} (l : List UInt8) (most : Int) (r : List UInt8 × Nat × Nat) (hr : textS l most = r) (h : Bs w w.heap.size A n l) (hc : n ≤ c) (hn : n ≤ 1000000000)
    (h1 : -9223372036854775808 ≤ most) (h2 : most ≤ 9223372036854775807) :
    Calls Try.prog 17 #[.slice A n c, .int .i64 most] w fun e w' => e = .returned (gotText r) ∧ Below w.heap.size w w' := by
  subst hr
  exact text_any A n c l most w h hc hn h1 h2
theorem put_of (N p : Nat) (L : List UInt8) (w : World) (hN : N < 18446744073709551616) (hL : leb N = L) (hp : L.length = p) : Calls Try.prog 11 #[.slice none 0 0, .int .u64 N] w (Gives w p L) := by
  subst hL hp
  exact put_nil N w hN
theorem putText_of (U : List UInt8) (p : Nat) (L : List UInt8) (w : World) (hU : U.length ≤ 1000000) (hL : leb U.length ++ U = L) (hp : L.length = p) : Calls Try.prog 12 #[.slice none 0 0, .string (str U)] w (Gives w p L) := by
  subst hL hp
  have := putText_any none 0 0 [] U w (Bs.empty _ _ _) (by omega) hU
  rwa [Nat.zero_add, List.nil_append, ← List.length_append] at this

set_option maxHeartbeats 2000000 in
set_option maxRecDepth 100000 in
theorem back_walk (N : Nat) (S : List UInt8) (A : Option Addr) (n c : Nat) (l : List UInt8) (at_ : Int) (w : World) (hN : N < 18446744073709551616) (hS : S.length ≤ 9223372036854775807)
    (h : Bs w w.heap.size A n l) (hc : n ≤ c) (hcm : c ≤ 9223372036854775807) :
    Calls Try.prog 5 #[.int .u64 N, .string (str S), .slice A n c, .int .i64 at_] w fun e w' => e = .returned (.bool true) ∧ Below w.heap.size w w' := by
  obtain ⟨k, hk, hk1, hk2⟩ : ∃ k : Nat, min (n : Int) 50 = (k : Int) ∧ k ≤ n ∧ k ≤ 50 := ⟨min n 50, by omega, by omega, by omega⟩
  obtain ⟨j, hj, hj1, hj2⟩ : ∃ j : Nat, min (S.length : Int) 200 = (j : Int) ∧ j ≤ S.length ∧ j ≤ 200 := ⟨min S.length 200, by omega, by omega, by omega⟩
  obtain ⟨q, hq, hq1⟩ : ∃ q : Nat, bits .and .i64 at_ 65535 = (q : Int) ∧ q ≤ 65535 := ⟨(at_ % 65536).toNat, by rw [i64_and65535]; omega, by omega⟩
  have hcut := h.take k hk1
  obtain ⟨T, hT⟩ : ∃ T, T = l.take k := ⟨_, rfl⟩
  obtain ⟨U, hU⟩ : ∃ U, U = S.take j := ⟨_, rfl⟩
  have hUl : U.length = j := by rw [hU, List.length_take]; omega
  have hex : (str S).extract 0 j = str U := by rw [hU]; exact str_take S j
  have hss := str_size S
  rw [← hT] at hcut
  have hl : T.length ≤ 50 := by rw [hcut.1]; exact hk2
  obtain ⟨L, hL⟩ : ∃ L, leb N = L := ⟨_, rfl⟩
  obtain ⟨p, hp⟩ : ∃ p, L.length = p := ⟨_, rfl⟩
  obtain ⟨M, hM⟩ : ∃ M, leb U.length ++ U = M := ⟨_, rfl⟩
  obtain ⟨m, hm⟩ : ∃ m, M.length = m := ⟨_, rfl⟩
  have hp1 : 0 < p := by rw [← hp, ← hL]; exact leb_pos N
  have hp2 : p ≤ 10 := by rw [← hp, ← hL]; exact leb_len10 hN
  have hm1 : 0 < m := by rw [← hm, ← hM, List.length_append]; have := leb_pos U.length; omega
  have hm2 : m ≤ 210 := by rw [← hm, ← hM, List.length_append]; have := leb_len10 (n := U.length) (by omega); omega
  have g1 : getS (L ++ T) = (N, p, 0) := by rw [← hp, ← hL]; exact getS_leb N T hN
  have g2 : getS (L.take (q % p)) = (0, q % p, 2) := by rw [← hL]; exact getS_cut N (q % p) hN (by rw [hL, hp]; exact Nat.mod_lt _ hp1)
  have g3 : textS (M ++ T) 200 = (U, m, 0) := by rw [← hm, ← hM, List.length_append]; exact textS_back U T 200 (by omega) (by omega)
  have g4 : textS (M.take (q % m)) 200 = ([], q % m, 2) := by rw [← hM]; exact textS_cut U (q % m) 200 (by omega) (by omega) (by rw [← List.length_append, hM, hm]; exact Nat.mod_lt _ hm1)
  obtain ⟨r, hr⟩ : ∃ r, q % p = r := ⟨_, rfl⟩
  obtain ⟨s, hs⟩ : ∃ s, q % m = s := ⟨_, rfl⟩
  have hrp : r < p := by rw [← hr]; exact Nat.mod_lt _ hp1
  have hsm : s < m := by rw [← hs]; exact Nat.mod_lt _ hm1
  have er : (q : Int) % (p : Int) = (r : Int) := by omega
  have es : (q : Int) % (m : Int) = (s : Int) := by omega
  rw [hr] at g2
  rw [hs] at g4
  have G1 := Lib.hid g1
  have G2 := Lib.hid g2
  have G3 := Lib.hid g3
  have G4 := Lib.hid g4
  have HL := Lib.hid hL
  have HP := Lib.hid hp
  have HM := Lib.hid hM
  have HMl := Lib.hid hm
  have HU : U.length ≤ 1000000 := by omega
  have t0 : ((p : Int) == 0) = false := by simp; omega
  clear hT h hU g1 g2 g3 g4 hL hp hM hm hr hs hUl
  go_enter Try.func5, Try.ntmps5
  go_wp2_with fail
  refine (shown_any w).mono ?_
  rintro e w1 ⟨rfl, hb1⟩
  go_wp2_with fail
  refine (put_of N p L w1 hN HL.out HP.out).mono ?_
  rintro e w2 ⟨X, cx, rfl, hcx, hX, _, hd2⟩
  have hb2 : Below w.heap.size w w2 := hb1.trans (hd2.mono hb1.size)
  have hT2 := (hcut.below hb2).more hb2.size
  clear hb1 hd2
  go_wp2_with (first
    | (at_builtin; refine wp_appS _ rfl (.tmp 41) (.tmp 42) rfl w2.heap.size _ 0 [] rfl (own_empty _ _ (Nat.le_refl _)) w2.heap.size _ p _ L rfl (hX.alloc (Nat.le_refl _) _) (by omega) (by simp) p L (by omega) rfl ?_; intro A3 c3 w3 hc3 hS3 hO3 hbel3; have hd3 : Below w2.heap.size w2 w3 := ((Below.refl _ _).alloc (Nat.le_refl _) _).trans hbel3; have hT3 := hT2.below hd3)
    | (at_builtin; refine wp_appS _ rfl (.tmp 43) (.tmp 44) rfl w2.heap.size _ p L rfl hO3 w2.heap.size _ k _ T rfl hT3 (by omega) hd3.size (p + k) (L ++ T) rfl rfl ?_; intro A4 c4 w4 hc4 hS4 _ hbel4))
  have hd4 : Below w2.heap.size w2 w4 := hd3.trans hbel4
  clear hbel3 hbel4 hd3 hS3 hO3 hT3
  refine (get_of (L ++ T) (N, p, 0) G1.out hS4 hc4 (by omega)).mono ?_
  rintro e w5 ⟨rfl, hb5⟩
  have hd5 : Below w2.heap.size w2 w5 := hd4.trans (hb5.mono hd4.size)
  have hX5 := ((hX.below hd5).more hd5.size).take r (by omega)
  clear hS4 hd4 hb5
  simp only [got]
  go_wp2_with fail
  refine (get_of (L.take r) (0, r, 2) G2.out hX5 (by omega) (by omega)).mono ?_
  rintro e w6 ⟨rfl, hb6⟩
  have hb6' : Below w.heap.size w w6 := (hb2.trans (hd5.mono hb2.size)).trans (hb6.mono (Nat.le_trans hb2.size hd5.size))
  clear hX hX5 hd5 hb6 hb2 hT2
  simp only [got]
  go_wp2_with fail
  refine (putText_of U m M w6 HU HM.out HMl.out).mono ?_
  rintro e w7 ⟨Y, cy, rfl, hcy, hY, _, hd7⟩
  have hb7 : Below w.heap.size w w7 := hb6'.trans (hd7.mono hb6'.size)
  have hT7 := (hcut.below hb7).more hb7.size
  clear hb6' hd7
  go_wp2_with (first
    | (at_builtin; refine wp_appS _ rfl (.tmp 65) (.tmp 66) rfl w7.heap.size _ 0 [] rfl (own_empty _ _ (Nat.le_refl _)) w7.heap.size _ m _ M rfl (hY.alloc (Nat.le_refl _) _) (by omega) (by simp) m M (by omega) rfl ?_; intro A8 c8 w8 hc8 hS8 hO8 hbel8; have hd8 : Below w7.heap.size w7 w8 := ((Below.refl _ _).alloc (Nat.le_refl _) _).trans hbel8; have hT8 := hT7.below hd8)
    | (at_builtin; refine wp_appS _ rfl (.tmp 67) (.tmp 68) rfl w7.heap.size _ m M rfl hO8 w7.heap.size _ k _ T rfl hT8 (by omega) hd8.size (m + k) (M ++ T) rfl rfl ?_; intro A9 c9 w9 hc9 hS9 _ hbel9))
  have hd9 : Below w7.heap.size w7 w9 := hd8.trans hbel9
  clear hbel8 hbel9 hd8 hS8 hO8 hT8
  refine (text_of (M ++ T) 200 (U, m, 0) G3.out hS9 hc9 (by omega) (by omega) (by omega)).mono ?_
  rintro e wa ⟨rfl, hba⟩
  have hda : Below w7.heap.size w7 wa := hd9.trans (hba.mono hd9.size)
  have hYa := ((hY.below hda).more hda.size).take s (by omega)
  clear hS9 hd9 hba
  simp only [gotText]
  go_wp2_with fail
  refine (text_of (M.take s) 200 ([], s, 2) G4.out hYa (by omega) (by omega) (by omega) (by omega)).mono ?_
  rintro e wb ⟨rfl, hbb⟩
  have hfin : Below w.heap.size w wb := (hb7.trans (hda.mono hb7.size)).trans (hbb.mono (Nat.le_trans hb7.size hda.size))
  clear hY hYa hda hbb hb7 hT7
  simp only [gotText]
  go_wp2_with fail
  go_ret
  exact ⟨rfl, hfin⟩
end Go.Proofs.Ytjkjleadhmmajaa
