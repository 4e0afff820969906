/-
  transeptlaw01.NumberSizes returns true, whatever int it is called with, and turns nothing that was there; no condition.
-/
import Derived.Test.YtjkjleadhmmajaaShown
namespace Go.Proofs.Ytjkjleadhmmajaa
open Go.RowKit

theorem leb_low : ∀ k n, 128 ^ k ≤ n → k + 1 ≤ (leb n).length := by
  intro k
  induction k with
  | zero => intro n _; have := leb_pos n; omega
  | succ k ih =>
    intro n h
    have h1 : 128 ≤ n := by
      have : (128 : Nat) ^ 1 ≤ 128 ^ (k + 1) := Nat.pow_le_pow_right (by omega) (by omega)
      omega
    rw [leb_ge h1, List.length_cons]
    have : 128 ^ k ≤ n / 128 := by
      rw [Nat.le_div_iff_mul_le (by omega), ← Nat.pow_succ]
      exact h
    have := ih _ this
    omega
/-- A number with b bits has one byte for each seven begun. -/
theorem leb_bits (b n : Nat) (hb : 1 ≤ b) (h1 : 2 ^ (b - 1) ≤ n) (h2 : n < 2 ^ b) : (leb n).length = (b + 6) / 7 := by
  have hq : (b + 6) / 7 = (b - 1) / 7 + 1 := by omega
  rw [hq]
  have e1 : (128 : Nat) ^ ((b - 1) / 7) ≤ n := by
    rw [pow_split]
    exact Nat.le_trans (Nat.pow_le_pow_right (by omega) (by omega)) h1
  have e2 : n < 128 ^ ((b - 1) / 7 + 1) := by
    rw [pow_split]
    exact Nat.lt_of_lt_of_le h2 (Nat.pow_le_pow_right (by omega) (by omega))
  have := leb_low _ _ e1
  have := leb_len _ _ e2
  omega

theorem i64_and63 (n : Int) : bits .and .i64 n 63 = n % 64 := by
  have h63 : (BitVec.ofInt 64 63).toNat = 2 ^ 6 - 1 := by decide
  have key : (BitVec.ofInt 64 n &&& BitVec.ofInt 64 63).toNat = (n % ((2 ^ 64 : Nat) : Int)).toNat % 2 ^ 6 := by
    rw [BitVec.toNat_and, BitVec.toNat_ofInt, h63, Nat.and_two_pow_sub_one_eq_mod]
  show IntKind.i64.wrap ((BitVec.ofInt 64 n &&& BitVec.ofInt 64 63).toNat : Nat) = n % 64
  rw [key, IntKind.wrap_i64]
  omega

set_option maxHeartbeats 1000000 in
theorem sizes_walk (a : Int) (w : World) : Calls Try.prog 7 #[.int .i64 a] w fun e w' => e = .returned (.bool true) ∧ Below w.heap.size w w' := by
  obtain ⟨b, hb, hb63⟩ : ∃ b : Nat, bits .and .i64 a 63 = (b : Int) ∧ b ≤ 63 := ⟨(a % 64).toNat, by rw [i64_and63]; omega, by omega⟩
  obtain ⟨L, hL⟩ : ∃ L, L = 2 ^ b := ⟨_, rfl⟩
  obtain ⟨G, hG⟩ : ∃ G, G = 2 ^ (b + 1) - 1 := ⟨_, rfl⟩
  have hp : 2 ^ (b + 1) = 2 ^ b * 2 := Nat.pow_succ 2 b
  have hL0 : 0 < L := by rw [hL]; exact Nat.two_pow_pos b
  have hLm : L ≤ 9223372036854775808 := by
    rw [hL]
    exact Nat.le_trans (Nat.pow_le_pow_right (by omega) hb63) (by decide)
  have eL : IntKind.u64.wrap (2 ^ b) = (L : Int) := by
    have : ((2 : Int) ^ b) = ((2 ^ b : Nat) : Int) := by push_cast; rfl
    rw [this, ← hL, IntKind.wrap_u64]
    omega
  have eG : IntKind.u64.wrap (IntKind.u64.wrap ((L : Int) * 2) - 1) = (G : Int) := by
    rw [IntKind.wrap_u64, IntKind.wrap_u64]
    omega
  have lL : (leb L).length = (b + 1 + 6) / 7 := leb_bits (b + 1) L (by omega) (by rw [hL]; exact Nat.le_refl _) (by rw [hL, hp]; omega)
  have lG : (leb G).length = (b + 1 + 6) / 7 := leb_bits (b + 1) G (by omega) (by rw [Nat.add_sub_cancel]; omega) (by omega)
  have hGm : G < 18446744073709551616 := by omega
  have tL : (((leb L).length : Int) == (1 + (b : Int) + 6) / 7) = true := by simp; omega
  have tG : (((leb G).length : Int) == (1 + (b : Int) + 6) / 7) = true := by simp; omega
  have t0 : (leb 0).length = 1 := by decide
  have HL := Lib.hid eL
  have HG := Lib.hid eG
  clear eL eG lL lG hp hL hG
  go_enter Try.func7, Try.ntmps7
  go_wp2_with fail
  refine (shown_any w).mono ?_
  rintro e w1 ⟨rfl, hb1⟩
  go_wp2_with fail
  rw [HL.out]
  refine (put_nil L w1 (by omega)).mono ?_
  rintro e w2 ⟨A2, c2, rfl, hc2, _, _, hb2⟩
  have hd2 : Below w.heap.size w w2 := hb1.trans (hb2.mono hb1.size)
  clear hb1 hb2
  go_wp2_with fail
  rw [HG.out]
  refine (put_nil G w2 hGm).mono ?_
  rintro e w3 ⟨A3, c3, rfl, hc3, _, _, hb3⟩
  have hd3 : Below w.heap.size w w3 := hd2.trans (hb3.mono hd2.size)
  clear hd2 hb3
  go_wp2_with fail
  refine (put_nil 0 w3 (by omega)).mono ?_
  rintro e w4 ⟨A4, c4, rfl, hc4, _, _, hb4⟩
  have hd4 : Below w.heap.size w w4 := hd3.trans (hb4.mono hd3.size)
  clear hd3 hb4
  go_wp2_with fail
  go_ret
  exact ⟨rfl, hd4⟩
end Go.Proofs.Ytjkjleadhmmajaa
