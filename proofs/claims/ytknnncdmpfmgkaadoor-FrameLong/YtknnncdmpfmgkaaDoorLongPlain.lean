/-
  A log near its greatest length; a log whose first bytes are others: mathematics, and small words for memory. No condition.
-/
import Derived.Test.YtknnncdmpfmgkaaDoorLimits
namespace Go.Proofs.YtknnncdmpfmgkaaDoor
open Go.RowKit

/-- So many bodies of 20000 noughts. -/
def bodies (Zb : List UInt8) (k : Nat) : List (List UInt8) := List.replicate k Zb
theorem bodies_mem {Zb l : List UInt8} {k : Nat} (h : l ∈ bodies Zb k) : l = Zb := (List.mem_replicate.1 h).2
theorem frs_bodies (Zb : List UInt8) : ∀ (k : Nat), (frs (bodies Zb k)).length = k * (frm Zb).length
  | 0 => by simp [bodies, frs_nil]
  | k + 1 => by
    have h := frs_bodies Zb k
    unfold bodies at *
    rw [List.replicate_succ, frs_cons, List.length_append, h]
    rw [Nat.succ_mul]
    omega
theorem join_bodies {Zb : List UInt8} (hz : Zb.length = 20000) : (join (bodies Zb 52)).length = 1040368 := by
  rw [join_len, frs_bodies, frm_len, hz, leb_three (by omega) (by omega)]
theorem join_snoc (bs : List (List UInt8)) (b : List UInt8) : join (bs ++ [b]) = join bs ++ frm b := by simp [join, frs_snoc]
theorem leb_two {n : Nat} (h1 : 128 ≤ n) (h2 : n < 16384) : (leb n).length = 2 := by
  rw [leb_ge (n := n) (by omega), List.length_cons, leb_lt (n := n / 128) (by omega)]
  rfl
theorem frm_two {b : List UInt8} (h1 : 128 ≤ b.length) (h2 : b.length < 16384) : (frm b).length = b.length + 6 := by rw [frm_len, leb_two h1 h2]; omega

theorem bodies_over {Zb b : List UInt8} (hz : Zb.length = 20000) (h1 : 128 ≤ b.length) (h2 : b.length < 16384) : over (bodies Zb 52 ++ [b]) = decide (8202 < b.length) := by
  have hl : (join (bodies Zb 52 ++ [b])).length = 1040368 + (b.length + 6) := by rw [join_snoc, List.length_append, join_bodies hz, frm_two h1 h2]
  by_cases h : 8202 < b.length
  · unfold over
    rw [hl]
    have : decide (1048576 < 1040368 + (b.length + 6)) = true := by simp; omega
    rw [this]
    simp [h]
  · rw [over_false (by rw [List.length_append, bodies, List.length_replicate]; simp) (fun l hl => by
      rcases List.mem_append.1 hl with hl | hl
      · rw [bodies_mem hl]; omega
      · simp at hl; subst hl; omega) (by omega)]
    simp [h]
theorem bodies_fine {Zb b : List UInt8} (hz : Zb.length = 20000) (h2 : b.length < 16384) : Fine (bodies Zb 52 ++ [b]) :=
  ⟨by rw [List.length_append, bodies, List.length_replicate]; simp, fun l hl => by
    rcases List.mem_append.1 hl with hl | hl
    · rw [bodies_mem hl]; omega
    · simp at hl; subst hl; omega⟩
theorem bodies_over0 {Zb : List UInt8} (hz : Zb.length = 20000) : over (bodies Zb 52) = false :=
  over_false (by rw [bodies, List.length_replicate]; omega) (fun l hl => by rw [bodies_mem hl]; omega) (by rw [join_bodies hz]; omega)
theorem bodies_fine0 {Zb : List UInt8} (hz : Zb.length = 20000) : Fine (bodies Zb 52) :=
  ⟨by rw [bodies, List.length_replicate]; omega, fun l hl => by rw [bodies_mem hl]; omega⟩
theorem long_ok {Zb b : List UInt8} (hz : Zb.length = 20000) (h1 : 128 ≤ b.length) (h2 : b.length ≤ 8202) : splitL (join (bodies Zb 52) ++ frm b) = (bodies Zb 52 ++ [b], 1040368 + (b.length + 6), 0) := by
  have hl : (join (bodies Zb 52 ++ [b])).length = 1040368 + (b.length + 6) := by rw [join_snoc, List.length_append, join_bodies hz, frm_two h1 (by omega)]
  rw [← join_snoc, splitL_join (by rw [List.length_append, bodies, List.length_replicate]; simp) (fun l hl => by
      rcases List.mem_append.1 hl with hl | hl
      · rw [bodies_mem hl]; omega
      · simp at hl; subst hl; omega) (by omega), hl]
theorem long_over {Zb b : List UInt8} (hz : Zb.length = 20000) (h1 : 8202 < b.length) (h2 : b.length < 16384) : splitL (join (bodies Zb 52) ++ frm b) = (bodies Zb 52, 1048576, 5) := by
  have hJ := join_bodies hz
  have hf := frm_two (b := b) (by omega) h2
  have e : (join (bodies Zb 52) ++ frm b).take 1048576 = join (bodies Zb 52) ++ (frm b).take 8208 := by
    rw [List.take_append, List.take_of_length_le (by omega), hJ]
  have hne : (frm b).take 8208 ≠ [] := by
    intro e
    have := congrArg List.length e
    rw [List.length_take, List.length_nil] at this
    omega
  obtain ⟨x, hx⟩ := takeS_cut b 8208 (by omega) (by omega)
  have hr : runQ 52 (seqS ((frm b).take 8208)) = ([], 8208, 2) := runQ_bad hne (by omega) (by rw [hx]) (by omega)
  unfold splitL
  rw [if_neg (by rw [List.length_append, hJ, hf]; omega), e, split_front _ _ (by rw [bodies, List.length_replicate]; omega) (fun l hl => by rw [bodies_mem hl]; omega)]
  have hb : (bodies Zb 52).length = 52 := by rw [bodies, List.length_replicate]
  rw [hb, hr, hJ]
  unfold fit
  simp only [List.append_nil]
  rfl

/-- A first byte that is another one. -/
theorem match_first (r : List UInt8) (k : Nat) (hk : k < 4) (y : UInt8) (hy : op4.getD k 0 ≠ y) : matchS ((op4 ++ r).set k y) op4 3 = (k, 3) := by
  match k, hk, hy with
  | 0, _, hy => simp [op4] at hy; simp [op4, matchS, Ne.symm hy]
  | 1, _, hy => simp [op4] at hy; simp [op4, matchS, Ne.symm hy]
  | 2, _, hy => simp [op4] at hy; simp [op4, matchS, Ne.symm hy]
  | 3, _, hy => simp [op4] at hy; simp [op4, matchS, Ne.symm hy]
theorem split_first (r : List UInt8) (k : Nat) (hk : k < 4) (y : UInt8) (hy : op4.getD k 0 ≠ y) : splitL ((op4 ++ r).set k y) = ([], k, 3) := by
  have gen : ∀ r, splitS ((op4 ++ r).set k y) = ([], k, 3) := fun r => by
    unfold splitS
    rw [match_first r k hk y hy, if_pos (by simp)]
  unfold splitL
  split
  · exact gen r
  · have e : ((op4 ++ r).set k y).take 1048576 = (op4 ++ r.take 1048572).set k y := by
      rw [List.take_set, List.take_append, List.take_of_length_le (show op4.length ≤ 1048576 by show 4 ≤ _; omega)]
      rfl
    rw [e, gen]
    unfold fit
    rw [if_neg (by show ¬ k = 1048576; omega)]
theorem next_ne (k : Nat) (hk : k < 4) : op4.getD k 0 ≠ UInt8.ofNat (((op4.getD k 0).toNat + 1) % 256) := by
  match k, hk with
  | 0, _ => decide
  | 1, _ => decide
  | 2, _ => decide
  | 3, _ => decide
theorem i64_and3 (n : Int) : bits .and .i64 n 3 = n % 4 := by
  have h1 : (BitVec.ofInt 64 3).toNat = 2 ^ 2 - 1 := by decide
  have key : (BitVec.ofInt 64 n &&& BitVec.ofInt 64 3).toNat = (n % ((2 ^ 64 : Nat) : Int)).toNat % 2 ^ 2 := by
    rw [BitVec.toNat_and, BitVec.toNat_ofInt, h1, Nat.and_two_pow_sub_one_eq_mod]
  show IntKind.i64.wrap ((BitVec.ofInt 64 n &&& BitVec.ofInt 64 3).toNat : Nat) = n % 4
  rw [key, IntKind.wrap_i64]
  omega
end Go.Proofs.YtknnncdmpfmgkaaDoor
