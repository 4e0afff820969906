/-
  Words for logs near the limits: noughts, many empty bodies, a body that is too long; bytes out of a string. No condition.
-/
import Derived.Test.YtknnncdmpfmgkaaDoorBase
import Derived.Test.YtknnncdmpfmgkaaDoorFirstPlain
import Derived.Lib.ConvBytes
import Derived.Laws.OwnMore
namespace Go.Proofs.YtknnncdmpfmgkaaDoor
open Go.RowKit

def nought (k : Nat) : List UInt8 := List.replicate k 0
theorem nought_len (k : Nat) : (nought k).length = k := by simp [nought]
theorem made_nought (k : Nat) : (madeCells (Value.int .u8 0).cells (k * 1)).toList = vbs (nought k) := by
  rw [Nat.mul_one]
  exact ((by simp [nought, vbs, vb] : vbs (nought k) = List.replicate k (.int .u8 0)).trans (toList_madeCells_one _ _).symm).symm

/-- '[]byte(s)': bytes in a block of their own. -/
theorem conv_bytes (w : World) (l : List UInt8) (hl : l.length ≤ 1000000000) : ∃ c w', (convert 9 22 (.string (str l))).run Tryd.prog w = .ok (.slice (some ⟨w.heap.size, 0, none⟩) l.length c) w' ∧ l.length ≤ c ∧ c ≤ 9223372036854775807 ∧
    Bs w' w'.heap.size (some ⟨w.heap.size, 0, none⟩) l.length l ∧ Below w.heap.size w w' := by
  have h := Lib.run_convert_string_bytes (P := Tryd.prog) w 9 22 5 (str l) Tryd.underlying9 Tryd.underlying22 Tryd.underlying5
  rw [str_size] at h
  refine ⟨_, _, h, grownCap_ge _ _ _ _, ?_, ⟨rfl, fun _ => ⟨w.heap.size, 0, rfl, by rw [Lib.bytesWorld_size]; omega, fun j x hx => ?_⟩⟩, ?_⟩
  · have := grownCap_le_maxLen w l.length 0 5 (by unfold maxLen; omega)
    unfold maxLen at this
    omega
  · have hj := (List.getElem?_eq_some_iff.1 hx).1
    rw [Nat.zero_add, Lib.bytesWorld_cell w 5 (str l) j (by rw [str_size]; exact hj)]
    simp [str, vb, List.getD, hx]
  · exact ⟨rfl, rfl, rfl, by rw [Lib.bytesWorld_size]; omega, fun k hk => Lib.bytesWorld_at_old w 5 (str l) k hk⟩

theorem frm_nil : frm [] = nought 5 := by decide +kernel
theorem frs_empties : ∀ (k : Nat), frs (List.replicate k []) = nought (5 * k)
  | 0 => rfl
  | k + 1 => by
    rw [List.replicate_succ, frs_cons, frs_empties k, frm_nil]
    simp only [nought]
    rw [List.replicate_append_replicate]
    congr 1
    omega
theorem join_empties (k : Nat) : join (List.replicate k []) = op4 ++ nought (5 * k) := by unfold join; rw [frs_empties]
theorem join_empties_len (k : Nat) : (join (List.replicate k [])).length = 4 + 5 * k := by rw [join_len, frs_empties, nought_len]
theorem empty_mem {k : Nat} {l : List UInt8} (h : l ∈ List.replicate k ([] : List UInt8)) : l.length = 0 := by rw [(List.mem_replicate.1 h).2]; rfl
theorem over_empties (k : Nat) (hk : k ≤ 5000) : over (List.replicate k []) = decide (4096 < k) := by
  by_cases h : 4096 < k
  · unfold over
    rw [List.length_replicate]
    simp [h]
  · rw [over_false (by rw [List.length_replicate]; omega) (fun l hl => by rw [empty_mem hl]; omega) (by rw [join_empties_len]; omega)]
    simp [h]
theorem split_empties (k : Nat) (hk : k ≤ 4096) : splitL (join (List.replicate k [])) = (List.replicate k [], 4 + 5 * k, 0) := by
  rw [splitL_join (by simp; exact hk) (fun l hl => by rw [empty_mem hl]; omega) (by rw [join_empties_len]; omega), join_empties_len]
theorem split_empties_many (M k : Nat) (hM : M = 4096) (hk : M < k) (hk2 : k ≤ 5000) : splitL (join (List.replicate k [])) = (List.replicate M [], 4 + 5 * M, 5) := by
  rw [splitL_small (by rw [join_empties_len]; omega)]
  have e : join (List.replicate k []) = join (List.replicate M []) ++ frs (List.replicate (k - M) []) := by
    have : List.replicate k ([] : List UInt8) = List.replicate M [] ++ List.replicate (k - M) [] := by
      rw [List.replicate_append_replicate]
      congr 1
      omega
    rw [this]
    simp only [join, frs_append, List.append_assoc]
  have hne : frs (List.replicate (k - M) []) ≠ [] := by
    rw [frs_empties]
    intro e
    have := congrArg List.length e
    rw [nought_len, List.length_nil] at this
    omega
  have hr := runQ_full _ hne
  rw [← hM] at hr
  rw [e, split_front _ _ (by rw [List.length_replicate]; omega) (fun l hl => by rw [empty_mem hl]; omega), List.length_replicate, hr, join_empties_len]
  simp only [List.append_nil, Nat.add_zero]
theorem leb_three {n : Nat} (h1 : 16384 ≤ n) (h2 : n < 2097152) : (leb n).length = 3 := by
  rw [leb_ge (n := n) (by omega), List.length_cons, leb_ge (n := n / 128) (by omega), List.length_cons, leb_lt (n := n / 128 / 128) (by omega)]
  rfl
/-- A body that is too long. -/
theorem split_big (b : List UInt8) (h1 : 20000 < b.length) (h2 : b.length < 1000000) : splitL (join [b]) = ([], 6, 5) := by
  have e : join [b] = op4 ++ (leb b.length ++ (b ++ tl b)) := by simp [join, frs, frm]
  have h3 := leb_three (n := b.length) (by omega) (by omega)
  rw [splitL_small (by rw [e]; simp [tl_len, h3, op4]; omega)]
  unfold splitS
  rw [e, matchS_ok, if_neg (by simp)]
  have e1 : (op4 ++ (leb b.length ++ (b ++ tl b))).drop 4 = leb b.length ++ (b ++ tl b) := rfl
  have ht : takeS (leb b.length ++ (b ++ tl b)) = ([], 2, 5) := by
    unfold takeS
    rw [getS_leb _ _ (by omega), h3]
    simp only
    rw [if_neg (by simp), if_pos h1]
  have hne : leb b.length ++ (b ++ tl b) ≠ [] := by
    intro e
    have := congrArg List.length e
    rw [List.length_append, h3] at this
    simp at this
  rw [e1, runQ_bad (q := 0) (a := 2) (e := 5) hne (by omega) (by rw [ht]) (by omega)]
  rfl
theorem over_big (b : List UInt8) (h1 : 20000 < b.length) : over [b] = true := by unfold over; simp [h1]
theorem join_one (b : List UInt8) (h1 : 16384 ≤ b.length) (h2 : b.length < 2097152) : (join [b]).length = b.length + 11 := by
  rw [join_len, frs_cons, frs_nil, List.append_nil, frm_len, leb_three h1 h2]
  omega
theorem rv_one (w : World) (A : Option Addr) (l : List UInt8) (n c : Nat) (hn : l.length = n) (hc : n ≤ c) (hm : c ≤ 9223372036854775807) (h : Bs w w.heap.size A n l) : Rv (w.alloc (.cells #[.slice A n c] 22)) (some ⟨w.heap.size, 0, none⟩) 1 [l] := by
  subst hn
  refine ⟨rfl, fun i l' hl => ?_⟩
  match i, hl with
  | 0, hl =>
    simp at hl
    subst hl
    exact ⟨w.heap.size, 0, A, c, rfl, by simp, (Boxed.new w 22 _).cell, hc, hm, (h.alloc (Nat.le_refl _) _).more (by simp)⟩
theorem sv_one (w : World) (l : List UInt8) : Sv (w.alloc (.cells #[.string (str l)] 9)) (some ⟨w.heap.size, 0, none⟩) 1 [l] := by
  refine ⟨rfl, fun i l' hl => ?_⟩
  match i, hl with
  | 0, hl =>
    simp at hl
    subst hl
    exact ⟨w.heap.size, 0, rfl, by simp, (Boxed.new w 9 _).cell⟩
theorem i64_and7 (n : Int) : bits .and .i64 n 7 = n % 8 := by
  have h1 : (BitVec.ofInt 64 7).toNat = 2 ^ 3 - 1 := by decide
  have key : (BitVec.ofInt 64 n &&& BitVec.ofInt 64 7).toNat = (n % ((2 ^ 64 : Nat) : Int)).toNat % 2 ^ 3 := by
    rw [BitVec.toNat_and, BitVec.toNat_ofInt, h1, Nat.and_two_pow_sub_one_eq_mod]
  show IntKind.i64.wrap ((BitVec.ofInt 64 n &&& BitVec.ofInt 64 7).toNat : Nat) = n % 8
  rw [key, IntKind.wrap_i64]
  omega
end Go.Proofs.YtknnncdmpfmgkaaDoor
