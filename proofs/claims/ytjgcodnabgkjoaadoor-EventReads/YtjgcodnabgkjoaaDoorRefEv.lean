/-
  What the document's own Shape, split, most and bounded (transeptref05) answer; nothing that was there turns. Condition: shapes of at most a thousand bytes, texts of at most a million.
-/
import Derived.Test.YtjgcodnabgkjoaaDoorYld
import Derived.Test.YtjgcodnabgkjoaaDoorRefText
namespace Go.Proofs.YtjgcodnabgkjoaaDoor
open Go.RowKit

def shapeS : Nat → List UInt8
  | 1 => [116]
  | 2 => [116]
  | 3 => [116, 116, 116, 116, 52, 51, 51]
  | 4 => [116, 116]
  | 5 => []
  | 6 => [116, 116]
  | 7 => [115]
  | 8 => []
  | 9 => [116, 116]
  | 10 => [115]
  | 11 => [116]
  | 12 => [116]
  | 13 => []
  | 14 => [52]
  | _ => [45]
def shapeI (K : Int) : List UInt8 := if 1 ≤ K ∧ K ≤ 14 then shapeS K.toNat else [45]
theorem shapeI_nat {k : Nat} (h1 : 1 ≤ k) (h2 : k ≤ 14) : shapeI (k : Int) = shapeS k := by
  rw [shapeI, if_pos (by omega)]
  rfl

set_option maxHeartbeats 1000000 in
theorem shape_in (k : Nat) (h1 : 1 ≤ k) (h2 : k ≤ 14) (w : World) : Calls Tryd.prog 26 #[.int .i64 (k : Int)] w fun r w' => r = .returned (.string (str (shapeS k))) ∧ w = w' := by
  match k, h1, h2 with
  | 1, _, _ | 2, _, _ | 3, _, _ | 4, _, _ | 5, _, _ | 6, _, _ | 7, _, _ | 8, _, _ | 9, _, _ | 10, _, _ | 11, _, _ | 12, _, _ | 13, _, _ | 14, _, _ =>
    go_enter Tryd.func26, Tryd.ntmps26
    go_wp2_with fail
    go_ret
    exact ⟨rfl, rfl⟩

set_option maxHeartbeats 1000000 in
theorem shape_out (K : Int) (h : ¬ (1 ≤ K ∧ K ≤ 14)) (w : World) : Calls Tryd.prog 26 #[.int .i64 K] w fun r w' => r = .returned (.string (str [45])) ∧ w = w' := by
  have n1 : (K == 1) = false := by simp; omega
  have n2 : (K == 2) = false := by simp; omega
  have n3 : (K == 3) = false := by simp; omega
  have n4 : (K == 4) = false := by simp; omega
  have n5 : (K == 5) = false := by simp; omega
  have n6 : (K == 6) = false := by simp; omega
  have n7 : (K == 7) = false := by simp; omega
  have n8 : (K == 8) = false := by simp; omega
  have n9 : (K == 9) = false := by simp; omega
  have n10 : (K == 10) = false := by simp; omega
  have n11 : (K == 11) = false := by simp; omega
  have n12 : (K == 12) = false := by simp; omega
  have n13 : (K == 13) = false := by simp; omega
  have n14 : (K == 14) = false := by simp; omega
  go_enter Tryd.func26, Tryd.ntmps26
  go_wp2_with fail
  go_ret
  exact ⟨rfl, rfl⟩

set_option maxHeartbeats 2000000 in
set_option maxRecDepth 100000 in
theorem split_any (s : List UInt8) (t : Nat) (r : List UInt8) (hs : s = List.replicate t 116 ++ r) (hr : r = [] ∨ (r.getD 0 0).toNat ≠ 116) (hl : s.length ≤ 1000) (w : World) :
    Calls Tryd.prog 27 #[.string (str s)] w fun e w' => e = .returned (.tuple #[.int .i64 (t : Int), .string (str r)]) ∧ Below w.heap.size w w' := by
  have hsz := str_size s
  have hlen : s.length = t + r.length := by rw [hs]; simp
  obtain ⟨S, hS⟩ : ∃ S, s.length = S := ⟨_, rfl⟩
  have hex : (str s).extract t S = str r := by
    have h1 := str_cut s t (S - t)
    rw [show t + (S - t) = S by omega] at h1
    rw [h1, hs]
    congr 1
    rw [List.drop_append_of_le_length (by simp), List.drop_of_length_le (by simp), List.nil_append, List.take_of_length_le (by omega)]
  have hin : ∀ j, j < t → (s.getD j 0).toNat = 116 := fun j hj => by
    rw [hs, List.getD_eq_getElem?_getD, List.getElem?_append_left (by simpa using hj), List.getElem?_replicate_of_lt hj]
    rfl
  have hout : t < S → (s.getD t 0).toNat ≠ 116 := fun hlt => by
    rcases hr with h0 | h0
    · rw [h0] at hlen
      simp at hlen
      omega
    · rw [hs, List.getD_eq_getElem?_getD, List.getElem?_append_right (by simp)]
      simpa [List.getD_eq_getElem?_getD] using h0
  rw [hS] at hsz hlen hl
  have HX := Lib.hid (And.intro hex (And.intro hin (And.intro hout (And.intro hS hlen))))
  have htS : t ≤ S := by omega
  have htS' : (t : Int) ≤ (S : Int) := by omega
  clear hex hin hout hS hlen hs hr
  have hgetb : ∀ j, j < S → ∀ h, ((str s)[j]'h).toNat = (s.getD j 0).toNat := fun j hj h => by
    have hj' : j < s.length := by rw [HX.out.2.2.2.1]; exact hj
    simp [str, List.getD, List.getElem?_eq_getElem hj', ByteArray.getElem_eq_getElem_data]
  have HGB := Lib.hid hgetb
  clear hgetb
  go_enter Tryd.func27, Tryd.ntmps27
  go_wp2_with fail
  go_loop [4] (fun i => ∃ j : Nat, j ≤ t ∧ i = .int .i64 (j : Int)) (fun i => t - (intOf i).toNat)
  case atStart => exact ⟨0, by omega, rfl⟩
  case round =>
    obtain ⟨j, hj, rfl⟩ := hrel
    by_cases hlt : j < t
    · have hget : ∀ h, ((str s)[j]'h).toNat = 116 := fun h => by rw [HGB.out j (by omega) h]; exact HX.out.2.1 j hlt
      have hjS : (j : Int) < (S : Int) := by omega
      go_wp2_with fail
      go_round
      case rel => exact ⟨j + 1, by omega, by go_num⟩
      case measure => simp [intOf]; omega
    · obtain rfl : j = t := by omega
      by_cases hS : j < S
      · obtain ⟨mb, hmb⟩ : ∃ mb, mb = (s.getD j 0).toNat := ⟨_, rfl⟩
        have hget : ∀ h, ((str s)[j]'h).toNat = mb := fun h => by rw [hmb]; exact HGB.out j hS h
        have hne : ((mb : Int) == 116) = false := by
          have := HX.out.2.2.1 hS
          rw [← hmb] at this
          simp
          omega
        have hjS : (j : Int) < (S : Int) := by omega
        have hex := HX.out.1
        clear hmb
        go_wp2_with fail
        go_quiet (fail)
        go_wp2_with fail
        go_ret2
        exact ⟨rfl, below_drewN _ _ _⟩
      · obtain rfl : j = S := by omega
        have h0 : str r = ByteArray.empty := by
          have h1 := HX.out.2.2.2.2
          rw [List.length_eq_zero_iff.1 (show r.length = 0 by omega)]
          rfl
        have HE := Lib.hid h0
        clear h0
        go_wp2_with fail
        go_quiet (fail)
        go_wp2_with fail
        go_ret2
        exact ⟨by rw [HE.out]; rfl, below_drewN _ _ _⟩

def moN (c : Nat) : Nat := if c = 115 then 999 else c - 49
theorem most_any (c : Nat) (h1 : 49 ≤ c) (h2 : c < 256) (w : World) : Calls Tryd.prog 28 #[.int .u8 (c : Int)] w fun e w' => e = .returned (.int .i64 (moN c : Int)) ∧ w = w' := by
  by_cases h : c = 115
  · subst h
    go_enter Tryd.func28, Tryd.ntmps28
    go_wp2_with fail
    go_ret
    exact ⟨rfl, rfl⟩
  · have hne : ((c : Int) == 115) = false := by simp; omega
    have hw : IntKind.u8.wrap ((c : Int) - 48) = (c : Int) - 48 := by rw [IntKind.wrap_u8]; omega
    obtain ⟨m, hm⟩ : ∃ m, m = moN c := ⟨_, rfl⟩
    have hmv : (c : Int) - 48 - 1 = (m : Int) := by rw [hm, moN, if_neg h]; omega
    rw [← hm]
    clear hm h
    go_enter Tryd.func28, Tryd.ntmps28
    go_wp2_with fail
    go_ret
    exact ⟨rfl, rfl⟩

set_option maxHeartbeats 1000000 in
theorem bounded_any (l : List UInt8) (a g : Nat) (ha : a ≤ l.length) (_hl : l.length ≤ 1000000) (_hg : g ≤ 1000) (w : World) :
    Calls Tryd.prog 37 #[.string (str l), .int .i64 (a : Int), .int .i64 (g : Int)] w fun e w' => e = .returned (.tuple #[.int .i64 (tkV l a 0 0 g : Int), .int .i64 (ckE l a 0 0 g : Int)]) ∧ w = w' := by
  have hsz := str_size l
  by_cases hs : a = l.length
  · have hE : ckE l a 0 0 g = 2 := by rw [ckE, if_neg (by simp), if_pos hs]
    have hV : tkV l a 0 0 g = 0 := by rw [tkV, hE, if_neg (by decide)]
    rw [hE, hV]
    have hle : (l.length : Int) ≤ (a : Int) := by omega
    clear hE hV
    go_enter Tryd.func37, Tryd.ntmps37
    go_wp2_with fail
    go_ret2
    exact ⟨rfl, rfl⟩
  · have hlt : a < l.length := by omega
    obtain ⟨mb, hmb⟩ : ∃ mb, mb = (l.getD a 0).toNat := ⟨_, rfl⟩
    have hget : ∀ h, ((str l)[a]'h).toNat = mb := fun h => by
      rw [hmb]
      simp [str, List.getD, List.getElem?_eq_getElem hlt, ByteArray.getElem_eq_getElem_data]
    have hm8 : mb < 256 := by rw [hmb]; exact UInt8.toNat_lt _
    have hE : ckE l a 0 0 g = if g < mb then 3 else 0 := by
      rw [ckE, if_neg (by simp), if_neg hs, ← hmb]
      simp
    have hlt' : (a : Int) < (l.length : Int) := by omega
    by_cases hgm : g < mb
    · have hE2 : ckE l a 0 0 g = 3 := by rw [hE, if_pos hgm]
      have hV : tkV l a 0 0 g = 0 := by rw [tkV, hE2, if_neg (by decide)]
      rw [hE2, hV]
      clear hE hE2 hV hmb
      go_enter Tryd.func37, Tryd.ntmps37
      go_wp2_with fail
      go_ret2
      exact ⟨rfl, rfl⟩
    · have hE2 : ckE l a 0 0 g = 0 := by rw [hE, if_neg hgm]
      have hV : tkV l a 0 0 g = mb := by rw [tkV, hE2, if_pos rfl, hmb]
      rw [hE2, hV]
      clear hE hE2 hV hmb
      go_enter Tryd.func37, Tryd.ntmps37
      go_wp2_with fail
      go_ret2
      exact ⟨rfl, rfl⟩
end Go.Proofs.YtjgcodnabgkjoaaDoor
