/-
  What the document's own reading of numbers and texts (transeptref01.Get, Text) answers; what was there stays. Condition: texts of at most 1000000 bytes.
-/
import Derived.Test.YtjgcodnabgkjoaaDoorRefBegins
namespace Go.Proofs.YtjgcodnabgkjoaaDoor
open Go.RowKit

theorem getD_take {l : List UInt8} {j k : Nat} (h : j < k) : (l.take k).getD j 0 = l.getD j 0 := by
  simp [List.getD, h]
theorem beg_step (l : List UInt8) (k : Nat) (hk : k ≤ 9) (hl : k < l.length) (h : ∀ j, j < k → 128 ≤ (l.getD j 0).toNat ∧ wrongB (l.getD j 0).toNat j = false) :
    begB (l.take (k + 1)) = !wrongB (l.getD k 0).toNat k := by
  have hlen : (l.take (k + 1)).length = k + 1 := by rw [List.length_take]; omega
  cases hw : wrongB (l.getD k 0).toNat k with
  | true =>
    refine begB_false (j := k) (by omega) ?_
    unfold badAt
    rw [getD_take (by omega), hw]
    simp
  | false =>
    refine begB_true fun j hj => ?_
    rw [hlen] at hj
    unfold badAt
    rw [getD_take hj, hlen]
    rcases Nat.lt_or_ge j k with h1 | h1
    · obtain ⟨h2, h3⟩ := h j h1
      rw [h3]
      simp only [Bool.or_false, Bool.or_eq_false_iff, Bool.and_eq_false_iff, decide_eq_false_iff_not]
      omega
    · obtain rfl : j = k := by omega
      rw [hw]
      simp
      omega
theorem str_take (l : List UInt8) (k : Nat) : (str l).extract 0 k = str (l.take k) := by
  apply ByteArray.ext
  apply Array.ext'
  simp [str]
theorem drop_cons (l : List UInt8) (k : Nat) (h : k < l.length) : l.drop k = l.getD k 0 :: l.drop (k + 1) := by
  rw [List.drop_eq_getElem_cons h]
  simp [List.getD, List.getElem?_eq_getElem h]

theorem acc_wraps (acc m k tm : Nat) (hk : k ≤ 9) (ht : tm = 128 ^ k) (ha : acc < 128 ^ k) (hw : wrongB m k = false) :
    IntKind.u64.wrap ((acc : Int) + IntKind.u64.wrap ((m : Int) % 128 * (tm : Int))) = ((acc + m % 128 * 128 ^ k : Nat) : Int) := by
  have h1 := add_small m k hk hw
  have h2 := acc_small acc m k hk ha hw
  have e : (m : Int) % 128 * (tm : Int) = ((m % 128 * 128 ^ k : Nat) : Int) := by rw [ht]; push_cast; rfl
  rw [e, IntKind.wrap_u64, IntKind.wrap_u64]
  omega
theorem tm_wraps (k tm : Nat) (hk : k ≤ 8) (ht : tm = 128 ^ k) : IntKind.u64.wrap ((tm : Int) * 128) = ((128 ^ (k + 1) : Nat) : Int) := by
  have h1 : (128 : Nat) ^ k ≤ 128 ^ 8 := Nat.pow_le_pow_right (by omega) hk
  rw [IntKind.wrap_u64, Nat.pow_succ]
  omega

set_option maxHeartbeats 1000000 in
set_option maxRecDepth 100000 in
theorem refGet_any (l : List UInt8) (w : World) (hl : l.length ≤ 1000000) :
    Calls Tryd.prog 35 #[.string (str l)] w fun e w' => e = .returned (got (getS l)) ∧ w = w' := by
  have hs := str_size l
  go_enter Tryd.func35, Tryd.ntmps35
  go_wp2_with fail
  go_loop [5, 6, 7] (fun n t i => ∃ k acc tm : Nat, k ≤ 9 ∧ k ≤ l.length ∧ i = .int .i64 k ∧ n = .int .u64 acc ∧ t = .int .u64 tm ∧
      Hid (tm = 128 ^ k ∧ acc < 128 ^ k ∧ getF (l.drop k) k acc = getS l ∧ ∀ j, j < k → 128 ≤ (l.getD j 0).toNat ∧ wrongB (l.getD j 0).toNat j = false)) (fun _ _ i => l.length - (intOf i).toNat)
  case atStart => exact ⟨0, 0, 1, by omega, by omega, rfl, rfl, rfl, rfl, by decide, rfl, fun j h => absurd h (by omega)⟩
  case round =>
    obtain ⟨k, acc, tm, hk9, hk, rfl, rfl, rfl, HI⟩ := hrel
    by_cases hlt : k < l.length
    · obtain ⟨m, hm⟩ : ∃ m, m = (l.getD k 0).toNat := ⟨_, rfl⟩
      have hget : ∀ h, ((str l)[k]'h).toNat = m := fun h => by
        rw [hm]
        simp [str, List.getD, List.getElem?_eq_getElem hlt, ByteArray.getElem_eq_getElem_data]
      have hbeg := beg_step l k hk9 hlt HI.out.2.2.2
      have hm8 : m < 256 := by rw [hm]; exact UInt8.toNat_lt _
      rw [← hm] at hbeg
      have HM := Lib.hid hm
      have HB := Lib.hid hbeg
      have hex := str_take l (k + 1)
      clear hm hbeg
      go_wp2_with fail
      refine (begins_any (l.take (k + 1)) w (by rw [List.length_take]; omega)).mono ?_
      rintro e w1 ⟨rfl, rfl⟩
      rw [HB.out]
      cases hw : wrongB m k with
      | true =>
        go_wp2_with fail
        go_ret3
        refine ⟨?_, rfl⟩
        rw [← HI.out.2.2.1, drop_cons l k hlt, getF, ← HM.out, if_pos hw]
        rfl
      | false =>
        have HW := Lib.hid hw
        clear hw
        have HA := Lib.hid (acc_wraps acc m k tm hk9 HI.out.1 HI.out.2.1 HW.out)
        have HN : Hid (getF (l.drop k) k acc = if m < 128 then (acc + m % 128 * 128 ^ k, k + 1, 0) else getF (l.drop (k + 1)) (k + 1) (acc + m % 128 * 128 ^ k)) := by
          show getF (l.drop k) k acc = _
          rw [drop_cons l k hlt, getF, ← HM.out, if_neg (by rw [HW.out]; simp)]
        by_cases hb : m < 128
        · go_wp2_with fail
          go_ret3
          refine ⟨?_, rfl⟩
          rw [← HI.out.2.2.1, HN.out, if_pos hb]
          exact congrArg Ending.returned (by simp only [got]; rw [← HA.out]; rfl)
        · go_wp2_with fail
          go_round
          case rel =>
            have h8 := more_place m k hk9 (by omega) HW.out
            refine ⟨k + 1, acc + m % 128 * 128 ^ k, 128 ^ (k + 1), by omega, by omega, by go_num, by rw [HA.out], by rw [tm_wraps k tm h8 HI.out.1], rfl, acc_next acc m k HI.out.2.1, ?_, fun j hj => ?_⟩
            · rw [← HI.out.2.2.1, HN.out, if_neg hb]
            · rcases Nat.lt_or_ge j k with h1 | h1
              · exact HI.out.2.2.2 j h1
              · obtain rfl : j = k := by omega
                rw [← HM.out]
                exact ⟨by omega, HW.out⟩
          case measure => simp [intOf]; omega
    · go_wp2_with fail
      go_ret3
      refine ⟨?_, rfl⟩
      rw [← HI.out.2.2.1, List.drop_of_length_le (by omega), getF]
      obtain rfl : k = l.length := by omega
      rfl
end Go.Proofs.YtjgcodnabgkjoaaDoor
