/-
  What the document's own answers of layer 2 (transeptref02.turned, More, Sum) answer: the same sums; nothing in memory turns. Condition: texts of at most 1000000 bytes.
-/
import Derived.Test.YtknnncdmpfmgkaaDoorCrc
namespace Go.Proofs.YtknnncdmpfmgkaaDoor
open Go.RowKit

set_option maxHeartbeats 1000000 in
theorem turned_any (x : Nat) (w : World) (hx : x < 4294967296) : Calls Tryd.prog 45 #[.int .u32 x] w fun e w' => e = .returned (.int .u32 (rev x : Int)) ∧ w' = w := by
  go_enter Tryd.func45, Tryd.ntmps45
  go_wp2_with fail
  go_loop [0, 3, 4] (fun a o i => ∃ k y z : Nat, k ≤ 32 ∧ y < 4294967296 ∧ a = .int .u32 y ∧ o = .int .u32 z ∧ i = .int .i64 k ∧ Hid (z < 2 ^ k ∧ rv (32 - k) z y = rev x)) (fun _ _ i => 32 - (intOf i).toNat)
  case atStart => exact ⟨0, x, 0, by omega, hx, rfl, rfl, rfl, by decide, rfl⟩
  case round =>
    obtain ⟨k, y, z, hk, hy, rfl, rfl, rfl, HR⟩ := hrel
    by_cases hlt : k < 32
    · have hz : z < 2147483648 := Nat.lt_of_lt_of_le HR.out.1 (by have := Nat.pow_le_pow_right (n := 2) (by decide) (show k ≤ 31 by omega); exact this)
      have HS : Hid (z * 2 + y % 2 < 2 ^ (k + 1) ∧ rv (32 - (k + 1)) (z * 2 + y % 2) (y / 2) = rev x) := by
        refine ⟨by have := HR.out.1; rw [Nat.pow_succ]; omega, ?_⟩
        rw [← HR.out.2, show 32 - k = 32 - (k + 1) + 1 by omega]
        rfl
      go_wp2_with fail
      go_round
      case rel => exact ⟨k + 1, y / 2, z * 2 + y % 2, by omega, by omega, by go_num, by go_num, by go_num, HS⟩
      case measure => simp [intOf]; omega
    · have hk2 : k = 32 := by omega
      have HE : Hid (z = rev x) := by
        show z = rev x
        rw [← HR.out.2, hk2]
        rfl
      go_wp2_with fail
      go_ret
      exact ⟨ret_u32 HE.out, rfl⟩

set_option maxHeartbeats 1000000 in
theorem refMore_any (s : Nat) (l : List UInt8) (w : World) (hs : s < 4294967296) (hl : l.length ≤ 1000000) :
    Calls Tryd.prog 37 #[.int .u32 s, .string (str l)] w fun e w' => e = .returned (.int .u32 (more s l : Int)) ∧ w' = w := by
  have hsz := str_size l
  have HM : Hid (4294967295 - rev (refRun (rev (4294967295 - s)) l) = more s l) := ref_more s l hs
  obtain ⟨a, ha⟩ : ∃ a, a = 4294967295 - s := ⟨_, rfl⟩
  rw [← ha] at HM
  have e0 : (4294967295 : Int) - (s : Int) = (a : Int) := by omega
  have ha2 : a < 4294967296 := by omega
  clear ha
  have hr0 := rev_lt a
  go_enter Tryd.func37, Tryd.ntmps37
  go_wp2_with fail
  refine (turned_any a w ha2).mono ?_
  rintro e w1 ⟨rfl, rfl⟩
  generalize rev a = r0 at HM hr0
  go_wp2_with fail
  go_loop [5, 6] (fun r i => ∃ k x : Nat, k ≤ l.length ∧ x < 4294967296 ∧ r = .int .u32 x ∧ i = .int .i64 k ∧ Hid (refRun x (l.drop k) = refRun r0 l)) (fun _ i => l.length - (intOf i).toNat)
  case atStart => exact ⟨0, r0, by omega, hr0, rfl, rfl, rfl⟩
  case round =>
    obtain ⟨k, x, hk, hx, rfl, rfl, HR⟩ := hrel
    by_cases hlt : k < l.length
    · obtain ⟨m, hm⟩ : ∃ m, m = (l.getD k 0).toNat := ⟨_, rfl⟩
      have hget : ∀ h, ((str l)[k]'h).toNat = m := fun h => by
        rw [hm]
        simp [str, List.getD, List.getElem?_eq_getElem hlt, ByteArray.getElem_eq_getElem_data]
      have hm8 : m < 256 := by rw [hm]; exact UInt8.toNat_lt _
      have HS : Hid (refRun (refBits 8 x m) (l.drop (k + 1)) = refRun r0 l) := by
        show refRun (refBits 8 x m) (l.drop (k + 1)) = refRun r0 l
        rw [← HR.out, List.drop_eq_getElem_cons hlt, hm, show l.getD k 0 = l[k] by simp [List.getD, List.getElem?_eq_getElem hlt]]
        rfl
      clear hm
      go_wp2_with fail
      go_loop [5, 7, 8] (fun r b i => ∃ j y q : Nat, j ≤ 8 ∧ y < 4294967296 ∧ q < 256 ∧ r = .int .u32 y ∧ b = .int .u8 q ∧ i = .int .i64 j ∧ Hid (refBits (8 - j) y q = refBits 8 x m)) (fun _ _ i => 8 - (intOf i).toNat)
      case atStart => exact ⟨0, x, m, by omega, hx, hm8, rfl, rfl, rfl, rfl⟩
      case round =>
        obtain ⟨j, y, q, hj, hy, hq, rfl, rfl, rfl, HQ⟩ := hrel
        by_cases hjt : j < 8
        · have HT : Hid (refBits (8 - (j + 1)) (refStep y (q % 2)) (q / 2) = refBits 8 x m) := by
            show refBits (8 - (j + 1)) (refStep y (q % 2)) (q / 2) = refBits 8 x m
            rw [← HQ.out, show 8 - j = 8 - (j + 1) + 1 by omega]
            rfl
          by_cases hb : y / 2147483648 = q % 2
          · have HU : Hid (refStep y (q % 2) = y * 2 % 4294967296) := by show refStep y (q % 2) = _; unfold refStep; rw [if_pos hb]
            have tb : ((y : Int) / 2147483648 != (q : Int) % 2) = false := by rw [bne_eq_false_iff_eq]; omega
            go_wp2_with fail
            refine ⟨⟨j + 1, refStep y (q % 2), q / 2, by omega, refStep_lt _ _, by omega, ?_, by go_num, by go_num, HT⟩, by simp [intOf]; omega⟩
            rw [HU.out]
            go_num
          · have HU : Hid (refStep y (q % 2) = y * 2 % 4294967296 ^^^ 79764919) := by show refStep y (q % 2) = _; unfold refStep; rw [if_neg hb]
            have tb : ((y : Int) / 2147483648 != (q : Int) % 2) = true := by rw [bne_iff_ne]; omega
            have e1 := u32_xor_nat (y * 2 % 4294967296) 79764919 (by omega) (by omega)
            rw [← HU.out] at e1
            have e2 : ((y * 2 % 4294967296 : Nat) : Int) = (y : Int) * 2 % 4294967296 := by omega
            rw [e2] at e1
            rw [show ((79764919 : Nat) : Int) = 79764919 from rfl] at e1
            clear e2
            go_wp2_with fail
            exact ⟨⟨j + 1, refStep y (q % 2), q / 2, by omega, refStep_lt _ _, by omega, rfl, by go_num, by go_num, HT⟩, by simp [intOf]; omega⟩
        · have hj8 : j = 8 := by omega
          have HE : Hid (y = refBits 8 x m) := by
            show y = refBits 8 x m
            rw [← HQ.out, hj8]
            rfl
          go_wp2_with fail
          go_round
          case rel => exact ⟨k + 1, y, by omega, hy, rfl, by go_num, by show refRun y _ = _; rw [HE.out]; exact HS.out⟩
          case measure => simp [intOf]; omega
    · have hkn : k = l.length := by omega
      have HE : Hid (x = refRun r0 l) := by
        show x = refRun r0 l
        rw [← HR.out, List.drop_eq_nil_of_le (by omega)]
        rfl
      have hv := rev_lt x
      have HF : Hid (4294967295 - rev x = more s l) := by show 4294967295 - rev x = more s l; rw [HE.out]; exact HM.out
      go_wp2_with fail
      refine (turned_any x w1 hx).mono ?_
      rintro e w2 ⟨rfl, rfl⟩
      generalize rev x = v at hv HF
      obtain ⟨t, ht⟩ : ∃ t, t = more s l := ⟨_, rfl⟩
      have e3 : (4294967295 : Int) - (v : Int) = (t : Int) := by rw [ht, ← HF.out]; omega
      go_wp2_with fail
      go_ret
      exact ⟨rfl, rfl⟩

theorem refSum_any (l : List UInt8) (w : World) (hl : l.length ≤ 1000000) :
    Calls Tryd.prog 29 #[.string (str l)] w fun e w' => e = .returned (.int .u32 (more 0 l : Int)) ∧ w' = w := by
  go_enter Tryd.func29, Tryd.ntmps29
  go_wp2_with fail
  refine (refMore_any 0 l w (by omega) hl).mono ?_
  rintro e w1 ⟨rfl, rfl⟩
  go_wp2_with fail
  go_ret
  exact ⟨rfl, rfl⟩
end Go.Proofs.YtknnncdmpfmgkaaDoor
