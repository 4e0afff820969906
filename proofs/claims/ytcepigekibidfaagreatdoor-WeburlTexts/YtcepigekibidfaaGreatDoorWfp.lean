/-
  What transeptref08.Find and transeptlaw08.plain answer; nothing that was there turns. Condition: a text (what may be besides) of at most 1000000000 bytes.
-/
import Derived.Test.YtcepigekibidfaaGreatDoorGa
import Derived.Test.YtcepigekibidfaaGreatDoorGn
namespace Go.Proofs.YtcepigekibidfaaGreatDoor
open Go.RowKit

theorem bef_hit (c : UInt8) : ∀ (l : List UInt8) (k : Nat), (bef c l).length = k → k < l.length → l.getD k 0 = c
  | [], k, _, h => absurd h (Nat.not_lt_zero _)
  | a :: r, k, e, h => by
    rw [bef] at e
    split at e
    · rename_i ha
      simp at e
      subst e
      simpa using ha
    · obtain ⟨j, rfl⟩ : ∃ j, k = j + 1 := ⟨(bef c r).length, by simpa using e.symm⟩
      rw [List.getD_cons_succ]
      exact bef_hit c r j (by simpa using e) (by simpa using h)
theorem bef_miss (c : UInt8) : ∀ (l : List UInt8) (k : Nat), k < (bef c l).length → l.getD k 0 ≠ c
  | [], k, h => by simp [bef] at h
  | a :: r, k, h => by
    rw [bef] at h
    split at h
    · simp at h
    · rename_i ha
      match k, h with
      | 0, _ => simpa using ha
      | j + 1, h =>
        rw [List.getD_cons_succ]
        exact bef_miss c r j (by simpa using h)
theorem bef_in (c : UInt8) : ∀ l : List UInt8, (bef c l).length < l.length ↔ c ∈ l
  | [] => by simp [bef]
  | a :: r => by
    rw [bef]
    split
    · rename_i ha
      simp [ha]
    · rename_i ha
      have := bef_in c r
      have hne : c ≠ a := fun e => ha e.symm
      simp [hne, this]
set_option maxHeartbeats 1000000 in
theorem rfind_any (l : List UInt8) (c : UInt8) (w : World) (hl : l.length ≤ 1000000000) : Calls Tryz.prog 26 #[.string (str l), vb c] w fun e w' => e = .returned (.int .i64 ((bef c l).length : Int)) ∧ w' = w := by
  have hsz := str_size l
  have hgb := fun k hk h => str_at l k hk h
  have h1 : Hid (∀ k, (bef c l).length = k → k < l.length → (l.getD k 0).toNat = c.toNat) := fun k h hk => by rw [bef_hit c l k h hk]
  have h2 : Hid (∀ k, k < (bef c l).length → ((l.getD k 0).toNat : Int) ≠ (c.toNat : Int)) := fun k h e => bef_miss c l k h (UInt8.toNat.inj (by omega))
  have hBS := bef_len c l
  unfold vb
  obtain ⟨B, hB⟩ : ∃ B, B = (bef c l).length := ⟨_, rfl⟩
  obtain ⟨S, hS⟩ : ∃ S, S = l.length := ⟨_, rfl⟩
  obtain ⟨m, hm⟩ : ∃ m, m = c.toNat := ⟨_, rfl⟩
  rw [← hB] at h1 h2 hBS ⊢
  rw [← hS] at hgb h1 hBS hsz hl
  rw [← hm] at h1 h2 ⊢
  have HGB := Lib.hid hgb
  clear hgb
  clear hB hS hm
  go_enter Tryz.func26, Tryz.ntmps26
  go_wp2_with fail
  go_loop [5] (fun i => ∃ k : Nat, k ≤ B ∧ i = .int .i64 (k : Int)) (fun i => B - (intOf i).toNat)
  case atStart => exact ⟨0, by omega, rfl⟩
  case round =>
    obtain ⟨k, hk, rfl⟩ := hrel
    by_cases hlt : k < B
    · have hkS : (k : Int) < (S : Int) := by omega
      have HG := HGB.out k (by omega)
      have hne := h2.out k hlt
      obtain ⟨b, hb⟩ : ∃ b, b = (l.getD k 0).toNat := ⟨_, rfl⟩
      rw [← hb] at HG hne
      clear hb
      have hc : ((b : Int) == (m : Int)) = false := by simpa using hne
      have hlt1 : Hid (k + 1 ≤ B) := hlt
      go_wp2_with fail
      go_round
      case rel => exact ⟨k + 1, hlt1.out, by go_num⟩
      case measure => have := hlt1.out; simp [intOf]; omega
    · obtain rfl : k = B := by omega
      by_cases hkl : k < S
      · have hkS : (k : Int) < (S : Int) := by omega
        have HG := HGB.out k hkl
        have he := h1.out k rfl hkl
        obtain ⟨b, hb⟩ : ∃ b, b = (l.getD k 0).toNat := ⟨_, rfl⟩
        rw [← hb] at HG he
        have hc : ((b : Int) == (m : Int)) = true := by simp [he]
        clear he hb
        go_wp2_with fail
        go_ret
        exact ⟨rfl, rfl⟩
      · have hkS : ¬ (k : Int) < (S : Int) := by omega
        obtain rfl : S = k := by omega
        go_wp2_with fail
        go_ret
        exact ⟨rfl, rfl⟩
theorem run_oneb (w : World) (m : Nat) (c : UInt8) (h : m = c.toNat) : (convert 36 9 (.slice (some ⟨w.heap.size, 0, none⟩) 1 1)).run Tryz.prog (w.alloc (.cells #[.int .u8 (m : Int)] 5)) = .ok (.string (str [c])) (w.alloc (.cells #[.int .u8 (m : Int)] 5)) := run_str _ _ _ 1 1 [c] (Bs.one' w _ c (by rw [h]))
end Go.Proofs.YtcepigekibidfaaGreatDoor
