/-
  What transeptref07.hexa answers; nothing that was there turns. Condition: a number below 65536.
-/
import Derived.Test.YtcfgcakmffkpmaaDoorBas
import Derived.Test.YtcfgcakmffkpmaaDoorSixm
namespace Go.Proofs.YtcfgcakmffkpmaaDoor
open Go.RowKit

theorem hx_let : ∀ d, d < 16 → ¬ d < 10 → UInt8.ofNat (87 + d) = hx d := by decide
set_option maxHeartbeats 4000000 in
theorem hexa_any : ∀ (n : Nat) (w : World), n < 65536 → Calls Tryd.prog 30 #[.int .i64 (n : Int)] w fun e w' => e = .returned (.string (str (hexL n))) ∧ Below w.heap.size w w' := by
  intro n
  induction n using Nat.strongRecOn with
  | _ n ih =>
    intro w hn
    by_cases h : n < 16
    · have hge : ¬ (16 : Int) ≤ (n : Int) := by omega
      by_cases h10 : n < 10
      · have hlt : (n : Int) < 10 := by omega
        have hR : Hid (hexL n = [UInt8.ofNat (48 + n)]) := by show _ = _; rw [hexL_lt h, hx_dec n h10]
        obtain ⟨m, hm⟩ : ∃ m, m = 48 + n := ⟨_, rfl⟩
        have hmi : (48 : Int) + (n : Int) = (m : Int) := by omega
        have hwr : IntKind.u8.wrap (m : Int) = (m : Int) := by rw [IntKind.wrap_u8]; omega
        have hmc : Hid (m = (UInt8.ofNat m).toNat) := by show _ = _; rw [toNat_ofNat_lt m (by omega)]
        rw [← hm] at hR
        clear hm ih
        go_enter Tryd.func30, Tryd.ntmps30
        go_wp2_with (first
          | ((with_reducible show wpList _ _ _ (⟨some 18, .convert _ _ _, _, _, _, _⟩ :: _) _ _); refine wp_str _ rfl (.tmp 17) rfl _ _ 1 1 [UInt8.ofNat m] rfl (bs_of _ _ _ hmc.out) ?_; simp only [Act.put, List.setIfInBounds_toArray, List.set_cons_zero, List.set_cons_succ]))
        go_ret
        rw [hR.out]
        exact ⟨rfl, (Below.refl _ _).alloc (Nat.le_refl _) _⟩
      · have hlt : ¬ (n : Int) < 10 := by omega
        have hR : Hid (hexL n = [UInt8.ofNat (87 + n)]) := by show _ = _; rw [hexL_lt h, hx_let n h h10]
        obtain ⟨m, hm⟩ : ∃ m, m = 87 + n := ⟨_, rfl⟩
        obtain ⟨m2, hm2⟩ : ∃ m, m = 97 + n := ⟨_, rfl⟩
        have hmi2 : (97 : Int) + (n : Int) = (m2 : Int) := by omega
        have hmi : (m2 : Int) - 10 = (m : Int) := by omega
        have hm29 : m2 < 256 := by omega
        have hwr : IntKind.u8.wrap (m : Int) = (m : Int) := by rw [IntKind.wrap_u8]; omega
        have hmc : Hid (m = (UInt8.ofNat m).toNat) := by show _ = _; rw [toNat_ofNat_lt m (by omega)]
        rw [← hm] at hR
        clear hm hm2 ih
        go_enter Tryd.func30, Tryd.ntmps30
        go_wp2_with (first
          | ((with_reducible show wpList _ _ _ (⟨some 24, .convert _ _ _, _, _, _, _⟩ :: _) _ _); refine wp_str _ rfl (.tmp 23) rfl _ _ 1 1 [UInt8.ofNat m] rfl (bs_of _ _ _ hmc.out) ?_; simp only [Act.put, List.setIfInBounds_toArray, List.set_cons_zero, List.set_cons_succ]))
        go_ret
        rw [hR.out]
        exact ⟨rfl, (Below.refl _ _).alloc (Nat.le_refl _) _⟩
    · have hge : (16 : Int) ≤ (n : Int) := by omega
      have hR : hexL n = hexL (n / 16) ++ hexL (n % 16) := by
        rw [hexL_ge h]
        congr 1
        rw [hexL_lt (by omega)]
      have HA : Hid (Calls Tryd.prog 30 #[.int .i64 ((n / 16 : Nat) : Int)] w fun e w' => e = .returned (.string (str (hexL (n / 16)))) ∧ Below w.heap.size w w') := ih (n / 16) (by omega) w (by omega)
      have HB : Hid (∀ w, Calls Tryd.prog 30 #[.int .i64 ((n % 16 : Nat) : Int)] w fun e w' => e = .returned (.string (str (hexL (n % 16)))) ∧ Below w.heap.size w w') := fun w => ih (n % 16) (by omega) w (by omega)
      have hq : (n : Int) / 16 = ((n / 16 : Nat) : Int) := rfl
      have hr : (n : Int) % 16 = ((n % 16 : Nat) : Int) := rfl
      have hl1 : (hexL (n / 16)).length ≤ 4 := hexL_len4 _ (by omega)
      have hl2 : (hexL (n % 16)).length ≤ 4 := hexL_len4 _ (by omega)
      rw [hR]
      obtain ⟨q, hq'⟩ : ∃ q, q = n / 16 := ⟨_, rfl⟩
      obtain ⟨r, hr'⟩ : ∃ r, r = n % 16 := ⟨_, rfl⟩
      rw [← hq'] at HA hq hl1 ⊢
      rw [← hr'] at HB hr hl2 ⊢
      obtain ⟨X, hX⟩ : ∃ X, X = hexL q := ⟨_, rfl⟩
      obtain ⟨Y, hY⟩ : ∃ Y, Y = hexL r := ⟨_, rfl⟩
      rw [← hX] at HA hl1 ⊢
      rw [← hY] at HB hl2 ⊢
      have hadd := str_add X Y
      have hsX := str_size X
      have hsY := str_size Y
      obtain ⟨nx, hnx⟩ : ∃ k, k = X.length := ⟨_, rfl⟩
      obtain ⟨ny, hny⟩ : ∃ k, k = Y.length := ⟨_, rfl⟩
      rw [← hnx] at hsX hl1
      rw [← hny] at hsY hl2
      clear hq' hr' hX hY hR ih hnx hny
      go_enter Tryd.func30, Tryd.ntmps30
      go_wp2_with (go_at_call 30; first
        | (with_reducible refine HA.out.mono ?_; rintro e w1 ⟨rfl, hb1⟩; have hk1 := kept_of hb1; clear hb1)
        | (with_reducible refine (HB.out w1).mono ?_; rintro e w2 ⟨rfl, hb2⟩; have hk2 := hk1.step hb2; clear hb2))
      go_ret
      exact ⟨rfl, hk2⟩
end Go.Proofs.YtcfgcakmffkpmaaDoor
