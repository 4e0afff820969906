/-
  The walk of transeptlaw06.PercentSets: true, for every byte; nothing that was there turns. No condition.
-/
import Derived.Test.YtkiafileelcknaaShown
import Derived.Deep.Cut
import Derived.Deep.CutRange
namespace Go.Proofs.Ytkiafileelcknaa
open Go.RowKit

/-- Letters, digits, %, /, -, . and _. -/
def plainB (m : Nat) : Bool := (decide (48 ≤ m) && decide (m ≤ 57)) || (decide (65 ≤ m) && decide (m ≤ 90)) || (decide (97 ≤ m) && decide (m ≤ 122)) || m == 37 || m == 47 || m == 45 || m == 46 || m == 95
theorem sets_c0 : ∀ m, m < 256 → ∀ n : Nat, n < 6 → 0 < n → inS 1 (UInt8.ofNat m) = true → inS (n : Int) (UInt8.ofNat m) = true := by decide +kernel
theorem sets_plain : ∀ m, m < 256 → ∀ n : Nat, n < 6 → plainB m = true → inS (n : Int) (UInt8.ofNat m) = false := by decide +kernel
theorem sets_query : ∀ m, m < 256 → inS 3 (UInt8.ofNat m) = true → inS 4 (UInt8.ofNat m) = true ∧ inS 5 (UInt8.ofNat m) = true := by decide +kernel

set_option maxHeartbeats 8000000 in
set_option maxRecDepth 100000 in
theorem sets_walk (c : UInt8) (w : World) : Calls Try.prog 7 #[vb c] w fun e w' => e = .returned (.bool true) ∧ Below w.heap.size w w' := by
  obtain ⟨m, hm⟩ : ∃ m, m = c.toNat := ⟨_, rfl⟩
  have hm8 : m < 256 := by rw [hm]; exact c.toNat_lt
  have hcm : Hid (UInt8.ofNat m = c) := by show _ = _; rw [hm]; simp
  have IN := fun (n : Int) (W : World) => in_any n c W
  unfold vb at IN ⊢
  rw [← hm] at IN ⊢
  have SC := sets_c0 m hm8
  have SP := sets_plain m hm8
  have SQ := sets_query m hm8
  rw [hcm.out] at SC SP SQ
  obtain ⟨p, hp⟩ : ∃ p : Int → Bool, p = fun n => inS n c := ⟨_, rfl⟩
  have hpn : ∀ n, inS n c = p n := fun n => by rw [hp]
  simp only [hpn] at IN SC SP SQ
  have HIN := Lib.hid IN
  have HSC := Lib.hid SC
  have HSP := Lib.hid SP
  have HSQ := Lib.hid SQ
  clear IN SC SP SQ hm hcm hp hpn
  go_enter Try.func7, Try.ntmps7
  go_upto_region 3 with (first | (go_at_call 10; with_reducible refine (shown_any w).mono ?_; rintro e w1 ⟨rfl, b1⟩) | (go_at_call 11; with_reducible refine (HIN.out 1 w1).mono ?_; rintro e w2 ⟨rfl, b2⟩))
  go_cut [5] from 12 to 53 (fun x wc => x = .bool (plainB m) ∧ wc = w2)
  case first =>
    have hc : m < 37 ∨ m = 37 ∨ (37 < m ∧ m < 45) ∨ m = 45 ∨ m = 46 ∨ m = 47 ∨ (47 < m ∧ m < 58) ∨ (57 < m ∧ m < 65) ∨ (64 < m ∧ m < 91) ∨ (90 < m ∧ m < 95) ∨ m = 95 ∨ m = 96 ∨ (96 < m ∧ m < 123) ∨ 122 < m := by omega
    rcases hc with hc | hc | hc | hc | hc | hc | hc | hc | hc | hc | hc | hc | hc | hc
    · have hP : Hid (plainB m = false) := by show _ = _; simp [plainB]; omega
      have k0 : decide ((48 : Int) ≤ (m : Int)) = false := by simp; omega
      have k1 : decide ((m : Int) ≤ 57) = true := by simp; omega
      have k2 : decide ((65 : Int) ≤ (m : Int)) = false := by simp; omega
      have k3 : decide ((m : Int) ≤ 90) = true := by simp; omega
      have k4 : decide ((97 : Int) ≤ (m : Int)) = false := by simp; omega
      have k5 : decide ((m : Int) ≤ 122) = true := by simp; omega
      have k6 : ((m : Int) == 37) = false := by simp; omega
      have k7 : ((m : Int) == 47) = false := by simp; omega
      have k8 : ((m : Int) == 45) = false := by simp; omega
      have k9 : ((m : Int) == 46) = false := by simp; omega
      have k10 : ((m : Int) == 95) = false := by simp; omega
      clear hc
      go_wp2_with fail
      go_meet
      exact ⟨by rw [hP.out], rfl⟩
    · have hP : Hid (plainB m = true) := by show _ = _; simp [plainB]; omega
      have k0 : decide ((48 : Int) ≤ (m : Int)) = false := by simp; omega
      have k1 : decide ((m : Int) ≤ 57) = true := by simp; omega
      have k2 : decide ((65 : Int) ≤ (m : Int)) = false := by simp; omega
      have k3 : decide ((m : Int) ≤ 90) = true := by simp; omega
      have k4 : decide ((97 : Int) ≤ (m : Int)) = false := by simp; omega
      have k5 : decide ((m : Int) ≤ 122) = true := by simp; omega
      have k6 : ((m : Int) == 37) = true := by simp; omega
      have k7 : ((m : Int) == 47) = false := by simp; omega
      have k8 : ((m : Int) == 45) = false := by simp; omega
      have k9 : ((m : Int) == 46) = false := by simp; omega
      have k10 : ((m : Int) == 95) = false := by simp; omega
      clear hc
      go_wp2_with fail
      go_meet
      exact ⟨by rw [hP.out], rfl⟩
    · have hP : Hid (plainB m = false) := by show _ = _; simp [plainB]; omega
      have k0 : decide ((48 : Int) ≤ (m : Int)) = false := by simp; omega
      have k1 : decide ((m : Int) ≤ 57) = true := by simp; omega
      have k2 : decide ((65 : Int) ≤ (m : Int)) = false := by simp; omega
      have k3 : decide ((m : Int) ≤ 90) = true := by simp; omega
      have k4 : decide ((97 : Int) ≤ (m : Int)) = false := by simp; omega
      have k5 : decide ((m : Int) ≤ 122) = true := by simp; omega
      have k6 : ((m : Int) == 37) = false := by simp; omega
      have k7 : ((m : Int) == 47) = false := by simp; omega
      have k8 : ((m : Int) == 45) = false := by simp; omega
      have k9 : ((m : Int) == 46) = false := by simp; omega
      have k10 : ((m : Int) == 95) = false := by simp; omega
      clear hc
      go_wp2_with fail
      go_meet
      exact ⟨by rw [hP.out], rfl⟩
    · have hP : Hid (plainB m = true) := by show _ = _; simp [plainB]; omega
      have k0 : decide ((48 : Int) ≤ (m : Int)) = false := by simp; omega
      have k1 : decide ((m : Int) ≤ 57) = true := by simp; omega
      have k2 : decide ((65 : Int) ≤ (m : Int)) = false := by simp; omega
      have k3 : decide ((m : Int) ≤ 90) = true := by simp; omega
      have k4 : decide ((97 : Int) ≤ (m : Int)) = false := by simp; omega
      have k5 : decide ((m : Int) ≤ 122) = true := by simp; omega
      have k6 : ((m : Int) == 37) = false := by simp; omega
      have k7 : ((m : Int) == 47) = false := by simp; omega
      have k8 : ((m : Int) == 45) = true := by simp; omega
      have k9 : ((m : Int) == 46) = false := by simp; omega
      have k10 : ((m : Int) == 95) = false := by simp; omega
      clear hc
      go_wp2_with fail
      go_meet
      exact ⟨by rw [hP.out], rfl⟩
    · have hP : Hid (plainB m = true) := by show _ = _; simp [plainB]; omega
      have k0 : decide ((48 : Int) ≤ (m : Int)) = false := by simp; omega
      have k1 : decide ((m : Int) ≤ 57) = true := by simp; omega
      have k2 : decide ((65 : Int) ≤ (m : Int)) = false := by simp; omega
      have k3 : decide ((m : Int) ≤ 90) = true := by simp; omega
      have k4 : decide ((97 : Int) ≤ (m : Int)) = false := by simp; omega
      have k5 : decide ((m : Int) ≤ 122) = true := by simp; omega
      have k6 : ((m : Int) == 37) = false := by simp; omega
      have k7 : ((m : Int) == 47) = false := by simp; omega
      have k8 : ((m : Int) == 45) = false := by simp; omega
      have k9 : ((m : Int) == 46) = true := by simp; omega
      have k10 : ((m : Int) == 95) = false := by simp; omega
      clear hc
      go_wp2_with fail
      go_meet
      exact ⟨by rw [hP.out], rfl⟩
    · have hP : Hid (plainB m = true) := by show _ = _; simp [plainB]; omega
      have k0 : decide ((48 : Int) ≤ (m : Int)) = false := by simp; omega
      have k1 : decide ((m : Int) ≤ 57) = true := by simp; omega
      have k2 : decide ((65 : Int) ≤ (m : Int)) = false := by simp; omega
      have k3 : decide ((m : Int) ≤ 90) = true := by simp; omega
      have k4 : decide ((97 : Int) ≤ (m : Int)) = false := by simp; omega
      have k5 : decide ((m : Int) ≤ 122) = true := by simp; omega
      have k6 : ((m : Int) == 37) = false := by simp; omega
      have k7 : ((m : Int) == 47) = true := by simp; omega
      have k8 : ((m : Int) == 45) = false := by simp; omega
      have k9 : ((m : Int) == 46) = false := by simp; omega
      have k10 : ((m : Int) == 95) = false := by simp; omega
      clear hc
      go_wp2_with fail
      go_meet
      exact ⟨by rw [hP.out], rfl⟩
    · have hP : Hid (plainB m = true) := by show _ = _; simp [plainB]; omega
      have k0 : decide ((48 : Int) ≤ (m : Int)) = true := by simp; omega
      have k1 : decide ((m : Int) ≤ 57) = true := by simp; omega
      have k2 : decide ((65 : Int) ≤ (m : Int)) = false := by simp; omega
      have k3 : decide ((m : Int) ≤ 90) = true := by simp; omega
      have k4 : decide ((97 : Int) ≤ (m : Int)) = false := by simp; omega
      have k5 : decide ((m : Int) ≤ 122) = true := by simp; omega
      have k6 : ((m : Int) == 37) = false := by simp; omega
      have k7 : ((m : Int) == 47) = false := by simp; omega
      have k8 : ((m : Int) == 45) = false := by simp; omega
      have k9 : ((m : Int) == 46) = false := by simp; omega
      have k10 : ((m : Int) == 95) = false := by simp; omega
      clear hc
      go_wp2_with fail
      go_meet
      exact ⟨by rw [hP.out], rfl⟩
    · have hP : Hid (plainB m = false) := by show _ = _; simp [plainB]; omega
      have k0 : decide ((48 : Int) ≤ (m : Int)) = true := by simp; omega
      have k1 : decide ((m : Int) ≤ 57) = false := by simp; omega
      have k2 : decide ((65 : Int) ≤ (m : Int)) = false := by simp; omega
      have k3 : decide ((m : Int) ≤ 90) = true := by simp; omega
      have k4 : decide ((97 : Int) ≤ (m : Int)) = false := by simp; omega
      have k5 : decide ((m : Int) ≤ 122) = true := by simp; omega
      have k6 : ((m : Int) == 37) = false := by simp; omega
      have k7 : ((m : Int) == 47) = false := by simp; omega
      have k8 : ((m : Int) == 45) = false := by simp; omega
      have k9 : ((m : Int) == 46) = false := by simp; omega
      have k10 : ((m : Int) == 95) = false := by simp; omega
      clear hc
      go_wp2_with fail
      go_meet
      exact ⟨by rw [hP.out], rfl⟩
    · have hP : Hid (plainB m = true) := by show _ = _; simp [plainB]; omega
      have k0 : decide ((48 : Int) ≤ (m : Int)) = true := by simp; omega
      have k1 : decide ((m : Int) ≤ 57) = false := by simp; omega
      have k2 : decide ((65 : Int) ≤ (m : Int)) = true := by simp; omega
      have k3 : decide ((m : Int) ≤ 90) = true := by simp; omega
      have k4 : decide ((97 : Int) ≤ (m : Int)) = false := by simp; omega
      have k5 : decide ((m : Int) ≤ 122) = true := by simp; omega
      have k6 : ((m : Int) == 37) = false := by simp; omega
      have k7 : ((m : Int) == 47) = false := by simp; omega
      have k8 : ((m : Int) == 45) = false := by simp; omega
      have k9 : ((m : Int) == 46) = false := by simp; omega
      have k10 : ((m : Int) == 95) = false := by simp; omega
      clear hc
      go_wp2_with fail
      go_meet
      exact ⟨by rw [hP.out], rfl⟩
    · have hP : Hid (plainB m = false) := by show _ = _; simp [plainB]; omega
      have k0 : decide ((48 : Int) ≤ (m : Int)) = true := by simp; omega
      have k1 : decide ((m : Int) ≤ 57) = false := by simp; omega
      have k2 : decide ((65 : Int) ≤ (m : Int)) = true := by simp; omega
      have k3 : decide ((m : Int) ≤ 90) = false := by simp; omega
      have k4 : decide ((97 : Int) ≤ (m : Int)) = false := by simp; omega
      have k5 : decide ((m : Int) ≤ 122) = true := by simp; omega
      have k6 : ((m : Int) == 37) = false := by simp; omega
      have k7 : ((m : Int) == 47) = false := by simp; omega
      have k8 : ((m : Int) == 45) = false := by simp; omega
      have k9 : ((m : Int) == 46) = false := by simp; omega
      have k10 : ((m : Int) == 95) = false := by simp; omega
      clear hc
      go_wp2_with fail
      go_meet
      exact ⟨by rw [hP.out], rfl⟩
    · have hP : Hid (plainB m = true) := by show _ = _; simp [plainB]; omega
      have k0 : decide ((48 : Int) ≤ (m : Int)) = true := by simp; omega
      have k1 : decide ((m : Int) ≤ 57) = false := by simp; omega
      have k2 : decide ((65 : Int) ≤ (m : Int)) = true := by simp; omega
      have k3 : decide ((m : Int) ≤ 90) = false := by simp; omega
      have k4 : decide ((97 : Int) ≤ (m : Int)) = false := by simp; omega
      have k5 : decide ((m : Int) ≤ 122) = true := by simp; omega
      have k6 : ((m : Int) == 37) = false := by simp; omega
      have k7 : ((m : Int) == 47) = false := by simp; omega
      have k8 : ((m : Int) == 45) = false := by simp; omega
      have k9 : ((m : Int) == 46) = false := by simp; omega
      have k10 : ((m : Int) == 95) = true := by simp; omega
      clear hc
      go_wp2_with fail
      go_meet
      exact ⟨by rw [hP.out], rfl⟩
    · have hP : Hid (plainB m = false) := by show _ = _; simp [plainB]; omega
      have k0 : decide ((48 : Int) ≤ (m : Int)) = true := by simp; omega
      have k1 : decide ((m : Int) ≤ 57) = false := by simp; omega
      have k2 : decide ((65 : Int) ≤ (m : Int)) = true := by simp; omega
      have k3 : decide ((m : Int) ≤ 90) = false := by simp; omega
      have k4 : decide ((97 : Int) ≤ (m : Int)) = false := by simp; omega
      have k5 : decide ((m : Int) ≤ 122) = true := by simp; omega
      have k6 : ((m : Int) == 37) = false := by simp; omega
      have k7 : ((m : Int) == 47) = false := by simp; omega
      have k8 : ((m : Int) == 45) = false := by simp; omega
      have k9 : ((m : Int) == 46) = false := by simp; omega
      have k10 : ((m : Int) == 95) = false := by simp; omega
      clear hc
      go_wp2_with fail
      go_meet
      exact ⟨by rw [hP.out], rfl⟩
    · have hP : Hid (plainB m = true) := by show _ = _; simp [plainB]; omega
      have k0 : decide ((48 : Int) ≤ (m : Int)) = true := by simp; omega
      have k1 : decide ((m : Int) ≤ 57) = false := by simp; omega
      have k2 : decide ((65 : Int) ≤ (m : Int)) = true := by simp; omega
      have k3 : decide ((m : Int) ≤ 90) = false := by simp; omega
      have k4 : decide ((97 : Int) ≤ (m : Int)) = true := by simp; omega
      have k5 : decide ((m : Int) ≤ 122) = true := by simp; omega
      have k6 : ((m : Int) == 37) = false := by simp; omega
      have k7 : ((m : Int) == 47) = false := by simp; omega
      have k8 : ((m : Int) == 45) = false := by simp; omega
      have k9 : ((m : Int) == 46) = false := by simp; omega
      have k10 : ((m : Int) == 95) = false := by simp; omega
      clear hc
      go_wp2_with fail
      go_meet
      exact ⟨by rw [hP.out], rfl⟩
    · have hP : Hid (plainB m = false) := by show _ = _; simp [plainB]; omega
      have k0 : decide ((48 : Int) ≤ (m : Int)) = true := by simp; omega
      have k1 : decide ((m : Int) ≤ 57) = false := by simp; omega
      have k2 : decide ((65 : Int) ≤ (m : Int)) = true := by simp; omega
      have k3 : decide ((m : Int) ≤ 90) = false := by simp; omega
      have k4 : decide ((97 : Int) ≤ (m : Int)) = true := by simp; omega
      have k5 : decide ((m : Int) ≤ 122) = false := by simp; omega
      have k6 : ((m : Int) == 37) = false := by simp; omega
      have k7 : ((m : Int) == 47) = false := by simp; omega
      have k8 : ((m : Int) == 45) = false := by simp; omega
      have k9 : ((m : Int) == 46) = false := by simp; omega
      have k10 : ((m : Int) == 95) = false := by simp; omega
      clear hc
      go_wp2_with fail
      go_meet
      exact ⟨by rw [hP.out], rfl⟩
  case rest =>
    obtain ⟨rfl, rfl⟩ := hcut
    have hABs : (p 1 = true ∧ plainB m = false) ∨ (p 1 = false ∧ plainB m = true) ∨ (p 1 = false ∧ plainB m = false) := by
      cases hA : p 1
      · cases hB : plainB m <;> simp
      · cases hB : plainB m
        · simp
        · have := HSP.out 1 (by omega) hB
          exact absurd hA (by simpa using this)
    rcases hABs with ⟨hA, hB⟩ | ⟨hA, hB⟩ | ⟨hA, hB⟩
    all_goals
      have hC : Hid (∀ n : Nat, 1 ≤ n → n ≤ 5 → (p 1 = true → p (n : Int) = true) ∧ (plainB m = true → p (n : Int) = false)) := fun n h1 h2 => ⟨fun h => HSC.out n (by omega) (by omega) h, fun h => HSP.out n (by omega) h⟩
      clear hm8
      simp only [hA, hB]
      go_wp2_with fail
      go_loopw [6] (fun i wr => ∃ n : Nat, 1 ≤ n ∧ n ≤ 6 ∧ i = .int .i64 (n : Int) ∧ Kept wc wr) (fun i _ => 6 - (intOf i).toNat)
      case atStart => exact ⟨1, by omega, by omega, rfl, Kept.refl _⟩
      case round =>
        obtain ⟨n, hn1, hn6, rfl, hk⟩ := hrel
        by_cases hlt : n ≤ 5
        · have hlti : (n : Int) ≤ 5 := by omega
          have hCn := hC.out n hn1 hlt
          have IN := Lib.hid (HIN.out (n : Int) wr)
          have HC := Lib.hid hCn
          clear hCn
          cases hCb : p (n : Int)
          all_goals
            first
            | (exfalso; have h1 := HC.out.1 hA; rw [hCb] at h1; exact absurd h1 (by decide))
            | (exfalso; have h1 := HC.out.2 hB; rw [hCb] at h1; exact absurd h1 (by decide))
            | (go_wp2_with (go_at_call 11; with_reducible refine IN.out.mono ?_; rintro e w3 ⟨rfl, b3⟩)
               go_roundw
               case rel => exact ⟨n + 1, by omega, by omega, by go_num, hk.step b3⟩
               case measure => simp [intOf]; omega)
        · have hlti : ¬ (n : Int) ≤ 5 := by omega
          have bk : Below w.heap.size w wr := (b1.trans (b2.mono b1.size)).trans (hk.mono (Nat.le_trans b1.size b2.size))
          cases hQ : p 3
          · go_wp2_with (go_at_call 11; with_reducible refine (HIN.out 3 wr).mono ?_; rintro e w3 ⟨rfl, b3⟩)
            go_ret
            exact ⟨rfl, bk.trans (b3.mono bk.size)⟩
          · obtain ⟨h4, h5⟩ := HSQ.out hQ
            go_wp2_with (go_at_call 11; first | (with_reducible refine (HIN.out 3 wr).mono ?_; rintro e w3 ⟨rfl, b3⟩) | (with_reducible refine (HIN.out 4 w3).mono ?_; rintro e w4 ⟨rfl, b4⟩) | (with_reducible refine (HIN.out 5 w4).mono ?_; rintro e w5 ⟨rfl, b5⟩))
            go_ret
            exact ⟨rfl, ((bk.trans (b3.mono bk.size)).trans (b4.mono (Nat.le_trans bk.size b3.size))).trans (b5.mono (Nat.le_trans bk.size (Nat.le_trans b3.size b4.size)))⟩
end Go.Proofs.Ytkiafileelcknaa
