/-
  What host.joinParts answers; nothing turns. Condition: texts of at most 100000000 bytes.
-/
import Derived.Test.YtcfgcakmffkpmaaDoorIpa
namespace Go.Proofs.YtcfgcakmffkpmaaDoor
open Go.RowKit

def jnV : Option Nat → Value
  | some n => .tuple #[.int .u32 (n : Int), .bool true]
  | none => .tuple #[.int .u32 0, .bool false]

theorem jn_step (room A : Nat) (p q : List UInt8) (r : List (List UInt8)) (n : Nat) (h : num p = some n) (hn : n < 256) : jn room A (p :: q :: r) = jn (room - 1) (A * 256 + n) (q :: r) := by simp [jn, h, hn]
theorem jn_last (room A : Nat) (p : List UInt8) (n : Nat) (h : num p = some n) (hn : n < 256 ^ room) : jn room A [p] = some (A * 256 ^ room + n) := by simp [jn, h, hn]
theorem jn_stop (room A : Nat) (p q : List UInt8) (r : List (List UInt8)) (h : ∀ n, num p = some n → ¬ n < 256) : jn room A (p :: q :: r) = none := by
  cases hp : num p with
  | none => simp [jn, hp]
  | some n => simp [jn, hp, h n hp]
theorem jn_end (room A : Nat) (p : List UInt8) (h : ∀ n, num p = some n → ¬ n < 256 ^ room) : jn room A [p] = none := by
  cases hp : num p with
  | none => simp [jn, hp]
  | some n => simp only [jn, hp, Option.bind_some, if_neg (h n hp)]

theorem shr_nat (n y : Nat) : (n : Int) / 2 ^ y = ((n / 2 ^ y : Nat) : Int) := by simp
theorem shl_nat (A y B : Nat) (hB : B = A * 2 ^ y) (h : B < 18446744073709551616) : IntKind.u64.wrap ((A : Int) * 2 ^ y) = (B : Int) := by
  rw [IntKind.wrap_u64, hB]
  have e : (A : Int) * 2 ^ y = ((A * 2 ^ y : Nat) : Int) := by simp
  rw [e]
  omega
theorem or_nat (A y n : Nat) (hn : n < 2 ^ y) (h : A * 2 ^ y + n < 18446744073709551616) : bits .or .u64 ((A * 2 ^ y : Nat) : Int) (n : Int) = ((A * 2 ^ y + n : Nat) : Int) := by
  rw [u64_or_nat _ _ (by omega) (by omega)]
  congr 1
  rw [Nat.mul_comm A, ← Nat.two_pow_add_eq_or_of_lt hn A]
theorem pow8 (r : Nat) : 2 ^ (8 * r) = 256 ^ r := by
  rw [Nat.pow_mul]
theorem room_mul (A k : Nat) (hk : k ≤ 4) (h : A < 256 ^ k) (n : Nat) (hn : n < 256 ^ (4 - k)) : A * 256 ^ (4 - k) + n < 4294967296 := by
  have h1 : A * 256 ^ (4 - k) + n < (A + 1) * 256 ^ (4 - k) := by
    rw [Nat.add_mul]
    omega
  have h2 : (A + 1) * 256 ^ (4 - k) ≤ 256 ^ k * 256 ^ (4 - k) := Nat.mul_le_mul_right _ h
  rw [← Nat.pow_add, show k + (4 - k) = 4 by omega] at h2
  have h3 : (256 : Nat) ^ 4 = 4294967296 := by decide
  omega

set_option maxHeartbeats 4000000 in
set_option maxRecDepth 100000 in
theorem join_any (ps : List (List UInt8)) (g c : Nat) (w : World) (hps : Ps w g ps) (hne : ps ≠ []) (hn : ps.length ≤ 100000001) (hl : ∀ p ∈ ps, p.length ≤ 100000000) :
    Calls Tryd.prog 26 #[.slice (some ⟨g, 0, none⟩) ps.length c] w fun e w' => e = .returned (jnV (joinS ps)) ∧ w' = w := by
  by_cases h4 : 4 < ps.length
  · have hj : Hid (joinS ps = none) := by show _ = _; unfold joinS; rw [if_pos h4]
    obtain ⟨S, hS⟩ : ∃ S, S = ps.length := ⟨_, rfl⟩
    rw [← hS] at h4 hn ⊢
    have h4i : (4 : Int) < (S : Int) := by omega
    clear hps hne hl hS
    go_enter Tryd.func26, Tryd.ntmps26
    go_wp2_with fail
    go_ret2
    rw [hj.out]
    exact ⟨rfl, rfl⟩
  · have hj : Hid (joinS ps = jn 4 0 ps) := by show _ = _; unfold joinS; rw [if_neg h4]
    obtain ⟨R, hR⟩ : ∃ R, R = joinS ps := ⟨_, rfl⟩
    rw [← hR] at hj ⊢
    clear hR
    obtain ⟨k0, hk0⟩ : ∃ k, ps.length = k + 1 := ⟨ps.length - 1, by have := List.length_pos_iff.2 hne; omega⟩
    have HK := Lib.hid hk0
    have HC := Lib.hid (fun (j : Nat) p (hj : ps[j]? = some p) => hps.at_ hj)
    have HLn := Lib.hid hl
    rw [hk0] at h4 hn ⊢
    have hki : (k0 : Int) + 1 - 1 = (k0 : Int) := by omega
    have h4i : ¬ (4 : Int) < (k0 : Int) + 1 := by omega
    have hk4 : k0 ≤ 3 := by omega
    clear hps hne hl hk0 hn h4
    go_enter Tryd.func26, Tryd.ntmps26
    go_wp2_with fail
    go_loop [19, 4] (fun i v => ∃ (k A : Nat), k ≤ k0 + 1 ∧ A < 4294967296 ∧ (k ≤ k0 → A < 256 ^ k) ∧ i = .int .i64 (k : Int) ∧ v = .int .u64 (A : Int) ∧ jn (4 - k) A (ps.drop k) = R) (fun i _ => k0 + 1 - (intOf i).toNat)
    case atStart => exact ⟨0, 0, by omega, by omega, by simp, rfl, rfl, hj.out.symm⟩
    case round =>
      obtain ⟨k, A, hk, hA, hA2, rfl, rfl, hR⟩ := hrel
      by_cases hlt : k < k0 + 1
      · have hkS : (k : Int) < (k0 : Int) + 1 := by omega
        obtain ⟨p, hp⟩ : ∃ p, ps[k]? = some p := ⟨_, List.getElem?_eq_getElem (by rw [HK.out]; exact hlt)⟩
        have hcell := HC.out k p hp
        have M := number_any p w (HLn.out p (List.mem_of_getElem? hp))
        rw [valV_pair] at M
        have hnle := num_le p
        have hdrop : ps.drop k = p :: ps.drop (k + 1) := by
          have hk' : k < ps.length := by rw [HK.out]; exact hlt
          rw [List.drop_eq_getElem_cons hk']
          congr 1
          rw [List.getElem?_eq_getElem hk'] at hp
          exact Option.some.inj hp
        rw [hdrop] at hR
        have hAk := hA2 (by omega)
        by_cases hlast : k = k0
        · have hke : ((k : Int) == (k0 : Int)) = true := by simp; omega
          have hd2 : ps.drop (k + 1) = [] := List.drop_eq_nil_of_le (by rw [HK.out]; omega)
          rw [hd2] at hR
          subst hlast
          cases hnp : num p with
          | none =>
            rw [jn_end _ _ _ (fun n h => by rw [hnp] at h; cases h)] at hR
            rw [hnp] at M
            have HM : Hid (Calls Tryd.prog 40 #[.string (str p)] w fun e w' => e = .returned (.tuple #[.int .u64 0, .bool false]) ∧ w' = w) := M
            have HR := Lib.hid hR
            clear M hnp hR hdrop hd2 hp hnle hA2 hAk
            go_wp2_with (go_at_call 40; with_reducible refine HM.out.mono ?_; rintro e w1 ⟨rfl, rfl⟩)
            go_ret2
            rw [← HR.out]
            exact ⟨rfl, rfl⟩
          | some n =>
            rw [hnp] at M
            have HM : Hid (Calls Tryd.prog 40 #[.string (str p)] w fun e w' => e = .returned (.tuple #[.int .u64 (n : Int), .bool true]) ∧ w' = w) := M
            have hn9 := hnle n hnp
            have HR := Lib.hid (And.intro hR hnp)
            clear M hnp hR hdrop hd2 hp hnle hA2
            obtain ⟨z, hz⟩ : ∃ z, z = 4 - k := ⟨_, rfl⟩
            have hzi : (4 : Int) - (k : Int) = (z : Int) := by omega
            obtain ⟨y, hy⟩ : ∃ y, y = 8 * z := ⟨_, rfl⟩
            have hyi : (8 : Int) * (z : Int) = (y : Int) := by omega
            have hy9 : y ≤ 32 := by omega
            have hpw : Hid (2 ^ y = 256 ^ z) := by show _ = _; rw [hy]; exact pow8 z
            obtain ⟨q, hq⟩ : ∃ q, q = n / 2 ^ y := ⟨_, rfl⟩
            have hqi : (n : Int) / 2 ^ y = (q : Int) := by rw [hq]; exact shr_nat n y
            have HZ := Lib.hid (And.intro hz (And.intro hy hq))
            have hk4' := hk4
            clear hz hy hq
            by_cases hb : n < 256 ^ z
            · have hq0 : Hid (q = 0) := by show _ = _; rw [HZ.out.2.2, hpw.out]; exact Nat.div_eq_of_lt hb
              have hq0i : ¬ (0 : Int) < (q : Int) := by have := hq0.out; omega
              have hrm := room_mul A k (by omega) hAk n (by rw [← HZ.out.1]; exact hb)
              rw [← HZ.out.1] at hrm
              obtain ⟨B, hB⟩ : ∃ B, B = A * 2 ^ y := ⟨_, rfl⟩
              obtain ⟨C, hC⟩ : ∃ C, C = A * 2 ^ y + n := ⟨_, rfl⟩
              have hBC : Hid (B = A * 256 ^ z ∧ C = A * 256 ^ z + n) := ⟨by rw [hB, hpw.out], by rw [hC, hpw.out]⟩
              have hsh := shl_nat A y B hB (by have := hBC.out; omega)
              have hor : bits .or .u64 (B : Int) (n : Int) = (C : Int) := by
                rw [hB, hC]
                exact or_nat A y n (by rw [hpw.out]; exact hb) (by rw [hpw.out]; omega)
              have HR2 : Hid (R = some C) := by
                show _ = _
                rw [← HR.out.1, jn_last _ _ _ n HR.out.2 (by rw [← HZ.out.1]; exact hb), ← HZ.out.1, hBC.out.2]
              have hC9 : C < 4294967296 := by rw [hBC.out.2]; exact hrm
              clear hB hC hrm hb HR
              go_wp2_with (go_at_call 40; with_reducible refine HM.out.mono ?_; rintro e w1 ⟨rfl, rfl⟩)
              go_round
              case rel =>
                refine ⟨k + 1, C, by omega, hC9, by omega, by go_num, rfl, ?_⟩
                rw [HR2.out, List.drop_eq_nil_of_le (by rw [HK.out]; omega)]
                rfl
              case measure => simp [intOf]
            · have hq0 : 0 < q := by
                rw [HZ.out.2.2, hpw.out]
                exact Nat.div_pos (by omega) (Nat.pow_pos (by omega))
              have hq0i : (0 : Int) < (q : Int) := by omega
              have HR2 : Hid (R = none) := by
                show _ = _
                rw [← HR.out.1, jn_end _ _ _ (fun n' h => by rw [HR.out.2] at h; cases h; rw [← HZ.out.1]; exact hb)]
              clear HR hb
              go_wp2_with (go_at_call 40; with_reducible refine HM.out.mono ?_; rintro e w1 ⟨rfl, rfl⟩)
              go_ret2
              rw [HR2.out]
              exact ⟨rfl, rfl⟩
        · have hke : ((k : Int) == (k0 : Int)) = false := by simp; omega
          obtain ⟨q2, r2, hqr⟩ : ∃ q r, ps.drop (k + 1) = q :: r := by
            match hd : ps.drop (k + 1) with
            | [] =>
              have := congrArg List.length hd
              rw [List.length_drop, HK.out] at this
              simp at this
              omega
            | q :: r => exact ⟨q, r, rfl⟩
          rw [hqr] at hR
          cases hnp : num p with
          | none =>
            rw [jn_stop _ _ _ _ _ (fun n h => by rw [hnp] at h; cases h)] at hR
            rw [hnp] at M
            have HM : Hid (Calls Tryd.prog 40 #[.string (str p)] w fun e w' => e = .returned (.tuple #[.int .u64 0, .bool false]) ∧ w' = w) := M
            have HR := Lib.hid hR
            clear M hnp hR hdrop hqr hp hnle hA2 hAk
            go_wp2_with (go_at_call 40; with_reducible refine HM.out.mono ?_; rintro e w1 ⟨rfl, rfl⟩)
            go_ret2
            rw [← HR.out]
            exact ⟨rfl, rfl⟩
          | some n =>
            rw [hnp] at M
            have HM : Hid (Calls Tryd.prog 40 #[.string (str p)] w fun e w' => e = .returned (.tuple #[.int .u64 (n : Int), .bool true]) ∧ w' = w) := M
            have hn9 := hnle n hnp
            have HR := Lib.hid (And.intro hR (And.intro hnp hqr))
            clear M hnp hR hdrop hqr hp hnle hA2
            obtain ⟨q, hq⟩ : ∃ q, q = n / 256 := ⟨_, rfl⟩
            have hqi : (n : Int) / 256 = (q : Int) := by omega
            have HQ := Lib.hid hq
            clear hq
            by_cases hb : n < 256
            · have hq0 : ¬ (0 : Int) < (q : Int) := by have := HQ.out; omega
              obtain ⟨B, hB⟩ : ∃ B, B = A * 256 := ⟨_, rfl⟩
              obtain ⟨C, hC⟩ : ∃ C, C = A * 256 + n := ⟨_, rfl⟩
              have hBi : (A : Int) * 256 = (B : Int) := by omega
              have hA3 : A < 16777216 := by
                have h1 : 256 ^ k ≤ 256 ^ 3 := Nat.pow_le_pow_right (by omega) (by omega)
                have h2 : (256 : Nat) ^ 3 = 16777216 := by decide
                omega
              have hBw : IntKind.u64.wrap (B : Int) = (B : Int) := by rw [IntKind.wrap_u64]; omega
              have hor : bits .or .u64 (B : Int) (n : Int) = (C : Int) := by
                rw [hB, hC]
                exact or_nat A 8 n hb (by omega)
              have HC2 := Lib.hid (And.intro hB hC)
              have HR2 : Hid (jn (4 - k - 1) C (ps.drop (k + 1)) = R) := by
                show _ = _
                rw [HR.out.2.2, hC, ← jn_step (4 - k) A p q2 r2 n HR.out.2.1 hb]
                exact HR.out.1
              have hB9 : B < 4294967296 := by omega
              have hC9 : C < 4294967296 := by omega
              have hCk : Hid (C < 256 ^ (k + 1)) := by
                show _ < _
                rw [hC, Nat.pow_succ]
                omega
              clear hB hC hb HR hA3 hAk
              go_wp2_with (go_at_call 40; with_reducible refine HM.out.mono ?_; rintro e w1 ⟨rfl, rfl⟩)
              go_round
              case rel =>
                refine ⟨k + 1, C, by omega, hC9, fun _ => hCk.out, by go_num, rfl, ?_⟩
                rw [← HR2.out]
                congr 1
              case measure => simp [intOf]; omega
            · have hq0 : (0 : Int) < (q : Int) := by have := HQ.out; omega
              have HR2 : Hid (R = none) := by
                show _ = _
                rw [← HR.out.1, jn_stop _ _ _ _ _ (fun n' h => by rw [HR.out.2.1] at h; cases h; exact hb)]
              clear HR hb hAk
              go_wp2_with (go_at_call 40; with_reducible refine HM.out.mono ?_; rintro e w1 ⟨rfl, rfl⟩)
              go_ret2
              rw [HR2.out]
              exact ⟨rfl, rfl⟩
      · have hk' : Hid (k = k0 + 1) := by show _ = _; omega
        have hkS : ¬ (k : Int) < (k0 : Int) + 1 := by omega
        clear hk hlt hA2
        have HR := Lib.hid hR
        clear hR
        have hwr : IntKind.u32.wrap (A : Int) = (A : Int) := by rw [IntKind.wrap_u32]; omega
        go_wp2_with fail
        go_ret2
        refine ⟨?_, rfl⟩
        have h1 := HR.out
        rw [hk'.out, List.drop_eq_nil_of_le (by rw [HK.out]; omega)] at h1
        rw [← h1]
        rfl
end Go.Proofs.YtcfgcakmffkpmaaDoor
