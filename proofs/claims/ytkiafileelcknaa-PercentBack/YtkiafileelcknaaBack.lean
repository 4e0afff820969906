/-
  The walk of transeptlaw06.PercentBack: true, for every set and text; nothing that was there turns. No condition.
-/
import Derived.Test.YtkiafileelcknaaOnce
namespace Go.Proofs.Ytkiafileelcknaa
open Go.RowKit

theorem str_add (a b : List UInt8) : str a ++ str b = str (a ++ b) := by
  apply ByteArray.ext
  apply Array.ext'
  simp [str]
theorem str_one (l : List UInt8) (k : Nat) (hk : k < l.length) : (str l).extract k (k + 1) = str [l.getD k 0] := by
  apply ByteArray.ext
  apply Array.ext'
  simp [str, List.getD, List.getElem?_eq_getElem hk, List.take_one]

set_option maxHeartbeats 4000000 in
set_option maxRecDepth 100000 in
theorem back_walk (n0 : Int) (S0 : List UInt8) (hS : S0.length ≤ 9223372036854775807) (w : World) :
    Calls Try.prog 5 #[.int .i64 n0, .string (str S0)] w fun e w' => e = .returned (.bool true) ∧ Below w.heap.size w w' := by
  obtain ⟨j, hj, hj1, hj2⟩ : ∃ j : Nat, min (S0.length : Int) 1000 = (j : Int) ∧ j ≤ S0.length ∧ j ≤ 1000 := ⟨min S0.length 1000, by omega, by omega, by omega⟩
  obtain ⟨l, hl⟩ : ∃ l, l = S0.take j := ⟨_, rfl⟩
  have hll : l.length = j := by rw [hl, List.length_take]; omega
  have hex : (str S0).extract 0 j = str l := by rw [hl]; exact str_take S0 j
  have hss := str_size S0
  have hsz : (str l).size = j := by rw [str_size, hll]
  have hgb : ∀ k, k < j → ∀ h, ((str l)[k]'h).toNat = (l.getD k 0).toNat := fun k hk h => str_at l k (by rw [hll]; exact hk) h
  have hone : ∀ k, k < j → (str l).extract k (k + 1) = str [l.getD k 0] := fun k hk => str_one l k (by rw [hll]; exact hk)
  have hpt : ∀ k, k < j → pct (l.take (k + 1)) = pct (l.take k) ++ pct1 (l.getD k 0) := fun k hk => pct_take_succ l k (by rw [hll]; exact hk)
  have hpl : ∀ k, (pct (l.take k)).length ≤ 3000 := fun k => by
    have h1 := pct_len (l.take k)
    rw [List.length_take] at h1
    omega
  obtain ⟨P, hP⟩ : ∃ P, P = pct l := ⟨_, rfl⟩
  have hPl : P.length ≤ 3000 := by rw [hP]; have := pct_len l; omega
  obtain ⟨E, hE⟩ : ∃ E, E = enc (inS n0) P := ⟨_, rfl⟩
  have hEl : E.length ≤ 9000 := by rw [hE]; have := enc_len (inS n0) P; omega
  have hfull : Hid (pct (l.take j) = P) := by show _ = _; rw [hP, ← hll, List.take_length]
  have DP : Hid (∀ W, Calls Try.prog 15 #[.string (str P)] W fun e w' => e = .returned (.string (str l)) ∧ Below W.heap.size W w') := fun W => by
    have h := decode_any P W (by omega)
    rw [show dec P = l by rw [hP]; exact dec_pct l] at h
    exact h
  have EP : Hid (∀ W, Calls Try.prog 13 #[.int .i64 n0, .string (str P)] W fun e w' => e = .returned (.string (str E)) ∧ Below W.heap.size W w') := fun W => by
    rw [hE]; exact encode_any n0 P W (by omega)
  have DE : Hid (∀ W, Calls Try.prog 15 #[.string (str E)] W fun e w' => e = .returned (.string (str l)) ∧ Below W.heap.size W w') := fun W => by
    have h := decode_any E W (by omega)
    rw [show dec E = l by rw [hE, dec_enc (safe_inS n0) P.length P (Nat.le_refl _), hP]; exact dec_pct l] at h
    exact h
  have HG := Lib.hid (And.intro hgb (And.intro hone (And.intro hpt hpl)))
  clear hgb hone hpt hpl hP hE hl hll
  go_enter Try.func5, Try.ntmps5
  go_wp2_with (first
    | (go_at_call 10; with_reducible refine (shown_any w).mono ?_; rintro e_ w1 ⟨rfl, b1⟩))
  go_loop [7, 6] (fun a b => ∃ k : Nat, k ≤ j ∧ a = .int .i64 (k : Int) ∧ b = .string (str (pct (l.take k)))) (fun a _ => j - (intOf a).toNat)
  case atStart => exact ⟨0, by omega, rfl, rfl⟩
  case round =>
    obtain ⟨k, hk, rfl, rfl⟩ := hrel
    obtain ⟨L, hL⟩ : ∃ L, L = pct (l.take k) := ⟨_, rfl⟩
    have hLl : L.length ≤ 3000 := by rw [hL]; exact HG.out.2.2.2 k
    rw [← hL]
    by_cases hlt : k < j
    · obtain ⟨c, hc⟩ : ∃ c, c = l.getD k 0 := ⟨_, rfl⟩
      obtain ⟨m, hm⟩ : ∃ m, m = c.toNat := ⟨_, rfl⟩
      have hget : ∀ h, ((str l)[k]'h).toNat = m := fun h => by rw [hm, hc]; exact HG.out.1 k hlt h
      have hcut : (str l).extract k (k + 1) = str [c] := by rw [hc]; exact HG.out.2.1 k hlt
      have hnx : Hid (pct (l.take (k + 1)) = L ++ pct1 c) := by show _ = _; rw [HG.out.2.2.1 k hlt, hL, hc]
      have hkj : (k : Int) < (j : Int) := by omega
      have HM := Lib.hid hm
      clear hm hc hL
      by_cases h37 : m = 37
      · have hb : ((m : Int) == 37) = true := by simp; omega
        have hnx2 : Hid (pct (l.take (k + 1)) = L ++ [37, 50, 53]) := by
          show _ = _
          rw [hnx.out, pct1, if_pos (UInt8.toNat_inj.1 (by rw [← HM.out]; exact h37))]
        clear hnx h37
        obtain ⟨M, hM⟩ : ∃ M, M = L ++ [37, 50, 53] := ⟨_, rfl⟩
        have hadd : str L ++ (ByteArray.mk #[37, 50, 53]) = str M := by rw [hM]; exact str_add L [37, 50, 53]
        have hbig : ¬ 9223372036854775807 < (str L).size + (ByteArray.mk #[37, 50, 53]).size := by
          rw [str_size]
          show ¬ _ < L.length + 3
          omega
        rw [← hM] at hnx2
        clear hM
        go_wp2_with fail
        go_round
        case rel => exact ⟨k + 1, by omega, by go_num, by rw [hnx2.out]⟩
        case measure => simp [intOf]; omega
      · have hb : ((m : Int) == 37) = false := by simp; omega
        have hnx2 : Hid (pct (l.take (k + 1)) = L ++ [c]) := by
          show _ = _
          rw [hnx.out, pct1, if_neg (fun h => h37 (by rw [HM.out, h]; rfl))]
        clear hnx h37
        obtain ⟨M, hM⟩ : ∃ M, M = L ++ [c] := ⟨_, rfl⟩
        have hadd : str L ++ str [c] = str M := by rw [hM]; exact str_add L [c]
        have hbig : ¬ 9223372036854775807 < (str L).size + (str [c]).size := by
          rw [str_size, str_size]
          show ¬ _ < L.length + 1
          omega
        rw [← hM] at hnx2
        clear hM
        go_wp2_with fail
        go_round
        case rel => exact ⟨k + 1, by omega, by go_num, by rw [hnx2.out]⟩
        case measure => simp [intOf]; omega
    · have hkj : ¬ (k : Int) < (j : Int) := by omega
      obtain rfl : L = P := by rw [hL, show k = j by omega]; exact hfull.out
      clear hL hfull
      go_wp2_with (first
        | (go_at_call 15; first | (with_reducible refine (DP.out w1).mono ?_; rintro e_ w2 ⟨rfl, b2⟩) | (with_reducible refine (DE.out w3).mono ?_; rintro e_ w4 ⟨rfl, b4⟩))
        | ((with_reducible show wpList _ _ _ (⟨some 38, .binOp _ _ _ _ _, _, _, _, _⟩ :: _) _ _); refine wp_eqS _ (by kernel_rfl) _ _ rfl l l rfl rfl true (by simp) ?_; simp only [Act.put, List.setIfInBounds_toArray, List.set_cons_zero, List.set_cons_succ])
        | (go_at_call 13; with_reducible refine (EP.out w2).mono ?_; rintro e_ w3 ⟨rfl, b3⟩)
        | ((with_reducible show wpList _ _ _ (⟨some 46, .binOp _ _ _ _ _, _, _, _, _⟩ :: _) _ _); refine wp_eqS _ (by kernel_rfl) _ _ rfl l l rfl rfl true (by simp) ?_; simp only [Act.put, List.setIfInBounds_toArray, List.set_cons_zero, List.set_cons_succ]))
      go_ret
      exact ⟨rfl, ((b1.trans (b2.mono b1.size)).trans (b3.mono (Nat.le_trans b1.size b2.size))).trans (b4.mono (Nat.le_trans b1.size (Nat.le_trans b2.size b3.size)))⟩
end Go.Proofs.Ytkiafileelcknaa
