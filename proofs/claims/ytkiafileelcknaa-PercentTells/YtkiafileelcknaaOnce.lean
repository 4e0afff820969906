/-
  The walk of transeptlaw06.PercentOnce: true, for every set and text; nothing that was there turns. No condition.
-/
import Derived.Test.YtkiafileelcknaaLess
namespace Go.Proofs.Ytkiafileelcknaa
open Go.RowKit

theorem i64_and65535 (n : Int) : bits .and .i64 n 65535 = n % 65536 := by
  have h1 : (BitVec.ofInt 64 65535).toNat = 2 ^ 16 - 1 := by decide
  have key : (BitVec.ofInt 64 n &&& BitVec.ofInt 64 65535).toNat = (n % ((2 ^ 64 : Nat) : Int)).toNat % 2 ^ 16 := by
    rw [BitVec.toNat_and, BitVec.toNat_ofInt, h1, Nat.and_two_pow_sub_one_eq_mod]
  show IntKind.i64.wrap ((BitVec.ofInt 64 n &&& BitVec.ofInt 64 65535).toNat : Nat) = n % 65536
  rw [key, IntKind.wrap_i64]
  omega

set_option maxHeartbeats 4000000 in
set_option maxRecDepth 100000 in
theorem once_walk (n0 : Int) (S0 : List UInt8) (hS : S0.length ≤ 9223372036854775807) (w : World) :
    Calls Try.prog 4 #[.int .i64 n0, .string (str S0)] w fun e w' => e = .returned (.bool true) ∧ Below w.heap.size w w' := by
  obtain ⟨j, hj, hj1, hj2⟩ : ∃ j : Nat, min (S0.length : Int) 1000 = (j : Int) ∧ j ≤ S0.length ∧ j ≤ 1000 := ⟨min S0.length 1000, by omega, by omega, by omega⟩
  obtain ⟨l, hl⟩ : ∃ l, l = S0.take j := ⟨_, rfl⟩
  have hll : l.length = j := by rw [hl, List.length_take]; omega
  have hex : (str S0).extract 0 j = str l := by rw [hl]; exact str_take S0 j
  have hss := str_size S0
  have hsz : (str l).size = j := by rw [str_size, hll]
  obtain ⟨q, hq, hq1⟩ : ∃ q : Nat, bits .and .i64 n0 65535 = (q : Int) ∧ q ≤ 65535 := ⟨(n0 % 65536).toNat, by rw [i64_and65535]; omega, by omega⟩
  obtain ⟨r, hr, hr1⟩ : ∃ r : Nat, q % 5 = r ∧ r < 5 := ⟨q % 5, rfl, by omega⟩
  have hri : Int.tmod (q : Int) 5 = (r : Int) := by
    have : Int.tmod (q : Int) 5 = ((q % 5 : Nat) : Int) := rfl
    omega
  have hri' : (q : Int) % 5 = (r : Int) := by omega
  obtain ⟨n, hn⟩ : ∃ n : Nat, n = 1 + r := ⟨_, rfl⟩
  have hni : (1 : Int) + (r : Int) = (n : Int) := by omega
  have hni' : (r : Int) + 1 = (n : Int) := by omega
  have hnr : Hid (n ≤ 5) := by show n ≤ 5; omega
  obtain ⟨p, hp⟩ : ∃ p, p = inS (n : Int) := ⟨_, rfl⟩
  have hsafe : Safe p := by rw [hp]; exact safe_inS _
  obtain ⟨E, hE⟩ : ∃ E, E = enc p l := ⟨_, rfl⟩
  obtain ⟨e, he⟩ : ∃ e, e = E.length := ⟨_, rfl⟩
  have he3 : e ≤ 3000 := by rw [he, hE]; have := enc_len p l; omega
  have hez : (str E).size = e := by rw [str_size, he]
  obtain ⟨D, hD⟩ : ∃ D, D = dec l := ⟨_, rfl⟩
  have EN : Hid (∀ W, Calls Try.prog 13 #[.int .i64 (n : Int), .string (str l)] W fun e w' => e = .returned (.string (str E)) ∧ Below W.heap.size W w') := fun W => by
    rw [hE, hp]; exact encode_any (n : Int) l W (by omega)
  have EE : Hid (∀ W, Calls Try.prog 13 #[.int .i64 (n : Int), .string (str E)] W fun e w' => e = .returned (.string (str E)) ∧ Below W.heap.size W w') := fun W => by
    have h := encode_any (n : Int) E W (by omega)
    rw [← hp] at h
    rw [show enc p E = E by rw [hE]; exact enc_enc hsafe l] at h
    exact h
  have DE : Hid (∀ W, Calls Try.prog 15 #[.string (str E)] W fun e w' => e = .returned (.string (str D)) ∧ Below W.heap.size W w') := fun W => by
    have h := decode_any E W (by omega)
    rw [show dec E = D by rw [hE, hD]; exact dec_enc hsafe l.length l (Nat.le_refl _)] at h
    exact h
  have DL : Hid (∀ W, Calls Try.prog 15 #[.string (str l)] W fun e w' => e = .returned (.string (str D)) ∧ Below W.heap.size W w') := fun W => by
    have h := decode_any l W (by omega)
    rw [← hD] at h
    exact h
  have IN : Hid (∀ k, k < e → ∀ m, m = (E.getD k 0).toNat → ∀ W, Calls Try.prog 11 #[.int .i64 (n : Int), .int .u8 (m : Int)] W fun e w' => e = .returned (.bool false) ∧ Below W.heap.size W w') := fun k hk m hm W => by
    have hk' : k < E.length := by rw [← he]; exact hk
    have h := in_any (n : Int) (E.getD k 0) W
    rw [← hp, vb, ← hm] at h
    rw [show p (E.getD k 0) = false by
      rw [List.getD_eq_getElem?_getD, List.getElem?_eq_getElem hk']
      exact enc_free hsafe l _ (by rw [← hE]; exact List.getElem_mem hk')] at h
    exact h
  have hgb : ∀ k, k < e → ∀ h, ((str E)[k]'h).toNat = (E.getD k 0).toNat := fun k hk h => str_at E k (by rw [← he]; exact hk) h
  have HG := Lib.hid hgb
  have HQ := Lib.hid hr
  clear hgb hr hl hll hp hsafe hE he hD hn
  go_enter Try.func4, Try.ntmps4
  go_wp2_with (first
    | (go_at_call 10; with_reducible refine (shown_any w).mono ?_; rintro e_ w1 ⟨rfl, b1⟩)
    | (go_at_call 13; with_reducible refine (EN.out w1).mono ?_; rintro e_ w2 ⟨rfl, b2⟩))
  have b3 : Below w.heap.size w w2 := b1.trans (b2.mono b1.size)
  clear b1 b2
  go_loopw [7] (fun a wr => ∃ k : Nat, k ≤ e ∧ a = .int .i64 (k : Int) ∧ Kept w2 wr) (fun a _ => e - (intOf a).toNat)
  case atStart => exact ⟨0, by omega, rfl, Kept.refl _⟩
  case round =>
    obtain ⟨k, hk, rfl, hkp⟩ := hrel
    by_cases hlt : k < e
    · obtain ⟨m, hm⟩ : ∃ m, m = (E.getD k 0).toNat := ⟨_, rfl⟩
      have hget : ∀ h, ((str E)[k]'h).toNat = m := fun h => by rw [hm]; exact HG.out k hlt h
      have IK := Lib.hid (IN.out k hlt m hm wr)
      have hke : (k : Int) < (e : Int) := by omega
      clear hm
      go_wp2_with (go_at_call 11; with_reducible refine IK.out.mono ?_; rintro e_ w4 ⟨rfl, b4⟩)
      go_roundw
      case rel => exact ⟨k + 1, by omega, by go_num, hkp.step b4⟩
      case measure => simp [intOf]; omega
    · have hke : ¬ (k : Int) < (e : Int) := by omega
      have b4 : Below w.heap.size w wr := b3.trans (hkp.mono b3.size)
      clear b3 hkp
      go_wp2_with (first
        | (go_at_call 13; with_reducible refine (EE.out wr).mono ?_; rintro e_ w5 ⟨rfl, b5⟩)
        | ((with_reducible show wpList _ _ _ (⟨some 38, .binOp _ _ _ _ _, _, _, _, _⟩ :: _) _ _); refine wp_eqS _ (by kernel_rfl) _ _ rfl E E rfl rfl true (by simp) ?_; simp only [Act.put, List.setIfInBounds_toArray, List.set_cons_zero, List.set_cons_succ])
        | (go_at_call 15; first | (with_reducible refine (DE.out w5).mono ?_; rintro e_ w6 ⟨rfl, b6⟩) | (with_reducible refine (DL.out w6).mono ?_; rintro e_ w7 ⟨rfl, b7⟩))
        | ((with_reducible show wpList _ _ _ (⟨some 45, .binOp _ _ _ _ _, _, _, _, _⟩ :: _) _ _); refine wp_eqS _ (by kernel_rfl) _ _ rfl D D rfl rfl true (by simp) ?_; simp only [Act.put, List.setIfInBounds_toArray, List.set_cons_zero, List.set_cons_succ]))
      go_ret
      exact ⟨rfl, ((b4.trans (b5.mono b4.size)).trans (b6.mono (Nat.le_trans b4.size b5.size))).trans (b7.mono (Nat.le_trans b4.size (Nat.le_trans b5.size b6.size)))⟩
end Go.Proofs.Ytkiafileelcknaa
