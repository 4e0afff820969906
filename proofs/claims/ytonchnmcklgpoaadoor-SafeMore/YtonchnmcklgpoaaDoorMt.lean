/-
  token.Method, transeptref09.Method. No condition but sizes.
-/
import Derived.Test.YtonchnmcklgpoaaDoorNa
namespace Go.Proofs.YtonchnmcklgpoaaDoor
open Go.RowKit
set_option linter.unusedVariables false

theorem mth_cons (m : List UInt8) (r : List (List UInt8)) (s : List UInt8) : mth (m :: r) s = if low m = low s then m else mth r s := rfl
set_option maxHeartbeats 4000000 in
set_option maxRecDepth 100000 in
theorem method_any (s : List UInt8) (w : World) (hl : s.length ≤ 9223372036854775807) : Calls Tryd.prog 19 #[.string (str s)] w fun e w' => e = .returned (.string (str (mth mths s))) ∧ Below w.heap.size w w' := by
  obtain ⟨R, hR⟩ : ∃ R, R = mth mths s := ⟨_, rfl⟩
  have HR := Lib.hid hR
  have hrow : Hid (∀ k, k < 6 → mths[k]? = some (mths.getD k []) ∧ (mths.getD k []).length ≤ 10 ∧ upp (mths.getD k []) = mths.getD k [] ∧ (low (mths.getD k []) = low s → mth (mths.drop k) s = mths.getD k []) ∧ (¬ low (mths.getD k []) = low s → mth (mths.drop k) s = mth (mths.drop (k + 1)) s)) := fun k hk => by
    have h1 := row_at mths k hk
    refine ⟨h1, (by decide : ∀ m ∈ mths, m.length ≤ 10) _ (List.mem_of_getElem? h1), mths_upp _ (List.mem_of_getElem? h1), fun h => ?_, fun h => ?_⟩
    · rw [drop_row mths k hk, mth_cons, if_pos h]
    · rw [drop_row mths k hk, mth_cons, if_neg h]
  have hend : Hid (mth (mths.drop 6) s = s) := by show _ = _; rfl
  have HF : Hid (∀ m w', m.length ≤ 10 → Calls Tryd.prog 24 #[.string (str m), .string (str s)] w' fun e w2 => e = .returned (.bool (decide (low m = low s))) ∧ Below w'.heap.size w' w2) := fun m w' h => fold_any m s w' (by omega) hl
  obtain ⟨L, hL⟩ : ∃ L, L = mths := ⟨_, rfl⟩
  have hLv : Hid ((L.map vstr).toArray = #[.string ⟨#[68, 69, 76, 69, 84, 69]⟩, .string ⟨#[71, 69, 84]⟩, .string ⟨#[72, 69, 65, 68]⟩, .string ⟨#[79, 80, 84, 73, 79, 78, 83]⟩, .string ⟨#[80, 79, 83, 84]⟩, .string ⟨#[80, 85, 84]⟩]) := by show _ = _; rw [hL]; rfl
  rw [← hR]
  rw [← hL] at hrow hend HR
  clear hR hL
  go_enter Tryd.func19, Tryd.ntmps19
  go_wp2_with fail
  have HK0 : Hid (Kept w w) := Kept.refl w
  have hps0 : Hid (Ps (w.alloc (.cells #[.string ⟨#[68, 69, 76, 69, 84, 69]⟩, .string ⟨#[71, 69, 84]⟩, .string ⟨#[72, 69, 65, 68]⟩, .string ⟨#[79, 80, 84, 73, 79, 78, 83]⟩, .string ⟨#[80, 79, 83, 84]⟩, .string ⟨#[80, 85, 84]⟩] 9)) w.heap.size L) := Ps.new w L _ hLv.out.symm
  obtain ⟨g, hg⟩ : ∃ g, g = w.heap.size := ⟨_, rfl⟩
  rw [← hg] at hps0 ⊢
  go_loopw [7] (fun i wr => ∃ k : Nat, k ≤ 6 ∧ i = .int .i64 (k : Int) ∧ Ps wr g L ∧ Kept w wr ∧ mth (L.drop k) s = R) (fun i _ => 6 - (intOf i).toNat)
  case atStart => exact ⟨0, by omega, rfl, hps0.out, HK0.out.alloc _, by rw [List.drop_zero]; exact HR.out.symm⟩
  case round =>
    obtain ⟨k, hk, rfl, hps, hkp, hA⟩ := hrel
    clear hps0 hg
    have HP := Lib.hid hps
    have HK := Lib.hid hkp
    have HA := Lib.hid hA
    clear hkp hA
    by_cases hlt : k < 6
    · have hkS : (k : Int) < 6 := by omega
      obtain ⟨h1, h2, h3, hy, hn⟩ := hrow.out k hlt
      have hcell := hps.at_ h1
      obtain ⟨m, hm⟩ : ∃ m, m = L.getD k [] := ⟨_, rfl⟩
      rw [← hm] at hcell h2 h3 hy hn
      clear hps hm h1
      have HC := HF.out m wr h2
      by_cases hlo : low m = low s
      · have HY := Lib.hid (hy hlo)
        rw [decide_eq_true hlo] at HC
        have HC' := Lib.hid HC
        clear hy hn hlo HC
        go_wp2_with (go_at_call 24; (with_reducible refine HC'.out.mono ?_); (rintro e w1 ⟨rfl, hb⟩))
        go_ret
        exact ⟨by rw [← HA.out, HY.out]; rfl, HK.out.step hb⟩
      · have HY := Lib.hid (hn hlo)
        rw [decide_eq_false hlo] at HC
        have HC' := Lib.hid HC
        clear hy hn hlo HC
        go_wp2_with (go_at_call 24; (with_reducible refine HC'.out.mono ?_); (rintro e w1 ⟨rfl, hb⟩))
        go_roundw
        case rel => exact ⟨k + 1, by omega, by go_num, HP.out.kept hb, HK.out.step hb, by rw [← HY.out]; exact HA.out⟩
        case measure => simp [intOf]; omega
    · have hkS : ¬ (k : Int) < 6 := by omega
      have hke : Hid (k = 6) := by show _ = _; omega
      clear hps
      go_wp2_with fail
      go_ret
      exact ⟨by rw [← HA.out, hke.out, hend.out]; rfl, HK.out⟩
end Go.Proofs.YtonchnmcklgpoaaDoor
