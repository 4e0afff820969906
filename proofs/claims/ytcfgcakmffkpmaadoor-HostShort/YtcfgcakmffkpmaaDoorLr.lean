/-
  What host.longestRow answers; nothing that was there turns. Condition: eight pieces.
-/
import Derived.Test.YtcfgcakmffkpmaaDoorSixw
namespace Go.Proofs.YtcfgcakmffkpmaaDoor
open Go.RowKit

/-- The longest row of noughts, from place i on: where it begins and ends. -/
def lr (i st fr to mo : Nat) : List Nat → Nat × Nat
  | [] => (fr, to)
  | n :: r => if n ≠ 0 then lr (i + 1) (i + 1) fr to mo r else if mo < i + 1 - st then lr (i + 1) st st (i + 1) (i + 1 - st) r else lr (i + 1) st fr to mo r
def longest (a : List Nat) : Nat × Nat := lr 0 0 8 8 1 a

theorem lr_le : ∀ (l : List Nat) (i st fr to mo : Nat), i + l.length = 8 → st ≤ i → fr ≤ to → to ≤ 8 → (lr i st fr to mo l).1 ≤ (lr i st fr to mo l).2 ∧ (lr i st fr to mo l).2 ≤ 8
  | [], _, _, _, _, _, _, _, h1, h2 => ⟨h1, h2⟩
  | n :: r, i, st, fr, to, mo, hl, hs, h1, h2 => by
    simp only [List.length_cons] at hl
    rw [lr]
    split
    · exact lr_le r _ _ _ _ _ (by omega) (by omega) h1 h2
    · split
      · exact lr_le r _ _ _ _ _ (by omega) (by omega) (by omega) (by omega)
      · exact lr_le r _ _ _ _ _ (by omega) (by omega) h1 h2
theorem longest_le (a : List Nat) (h : a.length = 8) : (longest a).1 ≤ (longest a).2 ∧ (longest a).2 ≤ 8 := lr_le a 0 0 8 8 1 (by omega) (by omega) (by omega) (by omega)

set_option maxHeartbeats 8000000 in
set_option maxRecDepth 100000 in
theorem longest_any (a : List Nat) (ha : a.length = 8) (w : World) : Calls Tryd.prog 48 #[.agg (vhs a).toArray] w fun e w' => e = .returned (.tuple #[.int .i64 ((longest a).1 : Int), .int .i64 ((longest a).2 : Int)]) ∧ Below w.heap.size w w' := by
  have hR : Hid (longest a = lr 0 0 8 8 1 a) := rfl
  obtain ⟨R, hR'⟩ : ∃ R, R = longest a := ⟨_, rfl⟩
  rw [← hR'] at hR ⊢
  clear hR'
  have hs38 := Lib.hid (size38' a ha)
  have hget : Hid (∀ k, k < 8 → (vhs a)[k]? = some (.int .u16 ((a.getD k 0 : Nat) : Int))) := fun k hk => vhs_at a k (by omega)
  have HA := Lib.hid ha
  clear ha
  go_enter Tryd.func48, Tryd.ntmps48
  go_wp2_with (first
    | ((with_reducible show wpList _ _ _ (⟨some 1, .box _ _, _, _, _, _⟩ :: _) _ _); refine wp_box _ rfl 38 _ rfl (vhs a) rfl ?_; intro w1 g1 B1 F1; simp only [Act.put, List.setIfInBounds_toArray, List.set_cons_zero, List.set_cons_succ])
    | ((with_reducible show wpList _ _ _ (⟨some 11, .load 38 _, _, _, _, _⟩ :: _) _ _); refine wp_get _ rfl 38 (.tmp 1) rfl g1 0 (vhs a) _ rfl B1.whole Tryd.underlying38 rfl hs38.out ?_; simp only [Act.put, List.setIfInBounds_toArray, List.set_cons_zero, List.set_cons_succ]))
  have HF := Lib.hid F1.below
  clear F1 B1
  go_loop [12, 4, 5, 6, 7] (fun i x y z s => ∃ (k fr to mo st : Nat), k ≤ 8 ∧ fr ≤ 8 ∧ to ≤ 8 ∧ mo ≤ 8 ∧ st ≤ k ∧ i = .int .i64 (k : Int) ∧ x = .int .i64 (fr : Int) ∧ y = .int .i64 (to : Int) ∧ z = .int .i64 (mo : Int) ∧ s = .int .i64 (st : Int) ∧ lr k st fr to mo (a.drop k) = R) (fun i _ _ _ _ => 8 - (intOf i).toNat)
  case atStart => exact ⟨0, 8, 8, 1, 0, by omega, by omega, by omega, by omega, by omega, rfl, rfl, rfl, rfl, rfl, hR.out.symm⟩
  case round =>
    obtain ⟨k, fr, to, mo, st, hk, hfr, hto, hmo, hst, rfl, rfl, rfl, rfl, rfl, hL⟩ := hrel
    by_cases hlt : k < 8
    · have hki : (k : Int) < 8 := by omega
      have hg := hget.out k hlt
      have hdrop : a.drop k = a.getD k 0 :: a.drop (k + 1) := by
        have hk' : k < a.length := by rw [HA.out]; exact hlt
        rw [List.drop_eq_getElem_cons hk']
        simp [List.getD, List.getElem?_eq_getElem hk']
      obtain ⟨n, hn⟩ : ∃ n, n = a.getD k 0 := ⟨_, rfl⟩
      rw [← hn] at hg hdrop
      rw [hdrop, lr] at hL
      have HG := Lib.hid hg
      clear hn hdrop hg
      by_cases hn0 : n = 0
      · have hnb : ((n : Int) != 0) = false := by simp [hn0]
        rw [if_neg (by simp [hn0])] at hL
        obtain ⟨d, hd⟩ : ∃ d, d = k + 1 - st := ⟨_, rfl⟩
        have hdi : (k : Int) + 1 - (st : Int) = (d : Int) := by omega
        rw [← hd] at hL
        have hd8 : d ≤ 8 := by omega
        have HD := Lib.hid hd
        clear hd hn0
        by_cases hm : mo < d
        · have hmi : (mo : Int) < (d : Int) := by omega
          rw [if_pos hm] at hL
          have HL := Lib.hid hL
          clear hL
          go_wp2_with (first
            | ((with_reducible show wpList _ _ _ (⟨some 15, .index _ _ _, _, _, _, _⟩ :: _) _ _); refine wp_index _ rfl 38 _ _ rfl 8 37 _ Tryd.underlying38 Tryd.underlying37 rfl size37 (vhs a) rfl k rfl hlt _ HG.out ?_; simp only [Act.put, List.setIfInBounds_toArray, List.set_cons_zero, List.set_cons_succ]))
          go_round
          case rel => exact ⟨k + 1, st, k + 1, d, st, by omega, by omega, by omega, by omega, by omega, by go_num, rfl, by go_num, rfl, rfl, HL.out⟩
          case measure => simp [intOf]; omega
        · have hmi : ¬ (mo : Int) < (d : Int) := by omega
          rw [if_neg hm] at hL
          have HL := Lib.hid hL
          clear hL
          go_wp2_with (first
            | ((with_reducible show wpList _ _ _ (⟨some 15, .index _ _ _, _, _, _, _⟩ :: _) _ _); refine wp_index _ rfl 38 _ _ rfl 8 37 _ Tryd.underlying38 Tryd.underlying37 rfl size37 (vhs a) rfl k rfl hlt _ HG.out ?_; simp only [Act.put, List.setIfInBounds_toArray, List.set_cons_zero, List.set_cons_succ]))
          go_round
          case rel => exact ⟨k + 1, fr, to, mo, st, by omega, by omega, by omega, by omega, by omega, by go_num, rfl, rfl, rfl, rfl, HL.out⟩
          case measure => simp [intOf]; omega
      · have hnb : ((n : Int) != 0) = true := by simp; omega
        rw [if_pos (by simpa using hn0)] at hL
        have HL := Lib.hid hL
        clear hL hn0
        go_wp2_with (first
          | ((with_reducible show wpList _ _ _ (⟨some 15, .index _ _ _, _, _, _, _⟩ :: _) _ _); refine wp_index _ rfl 38 _ _ rfl 8 37 _ Tryd.underlying38 Tryd.underlying37 rfl size37 (vhs a) rfl k rfl hlt _ HG.out ?_; simp only [Act.put, List.setIfInBounds_toArray, List.set_cons_zero, List.set_cons_succ]))
        go_round
        case rel => exact ⟨k + 1, fr, to, mo, k + 1, by omega, by omega, by omega, by omega, by omega, by go_num, rfl, rfl, rfl, by go_num, HL.out⟩
        case measure => simp [intOf]; omega
    · have hk' : Hid (k = 8) := by show k = 8; omega
      have hki : ¬ (k : Int) < 8 := by omega
      clear hk hlt
      have HL := Lib.hid hL
      clear hL
      go_wp2_with fail
      go_ret2
      have h1 := HL.out
      rw [hk'.out, List.drop_eq_nil_of_le (by rw [HA.out]; omega)] at h1
      rw [← h1]
      exact ⟨rfl, HF.out⟩
end Go.Proofs.YtcfgcakmffkpmaaDoor
