/-
  What transeptlaw10.FieldOrder answers: true; nothing that was there turns. Condition: texts of at most 1048576 bytes.
-/
import Derived.Test.YtbkblimpolkllaaFj
namespace Go.Proofs.Ytbkblimpolkllaa
open Go.RowKit
set_option linter.unusedVariables false

theorem jn_two (a b : List (List UInt8)) : jn (a ++ b) = if a ≠ [] ∧ b ≠ [] then jn a ++ ([44, 32] ++ jn b) else jn a ++ jn b := by
  split
  · rename_i h
    rw [jn_app a b h.1 h.2, List.append_assoc]
  · rename_i h
    cases a with
    | nil => rfl
    | cons x r => cases b with
      | nil => simp [jn_nil]
      | cons y t => exact absurd ⟨by simp, by simp⟩ h
set_option maxHeartbeats 4000000 in
set_option maxRecDepth 100000 in
theorem order_any (fs gs : List (List UInt8 × List UInt8)) (A B : Option Addr) (n m c d : Nat) (nm : List UInt8) (w : World) (hf : Fs w w.heap.size A n fs) (hg : Fs w w.heap.size B m gs) (hc : n ≤ c) (hd : m ≤ d) (hc2 : c ≤ 9223372036854775807) (hd2 : d ≤ 9223372036854775807)
    (hN : ∀ f ∈ fs, f.1.length ≤ 1048576 ∧ f.2.length ≤ 1048576) (hM : ∀ f ∈ gs, f.1.length ≤ 1048576 ∧ f.2.length ≤ 1048576) (hnm : nm.length ≤ 1048576) : Calls Try.prog 5 #[.slice A n c, .slice B m d, .string (str nm)] w fun e w' => e = .returned (.bool true) ∧ Below w.heap.size w w' := by
  have HS : Hid (∀ w', Calls Try.prog 7 #[] w' fun e w2 => e = .returned (.bool true) ∧ Below w'.heap.size w' w2) := fun w' => shown_any w'
  obtain ⟨k, hk, hkn, hk50⟩ : ∃ k : Nat, min (n : Int) 50 = (k : Int) ∧ k ≤ n ∧ k ≤ 50 := ⟨min n 50, by omega, by omega, by omega⟩
  obtain ⟨j, hj, hjm, hj50⟩ : ∃ j : Nat, min (m : Int) 50 = (j : Int) ∧ j ≤ m ∧ j ≤ 50 := ⟨min m 50, by omega, by omega, by omega⟩
  have hkc : (k : Int) ≤ (c : Int) := by omega
  have hjd : (j : Int) ≤ (d : Int) := by omega
  obtain ⟨L, hL1⟩ : ∃ L, L = (fs.take k).take 100 := ⟨_, rfl⟩
  obtain ⟨M, hL2⟩ : ∃ M, M = (gs.take j).take 100 := ⟨_, rfl⟩
  have hLl : L.length ≤ 50 := by rw [hL1, List.length_take, List.length_take]; omega
  have hMl : M.length ≤ 50 := by rw [hL2, List.length_take, List.length_take]; omega
  have hLN : ∀ f ∈ L, f.1.length ≤ 1048576 ∧ f.2.length ≤ 1048576 := fun f h => hN f (List.mem_of_mem_take (List.mem_of_mem_take (hL1 ▸ h)))
  have hMN : ∀ f ∈ M, f.1.length ≤ 1048576 ∧ f.2.length ≤ 1048576 := fun f h => hM f (List.mem_of_mem_take (List.mem_of_mem_take (hL2 ▸ h)))
  have up : ∀ {Z : List (List UInt8 × List UInt8)}, (∀ f ∈ Z, f.1.length ≤ 1048576 ∧ f.2.length ≤ 1048576) → ∀ f ∈ Z, f.1.length ≤ 9223372036854775807 ∧ f.2.length ≤ 9223372036854775807 := fun h f hf => ⟨by have := (h f hf).1; omega, by have := (h f hf).2; omega⟩
  have hLMN : ∀ f ∈ L ++ M, f.1.length ≤ 1048576 ∧ f.2.length ≤ 1048576 := fun f h => (List.mem_append.1 h).elim (hLN f) (hMN f)
  obtain ⟨l1, hl1⟩ : ∃ l, l = ((fs.take k).take 100).length := ⟨_, rfl⟩
  obtain ⟨l2, hl2⟩ : ∃ l, l = ((gs.take j).take 100).length := ⟨_, rfl⟩
  have hLl1 : L.length = l1 := by rw [hl1, hL1]
  have hMl2 : M.length = l2 := by rw [hl2, hL2]
  have HFew1 : Hid (∀ W, Below w.heap.size w W → Calls Try.prog 10 #[.slice A k c] W fun e w2 => ∃ A' c', e = .returned (.slice A' l1 c') ∧ l1 ≤ c' ∧ c' ≤ 9223372036854775807 ∧ Fs w2 w2.heap.size A' l1 L ∧ Below W.heap.size W w2) := fun W hb => by
    have h := few_any (fs.take k) A k c W (by omega) (by omega) ((hf.take k hkn).kept hb)
    rw [← hl1, ← hL1] at h
    exact h
  have HFew2 : Hid (∀ W, Below w.heap.size w W → Calls Try.prog 10 #[.slice B j d] W fun e w2 => ∃ A' c', e = .returned (.slice A' l2 c') ∧ l2 ≤ c' ∧ c' ≤ 9223372036854775807 ∧ Fs w2 w2.heap.size A' l2 M ∧ Below W.heap.size W w2) := fun W hb => by
    have h := few_any (gs.take j) B j d W (by omega) (by omega) ((hg.take j hjm).kept hb)
    rw [← hl2, ← hL2] at h
    exact h
  obtain ⟨nml, hnml⟩ : ∃ x, x = low nm := ⟨_, rfl⟩
  have HLow : Hid (∀ W, Calls Try.prog 14 #[.string (str nm)] W fun e w2 => e = .returned (.string (str nml)) ∧ Below W.heap.size W w2) := fun W => by rw [hnml]; exact lower_any nm W (by omega)
  obtain ⟨X1, hX1⟩ : ∃ X, X = jn (vals L nm) := ⟨_, rfl⟩
  obtain ⟨X2, hX2⟩ : ∃ X, X = jn (vals M nm) := ⟨_, rfl⟩
  obtain ⟨X3, hX3⟩ : ∃ X, X = jn (vals (L ++ M) nm) := ⟨_, rfl⟩
  obtain ⟨b1, hb1⟩ : ∃ b, b = decide (vals L nm ≠ []) := ⟨_, rfl⟩
  obtain ⟨b2, hb2⟩ : ∃ b, b = decide (vals M nm ≠ []) := ⟨_, rfl⟩
  have HGet1 : Hid (∀ W A' c', Fs W W.heap.size A' l1 L → Calls Try.prog 12 #[.slice A' l1 c', .string (str nm)] W fun e w2 => e = .returned (.tuple #[.string (str X1), .bool b1]) ∧ Below W.heap.size W w2) := fun W A' c' hF => by
    have h := get_any L A' c' nm W (by omega) (by rw [hLl1]; exact hF) (up hLN) (by omega) (Nat.le_trans (jn_size L nm 1048576 (by omega) hLN) (by decide))
    rw [hLl1, ← hX1, ← hb1] at h
    exact h
  have HGet2 : Hid (∀ W A' c', Fs W W.heap.size A' l2 M → Calls Try.prog 12 #[.slice A' l2 c', .string (str nml)] W fun e w2 => e = .returned (.tuple #[.string (str X2), .bool b2]) ∧ Below W.heap.size W w2) := fun W A' c' hF => by
    have h := get_any M A' c' nml W (by omega) (by rw [hMl2]; exact hF) (up hMN) (by rw [hnml, low_length]; omega) (Nat.le_trans (jn_size M nml 1048576 (by omega) hMN) (by decide))
    rw [hMl2, hnml, vals_low, ← hnml, ← hX2, ← hb2] at h
    exact h
  have hb3 : decide (vals (L ++ M) nm ≠ []) = (b1 || b2) := by
    rw [hb1, hb2, vals_app]
    cases vals L nm <;> cases vals M nm <;> rfl
  have HGet3 : Hid (∀ W A' c', Fs W W.heap.size A' (l1 + l2) (L ++ M) → Calls Try.prog 12 #[.slice A' (l1 + l2) c', .string (str nm)] W fun e w2 => e = .returned (.tuple #[.string (str X3), .bool (b1 || b2)]) ∧ Below W.heap.size W w2) := fun W A' c' hF => by
    have h := get_any (L ++ M) A' c' nm W (by rw [List.length_append]; omega) (by rw [List.length_append, hLl1, hMl2]; exact hF) (up hLMN) (by omega) (Nat.le_trans (jn_size (L ++ M) nm 1048576 (by rw [List.length_append]; omega) hLMN) (by decide))
    rw [List.length_append, hLl1, hMl2, ← hX3, hb3] at h
    exact h
  have hX12 : X3 = if b1 = true ∧ b2 = true then X1 ++ ([44, 32] ++ X2) else X1 ++ X2 := by
    rw [hX3, vals_app, jn_two, hX1, hX2, hb1, hb2]
    simp only [decide_eq_true_eq]
  have hs1 : X1.length ≤ 106954956 := by rw [hX1]; exact Nat.le_trans (jn_size L nm 1048576 (by omega) hLN) (by decide)
  have hs2 : X2.length ≤ 106954956 := by rw [hX2]; exact Nat.le_trans (jn_size M nm 1048576 (by omega) hMN) (by decide)
  obtain ⟨Y1, hY1⟩ : ∃ Y, Y = X1 ++ X2 := ⟨_, rfl⟩
  obtain ⟨Y2, hY2⟩ : ∃ Y, Y = X1 ++ [44, 32] := ⟨_, rfl⟩
  have e1 : str X1 ++ str X2 = str Y1 := by rw [hY1]; exact str_add _ _
  have q1 : ¬ (9223372036854775807 : Nat) < (str X1).size + (str X2).size := by rw [str_size, str_size]; omega
  have e2 : str X1 ++ (⟨#[44, 32]⟩ : ByteArray) = str Y2 := by rw [hY2]; exact str_add _ [44, 32]
  have q2 : ¬ (9223372036854775807 : Nat) < (str X1).size + 2 := by rw [str_size]; omega
  have q3 : ¬ (9223372036854775807 : Nat) < (str Y2).size + (str X2).size := by rw [str_size, str_size, hY2]; simp; omega
  have HE : Hid (X3 = if b1 = true ∧ b2 = true then Y2 ++ X2 else Y1) := by
    show _ = _
    rw [hX12, hY1, hY2]
    simp only [List.append_assoc]
  have hl50 : Hid (l1 ≤ 50 ∧ l2 ≤ 50) := ⟨by omega, by omega⟩
  clear hN hM hnm hf hg hL1 hL2 hLl hMl hLN hMN up hLMN hl1 hl2 hLl1 hMl2 hnml hX1 hX2 hX3 hb1 hb2 hb3 hX12 hs1 hs2 hY1 hY2 hc hd hc2 hd2 hkn hk50 hjm hj50
  cases b1 <;> cases b2
  · have hX : X3 = Y1 := HE.out
    subst hX
    have hq : ((str X3).toList == (str X3).toList) = true := by simp
    clear HE
    go_enter Try.func5, Try.ntmps5
    go_wp2_with (first
      | (go_at_call 7; (with_reducible refine (HS.out _).mono ?_); (rintro e w1 ⟨rfl, hb⟩); have HB1 := Lib.hid hb; clear hb)
      | (go_at_call 10; (with_reducible refine (HFew1.out _ HB1.out).mono ?_); (rintro e w2 ⟨A1, c1, rfl, hc1, hcm1, hf1, hb⟩); have HB2 := Lib.hid (HB1.out.trans (hb.mono HB1.out.size)); have HF1 := Lib.hid hf1; clear hb hf1 hc1 hcm1)
      | (go_at_call 10; (with_reducible refine (HFew2.out _ HB2.out).mono ?_); (rintro e w3 ⟨A2, c2, rfl, hc1, hcm1, hf1, hb⟩); have HB3 := Lib.hid (HB2.out.trans (hb.mono HB2.out.size)); have HF2 := Lib.hid hf1; have HF13 := Lib.hid (HF1.out.kept hb); clear hb hf1 hc1 hcm1)
      | (go_at_call 12; (with_reducible refine (HGet1.out _ _ _ HF13.out).mono ?_); (rintro e w4 ⟨rfl, hb⟩); have HB4 := Lib.hid (HB3.out.trans (hb.mono HB3.out.size)); have HF24 := Lib.hid (HF2.out.kept hb); have HF14 := Lib.hid (HF13.out.kept hb); clear hb)
      | (go_at_call 14; (with_reducible refine (HLow.out _).mono ?_); (rintro e w5 ⟨rfl, hb⟩); have HB5 := Lib.hid (HB4.out.trans (hb.mono HB4.out.size)); have HF25 := Lib.hid (HF24.out.kept hb); have HF15 := Lib.hid (HF14.out.kept hb); clear hb)
      | (go_at_call 12; (with_reducible refine (HGet2.out _ _ _ HF25.out).mono ?_); (rintro e w6 ⟨rfl, hb⟩); have HB6 := Lib.hid (HB5.out.trans (hb.mono HB5.out.size)); have HF26 := Lib.hid (HF25.out.kept hb); have HF16 := Lib.hid (HF15.out.kept hb); clear hb)
      | ((with_reducible show wpList _ _ _ (⟨some 44, .call _, _, _, _, _⟩ :: _) _ _); refine wp_appF _ rfl _ _ 26 31 rfl Try.underlying26 fd_info w6.heap.size _ 0 [] rfl (ownF_made 31 w6 w6.heap.size (Nat.le_refl _)) w6.heap.size A1 l1 c1 L rfl (HF16.out.below ((Below.refl _ w6).alloc (Nat.le_refl _) _)) (by have := hl50.out; omega) (by simp) l1 (Nat.zero_add _) ?_; intro A7 c7 w7 hc7 hcm7 hown7 hb7 hgr7; simp only [Act.put, List.setIfInBounds_toArray, List.set_cons_zero, List.set_cons_succ]; have HB7 := Lib.hid (((Below.refl _ w6).alloc (Nat.le_refl _) _).trans hb7); have HO7 := Lib.hid hown7; have HF27 := Lib.hid (HF26.out.below HB7.out); clear hc7 hcm7 hown7 hb7 hgr7)
      | ((with_reducible show wpList _ _ _ (⟨some 46, .call _, _, _, _, _⟩ :: _) _ _); refine wp_appF _ rfl _ _ 26 31 rfl Try.underlying26 fd_info w6.heap.size _ l1 L rfl HO7.out w6.heap.size A2 l2 c2 M rfl HF27.out (by have := hl50.out; omega) HB7.out.size (l1 + l2) rfl ?_; intro A8 c8 w8 hc7 hcm7 hown7 hb7 hgr7; simp only [Act.put, List.setIfInBounds_toArray, List.set_cons_zero, List.set_cons_succ]; have HB8 := Lib.hid (HB7.out.trans hb7); obtain ⟨A9, c9, he9, _, _, hf9⟩ := hown7.form; cases he9; have HF38 := Lib.hid hf9; clear hc7 hcm7 hown7 hb7 hgr7 hf9)
      | (go_at_call 12; (with_reducible refine (HGet3.out _ _ _ HF38.out).mono ?_); (rintro e w9 ⟨rfl, hb⟩); have HB9 := Lib.hid (HB6.out.trans ((HB8.out.trans (hb.mono HB8.out.size)).mono HB6.out.size)); clear hb))
    go_ret
    exact ⟨rfl, HB9.out⟩
  · have hX : X3 = Y1 := HE.out
    subst hX
    have hq : ((str X3).toList == (str X3).toList) = true := by simp
    clear HE
    go_enter Try.func5, Try.ntmps5
    go_wp2_with (first
      | (go_at_call 7; (with_reducible refine (HS.out _).mono ?_); (rintro e w1 ⟨rfl, hb⟩); have HB1 := Lib.hid hb; clear hb)
      | (go_at_call 10; (with_reducible refine (HFew1.out _ HB1.out).mono ?_); (rintro e w2 ⟨A1, c1, rfl, hc1, hcm1, hf1, hb⟩); have HB2 := Lib.hid (HB1.out.trans (hb.mono HB1.out.size)); have HF1 := Lib.hid hf1; clear hb hf1 hc1 hcm1)
      | (go_at_call 10; (with_reducible refine (HFew2.out _ HB2.out).mono ?_); (rintro e w3 ⟨A2, c2, rfl, hc1, hcm1, hf1, hb⟩); have HB3 := Lib.hid (HB2.out.trans (hb.mono HB2.out.size)); have HF2 := Lib.hid hf1; have HF13 := Lib.hid (HF1.out.kept hb); clear hb hf1 hc1 hcm1)
      | (go_at_call 12; (with_reducible refine (HGet1.out _ _ _ HF13.out).mono ?_); (rintro e w4 ⟨rfl, hb⟩); have HB4 := Lib.hid (HB3.out.trans (hb.mono HB3.out.size)); have HF24 := Lib.hid (HF2.out.kept hb); have HF14 := Lib.hid (HF13.out.kept hb); clear hb)
      | (go_at_call 14; (with_reducible refine (HLow.out _).mono ?_); (rintro e w5 ⟨rfl, hb⟩); have HB5 := Lib.hid (HB4.out.trans (hb.mono HB4.out.size)); have HF25 := Lib.hid (HF24.out.kept hb); have HF15 := Lib.hid (HF14.out.kept hb); clear hb)
      | (go_at_call 12; (with_reducible refine (HGet2.out _ _ _ HF25.out).mono ?_); (rintro e w6 ⟨rfl, hb⟩); have HB6 := Lib.hid (HB5.out.trans (hb.mono HB5.out.size)); have HF26 := Lib.hid (HF25.out.kept hb); have HF16 := Lib.hid (HF15.out.kept hb); clear hb)
      | ((with_reducible show wpList _ _ _ (⟨some 44, .call _, _, _, _, _⟩ :: _) _ _); refine wp_appF _ rfl _ _ 26 31 rfl Try.underlying26 fd_info w6.heap.size _ 0 [] rfl (ownF_made 31 w6 w6.heap.size (Nat.le_refl _)) w6.heap.size A1 l1 c1 L rfl (HF16.out.below ((Below.refl _ w6).alloc (Nat.le_refl _) _)) (by have := hl50.out; omega) (by simp) l1 (Nat.zero_add _) ?_; intro A7 c7 w7 hc7 hcm7 hown7 hb7 hgr7; simp only [Act.put, List.setIfInBounds_toArray, List.set_cons_zero, List.set_cons_succ]; have HB7 := Lib.hid (((Below.refl _ w6).alloc (Nat.le_refl _) _).trans hb7); have HO7 := Lib.hid hown7; have HF27 := Lib.hid (HF26.out.below HB7.out); clear hc7 hcm7 hown7 hb7 hgr7)
      | ((with_reducible show wpList _ _ _ (⟨some 46, .call _, _, _, _, _⟩ :: _) _ _); refine wp_appF _ rfl _ _ 26 31 rfl Try.underlying26 fd_info w6.heap.size _ l1 L rfl HO7.out w6.heap.size A2 l2 c2 M rfl HF27.out (by have := hl50.out; omega) HB7.out.size (l1 + l2) rfl ?_; intro A8 c8 w8 hc7 hcm7 hown7 hb7 hgr7; simp only [Act.put, List.setIfInBounds_toArray, List.set_cons_zero, List.set_cons_succ]; have HB8 := Lib.hid (HB7.out.trans hb7); obtain ⟨A9, c9, he9, _, _, hf9⟩ := hown7.form; cases he9; have HF38 := Lib.hid hf9; clear hc7 hcm7 hown7 hb7 hgr7 hf9)
      | (go_at_call 12; (with_reducible refine (HGet3.out _ _ _ HF38.out).mono ?_); (rintro e w9 ⟨rfl, hb⟩); have HB9 := Lib.hid (HB6.out.trans ((HB8.out.trans (hb.mono HB8.out.size)).mono HB6.out.size)); clear hb))
    go_ret
    exact ⟨rfl, HB9.out⟩
  · have hX : X3 = Y1 := HE.out
    subst hX
    have hq : ((str X3).toList == (str X3).toList) = true := by simp
    clear HE
    go_enter Try.func5, Try.ntmps5
    go_wp2_with (first
      | (go_at_call 7; (with_reducible refine (HS.out _).mono ?_); (rintro e w1 ⟨rfl, hb⟩); have HB1 := Lib.hid hb; clear hb)
      | (go_at_call 10; (with_reducible refine (HFew1.out _ HB1.out).mono ?_); (rintro e w2 ⟨A1, c1, rfl, hc1, hcm1, hf1, hb⟩); have HB2 := Lib.hid (HB1.out.trans (hb.mono HB1.out.size)); have HF1 := Lib.hid hf1; clear hb hf1 hc1 hcm1)
      | (go_at_call 10; (with_reducible refine (HFew2.out _ HB2.out).mono ?_); (rintro e w3 ⟨A2, c2, rfl, hc1, hcm1, hf1, hb⟩); have HB3 := Lib.hid (HB2.out.trans (hb.mono HB2.out.size)); have HF2 := Lib.hid hf1; have HF13 := Lib.hid (HF1.out.kept hb); clear hb hf1 hc1 hcm1)
      | (go_at_call 12; (with_reducible refine (HGet1.out _ _ _ HF13.out).mono ?_); (rintro e w4 ⟨rfl, hb⟩); have HB4 := Lib.hid (HB3.out.trans (hb.mono HB3.out.size)); have HF24 := Lib.hid (HF2.out.kept hb); have HF14 := Lib.hid (HF13.out.kept hb); clear hb)
      | (go_at_call 14; (with_reducible refine (HLow.out _).mono ?_); (rintro e w5 ⟨rfl, hb⟩); have HB5 := Lib.hid (HB4.out.trans (hb.mono HB4.out.size)); have HF25 := Lib.hid (HF24.out.kept hb); have HF15 := Lib.hid (HF14.out.kept hb); clear hb)
      | (go_at_call 12; (with_reducible refine (HGet2.out _ _ _ HF25.out).mono ?_); (rintro e w6 ⟨rfl, hb⟩); have HB6 := Lib.hid (HB5.out.trans (hb.mono HB5.out.size)); have HF26 := Lib.hid (HF25.out.kept hb); have HF16 := Lib.hid (HF15.out.kept hb); clear hb)
      | ((with_reducible show wpList _ _ _ (⟨some 44, .call _, _, _, _, _⟩ :: _) _ _); refine wp_appF _ rfl _ _ 26 31 rfl Try.underlying26 fd_info w6.heap.size _ 0 [] rfl (ownF_made 31 w6 w6.heap.size (Nat.le_refl _)) w6.heap.size A1 l1 c1 L rfl (HF16.out.below ((Below.refl _ w6).alloc (Nat.le_refl _) _)) (by have := hl50.out; omega) (by simp) l1 (Nat.zero_add _) ?_; intro A7 c7 w7 hc7 hcm7 hown7 hb7 hgr7; simp only [Act.put, List.setIfInBounds_toArray, List.set_cons_zero, List.set_cons_succ]; have HB7 := Lib.hid (((Below.refl _ w6).alloc (Nat.le_refl _) _).trans hb7); have HO7 := Lib.hid hown7; have HF27 := Lib.hid (HF26.out.below HB7.out); clear hc7 hcm7 hown7 hb7 hgr7)
      | ((with_reducible show wpList _ _ _ (⟨some 46, .call _, _, _, _, _⟩ :: _) _ _); refine wp_appF _ rfl _ _ 26 31 rfl Try.underlying26 fd_info w6.heap.size _ l1 L rfl HO7.out w6.heap.size A2 l2 c2 M rfl HF27.out (by have := hl50.out; omega) HB7.out.size (l1 + l2) rfl ?_; intro A8 c8 w8 hc7 hcm7 hown7 hb7 hgr7; simp only [Act.put, List.setIfInBounds_toArray, List.set_cons_zero, List.set_cons_succ]; have HB8 := Lib.hid (HB7.out.trans hb7); obtain ⟨A9, c9, he9, _, _, hf9⟩ := hown7.form; cases he9; have HF38 := Lib.hid hf9; clear hc7 hcm7 hown7 hb7 hgr7 hf9)
      | (go_at_call 12; (with_reducible refine (HGet3.out _ _ _ HF38.out).mono ?_); (rintro e w9 ⟨rfl, hb⟩); have HB9 := Lib.hid (HB6.out.trans ((HB8.out.trans (hb.mono HB8.out.size)).mono HB6.out.size)); clear hb))
    go_ret
    exact ⟨rfl, HB9.out⟩
  · have hX : X3 = Y2 ++ X2 := HE.out
    have e3 : str Y2 ++ str X2 = str X3 := by rw [hX]; exact str_add _ _
    have hq : ((str X3).toList == (str X3).toList) = true := by simp
    clear hX
    clear HE
    go_enter Try.func5, Try.ntmps5
    go_wp2_with (first
      | (go_at_call 7; (with_reducible refine (HS.out _).mono ?_); (rintro e w1 ⟨rfl, hb⟩); have HB1 := Lib.hid hb; clear hb)
      | (go_at_call 10; (with_reducible refine (HFew1.out _ HB1.out).mono ?_); (rintro e w2 ⟨A1, c1, rfl, hc1, hcm1, hf1, hb⟩); have HB2 := Lib.hid (HB1.out.trans (hb.mono HB1.out.size)); have HF1 := Lib.hid hf1; clear hb hf1 hc1 hcm1)
      | (go_at_call 10; (with_reducible refine (HFew2.out _ HB2.out).mono ?_); (rintro e w3 ⟨A2, c2, rfl, hc1, hcm1, hf1, hb⟩); have HB3 := Lib.hid (HB2.out.trans (hb.mono HB2.out.size)); have HF2 := Lib.hid hf1; have HF13 := Lib.hid (HF1.out.kept hb); clear hb hf1 hc1 hcm1)
      | (go_at_call 12; (with_reducible refine (HGet1.out _ _ _ HF13.out).mono ?_); (rintro e w4 ⟨rfl, hb⟩); have HB4 := Lib.hid (HB3.out.trans (hb.mono HB3.out.size)); have HF24 := Lib.hid (HF2.out.kept hb); have HF14 := Lib.hid (HF13.out.kept hb); clear hb)
      | (go_at_call 14; (with_reducible refine (HLow.out _).mono ?_); (rintro e w5 ⟨rfl, hb⟩); have HB5 := Lib.hid (HB4.out.trans (hb.mono HB4.out.size)); have HF25 := Lib.hid (HF24.out.kept hb); have HF15 := Lib.hid (HF14.out.kept hb); clear hb)
      | (go_at_call 12; (with_reducible refine (HGet2.out _ _ _ HF25.out).mono ?_); (rintro e w6 ⟨rfl, hb⟩); have HB6 := Lib.hid (HB5.out.trans (hb.mono HB5.out.size)); have HF26 := Lib.hid (HF25.out.kept hb); have HF16 := Lib.hid (HF15.out.kept hb); clear hb)
      | ((with_reducible show wpList _ _ _ (⟨some 44, .call _, _, _, _, _⟩ :: _) _ _); refine wp_appF _ rfl _ _ 26 31 rfl Try.underlying26 fd_info w6.heap.size _ 0 [] rfl (ownF_made 31 w6 w6.heap.size (Nat.le_refl _)) w6.heap.size A1 l1 c1 L rfl (HF16.out.below ((Below.refl _ w6).alloc (Nat.le_refl _) _)) (by have := hl50.out; omega) (by simp) l1 (Nat.zero_add _) ?_; intro A7 c7 w7 hc7 hcm7 hown7 hb7 hgr7; simp only [Act.put, List.setIfInBounds_toArray, List.set_cons_zero, List.set_cons_succ]; have HB7 := Lib.hid (((Below.refl _ w6).alloc (Nat.le_refl _) _).trans hb7); have HO7 := Lib.hid hown7; have HF27 := Lib.hid (HF26.out.below HB7.out); clear hc7 hcm7 hown7 hb7 hgr7)
      | ((with_reducible show wpList _ _ _ (⟨some 46, .call _, _, _, _, _⟩ :: _) _ _); refine wp_appF _ rfl _ _ 26 31 rfl Try.underlying26 fd_info w6.heap.size _ l1 L rfl HO7.out w6.heap.size A2 l2 c2 M rfl HF27.out (by have := hl50.out; omega) HB7.out.size (l1 + l2) rfl ?_; intro A8 c8 w8 hc7 hcm7 hown7 hb7 hgr7; simp only [Act.put, List.setIfInBounds_toArray, List.set_cons_zero, List.set_cons_succ]; have HB8 := Lib.hid (HB7.out.trans hb7); obtain ⟨A9, c9, he9, _, _, hf9⟩ := hown7.form; cases he9; have HF38 := Lib.hid hf9; clear hc7 hcm7 hown7 hb7 hgr7 hf9)
      | (go_at_call 12; (with_reducible refine (HGet3.out _ _ _ HF38.out).mono ?_); (rintro e w9 ⟨rfl, hb⟩); have HB9 := Lib.hid (HB6.out.trans ((HB8.out.trans (hb.mono HB8.out.size)).mono HB6.out.size)); clear hb))
    go_ret
    exact ⟨rfl, HB9.out⟩
end Go.Proofs.Ytbkblimpolkllaa
