/-
  What transeptlaw09.TokenQuoted answers: true; nothing that was there turns. Condition: texts of at most 10000000 bytes.
-/
import Derived.Test.YtpkjebagpolfgaaDoorTi
namespace Go.Proofs.YtpkjebagpolfgaaDoor
open Go.RowKit
set_option linter.unusedVariables false

theorem pt_in (r : List UInt8) : ∀ (s cur : List UInt8), (∀ c ∈ s, c ≠ 34 ∧ c ≠ 92) → pt (s ++ r) 1 cur = pt r 1 (cur ++ s) := by
  intro s
  induction s with
  | nil => intro cur _; simp
  | cons c s ih =>
    intro cur h
    obtain ⟨h1, h2⟩ := h c List.mem_cons_self
    rw [List.cons_append, pt, if_neg h2, if_neg h1, ih _ fun x hx => h x (List.mem_cons_of_mem _ hx)]
    simp
theorem pt_out (r : List UInt8) : ∀ (s cur : List UInt8), (∀ c ∈ s, c ≠ 34 ∧ c ≠ 44) → pt (s ++ r) 0 cur = pt r 0 (cur ++ s) := by
  intro s
  induction s with
  | nil => intro cur _; simp
  | cons c s ih =>
    intro cur h
    obtain ⟨h1, h2⟩ := h c List.mem_cons_self
    rw [List.cons_append, pt, if_neg h1, if_neg h2, ih _ fun x hx => h x (List.mem_cons_of_mem _ hx)]
    simp
/-- A text in quotes. -/
def qd (s : List UInt8) : List UInt8 := 34 :: s ++ [34]
theorem qd_tg (s : List UInt8) : tg (qd s) = qd s := by
  refine tS_self _ _ (fun b hb => ?_) (fun b hb => ?_)
  · cases hb; decide
  · have e : (qd s)[(qd s).length - 1]? = some 34 := by simp [qd]
    rw [e] at hb
    cases hb
    decide
theorem prts_qd (s : List UInt8) (h : ∀ c ∈ s, c ≠ 34 ∧ c ≠ 92) : prts (qd s) = [qd s] := by
  unfold prts
  have e : qd s = 34 :: (s ++ [34]) := rfl
  rw [e, pt, if_pos rfl, pt_in [34] s _ h]
  simp only [pt, List.nil_append]
  rw [if_neg (by decide)]
  simp only [if_true]
  congr 1
  exact qd_tg s
theorem prts_open (s : List UInt8) (h : ∀ c ∈ s, c ≠ 34 ∧ c ≠ 92) : (prts (34 :: s)).length = 1 := by
  unfold prts
  rw [pt, if_pos rfl, ← List.append_nil s, pt_in [] s _ h]
  rfl
theorem prts_name (s n : List UInt8) (h : ∀ c ∈ s, c ≠ 34 ∧ c ≠ 92) (hn : nmb n = true) : prts (34 :: s ++ [34, 44] ++ n) = [qd s, n] := by
  unfold prts
  have e : (34 :: s ++ [34, 44] ++ n : List UInt8) = 34 :: (s ++ (34 :: 44 :: n)) := by simp
  rw [e, pt, if_pos rfl, pt_in _ s _ h, pt, if_neg (by decide), if_pos rfl, pt, if_neg (by decide), if_pos rfl]
  have e2 : n = n ++ [] := (List.append_nil n).symm
  rw [e2, pt_out [] n [] (fun c hc => ⟨(inN_facts c (nmb_mem hn c hc)).2.2.2.1, (inN_facts c (nmb_mem hn c hc)).2.2.2.2.1⟩), List.append_nil]
  simp only [pt, List.nil_append]
  rw [nmb_tg hn]
  congr 1
  exact qd_tg s
set_option maxHeartbeats 2000000 in
set_option maxRecDepth 100000 in
theorem quoted_any9 (s n : List UInt8) (w : World) (hs : s.length ≤ 10000000) (hn : n.length ≤ 10000000) : Calls Tryd.prog 9 #[.string (str s), .string (str n)] w fun e w' => e = .returned (.bool true) ∧ Below w.heap.size w w' := by
  have H0 : Hid (∀ w', Calls Tryd.prog 10 #[] w' fun e w2 => e = .returned (.bool true) ∧ Below w'.heap.size w' w2) := fun w' => shown_any w'
  have H11 : Hid (∀ w', Calls Tryd.prog 11 #[.string (str n)] w' fun e w2 => e = .returned (.bool (nmb n)) ∧ w2 = w') := fun w' => name_any n w' (by omega)
  have HQ : Hid ((∀ c ∈ s, c ≠ 34 ∧ c ≠ 92) → ∀ w', Calls Tryd.prog 25 #[.string (str (qd s))] w' fun e w2 => ∃ g c, e = .returned (.slice (some ⟨g, 0, none⟩) 1 c) ∧ 1 ≤ c ∧ Ps w2 g [qd s] ∧ Below w'.heap.size w' w2) := fun h w' => by
    have e := parts_any (qd s) w' (by simp [qd]; omega) (by rw [prts_qd s h]; simp)
    rw [prts_qd s h] at e
    exact e
  have HO : Hid ((∀ c ∈ s, c ≠ 34 ∧ c ≠ 92) → ∀ w', Calls Tryd.prog 25 #[.string (str (34 :: s))] w' fun e w2 => ∃ g c, e = .returned (.slice (some ⟨g, 0, none⟩) 1 c) ∧ 1 ≤ c ∧ Below w'.heap.size w' w2) := fun h w' => by
    have e := parts_any (34 :: s) w' (by simp; omega) (by rw [prts_open s h]; omega)
    rw [prts_open s h] at e
    exact e.mono fun e w2 hh => by
      obtain ⟨g, c, h1, h2, _, h4⟩ := hh
      exact ⟨g, c, h1, h2, h4⟩
  have HN1 : Hid ((∀ c ∈ s, c ≠ 34 ∧ c ≠ 92) → nmb n = true → ∀ w', Calls Tryd.prog 25 #[.string (str (34 :: s ++ [34, 44] ++ n))] w' fun e w2 => ∃ g c, e = .returned (.slice (some ⟨g, 0, none⟩) 2 c) ∧ 2 ≤ c ∧ Ps w2 g [qd s, n] ∧ Below w'.heap.size w' w2) := fun h h2 w' => by
    have e := parts_any (34 :: s ++ [34, 44] ++ n) w' (by simp; omega) (by rw [prts_name s n h h2]; simp)
    rw [prts_name s n h h2] at e
    exact e
  have HN0 : Hid (∀ w', Calls Tryd.prog 25 #[.string (str (34 :: s ++ [34, 44] ++ n))] w' fun e w2 => ∃ (g c k : Nat), e = .returned (.slice (some ⟨g, 0, none⟩) k c) ∧ Below w'.heap.size w' w2) := fun w' => by
    have e := parts_any (34 :: s ++ [34, 44] ++ n) w' (by simp; omega) (by have := pt_len (34 :: s ++ [34, 44] ++ n) 0 []; unfold prts; simp at this ⊢; omega)
    exact e.mono fun e w2 hh => by
      obtain ⟨g, c, h1, h2, _, h4⟩ := hh
      exact ⟨g, c, _, h1, h4⟩
  obtain ⟨Z1, hZ1⟩ : ∃ Z, Z = 34 :: s := ⟨_, rfl⟩
  obtain ⟨Z, hZ⟩ : ∃ Z, Z = qd s := ⟨_, rfl⟩
  obtain ⟨Z2, hZ2⟩ : ∃ Z, Z = 34 :: s ++ [34, 44] := ⟨_, rfl⟩
  obtain ⟨Z3, hZ3⟩ : ∃ Z, Z = 34 :: s ++ [34, 44] ++ n := ⟨_, rfl⟩
  have e1 : (⟨#[34]⟩ : ByteArray) ++ str s = str Z1 := by rw [hZ1]; exact str_add [34] s
  have e2 : str Z1 ++ (⟨#[34]⟩ : ByteArray) = str Z := by rw [hZ, hZ1]; exact str_add _ [34]
  have e3 : str Z1 ++ (⟨#[34, 44]⟩ : ByteArray) = str Z2 := by rw [hZ2, hZ1]; exact str_add _ [34, 44]
  have e4 : str Z2 ++ str n = str Z3 := by rw [hZ3, hZ2]; exact str_add _ _
  have q1 : ¬ (9223372036854775807 : Nat) < 1 + (str s).size := by rw [str_size]; omega
  have q2 : ¬ (9223372036854775807 : Nat) < (str Z1).size + 1 := by rw [str_size, hZ1]; simp; omega
  have q3 : ¬ (9223372036854775807 : Nat) < (str Z1).size + 2 := by rw [str_size, hZ1]; simp; omega
  have q4 : ¬ (9223372036854775807 : Nat) < (str Z2).size + (str n).size := by rw [str_size, str_size, hZ2]; simp; omega
  rw [← hZ] at HQ HN1
  rw [← hZ1] at HO
  rw [← hZ3] at HN1 HN0
  have hsz := str_size s
  have hgb : Hid (∀ k, k < s.length → ∀ h, ((str s)[k]'h).toNat = (s.getD k 0).toNat) := fun k hk h => str_at s k hk h
  have hall : Hid ((∀ k, k < s.length → s.getD k 0 ≠ 34 ∧ s.getD k 0 ≠ 92) → ∀ c ∈ s, c ≠ 34 ∧ c ≠ 92) := fun h c hc => by
    obtain ⟨k, hk, rfl⟩ := List.getElem_of_mem hc
    have := h k hk
    rw [List.getD_eq_getElem?_getD, List.getElem?_eq_getElem hk] at this
    exact this
  have hnq : ((str n).toList == (str n).toList) = true := by simp
  obtain ⟨S, hS⟩ : ∃ S, S = s.length := ⟨_, rfl⟩
  rw [← hS] at hsz hs hgb hall
  have q0 : ¬ (9223372036854775807 : Nat) < 1 + S := by omega
  clear hS hZ1 hZ hZ2 hZ3
  go_enter Tryd.func9, Tryd.ntmps9
  go_wp2_with (go_at_call 10; (with_reducible refine (H0.out _).mono ?_); (rintro e w1 ⟨rfl, hb⟩; have K1 := Lib.hid ((Kept.refl w).step hb); clear hb))
  go_loop [6] (fun i => ∃ k : Nat, k ≤ S ∧ i = .int .i64 (k : Int) ∧ ∀ j, j < k → s.getD j 0 ≠ 34 ∧ s.getD j 0 ≠ 92) (fun i => S - (intOf i).toNat)
  case atStart => exact ⟨0, by omega, rfl, fun j h => absurd h (by omega)⟩
  case round =>
    obtain ⟨k, hk, rfl, hA⟩ := hrel
    have HA := Lib.hid hA
    clear hA
    by_cases hlt : k < S
    · have hkS : (k : Int) < (S : Int) := by omega
      have HG := hgb.out k hlt
      obtain ⟨c, hc⟩ : ∃ c, c = s.getD k 0 := ⟨_, rfl⟩
      rw [← hc] at HG
      have i34 := uInj 34 34 rfl c
      have i92 := uInj 92 92 rfl c
      obtain ⟨b, hbb⟩ : ∃ b, b = c.toNat := ⟨_, rfl⟩
      rw [← hbb] at HG i34 i92
      have HC := Lib.hid hc
      clear hbb hc
      rcases (by omega : b = 34 ∨ b = 92 ∨ (b ≠ 34 ∧ b ≠ 92)) with h | h | h
      · have c0 : ((b : Int) == 34) = true := by simp; omega
        have c1 : ((b : Int) == 92) = false := by simp; omega
        clear h i34 i92
        go_wp2_with fail
        go_ret
        exact ⟨rfl, K1.out⟩
      · have c0 : ((b : Int) == 34) = false := by simp; omega
        have c1 : ((b : Int) == 92) = true := by simp; omega
        clear h i34 i92
        go_wp2_with fail
        go_ret
        exact ⟨rfl, K1.out⟩
      · have c0 : ((b : Int) == 34) = false := by simp; omega
        have c1 : ((b : Int) == 92) = false := by simp; omega
        have HX : Hid (c ≠ 34 ∧ c ≠ 92) := ⟨fun e => h.1 (i34.2 e), fun e => h.2 (i92.2 e)⟩
        clear h i34 i92
        go_wp2_with fail
        go_round
        case rel => exact ⟨k + 1, by omega, by go_num, fun j hj => by
          by_cases e : j = k
          · subst e; rw [← HC.out]; exact HX.out
          · exact HA.out j (by omega)⟩
        case measure => simp [intOf]; omega
    · have hkS : ¬ (k : Int) < (S : Int) := by omega
      have hgood : ∀ c ∈ s, c ≠ 34 ∧ c ≠ 92 := hall.out fun j hj => HA.out j (by omega)
      have HQ' := Lib.hid (HQ.out hgood)
      have HO' := Lib.hid (HO.out hgood)
      have HNg := Lib.hid (HN1.out hgood)
      clear hgood hlt HA
      have hzq : ((str Z).toList == (str Z).toList) = true := by simp
      have hzn : ((str Z).toList != (str Z).toList) = false := by simp
      cases hq : nmb n
      · rw [hq] at H11
        clear hq HNg HN1 HQ HO
        go_wp2_with (first
        | (go_at_call 11; (with_reducible refine (H11.out _).mono ?_); (rintro e wn ⟨rfl, hwn⟩; subst wn))
        | (go_at_call 25; (with_reducible refine (HQ'.out _).mono ?_); (rintro e w2 ⟨g1, d1, rfl, hd1, hps1, hb⟩; have K2 := Lib.hid (K1.out.step hb); have P1 := Lib.hid hps1; have D1 := Lib.hid hd1; have hcell := hps1.at_ (j := 0) rfl; clear hb hps1 hd1))
        | (go_at_call 25; (with_reducible refine (HO'.out _).mono ?_); (rintro e w3 ⟨g2, d2, rfl, hd2, hb⟩; have K3 := Lib.hid (K2.out.step hb); have P2 := Lib.hid (P1.out.kept hb); have hcell2 := P2.out.at_ (j := 0) rfl; clear hb hd2))
        | (go_at_call 25; (with_reducible refine (HN0.out _).mono ?_); (rintro e w4 ⟨g3, d3, k3, rfl, hb⟩; have K4 := Lib.hid (K3.out.step hb); have P3 := Lib.hid (P2.out.kept hb); clear hb)))
        refine wp_region_held_drew (S := fun W => Below w.heap.size w W) (by kernel_rfl) (Below.drew K4.out) (fun hS => ?_)
        refine wpAnyH_take (i := 0) (oi := ⟨some 61, _, _, _, _, _⟩) (v := ?va0) rfl (by kernel_rfl) (by kernel_rfl) (by kernel_rfl) (fun _ _ _ h => h) (Or.inl ⟨by rfl, ?ya0⟩) hS ?ra0
        case ya0 => intro W hW; go_simp; first | done | with_reducible rfl
        simp only [Act.put, List.setIfInBounds_toArray, List.set_cons_zero, List.set_cons_succ]
        refine wpAnyH_take (i := 1) (oi := ⟨some 62, _, _, _, _, _⟩) (v := ?va1) rfl (by kernel_rfl) (by kernel_rfl) (by kernel_rfl) (fun _ _ _ h => h) (Or.inl ⟨by rfl, ?ya1⟩) hS ?ra1
        case ya1 => intro W hW; go_simp; first | done | with_reducible rfl
        simp only [Act.put, List.setIfInBounds_toArray, List.set_cons_zero, List.set_cons_succ]
        refine wpAnyH_take (i := 2) (oi := ⟨some 63, _, _, _, _, _⟩) (v := ?va2) rfl (by kernel_rfl) (by kernel_rfl) (by kernel_rfl) (fun _ _ _ h => h) (Or.inl ⟨by rfl, ?ya2⟩) hS ?ra2
        case ya2 => intro W hW; go_simp; first | done | with_reducible rfl
        simp only [Act.put, List.setIfInBounds_toArray, List.set_cons_zero, List.set_cons_succ]
        refine wpAnyH_take (i := 3) (oi := ⟨some 64, _, _, _, _, _⟩) (v := ?va3) rfl (by kernel_rfl) (by kernel_rfl) (by kernel_rfl) (fun _ _ _ h => h) (Or.inl ⟨by rfl, ?ya3⟩) hS ?ra3
        case ya3 => intro W hW; go_simp; first | done | with_reducible rfl
        simp only [Act.put, List.setIfInBounds_toArray, List.set_cons_zero, List.set_cons_succ]
        refine wpAnyH_take (i := 4) (oi := ⟨some 65, _, _, _, _, _⟩) (v := ?va4) rfl (by kernel_rfl) (by kernel_rfl) (by kernel_rfl) (fun _ _ _ h => h) (Or.inl ⟨by rfl, ?ya4⟩) hS ?ra4
        case ya4 => intro W hW; go_simp; first | done | with_reducible rfl
        simp only [Act.put, List.setIfInBounds_toArray, List.set_cons_zero, List.set_cons_succ]
        refine wpAnyH_take (i := 5) (oi := ⟨some 66, _, _, _, _, _⟩) (v := undef) rfl (by kernel_rfl) (by kernel_rfl) (by kernel_rfl) (fun _ _ _ h => h) (Or.inr ⟨by rfl, rfl⟩) hS ?_
        simp only [Act.put, List.setIfInBounds_toArray, List.set_cons_zero, List.set_cons_succ]
        refine wpAnyH_take (i := 6) (oi := ⟨some 67, _, _, _, _, _⟩) (v := undef) rfl (by kernel_rfl) (by kernel_rfl) (by kernel_rfl) (fun _ _ _ h => h) (Or.inr ⟨by rfl, rfl⟩) hS ?_
        simp only [Act.put, List.setIfInBounds_toArray, List.set_cons_zero, List.set_cons_succ]
        refine wpAnyH_take (i := 7) (oi := ⟨some 68, _, _, _, _, _⟩) (v := undef) rfl (by kernel_rfl) (by kernel_rfl) (by kernel_rfl) (fun _ _ _ h => h) (Or.inr ⟨by rfl, rfl⟩) hS ?_
        simp only [Act.put, List.setIfInBounds_toArray, List.set_cons_zero, List.set_cons_succ]
        refine wpAnyH_take (i := 8) (oi := ⟨some 69, _, _, _, _, _⟩) (v := undef) rfl (by kernel_rfl) (by kernel_rfl) (by kernel_rfl) (fun _ _ _ h => h) (Or.inr ⟨by rfl, rfl⟩) hS ?_
        simp only [Act.put, List.setIfInBounds_toArray, List.set_cons_zero, List.set_cons_succ]
        refine wpAnyH_take (i := 9) (oi := ⟨some 70, _, _, _, _, _⟩) (v := undef) rfl (by kernel_rfl) (by kernel_rfl) (by kernel_rfl) (fun _ _ _ h => h) (Or.inr ⟨by rfl, rfl⟩) hS ?_
        simp only [Act.put, List.setIfInBounds_toArray, List.set_cons_zero, List.set_cons_succ]
        refine wpAnyH_take (i := 10) (oi := ⟨some 71, _, _, _, _, _⟩) (v := undef) rfl (by kernel_rfl) (by kernel_rfl) (by kernel_rfl) (fun _ _ _ h => h) (Or.inr ⟨by rfl, rfl⟩) hS ?_
        simp only [Act.put, List.setIfInBounds_toArray, List.set_cons_zero, List.set_cons_succ]
        refine wpAnyH_take (i := 11) (oi := ⟨some 72, _, _, _, _, _⟩) (v := undef) rfl (by kernel_rfl) (by kernel_rfl) (by kernel_rfl) (fun _ _ _ h => h) (Or.inr ⟨by rfl, rfl⟩) hS ?_
        simp only [Act.put, List.setIfInBounds_toArray, List.set_cons_zero, List.set_cons_succ]
        refine wpAnyH_take (i := 12) (oi := ⟨some 73, _, _, _, _, _⟩) (v := undef) rfl (by kernel_rfl) (by kernel_rfl) (by kernel_rfl) (fun _ _ _ h => h) (Or.inr ⟨by rfl, rfl⟩) hS ?_
        simp only [Act.put, List.setIfInBounds_toArray, List.set_cons_zero, List.set_cons_succ]
        refine wpAnyH_take (i := 13) (oi := ⟨some 74, _, _, _, _, _⟩) (v := undef) rfl (by kernel_rfl) (by kernel_rfl) (by kernel_rfl) (fun _ _ _ h => h) (Or.inr ⟨by rfl, rfl⟩) hS ?_
        simp only [Act.put, List.setIfInBounds_toArray, List.set_cons_zero, List.set_cons_succ]
        refine wpAnyH_take (i := 14) (oi := ⟨some 75, _, _, _, _, _⟩) (v := undef) rfl (by kernel_rfl) (by kernel_rfl) (by kernel_rfl) (fun _ _ _ h => h) (Or.inr ⟨by rfl, rfl⟩) hS ?_
        simp only [Act.put, List.setIfInBounds_toArray, List.set_cons_zero, List.set_cons_succ]
        refine wpAnyH_take (i := 15) (oi := ⟨some 76, _, _, _, _, _⟩) (v := undef) rfl (by kernel_rfl) (by kernel_rfl) (by kernel_rfl) (fun _ _ _ h => h) (Or.inr ⟨by rfl, rfl⟩) hS ?_
        simp only [Act.put, List.setIfInBounds_toArray, List.set_cons_zero, List.set_cons_succ]
        refine wpAnyH_take (i := 16) (oi := ⟨some 77, _, _, _, _, _⟩) (v := undef) rfl (by kernel_rfl) (by kernel_rfl) (by kernel_rfl) (fun _ _ _ h => h) (Or.inr ⟨by rfl, rfl⟩) hS ?_
        simp only [Act.put, List.setIfInBounds_toArray, List.set_cons_zero, List.set_cons_succ]
        refine wpAnyH_take (i := 17) (oi := ⟨some 78, _, _, _, _, _⟩) (v := undef) rfl (by kernel_rfl) (by kernel_rfl) (by kernel_rfl) (fun _ _ _ h => h) (Or.inr ⟨by rfl, rfl⟩) hS ?_
        simp only [Act.put, List.setIfInBounds_toArray, List.set_cons_zero, List.set_cons_succ]
        refine wpAnyH_take (i := 18) (oi := ⟨some 79, _, _, _, _, _⟩) (v := undef) rfl (by kernel_rfl) (by kernel_rfl) (by kernel_rfl) (fun _ _ _ h => h) (Or.inr ⟨by rfl, rfl⟩) hS ?_
        simp only [Act.put, List.setIfInBounds_toArray, List.set_cons_zero, List.set_cons_succ]
        refine wpAnyH_take (i := 19) (oi := ⟨some 80, _, _, _, _, _⟩) (v := undef) rfl (by kernel_rfl) (by kernel_rfl) (by kernel_rfl) (fun _ _ _ h => h) (Or.inr ⟨by rfl, rfl⟩) hS ?_
        simp only [Act.put, List.setIfInBounds_toArray, List.set_cons_zero, List.set_cons_succ]
        refine wpAnyH_take (i := 20) (oi := ⟨some 81, _, _, _, _, _⟩) (v := undef) rfl (by kernel_rfl) (by kernel_rfl) (by kernel_rfl) (fun _ _ _ h => h) (Or.inr ⟨by rfl, rfl⟩) hS ?_
        simp only [Act.put, List.setIfInBounds_toArray, List.set_cons_zero, List.set_cons_succ]
        refine wpAnyH_take (i := 21) (oi := ⟨some 82, _, _, _, _, _⟩) (v := undef) rfl (by kernel_rfl) (by kernel_rfl) (by kernel_rfl) (fun _ _ _ h => h) (Or.inr ⟨by rfl, rfl⟩) hS ?_
        simp only [Act.put, List.setIfInBounds_toArray, List.set_cons_zero, List.set_cons_succ]
        refine wpAnyH_take (i := 22) (oi := ⟨some 83, _, _, _, _, _⟩) (v := undef) rfl (by kernel_rfl) (by kernel_rfl) (by kernel_rfl) (fun _ _ _ h => h) (Or.inr ⟨by rfl, rfl⟩) hS ?_
        simp only [Act.put, List.setIfInBounds_toArray, List.set_cons_zero, List.set_cons_succ]
        refine wpAnyH_take (i := 23) (oi := ⟨some 84, _, _, _, _, _⟩) (v := undef) rfl (by kernel_rfl) (by kernel_rfl) (by kernel_rfl) (fun _ _ _ h => h) (Or.inr ⟨by rfl, rfl⟩) hS ?_
        simp only [Act.put, List.setIfInBounds_toArray, List.set_cons_zero, List.set_cons_succ]
        refine wpAnyH_take (i := 24) (oi := ⟨some 85, _, _, _, _, _⟩) (v := ?va24) rfl (by kernel_rfl) (by kernel_rfl) (by kernel_rfl) (fun _ _ _ h => h) (Or.inl ⟨by rfl, ?ya24⟩) hS ?ra24
        case ya24 => intro W hW; go_simp; first | done | with_reducible rfl
        simp only [Act.put, List.setIfInBounds_toArray, List.set_cons_zero, List.set_cons_succ]
        refine wpAnyH_take (i := 25) (oi := ⟨some 86, _, _, _, _, _⟩) (v := ?va25) rfl (by kernel_rfl) (by kernel_rfl) (by kernel_rfl) (fun _ _ _ h => h) (Or.inl ⟨by rfl, ?ya25⟩) hS ?ra25
        case ya25 => intro W hW; go_simp; first | done | with_reducible rfl
        simp only [Act.put, List.setIfInBounds_toArray, List.set_cons_zero, List.set_cons_succ]
        refine wpAnyH_take (i := 26) (oi := ⟨some 4, _, _, _, _, _⟩) (v := ?va26) rfl (by kernel_rfl) (by kernel_rfl) (by kernel_rfl) (fun _ _ _ h => h) (Or.inl ⟨by rfl, ?ya26⟩) hS ?ra26
        case ya26 => intro W hW; go_simp; first | done | with_reducible rfl
        simp only [Act.put, List.setIfInBounds_toArray, List.set_cons_zero, List.set_cons_succ]
        refine wpAnyH_done (by kernel_rfl) ?_ _
        go_wp2_with fail
        go_ret
        exact ⟨rfl, hS⟩
      · rw [hq] at H11
        have HN' := Lib.hid (HNg.out hq)
        clear hq HNg HN1 HQ HO HN0
        go_wp2_with (first
        | (go_at_call 11; (with_reducible refine (H11.out _).mono ?_); (rintro e wn ⟨rfl, hwn⟩; subst wn))
        | (go_at_call 25; (with_reducible refine (HQ'.out _).mono ?_); (rintro e w2 ⟨g1, d1, rfl, hd1, hps1, hb⟩; have K2 := Lib.hid (K1.out.step hb); have P1 := Lib.hid hps1; have D1 := Lib.hid hd1; have hcell := hps1.at_ (j := 0) rfl; clear hb hps1 hd1))
        | (go_at_call 25; (with_reducible refine (HO'.out _).mono ?_); (rintro e w3 ⟨g2, d2, rfl, hd2, hb⟩; have K3 := Lib.hid (K2.out.step hb); have P2 := Lib.hid (P1.out.kept hb); have hcell2 := P2.out.at_ (j := 0) rfl; clear hb hd2))
        | (go_at_call 25; (with_reducible refine (HN'.out _).mono ?_); (rintro e w4 ⟨g3, d3, rfl, hd3, hps3, hb⟩; have K4 := Lib.hid (K3.out.step hb); have P3 := Lib.hid (P2.out.kept hb); have hcell3 := P3.out.at_ (j := 0) rfl; have hcell4 := hps3.at_ (j := 0) rfl; have hcell5 := hps3.at_ (j := 1) rfl; clear hb hd3 hps3)))
        refine wp_region_held_drew (S := fun W => Below w.heap.size w W ∧ W.cell? ⟨g1, 0, none⟩ = some (.string (str Z)) ∧ W.cell? ⟨g3, 0, none⟩ = some (.string (str Z)) ∧ W.cell? ⟨g3, 1, none⟩ = some (.string (str n))) (by kernel_rfl) (⟨Below.drew K4.out, hcell3, hcell4, hcell5⟩) (fun hS => ?_)
        refine wpAnyH_take (i := 0) (oi := ⟨some 61, _, _, _, _, _⟩) (v := ?vb0) rfl (by kernel_rfl) (by kernel_rfl) (by kernel_rfl) (fun _ _ _ h => h) (Or.inl ⟨by rfl, ?yb0⟩) hS ?rb0
        case yb0 => intro W hW; go_simp; first | done | with_reducible rfl
        simp only [Act.put, List.setIfInBounds_toArray, List.set_cons_zero, List.set_cons_succ]
        refine wpAnyH_take (i := 1) (oi := ⟨some 62, _, _, _, _, _⟩) (v := ?vb1) rfl (by kernel_rfl) (by kernel_rfl) (by kernel_rfl) (fun _ _ _ h => h) (Or.inl ⟨by rfl, ?yb1⟩) hS ?rb1
        case yb1 => intro W hW; go_simp; first | done | with_reducible rfl
        simp only [Act.put, List.setIfInBounds_toArray, List.set_cons_zero, List.set_cons_succ]
        refine wpAnyH_take (i := 2) (oi := ⟨some 63, _, _, _, _, _⟩) (v := ?vb2) rfl (by kernel_rfl) (by kernel_rfl) (by kernel_rfl) (fun _ _ _ h => h) (Or.inl ⟨by rfl, ?yb2⟩) hS ?rb2
        case yb2 => intro W hW; go_simp; first | done | with_reducible rfl
        simp only [Act.put, List.setIfInBounds_toArray, List.set_cons_zero, List.set_cons_succ]
        refine wpAnyH_take (i := 3) (oi := ⟨some 64, _, _, _, _, _⟩) (v := ?vb3) rfl (by kernel_rfl) (by kernel_rfl) (by kernel_rfl) (fun _ _ _ h => h) (Or.inl ⟨by rfl, ?yb3⟩) hS ?rb3
        case yb3 => intro W hW; go_simp; first | done | with_reducible rfl
        simp only [Act.put, List.setIfInBounds_toArray, List.set_cons_zero, List.set_cons_succ]
        refine wpAnyH_take (i := 4) (oi := ⟨some 65, _, _, _, _, _⟩) (v := ?vb4) rfl (by kernel_rfl) (by kernel_rfl) (by kernel_rfl) (fun _ _ _ h => h) (Or.inl ⟨by rfl, ?yb4⟩) hS ?rb4
        case yb4 => intro W hW; go_simp; first | done | with_reducible rfl
        simp only [Act.put, List.setIfInBounds_toArray, List.set_cons_zero, List.set_cons_succ]
        refine wpAnyH_take (i := 5) (oi := ⟨some 66, _, _, _, _, _⟩) (v := ?vb5) rfl (by kernel_rfl) (by kernel_rfl) (by kernel_rfl) (fun _ _ _ h => h) (Or.inl ⟨by rfl, ?yb5⟩) hS ?rb5
        case yb5 => intro W hW; go_simp; first | done | with_reducible rfl
        simp only [Act.put, List.setIfInBounds_toArray, List.set_cons_zero, List.set_cons_succ]
        refine wpAnyH_take (i := 6) (oi := ⟨some 67, _, _, _, _, _⟩) (v := ?vb6) rfl (by kernel_rfl) (by kernel_rfl) (by kernel_rfl) (fun _ _ _ h => h) (Or.inl ⟨by rfl, ?yb6⟩) hS ?rb6
        case yb6 => intro W hW; go_simp; first | done | with_reducible rfl
        simp only [Act.put, List.setIfInBounds_toArray, List.set_cons_zero, List.set_cons_succ]
        refine wpAnyH_take (i := 7) (oi := ⟨some 68, _, _, _, _, _⟩) (v := ?vb7) rfl (by kernel_rfl) (by kernel_rfl) (by kernel_rfl) (fun _ _ _ h => h) (Or.inl ⟨by rfl, ?yb7⟩) hS ?rb7
        case yb7 => intro W hW; go_simp; first | done | with_reducible rfl
        simp only [Act.put, List.setIfInBounds_toArray, List.set_cons_zero, List.set_cons_succ]
        refine wpAnyH_take (i := 8) (oi := ⟨some 69, _, _, _, _, _⟩) (v := ?vb8) rfl (by kernel_rfl) (by kernel_rfl) (by kernel_rfl) (fun _ _ _ h => h) (Or.inl ⟨by rfl, ?yb8⟩) hS ?rb8
        case yb8 => intro W hW; go_simp; first | done | with_reducible rfl
        simp only [Act.put, List.setIfInBounds_toArray, List.set_cons_zero, List.set_cons_succ]
        refine wpAnyH_take (i := 9) (oi := ⟨some 70, _, _, _, _, _⟩) (v := ?vb9) rfl (by kernel_rfl) (by kernel_rfl) (by kernel_rfl) (fun _ _ _ h => h) (Or.inl ⟨by rfl, ?yb9⟩) hS ?rb9
        case yb9 => intro W hW; go_simp; first | done | with_reducible rfl
        simp only [Act.put, List.setIfInBounds_toArray, List.set_cons_zero, List.set_cons_succ]
        refine wpAnyH_take (i := 10) (oi := ⟨some 71, _, _, _, _, _⟩) (v := ?vb10) rfl (by kernel_rfl) (by kernel_rfl) (by kernel_rfl) (fun _ _ _ h => h) (Or.inl ⟨by rfl, ?yb10⟩) hS ?rb10
        case yb10 => intro W hW; go_simp; first | done | with_reducible rfl
        simp only [Act.put, List.setIfInBounds_toArray, List.set_cons_zero, List.set_cons_succ]
        refine wpAnyH_take (i := 11) (oi := ⟨some 72, _, _, _, _, _⟩) (v := ?vb11) rfl (by kernel_rfl) (by kernel_rfl) (by kernel_rfl) (fun _ _ _ h => h) (Or.inl ⟨by rfl, ?yb11⟩) hS ?rb11
        case yb11 => intro W hW; obtain ⟨_, z1, z2, z3⟩ := hW; go_simp; first | done | with_reducible rfl
        simp only [Act.put, List.setIfInBounds_toArray, List.set_cons_zero, List.set_cons_succ]
        refine wpAnyH_take (i := 12) (oi := ⟨some 73, _, _, _, _, _⟩) (v := ?vb12) rfl (by kernel_rfl) (by kernel_rfl) (by kernel_rfl) (fun _ _ _ h => h) (Or.inl ⟨by rfl, ?yb12⟩) hS ?rb12
        case yb12 => intro W hW; go_simp; first | done | with_reducible rfl
        simp only [Act.put, List.setIfInBounds_toArray, List.set_cons_zero, List.set_cons_succ]
        refine wpAnyH_take (i := 13) (oi := ⟨some 74, _, _, _, _, _⟩) (v := ?vb13) rfl (by kernel_rfl) (by kernel_rfl) (by kernel_rfl) (fun _ _ _ h => h) (Or.inl ⟨by rfl, ?yb13⟩) hS ?rb13
        case yb13 => intro W hW; go_simp; first | done | with_reducible rfl
        simp only [Act.put, List.setIfInBounds_toArray, List.set_cons_zero, List.set_cons_succ]
        refine wpAnyH_take (i := 14) (oi := ⟨some 75, _, _, _, _, _⟩) (v := ?vb14) rfl (by kernel_rfl) (by kernel_rfl) (by kernel_rfl) (fun _ _ _ h => h) (Or.inl ⟨by rfl, ?yb14⟩) hS ?rb14
        case yb14 => intro W hW; obtain ⟨_, z1, z2, z3⟩ := hW; go_simp; first | done | with_reducible rfl
        simp only [Act.put, List.setIfInBounds_toArray, List.set_cons_zero, List.set_cons_succ]
        refine wpAnyH_take (i := 15) (oi := ⟨some 76, _, _, _, _, _⟩) (v := ?vb15) rfl (by kernel_rfl) (by kernel_rfl) (by kernel_rfl) (fun _ _ _ h => h) (Or.inl ⟨by rfl, ?yb15⟩) hS ?rb15
        case yb15 => intro W hW; go_simp; first | done | with_reducible rfl
        simp only [Act.put, List.setIfInBounds_toArray, List.set_cons_zero, List.set_cons_succ]
        refine wpAnyH_take (i := 16) (oi := ⟨some 77, _, _, _, _, _⟩) (v := ?vb16) rfl (by kernel_rfl) (by kernel_rfl) (by kernel_rfl) (fun _ _ _ h => h) (Or.inl ⟨by rfl, ?yb16⟩) hS ?rb16
        case yb16 => intro W hW; go_simp; first | done | with_reducible rfl
        simp only [Act.put, List.setIfInBounds_toArray, List.set_cons_zero, List.set_cons_succ]
        refine wpAnyH_take (i := 17) (oi := ⟨some 78, _, _, _, _, _⟩) (v := ?vb17) rfl (by kernel_rfl) (by kernel_rfl) (by kernel_rfl) (fun _ _ _ h => h) (Or.inl ⟨by rfl, ?yb17⟩) hS ?rb17
        case yb17 => intro W hW; go_simp; first | done | with_reducible rfl
        simp only [Act.put, List.setIfInBounds_toArray, List.set_cons_zero, List.set_cons_succ]
        refine wpAnyH_take (i := 18) (oi := ⟨some 79, _, _, _, _, _⟩) (v := ?vb18) rfl (by kernel_rfl) (by kernel_rfl) (by kernel_rfl) (fun _ _ _ h => h) (Or.inl ⟨by rfl, ?yb18⟩) hS ?rb18
        case yb18 => intro W hW; go_simp; first | done | with_reducible rfl
        simp only [Act.put, List.setIfInBounds_toArray, List.set_cons_zero, List.set_cons_succ]
        refine wpAnyH_take (i := 19) (oi := ⟨some 80, _, _, _, _, _⟩) (v := ?vb19) rfl (by kernel_rfl) (by kernel_rfl) (by kernel_rfl) (fun _ _ _ h => h) (Or.inl ⟨by rfl, ?yb19⟩) hS ?rb19
        case yb19 => intro W hW; go_simp; first | done | with_reducible rfl
        simp only [Act.put, List.setIfInBounds_toArray, List.set_cons_zero, List.set_cons_succ]
        refine wpAnyH_take (i := 20) (oi := ⟨some 81, _, _, _, _, _⟩) (v := ?vb20) rfl (by kernel_rfl) (by kernel_rfl) (by kernel_rfl) (fun _ _ _ h => h) (Or.inl ⟨by rfl, ?yb20⟩) hS ?rb20
        case yb20 => intro W hW; obtain ⟨_, z1, z2, z3⟩ := hW; go_simp; first | done | with_reducible rfl
        simp only [Act.put, List.setIfInBounds_toArray, List.set_cons_zero, List.set_cons_succ]
        refine wpAnyH_take (i := 21) (oi := ⟨some 82, _, _, _, _, _⟩) (v := ?vb21) rfl (by kernel_rfl) (by kernel_rfl) (by kernel_rfl) (fun _ _ _ h => h) (Or.inl ⟨by rfl, ?yb21⟩) hS ?rb21
        case yb21 => intro W hW; go_simp; first | done | with_reducible rfl
        simp only [Act.put, List.setIfInBounds_toArray, List.set_cons_zero, List.set_cons_succ]
        refine wpAnyH_take (i := 22) (oi := ⟨some 83, _, _, _, _, _⟩) (v := ?vb22) rfl (by kernel_rfl) (by kernel_rfl) (by kernel_rfl) (fun _ _ _ h => h) (Or.inl ⟨by rfl, ?yb22⟩) hS ?rb22
        case yb22 => intro W hW; go_simp; first | done | with_reducible rfl
        simp only [Act.put, List.setIfInBounds_toArray, List.set_cons_zero, List.set_cons_succ]
        refine wpAnyH_take (i := 23) (oi := ⟨some 84, _, _, _, _, _⟩) (v := ?vb23) rfl (by kernel_rfl) (by kernel_rfl) (by kernel_rfl) (fun _ _ _ h => h) (Or.inl ⟨by rfl, ?yb23⟩) hS ?rb23
        case yb23 => intro W hW; go_simp; first | done | with_reducible rfl
        simp only [Act.put, List.setIfInBounds_toArray, List.set_cons_zero, List.set_cons_succ]
        refine wpAnyH_take (i := 24) (oi := ⟨some 85, _, _, _, _, _⟩) (v := ?vb24) rfl (by kernel_rfl) (by kernel_rfl) (by kernel_rfl) (fun _ _ _ h => h) (Or.inl ⟨by rfl, ?yb24⟩) hS ?rb24
        case yb24 => intro W hW; go_simp; first | done | with_reducible rfl
        simp only [Act.put, List.setIfInBounds_toArray, List.set_cons_zero, List.set_cons_succ]
        refine wpAnyH_take (i := 25) (oi := ⟨some 86, _, _, _, _, _⟩) (v := ?vb25) rfl (by kernel_rfl) (by kernel_rfl) (by kernel_rfl) (fun _ _ _ h => h) (Or.inl ⟨by rfl, ?yb25⟩) hS ?rb25
        case yb25 => intro W hW; go_simp; first | done | with_reducible rfl
        simp only [Act.put, List.setIfInBounds_toArray, List.set_cons_zero, List.set_cons_succ]
        refine wpAnyH_take (i := 26) (oi := ⟨some 4, _, _, _, _, _⟩) (v := ?vb26) rfl (by kernel_rfl) (by kernel_rfl) (by kernel_rfl) (fun _ _ _ h => h) (Or.inl ⟨by rfl, ?yb26⟩) hS ?rb26
        case yb26 => intro W hW; go_simp; first | done | with_reducible rfl
        simp only [Act.put, List.setIfInBounds_toArray, List.set_cons_zero, List.set_cons_succ]
        refine wpAnyH_done (by kernel_rfl) ?_ _
        go_wp2_with fail
        go_ret
        exact ⟨rfl, hS.1⟩
end Go.Proofs.YtpkjebagpolfgaaDoor
