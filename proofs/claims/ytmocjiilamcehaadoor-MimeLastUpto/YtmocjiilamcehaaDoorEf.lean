/-
  What transeptlaw11.MimeOwn, MimeNames, MimeTells answer: true; nothing that was there turns. Conditions on sizes.
-/
import Derived.Test.YtmocjiilamcehaaDoorEe
namespace Go.Proofs.YtmocjiilamcehaaDoor
open Go.RowKit
set_option linter.unusedVariables false

theorem esS_len (l : List UInt8) : (esS l).length ≤ l.length + 1 := by
  have h := es_len l
  cases e : esB l
  · rw [esS_no e]; simp
  · rw [esS_yes e]
    simp only [List.length_append, low_length, List.length_singleton]
    omega
set_option maxHeartbeats 4000000 in
set_option maxRecDepth 100000 in
theorem own_any (S M : List UInt8) (w : World) (hS : S.length ≤ 140737488351232) (hM : M.length ≤ 140737488351232) : Calls Tryd.prog 4 #[.string (str S), .string (str M)] w fun e w' => e = .returned (.bool true) ∧ Below w.heap.size w w' := by
  have HS : Hid (∀ w', Calls Tryd.prog 7 #[] w' fun e w2 => e = .returned (.bool true) ∧ Below w'.heap.size w' w2) := fun w' => shown_any w'
  have hz0 := esS_len S
  cases hb : esB S
  · have H1 : Hid (∀ w', Calls Tryd.prog 8 #[.string (str S)] w' fun e w2 => e = .returned (.tuple #[.string ⟨#[]⟩, .bool false]) ∧ Below w'.heap.size w' w2) := fun w' => by
      have h := ess_any S w' (by omega)
      rw [esS_no hb, hb] at h
      exact h
    clear hb hz0 hS hM
    go_enter Tryd.func4, Tryd.ntmps4
    go_wp2_with (first
      | (go_at_call 7; (with_reducible refine (HS.out _).mono ?_); (rintro e w1 ⟨rfl, hb⟩); have HZ1 := Lib.hid hb; clear hb)
      | (go_at_call 8; (with_reducible refine (H1.out _).mono ?_); (rintro e w2 ⟨rfl, hb⟩); have HZ2 := Lib.hid (HZ1.out.trans (hb.mono HZ1.out.size)); clear hb))
    go_ret
    exact ⟨rfl, HZ2.out⟩
  · obtain ⟨o1, o2, o3⟩ := es_own hb
    obtain ⟨r1, r2⟩ := es_around hb M
    have H1 : Hid (∀ w', Calls Tryd.prog 8 #[.string (str S)] w' fun e w2 => e = .returned (.tuple #[.string (str (esS S)), .bool true]) ∧ Below w'.heap.size w' w2) := fun w' => by
      have h := ess_any S w' (by omega)
      rw [hb] at h
      exact h
    have H2 : Hid (∀ w', Calls Tryd.prog 8 #[.string (str (esS S))] w' fun e w2 => e = .returned (.tuple #[.string (str (esS S)), .bool true]) ∧ Below w'.heap.size w' w2) := fun w' => by
      have h := ess_any (esS S) w' (by omega)
      rw [o1, o2] at h
      exact h
    have H3 : Hid (∀ w', Calls Tryd.prog 8 #[.string (str ([32, 9] ++ esS S ++ [32, 59] ++ M))] w' fun e w2 => e = .returned (.tuple #[.string (str (esS S)), .bool true]) ∧ Below w'.heap.size w' w2) := fun w' => by
      have h := ess_any ([32, 9] ++ esS S ++ [32, 59] ++ M) w' (by simp only [List.length_append, List.length_cons, List.length_nil]; omega)
      rw [r1, r2] at h
      exact h
    have H4 : Hid (∀ w', Calls Tryd.prog 13 #[.string (str (esS S))] w' fun e w2 => e = .returned (.string (str (esS S))) ∧ Below w'.heap.size w' w2) := fun w' => by
      have h : Calls Tryd.prog 13 #[.string (str (esS S))] w' fun e w2 => e = .returned (.string (str (low (esS S)))) ∧ Below w'.heap.size w' w2 := lower_any (esS S) w' (by omega)
      rw [o3] at h
      exact h
    clear o1 o2 o3 r1 r2 hb
    generalize esS S = Z at *
    obtain ⟨Z1, e1⟩ : ∃ V, V = [32, 9] ++ Z := ⟨_, rfl⟩
    obtain ⟨Z2, e2⟩ : ∃ V, V = Z1 ++ [32, 59] := ⟨_, rfl⟩
    obtain ⟨Z3, e3⟩ : ∃ V, V = Z2 ++ M := ⟨_, rfl⟩
    have l1 : Z1.length = Z.length + 2 := by rw [e1, List.length_append]; simp; omega
    have l2 : Z2.length = Z.length + 4 := by rw [e2, List.length_append, l1]; rfl
    rw [← e1, ← e2, ← e3] at H3
    have q1 : (⟨#[32, 9]⟩ : ByteArray) ++ str Z = str Z1 := by rw [e1]; exact str_add [32, 9] Z
    have p1 : ¬ 9223372036854775807 < 2 + (str Z).size := by rw [str_size]; omega
    have q2 : str Z1 ++ ⟨#[32, 59]⟩ = str Z2 := by rw [e2]; exact str_add Z1 [32, 59]
    have p2 : ¬ 9223372036854775807 < (str Z1).size + 2 := by rw [str_size]; omega
    have q3 : str Z2 ++ str M = str Z3 := by rw [e3]; exact str_add Z2 M
    have p3 : ¬ 9223372036854775807 < (str Z2).size + (str M).size := by rw [str_size, str_size]; omega
    have hq : ((str Z).toList == (str Z).toList) = true := by simp
    clear e1 e2 e3 l1 l2 hz0 hS hM
    go_enter Tryd.func4, Tryd.ntmps4
    go_wp2_with (first
      | (go_at_call 7; (with_reducible refine (HS.out _).mono ?_); (rintro e w1 ⟨rfl, hb⟩); have HZ1 := Lib.hid hb; clear hb)
      | (go_at_call 8; (with_reducible refine (H1.out _).mono ?_); (rintro e w2 ⟨rfl, hb⟩); have HZ2 := Lib.hid (HZ1.out.trans (hb.mono HZ1.out.size)); clear hb; clear H1)
      | (go_at_call 8; (with_reducible refine (H2.out _).mono ?_); (rintro e w3 ⟨rfl, hb⟩); have HZ3 := Lib.hid (HZ2.out.trans (hb.mono HZ2.out.size)); clear hb; clear H2)
      | (go_at_call 8; (with_reducible refine (H3.out _).mono ?_); (rintro e w4 ⟨rfl, hb⟩); have HZ4 := Lib.hid (HZ3.out.trans (hb.mono HZ3.out.size)); clear hb; clear H3)
      | (go_at_call 13; (with_reducible refine (H4.out _).mono ?_); (rintro e w5 ⟨rfl, hb⟩); have HZ5 := Lib.hid (HZ4.out.trans (hb.mono HZ4.out.size)); clear hb))
    go_ret
    exact ⟨rfl, HZ5.out⟩
set_option maxHeartbeats 8000000 in
set_option maxRecDepth 100000 in
theorem names_any (X Y M : List UInt8) (w : World) (hX : X.length ≤ 140737488351232) (hY : Y.length ≤ 140737488351232) (hM : M.length ≤ 140737488351232) : Calls Tryd.prog 6 #[.string (str X), .string (str Y), .string (str M)] w fun e w' => e = .returned (.bool true) ∧ Below w.heap.size w w' := by
  have HS : Hid (∀ w', Calls Tryd.prog 7 #[] w' fun e w2 => e = .returned (.bool true) ∧ Below w'.heap.size w' w2) := fun w' => shown_any w'
  have HN1 : Hid (∀ w', Calls Tryd.prog 15 #[.string (str X)] w' fun e w2 => e = .returned (.bool (nmb X)) ∧ w2 = w') := fun w' => name_any X w' (by omega)
  have HN2 : Hid (∀ w', Calls Tryd.prog 15 #[.string (str Y)] w' fun e w2 => e = .returned (.bool (nmb Y)) ∧ w2 = w') := fun w' => name_any Y w' (by omega)
  cases hx : nmb X
  · rw [hx] at HN1
    generalize nmb Y = n2 at *
    clear hx hX hY hM
    go_enter Tryd.func6, Tryd.ntmps6
    go_wp2_with (first
      | (go_at_call 7; (with_reducible refine (HS.out _).mono ?_); (rintro e w1 ⟨rfl, hb⟩); have HZ1 := Lib.hid hb; clear hb)
      | (go_at_call 15; (with_reducible refine (HN1.out _).mono ?_); (rintro e w2 ⟨rfl, hq1⟩); subst w2; clear HN1)
      | (go_at_call 15; (with_reducible refine (HN2.out _).mono ?_); (rintro e w3 ⟨rfl, hq2⟩); subst w3; clear HN2))
    go_ret
    exact ⟨rfl, HZ1.out⟩
  · cases hy : nmb Y
    · rw [hx] at HN1
      rw [hy] at HN2
      clear hx hy hX hY hM
      go_enter Tryd.func6, Tryd.ntmps6
      go_wp2_with (first
      | (go_at_call 7; (with_reducible refine (HS.out _).mono ?_); (rintro e w1 ⟨rfl, hb⟩); have HZ1 := Lib.hid hb; clear hb)
      | (go_at_call 15; (with_reducible refine (HN1.out _).mono ?_); (rintro e w2 ⟨rfl, hq1⟩); subst w2; clear HN1)
      | (go_at_call 15; (with_reducible refine (HN2.out _).mono ?_); (rintro e w3 ⟨rfl, hq2⟩); subst w3; clear HN2))
      go_ret
      exact ⟨rfl, HZ1.out⟩
    · rw [hx] at HN1
      rw [hy] at HN2
      have e0 : X ++ [47] ++ Y ++ [59] ++ M = [] ++ (X ++ [47] ++ Y) ++ [] ++ 59 :: M := by simp
      obtain ⟨k1, k2⟩ := es_wide [] X Y [] M hx hy (by simp) (by simp)
      rw [← e0] at k1 k2
      have H1 : Hid (∀ w', Calls Tryd.prog 8 #[.string (str (X ++ [47] ++ Y ++ [59] ++ M))] w' fun e w2 => e = .returned (.tuple #[.string (str (low X ++ [47] ++ low Y)), .bool true]) ∧ Below w'.heap.size w' w2) := fun w' => by
        have h := ess_any (X ++ [47] ++ Y ++ [59] ++ M) w' (by simp only [List.length_append, List.length_cons, List.length_nil]; omega)
        rw [k1, k2] at h
        exact h
      have H2 : Hid (∀ w', Calls Tryd.prog 8 #[.string (str (X ++ [32, 47] ++ Y))] w' fun e w2 => e = .returned (.tuple #[.string ⟨#[]⟩, .bool false]) ∧ Below w'.heap.size w' w2) := fun w' => by
        have h := ess_any (X ++ [32, 47] ++ Y) w' (by simp only [List.length_append, List.length_cons, List.length_nil]; omega)
        rw [es_ahead X Y hx hy, esS_no (es_ahead X Y hx hy)] at h
        exact h
      have H3 : Hid (∀ w', Calls Tryd.prog 8 #[.string (str (X ++ [47, 32] ++ Y))] w' fun e w2 => e = .returned (.tuple #[.string ⟨#[]⟩, .bool false]) ∧ Below w'.heap.size w' w2) := fun w' => by
        have h := ess_any (X ++ [47, 32] ++ Y) w' (by simp only [List.length_append, List.length_cons, List.length_nil]; omega)
        rw [es_behind X Y hx hy, esS_no (es_behind X Y hx hy)] at h
        exact h
      have H4 : Hid (∀ w', Calls Tryd.prog 8 #[.string (str (X ++ [47] ++ Y ++ [47] ++ Y))] w' fun e w2 => e = .returned (.tuple #[.string ⟨#[]⟩, .bool false]) ∧ Below w'.heap.size w' w2) := fun w' => by
        have h := ess_any (X ++ [47] ++ Y ++ [47] ++ Y) w' (by simp only [List.length_append, List.length_cons, List.length_nil]; omega)
        rw [es_again X Y hx hy, esS_no (es_again X Y hx hy)] at h
        exact h
      have H5 : Hid (∀ w', Calls Tryd.prog 8 #[.string (str (X ++ Y))] w' fun e w2 => e = .returned (.tuple #[.string ⟨#[]⟩, .bool false]) ∧ Below w'.heap.size w' w2) := fun w' => by
        have h := ess_any (X ++ Y) w' (by rw [List.length_append]; omega)
        rw [es_none X Y hx hy, esS_no (es_none X Y hx hy)] at h
        exact h
      have K1 : Hid (∀ w', Calls Tryd.prog 13 #[.string (str X)] w' fun e w2 => e = .returned (.string (str (low X))) ∧ Below w'.heap.size w' w2) := fun w' => lower_any X w' (by omega)
      have K2 : Hid (∀ w', Calls Tryd.prog 13 #[.string (str Y)] w' fun e w2 => e = .returned (.string (str (low Y))) ∧ Below w'.heap.size w' w2) := fun w' => lower_any Y w' (by omega)
      have lx := low_length X
      have ly := low_length Y
      clear e0 k1 k2 hx hy
      generalize low X = LX at *
      generalize low Y = LY at *
      obtain ⟨A1, e1⟩ : ∃ V, V = X ++ [47] := ⟨_, rfl⟩
      obtain ⟨A2, e2⟩ : ∃ V, V = A1 ++ Y := ⟨_, rfl⟩
      obtain ⟨A3, e3⟩ : ∃ V, V = A2 ++ [59] := ⟨_, rfl⟩
      obtain ⟨A4, e4⟩ : ∃ V, V = A3 ++ M := ⟨_, rfl⟩
      obtain ⟨C1, f1⟩ : ∃ V, V = X ++ [32, 47] := ⟨_, rfl⟩
      obtain ⟨C2, f2⟩ : ∃ V, V = C1 ++ Y := ⟨_, rfl⟩
      obtain ⟨D1, g1⟩ : ∃ V, V = X ++ [47, 32] := ⟨_, rfl⟩
      obtain ⟨D2, g2⟩ : ∃ V, V = D1 ++ Y := ⟨_, rfl⟩
      obtain ⟨E1, h1⟩ : ∃ V, V = A2 ++ [47] := ⟨_, rfl⟩
      obtain ⟨E2, h2⟩ : ∃ V, V = E1 ++ Y := ⟨_, rfl⟩
      obtain ⟨F, i1⟩ : ∃ V, V = X ++ Y := ⟨_, rfl⟩
      obtain ⟨G1, j1⟩ : ∃ V, V = LX ++ [47] := ⟨_, rfl⟩
      obtain ⟨G2, j2⟩ : ∃ V, V = G1 ++ LY := ⟨_, rfl⟩
      have n1 : A1.length = X.length + 1 := by rw [e1, List.length_append]; rfl
      have n2 : A2.length = X.length + 1 + Y.length := by rw [e2, List.length_append, n1]
      have n3 : A3.length = X.length + 1 + Y.length + 1 := by rw [e3, List.length_append, n2]; rfl
      have n4 : C1.length = X.length + 2 := by rw [f1, List.length_append]; rfl
      have n5 : D1.length = X.length + 2 := by rw [g1, List.length_append]; rfl
      have n6 : E1.length = X.length + 1 + Y.length + 1 := by rw [h1, List.length_append, n2]; rfl
      have n7 : G1.length = X.length + 1 := by rw [j1, List.length_append, lx]; rfl
      rw [← e1, ← e2, ← e3, ← e4, ← j1, ← j2] at H1
      rw [← f1, ← f2] at H2
      rw [← g1, ← g2] at H3
      rw [← e1, ← e2, ← h1, ← h2] at H4
      rw [← i1] at H5
      have q1 : str X ++ ⟨#[47]⟩ = str A1 := by rw [e1]; exact str_add X [47]
      have p1 : ¬ 9223372036854775807 < (str X).size + 1 := by rw [str_size]; omega
      have q2 : str A1 ++ str Y = str A2 := by rw [e2]; exact str_add A1 Y
      have p2 : ¬ 9223372036854775807 < (str A1).size + (str Y).size := by rw [str_size, str_size]; omega
      have q3 : str A2 ++ ⟨#[59]⟩ = str A3 := by rw [e3]; exact str_add A2 [59]
      have p3 : ¬ 9223372036854775807 < (str A2).size + 1 := by rw [str_size]; omega
      have q4 : str A3 ++ str M = str A4 := by rw [e4]; exact str_add A3 M
      have p4 : ¬ 9223372036854775807 < (str A3).size + (str M).size := by rw [str_size, str_size]; omega
      have q5 : str X ++ ⟨#[32, 47]⟩ = str C1 := by rw [f1]; exact str_add X [32, 47]
      have p5 : ¬ 9223372036854775807 < (str X).size + 2 := by rw [str_size]; omega
      have q6 : str C1 ++ str Y = str C2 := by rw [f2]; exact str_add C1 Y
      have p6 : ¬ 9223372036854775807 < (str C1).size + (str Y).size := by rw [str_size, str_size]; omega
      have q7 : str X ++ ⟨#[47, 32]⟩ = str D1 := by rw [g1]; exact str_add X [47, 32]
      have p7 : ¬ 9223372036854775807 < (str X).size + 2 := by rw [str_size]; omega
      have q8 : str D1 ++ str Y = str D2 := by rw [g2]; exact str_add D1 Y
      have p8 : ¬ 9223372036854775807 < (str D1).size + (str Y).size := by rw [str_size, str_size]; omega
      have q9 : str A2 ++ ⟨#[47]⟩ = str E1 := by rw [h1]; exact str_add A2 [47]
      have p9 : ¬ 9223372036854775807 < (str A2).size + 1 := by rw [str_size]; omega
      have qa : str E1 ++ str Y = str E2 := by rw [h2]; exact str_add E1 Y
      have pa : ¬ 9223372036854775807 < (str E1).size + (str Y).size := by rw [str_size, str_size]; omega
      have qb : str X ++ str Y = str F := by rw [i1]; exact str_add X Y
      have pb : ¬ 9223372036854775807 < (str X).size + (str Y).size := by rw [str_size, str_size]; omega
      have qc : str LX ++ ⟨#[47]⟩ = str G1 := by rw [j1]; exact str_add LX [47]
      have pc : ¬ 9223372036854775807 < (str LX).size + 1 := by rw [str_size]; omega
      have qd : str G1 ++ str LY = str G2 := by rw [j2]; exact str_add G1 LY
      have pd : ¬ 9223372036854775807 < (str G1).size + (str LY).size := by rw [str_size, str_size]; omega
      have hq : ((str G2).toList == (str G2).toList) = true := by simp
      clear e1 e2 e3 e4 f1 f2 g1 g2 h1 h2 i1 j1 j2 n1 n2 n3 n4 n5 n6 n7 lx ly hX hY hM
      go_enter Tryd.func6, Tryd.ntmps6
      go_wp2_with (first
        | (go_at_call 7; (with_reducible refine (HS.out _).mono ?_); (rintro e w1 ⟨rfl, hb⟩); have HZ1 := Lib.hid hb; clear hb)
        | (go_at_call 15; (with_reducible refine (HN1.out _).mono ?_); (rintro e w2 ⟨rfl, hq1⟩); subst w2; clear HN1)
        | (go_at_call 15; (with_reducible refine (HN2.out _).mono ?_); (rintro e w3 ⟨rfl, hq2⟩); subst w3; clear HN2)
        | (go_at_call 8; (with_reducible refine (H1.out _).mono ?_); (rintro e w4 ⟨rfl, hb⟩); have HZ2 := Lib.hid (HZ1.out.trans (hb.mono HZ1.out.size)); clear hb; clear H1)
        | (go_at_call 8; (with_reducible refine (H2.out _).mono ?_); (rintro e w5 ⟨rfl, hb⟩); have HZ3 := Lib.hid (HZ2.out.trans (hb.mono HZ2.out.size)); clear hb; clear H2)
        | (go_at_call 8; (with_reducible refine (H3.out _).mono ?_); (rintro e w6 ⟨rfl, hb⟩); have HZ4 := Lib.hid (HZ3.out.trans (hb.mono HZ3.out.size)); clear hb; clear H3)
        | (go_at_call 8; (with_reducible refine (H4.out _).mono ?_); (rintro e w7 ⟨rfl, hb⟩); have HZ5 := Lib.hid (HZ4.out.trans (hb.mono HZ4.out.size)); clear hb; clear H4)
        | (go_at_call 8; (with_reducible refine (H5.out _).mono ?_); (rintro e w8 ⟨rfl, hb⟩); have HZ6 := Lib.hid (HZ5.out.trans (hb.mono HZ5.out.size)); clear hb; clear H5)
        | (go_at_call 13; (with_reducible refine (K1.out _).mono ?_); (rintro e w9 ⟨rfl, hb⟩); have HZ7 := Lib.hid (HZ6.out.trans (hb.mono HZ6.out.size)); clear hb; clear K1)
        | (go_at_call 13; (with_reducible refine (K2.out _).mono ?_); (rintro e w10 ⟨rfl, hb⟩); have HZ8 := Lib.hid (HZ7.out.trans (hb.mono HZ7.out.size)); clear hb; clear K2))
      go_ret
      exact ⟨rfl, HZ8.out⟩
set_option maxHeartbeats 8000000 in
set_option maxRecDepth 100000 in
theorem tells_any (S : List UInt8) (fs : List (List UInt8 × List UInt8)) (A : Option Addr) (n c : Nat) (w : World) (hS : S.length ≤ 1048576) (hf : Fs w w.heap.size A n fs) (hc : n ≤ c) (hc2 : c ≤ 9223372036854775807)
    (hN : ∀ f ∈ fs, f.1.length ≤ 1048576 ∧ f.2.length ≤ 1048576) : Calls Tryd.prog 3 #[.string (str S), .slice A n c] w fun e w' => e = .returned (.bool true) ∧ Below w.heap.size w w' := by
  have HS : Hid (∀ w', Calls Tryd.prog 7 #[] w' fun e w2 => e = .returned (.bool true) ∧ Below w'.heap.size w' w2) := fun w' => shown_any w'
  obtain ⟨k, hk, hkn, hk100⟩ : ∃ k : Nat, min (n : Int) 100 = (k : Int) ∧ k ≤ n ∧ k ≤ 100 := ⟨min n 100, by omega, by omega, by omega⟩
  have hkc : (k : Int) ≤ (c : Int) := by omega
  obtain ⟨L, hL⟩ : ∃ L, L = fs.take k := ⟨_, rfl⟩
  have hF0 := hf.take k hkn
  rw [← hL] at hF0
  have hLk : L.length = k := hF0.1
  have hLN : ∀ f ∈ L, f.1.length ≤ 1048576 ∧ f.2.length ≤ 1048576 := fun f h => hN f (List.mem_of_mem_take (hL ▸ h))
  have hLM : ∀ f ∈ L, f.1.length ≤ 9223372036854775807 ∧ f.2.length ≤ 9223372036854775807 := fun f h => ⟨Nat.le_trans (hLN f h).1 (by decide), Nat.le_trans (hLN f h).2 (by decide)⟩
  have hjs : (jn (vals L ctn)).length ≤ 200000000 := Nat.le_trans (jn_size L ctn 1048576 (by omega) hLN) (by decide)
  have HOf : Hid (∀ W, Below w.heap.size w W → Calls Tryd.prog 10 #[.slice A k c] W fun e w2 => e = .returned (.tuple #[.string (str (ofS (spt L ctn))), .bool (ofB (spt L ctn))]) ∧ Below W.heap.size W w2) := fun W hb => by
    have h := of_any L A c W (by omega) (by rw [hLk]; exact hF0.kept hb) hLM hjs
    rw [hLk] at h
    exact h
  have HLo : Hid (∀ W, Below w.heap.size w W → Calls Tryd.prog 12 #[.slice A k c] W fun e w2 => ∃ A2 c2, e = .returned (.slice A2 k c2) ∧ Fs w2 w2.heap.size A2 k L ∧ Below W.heap.size W w2) := fun W hb => by
    have h := lof_any L A c W (by omega) (by rw [hLk]; exact hF0.kept hb)
    rw [hLk] at h
    refine h.mono fun e w2 hh => ?_
    obtain ⟨A2, c2, h1, h2, h3⟩ := hh
    obtain ⟨A3, c3, he, _, _, h4⟩ := h2.form
    cases he
    exact ⟨A2, c2, h1, h4, h3⟩
  have HRo : Hid (∀ W A' c', Fs W W.heap.size A' k L → Calls Tryd.prog 11 #[.slice A' k c'] W fun e w2 => e = .returned (.tuple #[.string (str (ofS (spt L ctn))), .bool (ofB (spt L ctn))]) ∧ Below W.heap.size W w2) := fun W A' c' hF => by
    have h := rof_any L A' c' W (by omega) (by rw [hLk]; exact hF) hLM hjs
    rw [hLk] at h
    exact h
  have H1 : Hid (∀ w', Calls Tryd.prog 8 #[.string (str S)] w' fun e w2 => e = .returned (.tuple #[.string (str (esS S)), .bool (esB S)]) ∧ Below w'.heap.size w' w2) := fun w' => ess_any S w' (by omega)
  have H2 : Hid (∀ w', Calls Tryd.prog 9 #[.string (str S)] w' fun e w2 => e = .returned (.tuple #[.string (str (esS S)), .bool (esB S)]) ∧ Below w'.heap.size w' w2) := fun w' => ress_any S w' (by omega)
  generalize esS S = Z at *
  generalize esB S = b1 at *
  generalize ofS (spt L ctn) = Y at *
  generalize ofB (spt L ctn) = b2 at *
  have hq : ((str Z).toList == (str Z).toList) = true := by simp
  have hq2 : ((str Y).toList == (str Y).toList) = true := by simp
  have hb1 : (b1 == b1) = true := by simp
  have hb2 : (b2 == b2) = true := by simp
  clear hN hf hc hc2 hL hLN hLM hjs hS hF0 hLk hkn hk100
  go_enter Tryd.func3, Tryd.ntmps3
  go_wp2_with (first
    | (go_at_call 7; (with_reducible refine (HS.out _).mono ?_); (rintro e w1 ⟨rfl, hb⟩); have HB_1 := Lib.hid hb; clear hb)
    | (go_at_call 8; (with_reducible refine (H1.out _).mono ?_); (rintro e w2 ⟨rfl, hb⟩); have HB_2 := Lib.hid (HB_1.out.trans (hb.mono HB_1.out.size)); clear hb)
    | (go_at_call 9; (with_reducible refine (H2.out _).mono ?_); (rintro e w3 ⟨rfl, hb⟩); have HB_3 := Lib.hid (HB_2.out.trans (hb.mono HB_2.out.size)); clear hb)
    | (go_at_call 10; (with_reducible refine (HOf.out _ HB_3.out).mono ?_); (rintro e w4 ⟨rfl, hb⟩); have HB_4 := Lib.hid (HB_3.out.trans (hb.mono HB_3.out.size)); clear hb)
    | (go_at_call 12; (with_reducible refine (HLo.out _ HB_4.out).mono ?_); (rintro e w5 ⟨A2, c2, rfl, hf2, hb⟩); have HB_5 := Lib.hid (HB_4.out.trans (hb.mono HB_4.out.size)); have FW_5 := Lib.hid hf2; clear hb)
    | (go_at_call 11; (with_reducible refine (HRo.out _ _ _ FW_5.out).mono ?_); (rintro e w6 ⟨rfl, hb⟩); have HB_6 := Lib.hid (HB_5.out.trans (hb.mono HB_5.out.size)); have FW_6 := Lib.hid (FW_5.out.kept hb); clear hb))
  go_ret
  exact ⟨rfl, HB_6.out⟩
end Go.Proofs.YtmocjiilamcehaaDoor
