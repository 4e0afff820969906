/-
  What transeptlaw08.WeburlPorts answers: true; nothing that was there turns. Condition: the library's tables.
-/
import Derived.Test.YtcepigekibidfaaGreatDoorWpo
namespace Go.Proofs.YtcepigekibidfaaGreatDoor
open Go.RowKit

theorem org_port (sc h : List UInt8) (N : Nat) (hs : spc sc = true) : org ⟨sc, h, (N : Int), [47], [], []⟩ ≠ org ⟨sc, h, -1, [47], [], []⟩ := by
  intro e
  have h2 := congrArg List.length e
  have h3 : prtT (N : Int) = 58 :: Lib.itoa (N : Int) := by unfold prtT; rw [if_neg (by omega)]
  have h4 : prtT (-1) = [] := rfl
  simp only [org, orgT, hs, if_true, h3, h4, List.length_append, List.length_cons, List.length_nil] at h2
  omega
theorem ports_any (n k q : Int) (w : World) (ht : Tb w) : Calls Tryz.prog 8 #[.int .i64 n, .int .i64 k, .int .i64 q] w fun e w' => e = .returned (.bool true) ∧ Below w.heap.size w w' := by
  have HS : Hid (∀ w', Kept w w' → Calls Tryz.prog 13 #[] w' fun e w2 => e = .returned (.bool true) ∧ Below w'.heap.size w' w2) := fun w' hk => shown_any w' (ht.kp hk)
  obtain ⟨N, hN, hN1⟩ : ∃ N : Nat, bits .and .i64 n 131071 = (N : Int) ∧ N ≤ 131071 := ⟨(n % 131072).toNat, by rw [i64_mask n 131071 17 (by decide) (by omega)]; omega, by omega⟩
  obtain ⟨K, hK, hK7⟩ : ∃ N : Nat, bits .and .i64 k 7 = (N : Int) ∧ N ≤ 7 := ⟨(k % 8).toNat, by rw [i64_mask k 7 3 (by decide) (by omega)]; omega, by omega⟩
  have hq : bits .and .i64 q 3 = q % 4 := i64_mask q 3 2 (by decide) (by omega)
  have ha : prs [97] = ([97], false) := by kernel_rfl
  have hD : (Lib.decDigits N).length ≤ 100 := dec_short10 N (by omega)
  have HD : Hid (∀ w', Kept w w' → Calls Tryz.prog 27 #[.int .i64 (N : Int)] w' fun e w2 => e = .returned (.string (str (Lib.decDigits N))) ∧ Below w'.heap.size w' w2) := fun w' _ => decimal_any N w' (by omega)
  have hzd := zeros_dgt K N
  have hpz := prtN_zeros K N
  have hzl : (List.replicate K (48 : UInt8)).length ≤ 7 := by rw [List.length_replicate]; exact hK7
  have HZ : ∀ (X : List UInt8) (o : Option U), X.length ≤ 1000 → prsU X = o → ∀ w', Kept w w' → Calls Tryz.prog 14 #[.string (str X)] w' fun e w2 => e = .returned (rU o) ∧ Below w'.heap.size w' w2 := fun X o hX hu w' hk => by
    have := url_any X w' (by omega) (ht.kp hk)
    rw [hu] at this
    exact this
  have HOr : ∀ u : U, Ub u → Hid (∀ w', Kept w w' → Calls Tryz.prog 21 #[uV u] w' fun e w2 => e = .returned (.string (str (org u))) ∧ Below w'.heap.size w' w2) := fun u hu w' hk => origin_any u w' hu (ht.kp hk)
  have hcs : q % 4 = 0 ∨ q % 4 = 1 ∨ q % 4 = 2 ∨ q % 4 = 3 := by omega
  rcases hcs with hz | hz | hz | hz
  · have hlA : ([104, 116, 116, 112] ++ [58, 47, 47, 97, 58] : List UInt8).length ≤ 100 := by decide
    have hlX : ((([104, 116, 116, 112] ++ [58, 47, 47, 97, 58] : List UInt8) ++ List.replicate K 48) ++ Lib.decDigits N).length ≤ 1000 := by rw [List.length_append, List.length_append]; omega
    have hu : prsU ((([104, 116, 116, 112] ++ [58, 47, 47, 97, 58] : List UInt8) ++ List.replicate K 48) ++ Lib.decDigits N) = if 65535 < N then none else some ⟨[104, 116, 116, 112], [97], if (N : Int) = 80 then -1 else (N : Int), [47], [], []⟩ := by
      rw [show ((([104, 116, 116, 112] ++ [58, 47, 47, 97, 58] : List UInt8) ++ List.replicate K 48) ++ Lib.decDigits N) = ([104, 116, 116, 112] : List UInt8) ++ 58 :: (47 :: 47 :: 97 :: 58 :: (List.replicate K 48 ++ Lib.decDigits N)) by simp, port_a ha [104, 116, 116, 112] 80 rfl (by decide) _ hzd, hpz 80 hN1]
      by_cases h : 65535 < N
      · rw [if_pos h, if_pos h]
      · rw [if_neg h, if_neg h]
    have hv : prsU ([104, 116, 116, 112] ++ [58, 47, 47, 97, 58] : List UInt8) = some ⟨[104, 116, 116, 112], [97], -1, [47], [], []⟩ := by
      rw [show ([104, 116, 116, 112] ++ [58, 47, 47, 97, 58] : List UInt8) = ([104, 116, 116, 112] : List UInt8) ++ 58 :: (47 :: 47 :: 97 :: 58 :: []) from rfl, port_a ha [104, 116, 116, 112] 80 rfl (by decide) [] (by simp)]
      rfl
    have hvb : Ub ⟨[104, 116, 116, 112], [97], -1, [47], [], []⟩ := ub_small _ (by decide) (by decide) (by decide) (by decide) (by decide) (by decide) (by decide)
    have HV := HZ _ _ (by omega) hv
    have HU := HZ _ _ hlX hu
    by_cases hb : 65535 < N
    · rw [if_pos hb] at HU
      exact po_0_big zU ⟨[104, 116, 116, 112], [97], -1, [47], [], []⟩ n k q N K (List.replicate K 48) (Lib.decDigits N) ([104, 116, 116, 112] ++ [58, 47, 47, 97, 58] : List UInt8) (([104, 116, 116, 112] ++ [58, 47, 47, 97, 58] : List UInt8) ++ List.replicate K 48) ((([104, 116, 116, 112] ++ [58, 47, 47, 97, 58] : List UInt8) ++ List.replicate K 48) ++ Lib.decDigits N) w hN hK hK7 (by rw [hq]; exact hz) HS HD HU HV (str_add _ _) (str_add _ _) (str_add _ _) (sz2 (by rw [List.length_append]; simp only [List.length_cons, List.length_nil]; omega)) (sz2 (by rw [List.length_append, List.length_append]; simp only [List.length_cons, List.length_nil]; omega)) rfl rfl (by omega)
    · rw [if_neg hb] at HU
      have HDf : Hid (∀ w', Calls Tryz.prog 28 #[.string ⟨#[104, 116, 116, 112]⟩] w' fun e w2 => e = .returned (.int .i64 80) ∧ w2 = w') := fun w' => default_any [104, 116, 116, 112] w'
      by_cases ho : (N : Int) = 80
      · rw [if_pos ho] at HU
        exact po_0_own ⟨[104, 116, 116, 112], [97], -1, [47], [], []⟩ ⟨[104, 116, 116, 112], [97], -1, [47], [], []⟩ n k q N K (List.replicate K 48) (Lib.decDigits N) ([104, 116, 116, 112] ++ [58, 47, 47, 97, 58] : List UInt8) (([104, 116, 116, 112] ++ [58, 47, 47, 97, 58] : List UInt8) ++ List.replicate K 48) ((([104, 116, 116, 112] ++ [58, 47, 47, 97, 58] : List UInt8) ++ List.replicate K 48) ++ Lib.decDigits N) _ _ w hN hK hK7 (by rw [hq]; exact hz) HS HD HU HV (str_add _ _) (str_add _ _) (str_add _ _) (sz2 (by rw [List.length_append]; simp only [List.length_cons, List.length_nil]; omega)) (sz2 (by rw [List.length_append, List.length_append]; simp only [List.length_cons, List.length_nil]; omega)) rfl rfl (by omega) HDf (by simpa using ho) rfl (by rw [toList_str]; rfl) (fun w' => same_any ⟨[104, 116, 116, 112], [97], -1, [47], [], []⟩ ⟨[104, 116, 116, 112], [97], -1, [47], [], []⟩ w' (by decide)) (HOr _ hvb) (HOr _ hvb) (by simp)
      · rw [if_neg ho] at HU
        have hub : Ub ⟨[104, 116, 116, 112], [97], (N : Int), [47], [], []⟩ := ub_small _ (Nat.le_of_ble_eq_true rfl) (Nat.le_of_ble_eq_true rfl) (by show _ ≤ (N : Int); omega) (by show (N : Int) ≤ _; omega) (Nat.le_of_ble_eq_true rfl) (Nat.le_of_ble_eq_true rfl) (Nat.le_of_ble_eq_true rfl)
        have hne : same ⟨[104, 116, 116, 112], [97], (N : Int), [47], [], []⟩ ⟨[104, 116, 116, 112], [97], -1, [47], [], []⟩ = false := by
          unfold same
          rw [Bool.and_eq_false_iff]
          refine .inr (decide_eq_false ?_)
          rintro ⟨_, _, h⟩
          have h : (N : Int) = -1 := h
          omega
        have hog : org ⟨[104, 116, 116, 112], [97], (N : Int), [47], [], []⟩ ≠ org ⟨[104, 116, 116, 112], [97], -1, [47], [], []⟩ := org_port [104, 116, 116, 112] [97] N rfl
        exact po_0_not ⟨[104, 116, 116, 112], [97], (N : Int), [47], [], []⟩ ⟨[104, 116, 116, 112], [97], -1, [47], [], []⟩ n k q N K (List.replicate K 48) (Lib.decDigits N) ([104, 116, 116, 112] ++ [58, 47, 47, 97, 58] : List UInt8) (([104, 116, 116, 112] ++ [58, 47, 47, 97, 58] : List UInt8) ++ List.replicate K 48) ((([104, 116, 116, 112] ++ [58, 47, 47, 97, 58] : List UInt8) ++ List.replicate K 48) ++ Lib.decDigits N) _ _ w hN hK hK7 (by rw [hq]; exact hz) HS HD HU HV (str_add _ _) (str_add _ _) (str_add _ _) (sz2 (by rw [List.length_append]; simp only [List.length_cons, List.length_nil]; omega)) (sz2 (by rw [List.length_append, List.length_append]; simp only [List.length_cons, List.length_nil]; omega)) rfl rfl (by omega) HDf (by simpa using ho) (by simp) (by rw [toList_str]; rfl) (fun w' => by
          have := same_any ⟨[104, 116, 116, 112], [97], (N : Int), [47], [], []⟩ ⟨[104, 116, 116, 112], [97], -1, [47], [], []⟩ w' (Nat.le_of_ble_eq_true rfl)
          rw [hne] at this
          exact this) (HOr _ hub) (HOr _ hvb) (by rw [toList_str, toList_str, beq_eq_false_iff_ne]; exact hog)
  · have hlA : ([104, 116, 116, 112, 115] ++ [58, 47, 47, 97, 58] : List UInt8).length ≤ 100 := by decide
    have hlX : ((([104, 116, 116, 112, 115] ++ [58, 47, 47, 97, 58] : List UInt8) ++ List.replicate K 48) ++ Lib.decDigits N).length ≤ 1000 := by rw [List.length_append, List.length_append]; omega
    have hu : prsU ((([104, 116, 116, 112, 115] ++ [58, 47, 47, 97, 58] : List UInt8) ++ List.replicate K 48) ++ Lib.decDigits N) = if 65535 < N then none else some ⟨[104, 116, 116, 112, 115], [97], if (N : Int) = 443 then -1 else (N : Int), [47], [], []⟩ := by
      rw [show ((([104, 116, 116, 112, 115] ++ [58, 47, 47, 97, 58] : List UInt8) ++ List.replicate K 48) ++ Lib.decDigits N) = ([104, 116, 116, 112, 115] : List UInt8) ++ 58 :: (47 :: 47 :: 97 :: 58 :: (List.replicate K 48 ++ Lib.decDigits N)) by simp, port_a ha [104, 116, 116, 112, 115] 443 rfl (by decide) _ hzd, hpz 443 hN1]
      by_cases h : 65535 < N
      · rw [if_pos h, if_pos h]
      · rw [if_neg h, if_neg h]
    have hv : prsU ([104, 116, 116, 112, 115] ++ [58, 47, 47, 97, 58] : List UInt8) = some ⟨[104, 116, 116, 112, 115], [97], -1, [47], [], []⟩ := by
      rw [show ([104, 116, 116, 112, 115] ++ [58, 47, 47, 97, 58] : List UInt8) = ([104, 116, 116, 112, 115] : List UInt8) ++ 58 :: (47 :: 47 :: 97 :: 58 :: []) from rfl, port_a ha [104, 116, 116, 112, 115] 443 rfl (by decide) [] (by simp)]
      rfl
    have hvb : Ub ⟨[104, 116, 116, 112, 115], [97], -1, [47], [], []⟩ := ub_small _ (by decide) (by decide) (by decide) (by decide) (by decide) (by decide) (by decide)
    have HV := HZ _ _ (by omega) hv
    have HU := HZ _ _ hlX hu
    by_cases hb : 65535 < N
    · rw [if_pos hb] at HU
      exact po_1_big zU ⟨[104, 116, 116, 112, 115], [97], -1, [47], [], []⟩ n k q N K (List.replicate K 48) (Lib.decDigits N) ([104, 116, 116, 112, 115] ++ [58, 47, 47, 97, 58] : List UInt8) (([104, 116, 116, 112, 115] ++ [58, 47, 47, 97, 58] : List UInt8) ++ List.replicate K 48) ((([104, 116, 116, 112, 115] ++ [58, 47, 47, 97, 58] : List UInt8) ++ List.replicate K 48) ++ Lib.decDigits N) w hN hK hK7 (by rw [hq]; exact hz) HS HD HU HV (str_add _ _) (str_add _ _) (str_add _ _) (sz2 (by rw [List.length_append]; simp only [List.length_cons, List.length_nil]; omega)) (sz2 (by rw [List.length_append, List.length_append]; simp only [List.length_cons, List.length_nil]; omega)) rfl rfl (by omega)
    · rw [if_neg hb] at HU
      have HDf : Hid (∀ w', Calls Tryz.prog 28 #[.string ⟨#[104, 116, 116, 112, 115]⟩] w' fun e w2 => e = .returned (.int .i64 443) ∧ w2 = w') := fun w' => default_any [104, 116, 116, 112, 115] w'
      by_cases ho : (N : Int) = 443
      · rw [if_pos ho] at HU
        exact po_1_own ⟨[104, 116, 116, 112, 115], [97], -1, [47], [], []⟩ ⟨[104, 116, 116, 112, 115], [97], -1, [47], [], []⟩ n k q N K (List.replicate K 48) (Lib.decDigits N) ([104, 116, 116, 112, 115] ++ [58, 47, 47, 97, 58] : List UInt8) (([104, 116, 116, 112, 115] ++ [58, 47, 47, 97, 58] : List UInt8) ++ List.replicate K 48) ((([104, 116, 116, 112, 115] ++ [58, 47, 47, 97, 58] : List UInt8) ++ List.replicate K 48) ++ Lib.decDigits N) _ _ w hN hK hK7 (by rw [hq]; exact hz) HS HD HU HV (str_add _ _) (str_add _ _) (str_add _ _) (sz2 (by rw [List.length_append]; simp only [List.length_cons, List.length_nil]; omega)) (sz2 (by rw [List.length_append, List.length_append]; simp only [List.length_cons, List.length_nil]; omega)) rfl rfl (by omega) HDf (by simpa using ho) rfl (by rw [toList_str]; rfl) (fun w' => same_any ⟨[104, 116, 116, 112, 115], [97], -1, [47], [], []⟩ ⟨[104, 116, 116, 112, 115], [97], -1, [47], [], []⟩ w' (by decide)) (HOr _ hvb) (HOr _ hvb) (by simp)
      · rw [if_neg ho] at HU
        have hub : Ub ⟨[104, 116, 116, 112, 115], [97], (N : Int), [47], [], []⟩ := ub_small _ (Nat.le_of_ble_eq_true rfl) (Nat.le_of_ble_eq_true rfl) (by show _ ≤ (N : Int); omega) (by show (N : Int) ≤ _; omega) (Nat.le_of_ble_eq_true rfl) (Nat.le_of_ble_eq_true rfl) (Nat.le_of_ble_eq_true rfl)
        have hne : same ⟨[104, 116, 116, 112, 115], [97], (N : Int), [47], [], []⟩ ⟨[104, 116, 116, 112, 115], [97], -1, [47], [], []⟩ = false := by
          unfold same
          rw [Bool.and_eq_false_iff]
          refine .inr (decide_eq_false ?_)
          rintro ⟨_, _, h⟩
          have h : (N : Int) = -1 := h
          omega
        have hog : org ⟨[104, 116, 116, 112, 115], [97], (N : Int), [47], [], []⟩ ≠ org ⟨[104, 116, 116, 112, 115], [97], -1, [47], [], []⟩ := org_port [104, 116, 116, 112, 115] [97] N rfl
        exact po_1_not ⟨[104, 116, 116, 112, 115], [97], (N : Int), [47], [], []⟩ ⟨[104, 116, 116, 112, 115], [97], -1, [47], [], []⟩ n k q N K (List.replicate K 48) (Lib.decDigits N) ([104, 116, 116, 112, 115] ++ [58, 47, 47, 97, 58] : List UInt8) (([104, 116, 116, 112, 115] ++ [58, 47, 47, 97, 58] : List UInt8) ++ List.replicate K 48) ((([104, 116, 116, 112, 115] ++ [58, 47, 47, 97, 58] : List UInt8) ++ List.replicate K 48) ++ Lib.decDigits N) _ _ w hN hK hK7 (by rw [hq]; exact hz) HS HD HU HV (str_add _ _) (str_add _ _) (str_add _ _) (sz2 (by rw [List.length_append]; simp only [List.length_cons, List.length_nil]; omega)) (sz2 (by rw [List.length_append, List.length_append]; simp only [List.length_cons, List.length_nil]; omega)) rfl rfl (by omega) HDf (by simpa using ho) (by simp) (by rw [toList_str]; rfl) (fun w' => by
          have := same_any ⟨[104, 116, 116, 112, 115], [97], (N : Int), [47], [], []⟩ ⟨[104, 116, 116, 112, 115], [97], -1, [47], [], []⟩ w' (Nat.le_of_ble_eq_true rfl)
          rw [hne] at this
          exact this) (HOr _ hub) (HOr _ hvb) (by rw [toList_str, toList_str, beq_eq_false_iff_ne]; exact hog)
  · have hlA : ([119, 115] ++ [58, 47, 47, 97, 58] : List UInt8).length ≤ 100 := by decide
    have hlX : ((([119, 115] ++ [58, 47, 47, 97, 58] : List UInt8) ++ List.replicate K 48) ++ Lib.decDigits N).length ≤ 1000 := by rw [List.length_append, List.length_append]; omega
    have hu : prsU ((([119, 115] ++ [58, 47, 47, 97, 58] : List UInt8) ++ List.replicate K 48) ++ Lib.decDigits N) = if 65535 < N then none else some ⟨[119, 115], [97], if (N : Int) = 80 then -1 else (N : Int), [47], [], []⟩ := by
      rw [show ((([119, 115] ++ [58, 47, 47, 97, 58] : List UInt8) ++ List.replicate K 48) ++ Lib.decDigits N) = ([119, 115] : List UInt8) ++ 58 :: (47 :: 47 :: 97 :: 58 :: (List.replicate K 48 ++ Lib.decDigits N)) by simp, port_a ha [119, 115] 80 rfl (by decide) _ hzd, hpz 80 hN1]
      by_cases h : 65535 < N
      · rw [if_pos h, if_pos h]
      · rw [if_neg h, if_neg h]
    have hv : prsU ([119, 115] ++ [58, 47, 47, 97, 58] : List UInt8) = some ⟨[119, 115], [97], -1, [47], [], []⟩ := by
      rw [show ([119, 115] ++ [58, 47, 47, 97, 58] : List UInt8) = ([119, 115] : List UInt8) ++ 58 :: (47 :: 47 :: 97 :: 58 :: []) from rfl, port_a ha [119, 115] 80 rfl (by decide) [] (by simp)]
      rfl
    have hvb : Ub ⟨[119, 115], [97], -1, [47], [], []⟩ := ub_small _ (by decide) (by decide) (by decide) (by decide) (by decide) (by decide) (by decide)
    have HV := HZ _ _ (by omega) hv
    have HU := HZ _ _ hlX hu
    by_cases hb : 65535 < N
    · rw [if_pos hb] at HU
      exact po_2_big zU ⟨[119, 115], [97], -1, [47], [], []⟩ n k q N K (List.replicate K 48) (Lib.decDigits N) ([119, 115] ++ [58, 47, 47, 97, 58] : List UInt8) (([119, 115] ++ [58, 47, 47, 97, 58] : List UInt8) ++ List.replicate K 48) ((([119, 115] ++ [58, 47, 47, 97, 58] : List UInt8) ++ List.replicate K 48) ++ Lib.decDigits N) w hN hK hK7 (by rw [hq]; exact hz) HS HD HU HV (str_add _ _) (str_add _ _) (str_add _ _) (sz2 (by rw [List.length_append]; simp only [List.length_cons, List.length_nil]; omega)) (sz2 (by rw [List.length_append, List.length_append]; simp only [List.length_cons, List.length_nil]; omega)) rfl rfl (by omega)
    · rw [if_neg hb] at HU
      have HDf : Hid (∀ w', Calls Tryz.prog 28 #[.string ⟨#[119, 115]⟩] w' fun e w2 => e = .returned (.int .i64 80) ∧ w2 = w') := fun w' => default_any [119, 115] w'
      by_cases ho : (N : Int) = 80
      · rw [if_pos ho] at HU
        exact po_2_own ⟨[119, 115], [97], -1, [47], [], []⟩ ⟨[119, 115], [97], -1, [47], [], []⟩ n k q N K (List.replicate K 48) (Lib.decDigits N) ([119, 115] ++ [58, 47, 47, 97, 58] : List UInt8) (([119, 115] ++ [58, 47, 47, 97, 58] : List UInt8) ++ List.replicate K 48) ((([119, 115] ++ [58, 47, 47, 97, 58] : List UInt8) ++ List.replicate K 48) ++ Lib.decDigits N) _ _ w hN hK hK7 (by rw [hq]; exact hz) HS HD HU HV (str_add _ _) (str_add _ _) (str_add _ _) (sz2 (by rw [List.length_append]; simp only [List.length_cons, List.length_nil]; omega)) (sz2 (by rw [List.length_append, List.length_append]; simp only [List.length_cons, List.length_nil]; omega)) rfl rfl (by omega) HDf (by simpa using ho) rfl (by rw [toList_str]; rfl) (fun w' => same_any ⟨[119, 115], [97], -1, [47], [], []⟩ ⟨[119, 115], [97], -1, [47], [], []⟩ w' (by decide)) (HOr _ hvb) (HOr _ hvb) (by simp)
      · rw [if_neg ho] at HU
        have hub : Ub ⟨[119, 115], [97], (N : Int), [47], [], []⟩ := ub_small _ (Nat.le_of_ble_eq_true rfl) (Nat.le_of_ble_eq_true rfl) (by show _ ≤ (N : Int); omega) (by show (N : Int) ≤ _; omega) (Nat.le_of_ble_eq_true rfl) (Nat.le_of_ble_eq_true rfl) (Nat.le_of_ble_eq_true rfl)
        have hne : same ⟨[119, 115], [97], (N : Int), [47], [], []⟩ ⟨[119, 115], [97], -1, [47], [], []⟩ = false := by
          unfold same
          rw [Bool.and_eq_false_iff]
          refine .inr (decide_eq_false ?_)
          rintro ⟨_, _, h⟩
          have h : (N : Int) = -1 := h
          omega
        have hog : org ⟨[119, 115], [97], (N : Int), [47], [], []⟩ ≠ org ⟨[119, 115], [97], -1, [47], [], []⟩ := org_port [119, 115] [97] N rfl
        exact po_2_not ⟨[119, 115], [97], (N : Int), [47], [], []⟩ ⟨[119, 115], [97], -1, [47], [], []⟩ n k q N K (List.replicate K 48) (Lib.decDigits N) ([119, 115] ++ [58, 47, 47, 97, 58] : List UInt8) (([119, 115] ++ [58, 47, 47, 97, 58] : List UInt8) ++ List.replicate K 48) ((([119, 115] ++ [58, 47, 47, 97, 58] : List UInt8) ++ List.replicate K 48) ++ Lib.decDigits N) _ _ w hN hK hK7 (by rw [hq]; exact hz) HS HD HU HV (str_add _ _) (str_add _ _) (str_add _ _) (sz2 (by rw [List.length_append]; simp only [List.length_cons, List.length_nil]; omega)) (sz2 (by rw [List.length_append, List.length_append]; simp only [List.length_cons, List.length_nil]; omega)) rfl rfl (by omega) HDf (by simpa using ho) (by simp) (by rw [toList_str]; rfl) (fun w' => by
          have := same_any ⟨[119, 115], [97], (N : Int), [47], [], []⟩ ⟨[119, 115], [97], -1, [47], [], []⟩ w' (Nat.le_of_ble_eq_true rfl)
          rw [hne] at this
          exact this) (HOr _ hub) (HOr _ hvb) (by rw [toList_str, toList_str, beq_eq_false_iff_ne]; exact hog)
  · have hlA : ([119, 115, 115] ++ [58, 47, 47, 97, 58] : List UInt8).length ≤ 100 := by decide
    have hlX : ((([119, 115, 115] ++ [58, 47, 47, 97, 58] : List UInt8) ++ List.replicate K 48) ++ Lib.decDigits N).length ≤ 1000 := by rw [List.length_append, List.length_append]; omega
    have hu : prsU ((([119, 115, 115] ++ [58, 47, 47, 97, 58] : List UInt8) ++ List.replicate K 48) ++ Lib.decDigits N) = if 65535 < N then none else some ⟨[119, 115, 115], [97], if (N : Int) = 443 then -1 else (N : Int), [47], [], []⟩ := by
      rw [show ((([119, 115, 115] ++ [58, 47, 47, 97, 58] : List UInt8) ++ List.replicate K 48) ++ Lib.decDigits N) = ([119, 115, 115] : List UInt8) ++ 58 :: (47 :: 47 :: 97 :: 58 :: (List.replicate K 48 ++ Lib.decDigits N)) by simp, port_a ha [119, 115, 115] 443 rfl (by decide) _ hzd, hpz 443 hN1]
      by_cases h : 65535 < N
      · rw [if_pos h, if_pos h]
      · rw [if_neg h, if_neg h]
    have hv : prsU ([119, 115, 115] ++ [58, 47, 47, 97, 58] : List UInt8) = some ⟨[119, 115, 115], [97], -1, [47], [], []⟩ := by
      rw [show ([119, 115, 115] ++ [58, 47, 47, 97, 58] : List UInt8) = ([119, 115, 115] : List UInt8) ++ 58 :: (47 :: 47 :: 97 :: 58 :: []) from rfl, port_a ha [119, 115, 115] 443 rfl (by decide) [] (by simp)]
      rfl
    have hvb : Ub ⟨[119, 115, 115], [97], -1, [47], [], []⟩ := ub_small _ (by decide) (by decide) (by decide) (by decide) (by decide) (by decide) (by decide)
    have HV := HZ _ _ (by omega) hv
    have HU := HZ _ _ hlX hu
    by_cases hb : 65535 < N
    · rw [if_pos hb] at HU
      exact po_3_big zU ⟨[119, 115, 115], [97], -1, [47], [], []⟩ n k q N K (List.replicate K 48) (Lib.decDigits N) ([119, 115, 115] ++ [58, 47, 47, 97, 58] : List UInt8) (([119, 115, 115] ++ [58, 47, 47, 97, 58] : List UInt8) ++ List.replicate K 48) ((([119, 115, 115] ++ [58, 47, 47, 97, 58] : List UInt8) ++ List.replicate K 48) ++ Lib.decDigits N) w hN hK hK7 (by rw [hq]; exact hz) HS HD HU HV (str_add _ _) (str_add _ _) (str_add _ _) (sz2 (by rw [List.length_append]; simp only [List.length_cons, List.length_nil]; omega)) (sz2 (by rw [List.length_append, List.length_append]; simp only [List.length_cons, List.length_nil]; omega)) rfl rfl (by omega)
    · rw [if_neg hb] at HU
      have HDf : Hid (∀ w', Calls Tryz.prog 28 #[.string ⟨#[119, 115, 115]⟩] w' fun e w2 => e = .returned (.int .i64 443) ∧ w2 = w') := fun w' => default_any [119, 115, 115] w'
      by_cases ho : (N : Int) = 443
      · rw [if_pos ho] at HU
        exact po_3_own ⟨[119, 115, 115], [97], -1, [47], [], []⟩ ⟨[119, 115, 115], [97], -1, [47], [], []⟩ n k q N K (List.replicate K 48) (Lib.decDigits N) ([119, 115, 115] ++ [58, 47, 47, 97, 58] : List UInt8) (([119, 115, 115] ++ [58, 47, 47, 97, 58] : List UInt8) ++ List.replicate K 48) ((([119, 115, 115] ++ [58, 47, 47, 97, 58] : List UInt8) ++ List.replicate K 48) ++ Lib.decDigits N) _ _ w hN hK hK7 (by rw [hq]; exact hz) HS HD HU HV (str_add _ _) (str_add _ _) (str_add _ _) (sz2 (by rw [List.length_append]; simp only [List.length_cons, List.length_nil]; omega)) (sz2 (by rw [List.length_append, List.length_append]; simp only [List.length_cons, List.length_nil]; omega)) rfl rfl (by omega) HDf (by simpa using ho) rfl (by rw [toList_str]; rfl) (fun w' => same_any ⟨[119, 115, 115], [97], -1, [47], [], []⟩ ⟨[119, 115, 115], [97], -1, [47], [], []⟩ w' (by decide)) (HOr _ hvb) (HOr _ hvb) (by simp)
      · rw [if_neg ho] at HU
        have hub : Ub ⟨[119, 115, 115], [97], (N : Int), [47], [], []⟩ := ub_small _ (Nat.le_of_ble_eq_true rfl) (Nat.le_of_ble_eq_true rfl) (by show _ ≤ (N : Int); omega) (by show (N : Int) ≤ _; omega) (Nat.le_of_ble_eq_true rfl) (Nat.le_of_ble_eq_true rfl) (Nat.le_of_ble_eq_true rfl)
        have hne : same ⟨[119, 115, 115], [97], (N : Int), [47], [], []⟩ ⟨[119, 115, 115], [97], -1, [47], [], []⟩ = false := by
          unfold same
          rw [Bool.and_eq_false_iff]
          refine .inr (decide_eq_false ?_)
          rintro ⟨_, _, h⟩
          have h : (N : Int) = -1 := h
          omega
        have hog : org ⟨[119, 115, 115], [97], (N : Int), [47], [], []⟩ ≠ org ⟨[119, 115, 115], [97], -1, [47], [], []⟩ := org_port [119, 115, 115] [97] N rfl
        exact po_3_not ⟨[119, 115, 115], [97], (N : Int), [47], [], []⟩ ⟨[119, 115, 115], [97], -1, [47], [], []⟩ n k q N K (List.replicate K 48) (Lib.decDigits N) ([119, 115, 115] ++ [58, 47, 47, 97, 58] : List UInt8) (([119, 115, 115] ++ [58, 47, 47, 97, 58] : List UInt8) ++ List.replicate K 48) ((([119, 115, 115] ++ [58, 47, 47, 97, 58] : List UInt8) ++ List.replicate K 48) ++ Lib.decDigits N) _ _ w hN hK hK7 (by rw [hq]; exact hz) HS HD HU HV (str_add _ _) (str_add _ _) (str_add _ _) (sz2 (by rw [List.length_append]; simp only [List.length_cons, List.length_nil]; omega)) (sz2 (by rw [List.length_append, List.length_append]; simp only [List.length_cons, List.length_nil]; omega)) rfl rfl (by omega) HDf (by simpa using ho) (by simp) (by rw [toList_str]; rfl) (fun w' => by
          have := same_any ⟨[119, 115, 115], [97], (N : Int), [47], [], []⟩ ⟨[119, 115, 115], [97], -1, [47], [], []⟩ w' (Nat.le_of_ble_eq_true rfl)
          rw [hne] at this
          exact this) (HOr _ hub) (HOr _ hvb) (by rw [toList_str, toList_str, beq_eq_false_iff_ne]; exact hog)
end Go.Proofs.YtcepigekibidfaaGreatDoor
