/-
  What transeptref08.Find and transeptlaw08.plain answer; nothing that was there turns. Condition: a text (what may be besides) of at most 1000000000 bytes.
-/
import Derived.Test.YtcepigekibidfaaGreatDoorGa
import Derived.Test.YtcepigekibidfaaGreatDoorGn
namespace Go.Proofs.YtcepigekibidfaaGreatDoor
open Go.RowKit

theorem bef_hit (c : UInt8) : ∀ (l : List UInt8) (k : Nat), (bef c l).length = k → k < l.length → l.getD k 0 = c
  | [], k, _, h => absurd h (Nat.not_lt_zero _)
  | a :: r, k, e, h => by
    rw [bef] at e
    split at e
    · rename_i ha
      simp at e
      subst e
      simpa using ha
    · obtain ⟨j, rfl⟩ : ∃ j, k = j + 1 := ⟨(bef c r).length, by simpa using e.symm⟩
      rw [List.getD_cons_succ]
      exact bef_hit c r j (by simpa using e) (by simpa using h)
theorem bef_miss (c : UInt8) : ∀ (l : List UInt8) (k : Nat), k < (bef c l).length → l.getD k 0 ≠ c
  | [], k, h => by simp [bef] at h
  | a :: r, k, h => by
    rw [bef] at h
    split at h
    · simp at h
    · rename_i ha
      match k, h with
      | 0, _ => simpa using ha
      | j + 1, h =>
        rw [List.getD_cons_succ]
        exact bef_miss c r j (by simpa using h)
theorem bef_in (c : UInt8) : ∀ l : List UInt8, (bef c l).length < l.length ↔ c ∈ l
  | [] => by simp [bef]
  | a :: r => by
    rw [bef]
    split
    · rename_i ha
      simp [ha]
    · rename_i ha
      have := bef_in c r
      have hne : c ≠ a := fun e => ha e.symm
      simp [hne, this]
set_option maxHeartbeats 1000000 in
theorem rfind_any (l : List UInt8) (c : UInt8) (w : World) (hl : l.length ≤ 1000000000) : Calls Tryz.prog 26 #[.string (str l), vb c] w fun e w' => e = .returned (.int .i64 ((bef c l).length : Int)) ∧ w' = w := by
  have hsz := str_size l
  have hgb := fun k hk h => str_at l k hk h
  have h1 : Hid (∀ k, (bef c l).length = k → k < l.length → (l.getD k 0).toNat = c.toNat) := fun k h hk => by rw [bef_hit c l k h hk]
  have h2 : Hid (∀ k, k < (bef c l).length → ((l.getD k 0).toNat : Int) ≠ (c.toNat : Int)) := fun k h e => bef_miss c l k h (UInt8.toNat.inj (by omega))
  have hBS := bef_len c l
  unfold vb
  obtain ⟨B, hB⟩ : ∃ B, B = (bef c l).length := ⟨_, rfl⟩
  obtain ⟨S, hS⟩ : ∃ S, S = l.length := ⟨_, rfl⟩
  obtain ⟨m, hm⟩ : ∃ m, m = c.toNat := ⟨_, rfl⟩
  rw [← hB] at h1 h2 hBS ⊢
  rw [← hS] at hgb h1 hBS hsz hl
  rw [← hm] at h1 h2 ⊢
  have HGB := Lib.hid hgb
  clear hgb
  clear hB hS hm
  go_enter Tryz.func26, Tryz.ntmps26
  go_wp2_with fail
  go_loop [5] (fun i => ∃ k : Nat, k ≤ B ∧ i = .int .i64 (k : Int)) (fun i => B - (intOf i).toNat)
  case atStart => exact ⟨0, by omega, rfl⟩
  case round =>
    obtain ⟨k, hk, rfl⟩ := hrel
    by_cases hlt : k < B
    · have hkS : (k : Int) < (S : Int) := by omega
      have HG := HGB.out k (by omega)
      have hne := h2.out k hlt
      obtain ⟨b, hb⟩ : ∃ b, b = (l.getD k 0).toNat := ⟨_, rfl⟩
      rw [← hb] at HG hne
      clear hb
      have hc : ((b : Int) == (m : Int)) = false := by simpa using hne
      have hlt1 : Hid (k + 1 ≤ B) := hlt
      go_wp2_with fail
      go_round
      case rel => exact ⟨k + 1, hlt1.out, by go_num⟩
      case measure => have := hlt1.out; simp [intOf]; omega
    · obtain rfl : k = B := by omega
      by_cases hkl : k < S
      · have hkS : (k : Int) < (S : Int) := by omega
        have HG := HGB.out k hkl
        have he := h1.out k rfl hkl
        obtain ⟨b, hb⟩ : ∃ b, b = (l.getD k 0).toNat := ⟨_, rfl⟩
        rw [← hb] at HG he
        have hc : ((b : Int) == (m : Int)) = true := by simp [he]
        clear he hb
        go_wp2_with fail
        go_ret
        exact ⟨rfl, rfl⟩
      · have hkS : ¬ (k : Int) < (S : Int) := by omega
        obtain rfl : S = k := by omega
        go_wp2_with fail
        go_ret
        exact ⟨rfl, rfl⟩
/-- Letters, digits, and some more. -/
def plc (M : List UInt8) (c : UInt8) : Bool := aln c || decide (c ∈ M)
def pln (M l : List UInt8) : List UInt8 := (l.take 100).filter (plc M)
theorem pln_succ (M l : List UInt8) (k : Nat) (hk : k < l.length) (c : UInt8) (hc : c = l.getD k 0) : (l.take (k + 1)).filter (plc M) = (l.take k).filter (plc M) ++ (if plc M c then [c] else []) := by
  rw [List.take_add_one, List.getElem?_eq_getElem hk, List.filter_append]
  have : l[k] = c := by rw [hc, List.getD_eq_getElem?_getD, List.getElem?_eq_getElem hk]; rfl
  simp only [this, Option.toList_some, List.filter_cons, List.filter_nil]
theorem run_oneb (w : World) (m : Nat) (c : UInt8) (h : m = c.toNat) : (convert 36 9 (.slice (some ⟨w.heap.size, 0, none⟩) 1 1)).run Tryz.prog (w.alloc (.cells #[.int .u8 (m : Int)] 5)) = .ok (.string (str [c])) (w.alloc (.cells #[.int .u8 (m : Int)] 5)) := run_str _ _ _ 1 1 [c] (Bs.one' w _ c (by rw [h]))
set_option maxHeartbeats 4000000 in
set_option maxRecDepth 100000 in
theorem plain_any (l M : List UInt8) (w : World) (hM : M.length ≤ 1000000000) : Calls Tryz.prog 29 #[.string (str l), .string (str M)] w fun e w' => e = .returned (.string (str (pln M l))) ∧ Below w.heap.size w w' := by
  have hsz := str_size l
  have hmz := str_size M
  have hgb := fun k hk h => str_at l k hk h
  obtain ⟨S, hS⟩ : ∃ S, S = l.length := ⟨_, rfl⟩
  obtain ⟨SM, hSM⟩ : ∃ S, S = M.length := ⟨_, rfl⟩
  have hpl : Hid (pln M l = (l.take (min S 100)).filter (plc M)) := by
    show _ = _
    unfold pln
    rw [hS]
    by_cases h : l.length ≤ 100
    · rw [List.take_of_length_le h, List.take_of_length_le (by omega)]
    · rw [Nat.min_eq_right (by omega)]
  have hsu : Hid (∀ k, k < S → (l.take (k + 1)).filter (plc M) = (l.take k).filter (plc M) ++ (if plc M (l.getD k 0) then [l.getD k 0] else [])) := fun k hk => pln_succ M l k (by rw [← hS]; exact hk) _ rfl
  have hle : Hid (∀ k, ((l.take k).filter (plc M)).length ≤ k) := fun k => Nat.le_trans (List.length_filter_le _ _) (by rw [List.length_take]; omega)
  have HF : Hid (∀ c w', Calls Tryz.prog 26 #[.string (str M), vb c] w' fun e w2 => e = .returned (.int .i64 ((bef c M).length : Int)) ∧ w2 = w') := fun c w' => rfind_any M c w' hM
  have hbi : Hid (∀ c, (bef c M).length < SM ↔ c ∈ M) := fun c => by rw [hSM]; exact bef_in c M
  rw [← hS] at hgb hsz
  rw [← hSM] at hmz
  have HGB := Lib.hid hgb
  clear hgb
  clear hS hSM
  go_enter Tryz.func29, Tryz.ntmps29
  go_wp2_with fail
  go_loopw [6, 5] (fun i v wr => ∃ k : Nat, k ≤ S ∧ k ≤ 100 ∧ i = .int .i64 (k : Int) ∧ v = .string (str ((l.take k).filter (plc M))) ∧ Kept w wr) (fun i _ _ => 100 - (intOf i).toNat)
  case atStart => exact ⟨0, by omega, by omega, rfl, by simp [str], Kept.refl w⟩
  case round =>
    obtain ⟨k, hk, hk1, rfl, rfl, hkp⟩ := hrel
    have hL1 := hle.out k
    by_cases hlt : k < S ∧ k < 100
    · have hkS : (k : Int) < (S : Int) := by omega
      have hk100 : (k : Int) < 100 := by omega
      have HG := HGB.out k hlt.1
      have hsu1 := hsu.out k hlt.1
      obtain ⟨c, hc⟩ : ∃ c, c = l.getD k 0 := ⟨_, rfl⟩
      obtain ⟨m, hm⟩ : ∃ m, m = c.toNat := ⟨_, rfl⟩
      rw [← hc] at HG hsu1
      rw [← hm] at HG
      have hm9 : m < 256 := by rw [hm]; exact c.toNat_lt
      have hmc : Hid (m = c.toNat) := hm
      have hF := HF.out c
      unfold vb at hF
      rw [← hm] at hF
      obtain ⟨X, hX⟩ : ∃ X, X = (l.take k).filter (plc M) := ⟨_, rfl⟩
      obtain ⟨Y, hY⟩ : ∃ Y, Y = (l.take (k + 1)).filter (plc M) := ⟨_, rfl⟩
      rw [← hX, ← hY] at hsu1
      rw [← hX] at hL1 ⊢
      have hYh : Hid (Y = (l.take (k + 1)).filter (plc M)) := hY
      have hal : aln c = ((decide (48 ≤ m) && decide (m ≤ 57)) || (decide (65 ≤ m) && decide (m ≤ 90)) || (decide (97 ≤ m) && decide (m ≤ 122))) := by rw [hm]; rfl
      obtain ⟨B, hB⟩ : ∃ B, B = (bef c M).length := ⟨_, rfl⟩
      have hbc := hbi.out c
      rw [← hB] at hF hbc
      have HF1 := Lib.hid hF
      have hrun := run_oneb wr m c hm
      have sX : (str X).size ≤ 100 := by rw [str_size]; omega
      have s1 : (str [c]).size = 1 := str_size _
      have hpc : plc M c = (aln c || decide (c ∈ M)) := rfl
      clear hc hm hX hY hF hB
      have hcase : m < 48 ∨ (48 ≤ m ∧ m ≤ 57) ∨ (58 ≤ m ∧ m ≤ 64) ∨ (65 ≤ m ∧ m ≤ 90) ∨ (91 ≤ m ∧ m ≤ 96) ∨ (97 ≤ m ∧ m ≤ 122) ∨ 122 < m := by omega
      rcases hcase with hr | hr | hr | hr | hr | hr | hr
      · have c0 : decide ((48 : Int) ≤ (m : Int)) = false := by simp; omega
        have c1 : decide ((m : Int) ≤ 57) = true := by simp; omega
        have c2 : decide ((65 : Int) ≤ (m : Int)) = false := by simp; omega
        have c3 : decide ((m : Int) ≤ 90) = true := by simp; omega
        have c4 : decide ((97 : Int) ≤ (m : Int)) = false := by simp; omega
        have c5 : decide ((m : Int) ≤ 122) = true := by simp; omega
        have hAl : aln c = false := by rw [hal]; simp; omega
        by_cases hin : c ∈ M
        · have hBM : (B : Int) < (SM : Int) := by have := hbc.2 hin; omega
          have hY1 : Y = X ++ [c] := by rw [hsu1, hpc, hAl, decide_eq_true hin]; rfl
          have aX : str X ++ str [c] = str Y := by rw [hY1]; exact str_add _ _
          have HY1 := Lib.hid hY1
          clear hY1 hsu1 hpc hAl hin hr hal hbc hlt
          go_wp2_with (first | (go_at_call 26; (with_reducible refine (HF1.out _).mono ?_); (rintro e w2 ⟨rfl, rfl⟩)))
          go_roundw
          case rel => exact ⟨k + 1, by omega, by omega, by go_num, by rw [hYh.out], hkp.alloc _⟩
          case measure => simp [intOf]; omega
        · have hBM : ¬ (B : Int) < (SM : Int) := fun h => hin (hbc.1 (by omega))
          have hY1 : Hid (Y = X) := by show _ = _; rw [hsu1, hpc, hAl, decide_eq_false hin]; simp
          clear hsu1 hpc hAl hin hr hal hbc hlt hrun
          go_wp2_with (first | (go_at_call 26; (with_reducible refine (HF1.out _).mono ?_); (rintro e w2 ⟨rfl, rfl⟩)))
          go_roundw
          case rel => exact ⟨k + 1, by omega, by omega, by go_num, by rw [← hYh.out, hY1.out], hkp⟩
          case measure => simp [intOf]; omega
      · have c0 : decide ((48 : Int) ≤ (m : Int)) = true := by simp; omega
        have c1 : decide ((m : Int) ≤ 57) = true := by simp; omega
        have c2 : decide ((65 : Int) ≤ (m : Int)) = false := by simp; omega
        have c3 : decide ((m : Int) ≤ 90) = true := by simp; omega
        have c4 : decide ((97 : Int) ≤ (m : Int)) = false := by simp; omega
        have c5 : decide ((m : Int) ≤ 122) = true := by simp; omega
        have hAl : aln c = true := by rw [hal]; simp; omega
        have hY1 : Y = X ++ [c] := by rw [hsu1, hpc, hAl, Bool.true_or]; rfl
        have aX : str X ++ str [c] = str Y := by rw [hY1]; exact str_add _ _
        have HY1 := Lib.hid hY1
        clear hY1 hsu1 hpc hAl hr hal hbc hlt
        go_wp2_with fail
        go_roundw
        case rel => exact ⟨k + 1, by omega, by omega, by go_num, by rw [hYh.out], hkp.alloc _⟩
        case measure => simp [intOf]; omega
      · have c0 : decide ((48 : Int) ≤ (m : Int)) = true := by simp; omega
        have c1 : decide ((m : Int) ≤ 57) = false := by simp; omega
        have c2 : decide ((65 : Int) ≤ (m : Int)) = false := by simp; omega
        have c3 : decide ((m : Int) ≤ 90) = true := by simp; omega
        have c4 : decide ((97 : Int) ≤ (m : Int)) = false := by simp; omega
        have c5 : decide ((m : Int) ≤ 122) = true := by simp; omega
        have hAl : aln c = false := by rw [hal]; simp; omega
        by_cases hin : c ∈ M
        · have hBM : (B : Int) < (SM : Int) := by have := hbc.2 hin; omega
          have hY1 : Y = X ++ [c] := by rw [hsu1, hpc, hAl, decide_eq_true hin]; rfl
          have aX : str X ++ str [c] = str Y := by rw [hY1]; exact str_add _ _
          have HY1 := Lib.hid hY1
          clear hY1 hsu1 hpc hAl hin hr hal hbc hlt
          go_wp2_with (first | (go_at_call 26; (with_reducible refine (HF1.out _).mono ?_); (rintro e w2 ⟨rfl, rfl⟩)))
          go_roundw
          case rel => exact ⟨k + 1, by omega, by omega, by go_num, by rw [hYh.out], hkp.alloc _⟩
          case measure => simp [intOf]; omega
        · have hBM : ¬ (B : Int) < (SM : Int) := fun h => hin (hbc.1 (by omega))
          have hY1 : Hid (Y = X) := by show _ = _; rw [hsu1, hpc, hAl, decide_eq_false hin]; simp
          clear hsu1 hpc hAl hin hr hal hbc hlt hrun
          go_wp2_with (first | (go_at_call 26; (with_reducible refine (HF1.out _).mono ?_); (rintro e w2 ⟨rfl, rfl⟩)))
          go_roundw
          case rel => exact ⟨k + 1, by omega, by omega, by go_num, by rw [← hYh.out, hY1.out], hkp⟩
          case measure => simp [intOf]; omega
      · have c0 : decide ((48 : Int) ≤ (m : Int)) = true := by simp; omega
        have c1 : decide ((m : Int) ≤ 57) = false := by simp; omega
        have c2 : decide ((65 : Int) ≤ (m : Int)) = true := by simp; omega
        have c3 : decide ((m : Int) ≤ 90) = true := by simp; omega
        have c4 : decide ((97 : Int) ≤ (m : Int)) = false := by simp; omega
        have c5 : decide ((m : Int) ≤ 122) = true := by simp; omega
        have hAl : aln c = true := by rw [hal]; simp; omega
        have hY1 : Y = X ++ [c] := by rw [hsu1, hpc, hAl, Bool.true_or]; rfl
        have aX : str X ++ str [c] = str Y := by rw [hY1]; exact str_add _ _
        have HY1 := Lib.hid hY1
        clear hY1 hsu1 hpc hAl hr hal hbc hlt
        go_wp2_with fail
        go_roundw
        case rel => exact ⟨k + 1, by omega, by omega, by go_num, by rw [hYh.out], hkp.alloc _⟩
        case measure => simp [intOf]; omega
      · have c0 : decide ((48 : Int) ≤ (m : Int)) = true := by simp; omega
        have c1 : decide ((m : Int) ≤ 57) = false := by simp; omega
        have c2 : decide ((65 : Int) ≤ (m : Int)) = true := by simp; omega
        have c3 : decide ((m : Int) ≤ 90) = false := by simp; omega
        have c4 : decide ((97 : Int) ≤ (m : Int)) = false := by simp; omega
        have c5 : decide ((m : Int) ≤ 122) = true := by simp; omega
        have hAl : aln c = false := by rw [hal]; simp; omega
        by_cases hin : c ∈ M
        · have hBM : (B : Int) < (SM : Int) := by have := hbc.2 hin; omega
          have hY1 : Y = X ++ [c] := by rw [hsu1, hpc, hAl, decide_eq_true hin]; rfl
          have aX : str X ++ str [c] = str Y := by rw [hY1]; exact str_add _ _
          have HY1 := Lib.hid hY1
          clear hY1 hsu1 hpc hAl hin hr hal hbc hlt
          go_wp2_with (first | (go_at_call 26; (with_reducible refine (HF1.out _).mono ?_); (rintro e w2 ⟨rfl, rfl⟩)))
          go_roundw
          case rel => exact ⟨k + 1, by omega, by omega, by go_num, by rw [hYh.out], hkp.alloc _⟩
          case measure => simp [intOf]; omega
        · have hBM : ¬ (B : Int) < (SM : Int) := fun h => hin (hbc.1 (by omega))
          have hY1 : Hid (Y = X) := by show _ = _; rw [hsu1, hpc, hAl, decide_eq_false hin]; simp
          clear hsu1 hpc hAl hin hr hal hbc hlt hrun
          go_wp2_with (first | (go_at_call 26; (with_reducible refine (HF1.out _).mono ?_); (rintro e w2 ⟨rfl, rfl⟩)))
          go_roundw
          case rel => exact ⟨k + 1, by omega, by omega, by go_num, by rw [← hYh.out, hY1.out], hkp⟩
          case measure => simp [intOf]; omega
      · have c0 : decide ((48 : Int) ≤ (m : Int)) = true := by simp; omega
        have c1 : decide ((m : Int) ≤ 57) = false := by simp; omega
        have c2 : decide ((65 : Int) ≤ (m : Int)) = true := by simp; omega
        have c3 : decide ((m : Int) ≤ 90) = false := by simp; omega
        have c4 : decide ((97 : Int) ≤ (m : Int)) = true := by simp; omega
        have c5 : decide ((m : Int) ≤ 122) = true := by simp; omega
        have hAl : aln c = true := by rw [hal]; simp; omega
        have hY1 : Y = X ++ [c] := by rw [hsu1, hpc, hAl, Bool.true_or]; rfl
        have aX : str X ++ str [c] = str Y := by rw [hY1]; exact str_add _ _
        have HY1 := Lib.hid hY1
        clear hY1 hsu1 hpc hAl hr hal hbc hlt
        go_wp2_with fail
        go_roundw
        case rel => exact ⟨k + 1, by omega, by omega, by go_num, by rw [hYh.out], hkp.alloc _⟩
        case measure => simp [intOf]; omega
      · have c0 : decide ((48 : Int) ≤ (m : Int)) = true := by simp; omega
        have c1 : decide ((m : Int) ≤ 57) = false := by simp; omega
        have c2 : decide ((65 : Int) ≤ (m : Int)) = true := by simp; omega
        have c3 : decide ((m : Int) ≤ 90) = false := by simp; omega
        have c4 : decide ((97 : Int) ≤ (m : Int)) = true := by simp; omega
        have c5 : decide ((m : Int) ≤ 122) = false := by simp; omega
        have hAl : aln c = false := by rw [hal]; simp; omega
        by_cases hin : c ∈ M
        · have hBM : (B : Int) < (SM : Int) := by have := hbc.2 hin; omega
          have hY1 : Y = X ++ [c] := by rw [hsu1, hpc, hAl, decide_eq_true hin]; rfl
          have aX : str X ++ str [c] = str Y := by rw [hY1]; exact str_add _ _
          have HY1 := Lib.hid hY1
          clear hY1 hsu1 hpc hAl hin hr hal hbc hlt
          go_wp2_with (first | (go_at_call 26; (with_reducible refine (HF1.out _).mono ?_); (rintro e w2 ⟨rfl, rfl⟩)))
          go_roundw
          case rel => exact ⟨k + 1, by omega, by omega, by go_num, by rw [hYh.out], hkp.alloc _⟩
          case measure => simp [intOf]; omega
        · have hBM : ¬ (B : Int) < (SM : Int) := fun h => hin (hbc.1 (by omega))
          have hY1 : Hid (Y = X) := by show _ = _; rw [hsu1, hpc, hAl, decide_eq_false hin]; simp
          clear hsu1 hpc hAl hin hr hal hbc hlt hrun
          go_wp2_with (first | (go_at_call 26; (with_reducible refine (HF1.out _).mono ?_); (rintro e w2 ⟨rfl, rfl⟩)))
          go_roundw
          case rel => exact ⟨k + 1, by omega, by omega, by go_num, by rw [← hYh.out, hY1.out], hkp⟩
          case measure => simp [intOf]; omega
    · have hdone : k = min S 100 := by omega
      have hpl1 : Hid (str (pln M l) = str ((l.take k).filter (plc M))) := by show _ = _; rw [hpl.out, ← hdone]
      have hD := Lib.hid hdone
      by_cases hkS' : k < S
      · have hkS : (k : Int) < (S : Int) := by omega
        have hk100 : ¬ (k : Int) < 100 := by omega
        clear hlt hdone
        go_wp2_with fail
        go_ret
        rw [hpl1.out]
        exact ⟨rfl, hkp⟩
      · have hkS : ¬ (k : Int) < (S : Int) := by omega
        clear hlt hdone
        go_wp2_with fail
        go_ret
        rw [hpl1.out]
        exact ⟨rfl, hkp⟩
end Go.Proofs.YtcepigekibidfaaGreatDoor
