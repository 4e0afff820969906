/-
  What field.Number and transeptref10.Number answer. No condition but sizes.
-/
import Derived.Test.YtonchnmcklgpoaaGreatDoorMa
import Derived.Lib.MinMax
namespace Go.Proofs.YtonchnmcklgpoaaGreatDoor
open Go.RowKit
set_option linter.unusedVariables false

/-- What Number tells beside whether it is one. -/
def nmv (l : List UInt8) (most : Int) : Int := if dg l = true then min (nv l : Int) most else 0
theorem nmv_no (l : List UInt8) (most : Int) (h : dg l = false) : nmv l most = 0 := by
  unfold nmv
  rw [h]
  rfl
theorem nmv_yes (l : List UInt8) (most : Int) (h : dg l = true) : nmv l most = min (nv l : Int) most := by
  unfold nmv
  rw [if_pos h]
theorem str_empty (l : List UInt8) : (str l).toList.isEmpty = decide (l = []) := by
  rw [toList_str]
  cases l <;> simp
theorem dg_long (l : List UInt8) (h : 9 < l.length) : dg l = false := by
  unfold dg
  rw [decide_eq_false (by omega : ¬ l.length ≤ 9)]
  simp
theorem dg_bad (l : List UInt8) (k : Nat) (hk : k < l.length) (h : isd (l.getD k 0) = false) : dg l = false := by
  have : l.all isd = false := by
    rw [List.all_eq_false]
    refine ⟨l.getD k 0, ?_, by rw [h]; decide⟩
    rw [List.getD_eq_getElem?_getD, List.getElem?_eq_getElem hk]
    exact List.getElem_mem hk
  unfold dg
  rw [this]
  simp
theorem dg_yes (l : List UInt8) (h1 : 1 ≤ l.length) (h2 : l.length ≤ 9) (h3 : l.all isd = true) : dg l = true := by
  unfold dg
  rw [decide_eq_true h1, decide_eq_true h2, h3]
  rfl
theorem all_take (l : List UInt8) (k : Nat) (hk : k < l.length) (h : (l.take k).all isd = true) (h2 : isd (l.getD k 0) = true) : (l.take (k + 1)).all isd = true := by
  rw [take_snoc l k (l.getD k 0) (by simp [List.getD, List.getElem?_eq_getElem hk]), List.all_append, h, List.all_cons, h2]
  rfl
theorem isd_at (c : UInt8) (m : Nat) (hm : m = c.toNat) : isd c = (decide (48 ≤ m) && decide (m ≤ 57)) := by rw [hm]; rfl
theorem nv_bound (l : List UInt8) (k : Nat) (h : (l.take k).all isd = true) (hl : l.length ≤ 9) : nv (l.take k) ≤ 999999999 := by
  have h1 := nv_lt _ h
  have h2 : 10 ^ (l.take k).length ≤ 10 ^ 9 := Nat.pow_le_pow_right (by omega) (by rw [List.length_take]; omega)
  have h3 : (10 : Nat) ^ 9 = 1000000000 := by decide
  omega
set_option maxHeartbeats 4000000 in
set_option maxRecDepth 100000 in
theorem number_any (l : List UInt8) (most : Int) (w : World) : Calls Tryz.prog 58 #[.string (str l), .int .i64 most] w fun e w' => e = .returned (.tuple #[.int .i64 (nmv l most), .bool (dg l)]) ∧ w' = w := by
  have hsz := str_size l
  rcases (by omega : l.length = 0 ∨ 9 < l.length ∨ (1 ≤ l.length ∧ l.length ≤ 9)) with h | h | ⟨h1, h9⟩
  · have hl : l = [] := List.eq_nil_of_length_eq_zero h
    have hem : (str l).toList.isEmpty = true := by rw [str_empty]; exact decide_eq_true hl
    have hd0 : dg l = false := by rw [hl]; rfl
    rw [nmv_no l most hd0, hd0]
    clear hd0
    clear h hl
    go_enter Tryz.func58, Tryz.ntmps58
    go_wp2_with fail
    go_ret2
    exact ⟨rfl, rfl⟩
  · rw [nmv_no l most (dg_long l h), dg_long l h]
    have hne : l ≠ [] := fun e => by subst e; simp at h
    have hem : (str l).toList.isEmpty = false := by rw [str_empty]; exact decide_eq_false hne
    obtain ⟨S, hS⟩ : ∃ S, S = l.length := ⟨_, rfl⟩
    rw [← hS] at hsz h
    have hS9 : (9 : Int) < (S : Int) := by omega
    clear hS hne
    go_enter Tryz.func58, Tryz.ntmps58
    go_wp2_with fail
    go_ret2
    exact ⟨rfl, rfl⟩
  · have hne : l ≠ [] := fun e => by subst e; simp at h1
    have hem : (str l).toList.isEmpty = false := by rw [str_empty]; exact decide_eq_false hne
    have hgb : Hid (∀ k, k < l.length → ∀ h, ((str l)[k]'h).toNat = (l.getD k 0).toNat) := fun k hk h => str_at l k hk h
    have HB : Hid (∀ k, k < l.length → isd (l.getD k 0) = false → dg l = false) := fun k hk h => dg_bad l k hk h
    have HA : Hid (∀ k, k < l.length → (l.take k).all isd = true → isd (l.getD k 0) = true → (l.take (k + 1)).all isd = true) := fun k hk h h2 => all_take l k hk h h2
    have HY : Hid (l.all isd = true → dg l = true) := fun h => dg_yes l h1 h9 h
    have HV : Hid (∀ k, k < l.length → nv (l.take (k + 1)) = nv (l.take k) * 10 + ((l.getD k 0).toNat - 48)) := fun k hk => nv_take l k hk
    have HT : Hid (l.take l.length = l) := List.take_length
    have HNb : Hid (∀ k, (l.take k).all isd = true → nv (l.take k) ≤ 999999999) := fun k h => nv_bound l k h h9
    obtain ⟨S, hS⟩ : ∃ S, S = l.length := ⟨_, rfl⟩
    rw [← hS] at hsz h1 h9 hgb HB HA HV HT
    have hS9 : ¬ (9 : Int) < (S : Int) := by omega
    clear hS hne
    go_enter Tryz.func58, Tryz.ntmps58
    go_wp2_with fail
    go_loop [18, 6] (fun i v => ∃ (k n : Nat), k ≤ S ∧ i = .int .i64 (k : Int) ∧ v = .int .i64 (n : Int) ∧ (l.take k).all isd = true ∧ n = nv (l.take k)) (fun i _ => S - (intOf i).toNat)
    case atStart => exact ⟨0, 0, by omega, rfl, rfl, rfl, rfl⟩
    case round =>
      obtain ⟨k, n, hk, rfl, rfl, hall, hn⟩ := hrel
      have hnb := HNb.out k hall
      rw [← hn] at hnb
      have HAll := Lib.hid hall
      have Hn := Lib.hid hn
      clear hall hn
      by_cases hlt : k < S
      · have hkS : (k : Int) < (S : Int) := by omega
        have HG := hgb.out k hlt
        have HVk := Lib.hid (HV.out k hlt)
        have HBk := Lib.hid (HB.out k hlt)
        have HAk := Lib.hid (HA.out k hlt HAll.out)
        obtain ⟨x, hx⟩ : ∃ x, x = l.getD k 0 := ⟨_, rfl⟩
        rw [← hx] at HG HVk HBk HAk
        obtain ⟨m, hm⟩ : ∃ m, m = x.toNat := ⟨_, rfl⟩
        have hd := isd_at x m hm
        rw [← hm] at HG HVk
        clear hx hm
        by_cases h48 : 48 ≤ m
        · by_cases h57 : m ≤ 57
          · have c0 : ¬ (m : Int) < 48 := by omega
            have c1 : ¬ (57 : Int) < (m : Int) := by omega
            rw [decide_eq_true h48, decide_eq_true h57] at hd
            have HAk2 := Lib.hid (HAk.out hd)
            obtain ⟨a, ha⟩ : ∃ a, a = n * 10 := ⟨_, rfl⟩
            obtain ⟨d, hdd⟩ : ∃ d, d = m - 48 := ⟨_, rfl⟩
            obtain ⟨n2, hn2⟩ : ∃ n2, n2 = a + d := ⟨_, rfl⟩
            have hw1 : IntKind.i64.wrap ((n : Int) * 10) = (a : Int) := by rw [IntKind.wrap_i64]; omega
            have hw2 : IntKind.u8.wrap ((m : Int) - 48) = (d : Int) := by simp [IntKind.wrap, IntKind.signed, IntKind.bits]; omega
            have hw3 : IntKind.i64.wrap ((a : Int) + (d : Int)) = (n2 : Int) := by rw [IntKind.wrap_i64]; omega
            have hw4 : IntKind.i64.wrap (d : Int) = (d : Int) := by rw [IntKind.wrap_i64]; omega
            have HN2 : Hid (n2 = nv (l.take (k + 1))) := by show _ = _; rw [HVk.out, ← Hn.out, hn2, ha, hdd]
            clear ha hdd hn2 hd h48 h57
            go_wp2_with fail
            go_round
            case rel => exact ⟨k + 1, n2, by omega, by go_num, rfl, HAk2.out, HN2.out⟩
            case measure => simp [intOf]; omega
          · have c0 : ¬ (m : Int) < 48 := by omega
            have c1 : (57 : Int) < (m : Int) := by omega
            rw [decide_eq_false h57, Bool.and_false] at hd
            have HD := Lib.hid (HBk.out hd)
            clear hd h48 h57
            go_wp2_with fail
            go_ret2
            rw [nmv_no l most HD.out, HD.out]
            exact ⟨rfl, rfl⟩
        · have c0 : (m : Int) < 48 := by omega
          rw [decide_eq_false h48, Bool.false_and] at hd
          have HD := Lib.hid (HBk.out hd)
          clear hd h48
          go_wp2_with fail
          go_ret2
          rw [nmv_no l most HD.out, HD.out]
          exact ⟨rfl, rfl⟩
      · have hkS : ¬ (k : Int) < (S : Int) := by omega
        have hke : Hid (k = S) := by show _ = _; omega
        go_wp2_with fail
        go_ret2
        have h2 := HAll.out
        have h3 := Hn.out
        rw [hke.out, HT.out] at h2 h3
        rw [nmv_yes l most (HY.out h2), HY.out h2, ← h3]
        exact ⟨rfl, rfl⟩
set_option maxHeartbeats 4000000 in
set_option maxRecDepth 100000 in
theorem rnumber_any (l : List UInt8) (most : Int) (w : World) : Calls Tryz.prog 48 #[.string (str l), .int .i64 most] w fun e w' => e = .returned (.tuple #[.int .i64 (nmv l most), .bool (dg l)]) ∧ w' = w := by
  have hsz := str_size l
  rcases (by omega : l.length = 0 ∨ 9 < l.length ∨ (1 ≤ l.length ∧ l.length ≤ 9)) with h | h | ⟨h1, h9⟩
  · have hl : l = [] := List.eq_nil_of_length_eq_zero h
    have hem : (str l).toList.isEmpty = true := by rw [str_empty]; exact decide_eq_true hl
    have hd0 : dg l = false := by rw [hl]; rfl
    rw [nmv_no l most hd0, hd0]
    clear hd0
    clear h hl
    go_enter Tryz.func48, Tryz.ntmps48
    go_wp2_with fail
    go_ret2
    exact ⟨rfl, rfl⟩
  · rw [nmv_no l most (dg_long l h), dg_long l h]
    have hne : l ≠ [] := fun e => by subst e; simp at h
    have hem : (str l).toList.isEmpty = false := by rw [str_empty]; exact decide_eq_false hne
    obtain ⟨S, hS⟩ : ∃ S, S = l.length := ⟨_, rfl⟩
    rw [← hS] at hsz h
    have hS9 : (9 : Int) < (S : Int) := by omega
    clear hS hne
    go_enter Tryz.func48, Tryz.ntmps48
    go_wp2_with fail
    go_ret2
    exact ⟨rfl, rfl⟩
  · have hne : l ≠ [] := fun e => by subst e; simp at h1
    have hem : (str l).toList.isEmpty = false := by rw [str_empty]; exact decide_eq_false hne
    have hgb : Hid (∀ k, k < l.length → ∀ h, ((str l)[k]'h).toNat = (l.getD k 0).toNat) := fun k hk h => str_at l k hk h
    have HB : Hid (∀ k, k < l.length → isd (l.getD k 0) = false → dg l = false) := fun k hk h => dg_bad l k hk h
    have HA : Hid (∀ k, k < l.length → (l.take k).all isd = true → isd (l.getD k 0) = true → (l.take (k + 1)).all isd = true) := fun k hk h h2 => all_take l k hk h h2
    have HY : Hid (l.all isd = true → dg l = true) := fun h => dg_yes l h1 h9 h
    have HV : Hid (∀ k, k < l.length → nv (l.take (k + 1)) = nv (l.take k) * 10 + ((l.getD k 0).toNat - 48)) := fun k hk => nv_take l k hk
    have HT : Hid (l.take l.length = l) := List.take_length
    have HNb : Hid (∀ k, (l.take k).all isd = true → nv (l.take k) ≤ 999999999) := fun k h => nv_bound l k h h9
    obtain ⟨S, hS⟩ : ∃ S, S = l.length := ⟨_, rfl⟩
    rw [← hS] at hsz h1 h9 hgb HB HA HV HT
    have hS9 : ¬ (9 : Int) < (S : Int) := by omega
    clear hS hne
    go_enter Tryz.func48, Tryz.ntmps48
    go_wp2_with fail
    go_loop [7, 6] (fun i v => ∃ (k n : Nat), k ≤ S ∧ i = .int .i64 (k : Int) ∧ v = .int .i64 (n : Int) ∧ (l.take k).all isd = true ∧ n = nv (l.take k)) (fun i _ => S - (intOf i).toNat)
    case atStart => exact ⟨0, 0, by omega, rfl, rfl, rfl, rfl⟩
    case round =>
      obtain ⟨k, n, hk, rfl, rfl, hall, hn⟩ := hrel
      have hnb := HNb.out k hall
      rw [← hn] at hnb
      have HAll := Lib.hid hall
      have Hn := Lib.hid hn
      clear hall hn
      by_cases hlt : k < S
      · have hkS : (k : Int) < (S : Int) := by omega
        have HG := hgb.out k hlt
        have HVk := Lib.hid (HV.out k hlt)
        have HBk := Lib.hid (HB.out k hlt)
        have HAk := Lib.hid (HA.out k hlt HAll.out)
        obtain ⟨x, hx⟩ : ∃ x, x = l.getD k 0 := ⟨_, rfl⟩
        rw [← hx] at HG HVk HBk HAk
        obtain ⟨m, hm⟩ : ∃ m, m = x.toNat := ⟨_, rfl⟩
        have hd := isd_at x m hm
        rw [← hm] at HG HVk
        clear hx hm
        by_cases h48 : 48 ≤ m
        · by_cases h57 : m ≤ 57
          · have c0 : ¬ (m : Int) < 48 := by omega
            have c1 : ¬ (57 : Int) < (m : Int) := by omega
            rw [decide_eq_true h48, decide_eq_true h57] at hd
            have HAk2 := Lib.hid (HAk.out hd)
            obtain ⟨a, ha⟩ : ∃ a, a = n * 10 := ⟨_, rfl⟩
            obtain ⟨d, hdd⟩ : ∃ d, d = m - 48 := ⟨_, rfl⟩
            obtain ⟨n2, hn2⟩ : ∃ n2, n2 = a + d := ⟨_, rfl⟩
            have hw1 : IntKind.i64.wrap (10 * (n : Int)) = (a : Int) := by rw [IntKind.wrap_i64]; omega
            have hw2 : IntKind.u8.wrap ((m : Int) - 48) = (d : Int) := by simp [IntKind.wrap, IntKind.signed, IntKind.bits]; omega
            have hw3 : IntKind.i64.wrap ((a : Int) + (d : Int)) = (n2 : Int) := by rw [IntKind.wrap_i64]; omega
            have hw4 : IntKind.i64.wrap (d : Int) = (d : Int) := by rw [IntKind.wrap_i64]; omega
            have HN2 : Hid (n2 = nv (l.take (k + 1))) := by show _ = _; rw [HVk.out, ← Hn.out, hn2, ha, hdd]
            clear ha hdd hn2 hd h48 h57
            go_wp2_with fail
            go_round
            case rel => exact ⟨k + 1, n2, by omega, by go_num, rfl, HAk2.out, HN2.out⟩
            case measure => simp [intOf]; omega
          · have c0 : ¬ (m : Int) < 48 := by omega
            have c1 : (57 : Int) < (m : Int) := by omega
            rw [decide_eq_false h57, Bool.and_false] at hd
            have HD := Lib.hid (HBk.out hd)
            clear hd h48 h57
            go_wp2_with fail
            go_ret2
            rw [nmv_no l most HD.out, HD.out]
            exact ⟨rfl, rfl⟩
        · have c0 : (m : Int) < 48 := by omega
          rw [decide_eq_false h48, Bool.false_and] at hd
          have HD := Lib.hid (HBk.out hd)
          clear hd h48
          go_wp2_with fail
          go_ret2
          rw [nmv_no l most HD.out, HD.out]
          exact ⟨rfl, rfl⟩
      · have hkS : ¬ (k : Int) < (S : Int) := by omega
        have hke : Hid (k = S) := by show _ = _; omega
        go_wp2_with fail
        go_ret2
        have h2 := HAll.out
        have h3 := Hn.out
        rw [hke.out, HT.out] at h2 h3
        rw [nmv_yes l most (HY.out h2), HY.out h2, ← h3]
        exact ⟨rfl, rfl⟩
end Go.Proofs.YtonchnmcklgpoaaGreatDoor
