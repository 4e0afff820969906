/-
  What strings.HasPrefix, CutPrefix, safe.Method, Never, Reads, Hidden and plain answer. No condition but sizes.
-/
import Derived.Test.YtonchnmcklgpoaaGreatDoorSb
import Derived.Test.YtonchnmcklgpoaaGreatDoorMt
import Derived.Test.YtonchnmcklgpoaaGreatDoorEb
namespace Go.Proofs.YtonchnmcklgpoaaGreatDoor
open Go.RowKit
set_option linter.unusedVariables false

theorem eq_lit (M n : List UInt8) : ((str M).toList == n) = decide (M = n) := by
  rw [toList_str]
  by_cases h : M = n
  · simp [h]
  · simp [h]
theorem eq_str (a b : List UInt8) : ((str a).toList == (str b).toList) = decide (a = b) := by
  rw [toList_str b]
  exact eq_lit a b
set_option maxHeartbeats 4000000 in
set_option maxRecDepth 100000 in
theorem lpre_any (l p : List UInt8) (w : World) (hl : l.length ≤ 9223372036854775807) (hp : p.length ≤ 9223372036854775807) : Calls Tryz.prog 49 #[.string (str l), .string (str p)] w fun e w' => e = .returned (.bool (pre l p)) ∧ w' = w := by
  have hsz := str_size l
  have hsp := str_size p
  have HR : Hid (pre l p = (decide (p.length ≤ l.length) && decide (l.take p.length = p))) := rfl
  have HT := Lib.hid (str_take l p.length)
  have HE := Lib.hid (eq_str (l.take p.length) p)
  generalize l.take p.length = T at *
  generalize decide (T = p) = B at *
  obtain ⟨S, hS⟩ : ∃ S, S = l.length := ⟨_, rfl⟩
  obtain ⟨P, hP⟩ : ∃ P, P = p.length := ⟨_, rfl⟩
  rw [← hS] at hsz hl HR
  rw [← hP] at hsp hp HR HT
  have hx := HT.out
  have he := HE.out
  clear hS hP
  rw [HR.out]
  clear HR HT HE
  by_cases h : P ≤ S
  · have h1 : decide ((P : Int) ≤ (S : Int)) = true := by simp; omega
    have h2 : (P : Int) ≤ (S : Int) := by omega
    have h3 : (0 : Int) ≤ (P : Int) := by omega
    rw [decide_eq_true h, Bool.true_and]
    clear h
    cases B
    · go_enter Tryz.func49, Tryz.ntmps49
      go_wp2_with fail
      go_ret
      exact ⟨rfl, rfl⟩
    · go_enter Tryz.func49, Tryz.ntmps49
      go_wp2_with fail
      go_ret
      exact ⟨rfl, rfl⟩
  · have h1 : decide ((P : Int) ≤ (S : Int)) = false := by simp; omega
    rw [decide_eq_false h, Bool.false_and]
    go_enter Tryz.func49, Tryz.ntmps49
    go_wp2_with fail
    go_ret
    exact ⟨rfl, rfl⟩
theorem pre_any (l p : List UInt8) (w : World) (hl : l.length ≤ 9223372036854775807) (hp : p.length ≤ 9223372036854775807) : Calls Tryz.prog 30 #[.string (str l), .string (str p)] w fun e w' => e = .returned (.bool (pre l p)) ∧ w' = w := by
  have H : Hid (∀ w', Calls Tryz.prog 49 #[.string (str l), .string (str p)] w' fun e w2 => e = .returned (.bool (pre l p)) ∧ w2 = w') := fun w' => lpre_any l p w' hl hp
  generalize pre l p = B at *
  go_enter Tryz.func30, Tryz.ntmps30
  go_wp2_with (first | (go_at_call 49; (with_reducible refine (H.out _).mono ?_); (rintro e w1 ⟨rfl, hq⟩); subst w1))
  go_ret
  exact ⟨rfl, rfl⟩
set_option maxHeartbeats 4000000 in
set_option maxRecDepth 100000 in
theorem lcutpre_any (l p : List UInt8) (w : World) (hl : l.length ≤ 9223372036854775807) (hp : p.length ≤ 9223372036854775807) : Calls Tryz.prog 66 #[.string (str l), .string (str p)] w fun e w' => e = .returned (.tuple #[.string (str (rst l p)), .bool (pre l p)]) ∧ w' = w := by
  have hsz := str_size l
  have hsp := str_size p
  have H : Hid (∀ w', Calls Tryz.prog 49 #[.string (str l), .string (str p)] w' fun e w2 => e = .returned (.bool (pre l p)) ∧ w2 = w') := fun w' => lpre_any l p w' hl hp
  have HR : Hid (rst l p = if pre l p then l.drop p.length else l) := rfl
  by_cases h : pre l p = true
  · have h2 := (pre_iff l p).1 h
    rw [h] at H HR ⊢
    have HX := Lib.hid (str_drop l p.length l.length rfl h2.1)
    rw [HR.out, if_pos rfl]
    clear HR h
    generalize l.drop p.length = T at *
    obtain ⟨S, hS⟩ : ∃ S, S = l.length := ⟨_, rfl⟩
    obtain ⟨P, hP⟩ : ∃ P, P = p.length := ⟨_, rfl⟩
    rw [← hS] at hsz hl h2 HX
    rw [← hP] at hsp hp h2 HX
    have h3 : (P : Int) ≤ (S : Int) := by omega
    have h4 : (0 : Int) ≤ (P : Int) := by omega
    have hx := HX.out
    clear h2 hS hP HX
    go_enter Tryz.func66, Tryz.ntmps66
    go_wp2_with (first | (go_at_call 49; (with_reducible refine (H.out _).mono ?_); (rintro e w1 ⟨rfl, hq⟩); subst w1))
    go_ret2
    exact ⟨rfl, rfl⟩
  · have h2 : pre l p = false := by simpa using h
    rw [h2] at H HR ⊢
    rw [HR.out, if_neg (by decide)]
    clear HR h h2
    go_enter Tryz.func66, Tryz.ntmps66
    go_wp2_with (first | (go_at_call 49; (with_reducible refine (H.out _).mono ?_); (rintro e w1 ⟨rfl, hq⟩); subst w1))
    go_ret2
    exact ⟨rfl, rfl⟩
theorem cutpre_any (l p : List UInt8) (w : World) (hl : l.length ≤ 9223372036854775807) (hp : p.length ≤ 9223372036854775807) : Calls Tryz.prog 56 #[.string (str l), .string (str p)] w fun e w' => e = .returned (.tuple #[.string (str (rst l p)), .bool (pre l p)]) ∧ w' = w := by
  have H : Hid (∀ w', Calls Tryz.prog 66 #[.string (str l), .string (str p)] w' fun e w2 => e = .returned (.tuple #[.string (str (rst l p)), .bool (pre l p)]) ∧ w2 = w') := fun w' => lcutpre_any l p w' hl hp
  generalize pre l p = B at *
  generalize rst l p = R at *
  go_enter Tryz.func56, Tryz.ntmps56
  go_wp2_with (first | (go_at_call 66; (with_reducible refine (H.out _).mono ?_); (rintro e w1 ⟨rfl, hq⟩); subst w1))
  go_ret2
  exact ⟨rfl, rfl⟩
set_option maxHeartbeats 4000000 in
set_option maxRecDepth 100000 in
theorem smethod_any (s : List UInt8) (w : World) (hl : s.length ≤ 9223372036854775807) : Calls Tryz.prog 6 #[.string (str s)] w fun e w' => e = .returned (.bool (mtd s)) ∧ Below w.heap.size w w' := by
  have H : Hid (∀ w', Calls Tryz.prog 19 #[.string (str s)] w' fun e w2 => e = .returned (.string (str (mth mths s))) ∧ Below w'.heap.size w' w2) := fun w' => method_any s w' hl
  have HR : Hid (mtd s = mth3.contains (mth mths s)) := rfl
  generalize mth mths s = M at *
  by_cases h0 : M = [71, 69, 84]
  · have f0 : ((str M).toList == [71, 69, 84]) = true := by rw [eq_lit]; exact decide_eq_true h0
    have hc : mth3.contains M = true := by rw [h0]; decide +kernel
    rw [HR.out]
    have HC := Lib.hid hc
    clear hc h0
    rw [HC.out]
    go_enter Tryz.func6, Tryz.ntmps6
    go_wp2_with (first | (go_at_call 19; (with_reducible refine (H.out _).mono ?_); (rintro e w1 ⟨rfl, hb⟩); have HB := Lib.hid hb; clear hb))
    go_ret
    exact ⟨rfl, HB.out⟩
  · skip
    by_cases h1 : M = [72, 69, 65, 68]
    · have f0 : ((str M).toList == [71, 69, 84]) = false := by rw [eq_lit]; exact decide_eq_false h0
      have f1 : ((str M).toList == [72, 69, 65, 68]) = true := by rw [eq_lit]; exact decide_eq_true h1
      have hc : mth3.contains M = true := by rw [h1]; decide +kernel
      rw [HR.out]
      have HC := Lib.hid hc
      clear hc h0 h1
      rw [HC.out]
      go_enter Tryz.func6, Tryz.ntmps6
      go_wp2_with (first | (go_at_call 19; (with_reducible refine (H.out _).mono ?_); (rintro e w1 ⟨rfl, hb⟩); have HB := Lib.hid hb; clear hb))
      go_ret
      exact ⟨rfl, HB.out⟩
    · skip
      by_cases h2 : M = [80, 79, 83, 84]
      · have f0 : ((str M).toList == [71, 69, 84]) = false := by rw [eq_lit]; exact decide_eq_false h0
        have f1 : ((str M).toList == [72, 69, 65, 68]) = false := by rw [eq_lit]; exact decide_eq_false h1
        have f2 : ((str M).toList == [80, 79, 83, 84]) = true := by rw [eq_lit]; exact decide_eq_true h2
        have hc : mth3.contains M = true := by rw [h2]; decide +kernel
        rw [HR.out]
        have HC := Lib.hid hc
        clear hc h0 h1 h2
        rw [HC.out]
        go_enter Tryz.func6, Tryz.ntmps6
        go_wp2_with (first | (go_at_call 19; (with_reducible refine (H.out _).mono ?_); (rintro e w1 ⟨rfl, hb⟩); have HB := Lib.hid hb; clear hb))
        go_ret
        exact ⟨rfl, HB.out⟩
      · skip
        have f0 : ((str M).toList == [71, 69, 84]) = false := by rw [eq_lit]; exact decide_eq_false h0
        have f1 : ((str M).toList == [72, 69, 65, 68]) = false := by rw [eq_lit]; exact decide_eq_false h1
        have f2 : ((str M).toList == [80, 79, 83, 84]) = false := by rw [eq_lit]; exact decide_eq_false h2
        have hc : mth3.contains M = false := by
          rw [mth3]
          simp only [List.contains_cons, List.contains_nil, Bool.or_false, Bool.or_eq_false_iff, beq_eq_false_iff_ne]
          exact ⟨h0, h1, h2⟩
        rw [HR.out]
        have HC := Lib.hid hc
        clear hc h0 h1 h2
        rw [HC.out]
        go_enter Tryz.func6, Tryz.ntmps6
        go_wp2_with (first | (go_at_call 19; (with_reducible refine (H.out _).mono ?_); (rintro e w1 ⟨rfl, hb⟩); have HB := Lib.hid hb; clear hb))
        go_ret
        exact ⟨rfl, HB.out⟩
set_option maxHeartbeats 4000000 in
set_option maxRecDepth 100000 in
theorem reads_any (n : List UInt8) (w : World) (hl : n.length ≤ 9223372036854775807) : Calls Tryz.prog 12 #[.string (str n)] w fun e w' => e = .returned (.bool (rds n)) ∧ Below w.heap.size w w' := by
  have H : Hid (∀ w', Calls Tryz.prog 29 #[.string (str n)] w' fun e w2 => e = .returned (.string (str (low n))) ∧ Below w'.heap.size w' w2) := fun w' => lower_any n w' hl
  have HR : Hid (rds n = rdsL.contains (low n)) := rfl
  have HL : Hid ((low n).length ≤ 9223372036854775807) := by show _ ≤ _; rw [low_length]; exact hl
  generalize low n = M at *
  by_cases h0 : M = [99, 97, 99, 104, 101, 45, 99, 111, 110, 116, 114, 111, 108]
  · have f0 : ((str M).toList == [99, 97, 99, 104, 101, 45, 99, 111, 110, 116, 114, 111, 108]) = true := by rw [eq_lit]; exact decide_eq_true h0
    have hc : rdsL.contains M = true := by rw [h0]; decide +kernel
    rw [HR.out]
    have HC := Lib.hid hc
    clear hc h0
    rw [HC.out]
    go_enter Tryz.func12, Tryz.ntmps12
    go_wp2_with (first | (go_at_call 29; (with_reducible refine (H.out _).mono ?_); (rintro e w1 ⟨rfl, hb⟩); have HB := Lib.hid hb; clear hb))
    go_ret
    exact ⟨rfl, HB.out⟩
  · skip
    by_cases h1 : M = [99, 111, 110, 116, 101, 110, 116, 45, 108, 97, 110, 103, 117, 97, 103, 101]
    · have f0 : ((str M).toList == [99, 97, 99, 104, 101, 45, 99, 111, 110, 116, 114, 111, 108]) = false := by rw [eq_lit]; exact decide_eq_false h0
      have f1 : ((str M).toList == [99, 111, 110, 116, 101, 110, 116, 45, 108, 97, 110, 103, 117, 97, 103, 101]) = true := by rw [eq_lit]; exact decide_eq_true h1
      have hc : rdsL.contains M = true := by rw [h1]; decide +kernel
      rw [HR.out]
      have HC := Lib.hid hc
      clear hc h0 h1
      rw [HC.out]
      go_enter Tryz.func12, Tryz.ntmps12
      go_wp2_with (first | (go_at_call 29; (with_reducible refine (H.out _).mono ?_); (rintro e w1 ⟨rfl, hb⟩); have HB := Lib.hid hb; clear hb))
      go_ret
      exact ⟨rfl, HB.out⟩
    · skip
      by_cases h2 : M = [99, 111, 110, 116, 101, 110, 116, 45, 108, 101, 110, 103, 116, 104]
      · have f0 : ((str M).toList == [99, 97, 99, 104, 101, 45, 99, 111, 110, 116, 114, 111, 108]) = false := by rw [eq_lit]; exact decide_eq_false h0
        have f1 : ((str M).toList == [99, 111, 110, 116, 101, 110, 116, 45, 108, 97, 110, 103, 117, 97, 103, 101]) = false := by rw [eq_lit]; exact decide_eq_false h1
        have f2 : ((str M).toList == [99, 111, 110, 116, 101, 110, 116, 45, 108, 101, 110, 103, 116, 104]) = true := by rw [eq_lit]; exact decide_eq_true h2
        have hc : rdsL.contains M = true := by rw [h2]; decide +kernel
        rw [HR.out]
        have HC := Lib.hid hc
        clear hc h0 h1 h2
        rw [HC.out]
        go_enter Tryz.func12, Tryz.ntmps12
        go_wp2_with (first | (go_at_call 29; (with_reducible refine (H.out _).mono ?_); (rintro e w1 ⟨rfl, hb⟩); have HB := Lib.hid hb; clear hb))
        go_ret
        exact ⟨rfl, HB.out⟩
      · skip
        by_cases h3 : M = [99, 111, 110, 116, 101, 110, 116, 45, 116, 121, 112, 101]
        · have f0 : ((str M).toList == [99, 97, 99, 104, 101, 45, 99, 111, 110, 116, 114, 111, 108]) = false := by rw [eq_lit]; exact decide_eq_false h0
          have f1 : ((str M).toList == [99, 111, 110, 116, 101, 110, 116, 45, 108, 97, 110, 103, 117, 97, 103, 101]) = false := by rw [eq_lit]; exact decide_eq_false h1
          have f2 : ((str M).toList == [99, 111, 110, 116, 101, 110, 116, 45, 108, 101, 110, 103, 116, 104]) = false := by rw [eq_lit]; exact decide_eq_false h2
          have f3 : ((str M).toList == [99, 111, 110, 116, 101, 110, 116, 45, 116, 121, 112, 101]) = true := by rw [eq_lit]; exact decide_eq_true h3
          have hc : rdsL.contains M = true := by rw [h3]; decide +kernel
          rw [HR.out]
          have HC := Lib.hid hc
          clear hc h0 h1 h2 h3
          rw [HC.out]
          go_enter Tryz.func12, Tryz.ntmps12
          go_wp2_with (first | (go_at_call 29; (with_reducible refine (H.out _).mono ?_); (rintro e w1 ⟨rfl, hb⟩); have HB := Lib.hid hb; clear hb))
          go_ret
          exact ⟨rfl, HB.out⟩
        · skip
          by_cases h4 : M = [101, 120, 112, 105, 114, 101, 115]
          · have f0 : ((str M).toList == [99, 97, 99, 104, 101, 45, 99, 111, 110, 116, 114, 111, 108]) = false := by rw [eq_lit]; exact decide_eq_false h0
            have f1 : ((str M).toList == [99, 111, 110, 116, 101, 110, 116, 45, 108, 97, 110, 103, 117, 97, 103, 101]) = false := by rw [eq_lit]; exact decide_eq_false h1
            have f2 : ((str M).toList == [99, 111, 110, 116, 101, 110, 116, 45, 108, 101, 110, 103, 116, 104]) = false := by rw [eq_lit]; exact decide_eq_false h2
            have f3 : ((str M).toList == [99, 111, 110, 116, 101, 110, 116, 45, 116, 121, 112, 101]) = false := by rw [eq_lit]; exact decide_eq_false h3
            have f4 : ((str M).toList == [101, 120, 112, 105, 114, 101, 115]) = true := by rw [eq_lit]; exact decide_eq_true h4
            have hc : rdsL.contains M = true := by rw [h4]; decide +kernel
            rw [HR.out]
            have HC := Lib.hid hc
            clear hc h0 h1 h2 h3 h4
            rw [HC.out]
            go_enter Tryz.func12, Tryz.ntmps12
            go_wp2_with (first | (go_at_call 29; (with_reducible refine (H.out _).mono ?_); (rintro e w1 ⟨rfl, hb⟩); have HB := Lib.hid hb; clear hb))
            go_ret
            exact ⟨rfl, HB.out⟩
          · skip
            by_cases h5 : M = [108, 97, 115, 116, 45, 109, 111, 100, 105, 102, 105, 101, 100]
            · have f0 : ((str M).toList == [99, 97, 99, 104, 101, 45, 99, 111, 110, 116, 114, 111, 108]) = false := by rw [eq_lit]; exact decide_eq_false h0
              have f1 : ((str M).toList == [99, 111, 110, 116, 101, 110, 116, 45, 108, 97, 110, 103, 117, 97, 103, 101]) = false := by rw [eq_lit]; exact decide_eq_false h1
              have f2 : ((str M).toList == [99, 111, 110, 116, 101, 110, 116, 45, 108, 101, 110, 103, 116, 104]) = false := by rw [eq_lit]; exact decide_eq_false h2
              have f3 : ((str M).toList == [99, 111, 110, 116, 101, 110, 116, 45, 116, 121, 112, 101]) = false := by rw [eq_lit]; exact decide_eq_false h3
              have f4 : ((str M).toList == [101, 120, 112, 105, 114, 101, 115]) = false := by rw [eq_lit]; exact decide_eq_false h4
              have f5 : ((str M).toList == [108, 97, 115, 116, 45, 109, 111, 100, 105, 102, 105, 101, 100]) = true := by rw [eq_lit]; exact decide_eq_true h5
              have hc : rdsL.contains M = true := by rw [h5]; decide +kernel
              rw [HR.out]
              have HC := Lib.hid hc
              clear hc h0 h1 h2 h3 h4 h5
              rw [HC.out]
              go_enter Tryz.func12, Tryz.ntmps12
              go_wp2_with (first | (go_at_call 29; (with_reducible refine (H.out _).mono ?_); (rintro e w1 ⟨rfl, hb⟩); have HB := Lib.hid hb; clear hb))
              go_ret
              exact ⟨rfl, HB.out⟩
            · skip
              by_cases h6 : M = [112, 114, 97, 103, 109, 97]
              · have f0 : ((str M).toList == [99, 97, 99, 104, 101, 45, 99, 111, 110, 116, 114, 111, 108]) = false := by rw [eq_lit]; exact decide_eq_false h0
                have f1 : ((str M).toList == [99, 111, 110, 116, 101, 110, 116, 45, 108, 97, 110, 103, 117, 97, 103, 101]) = false := by rw [eq_lit]; exact decide_eq_false h1
                have f2 : ((str M).toList == [99, 111, 110, 116, 101, 110, 116, 45, 108, 101, 110, 103, 116, 104]) = false := by rw [eq_lit]; exact decide_eq_false h2
                have f3 : ((str M).toList == [99, 111, 110, 116, 101, 110, 116, 45, 116, 121, 112, 101]) = false := by rw [eq_lit]; exact decide_eq_false h3
                have f4 : ((str M).toList == [101, 120, 112, 105, 114, 101, 115]) = false := by rw [eq_lit]; exact decide_eq_false h4
                have f5 : ((str M).toList == [108, 97, 115, 116, 45, 109, 111, 100, 105, 102, 105, 101, 100]) = false := by rw [eq_lit]; exact decide_eq_false h5
                have f6 : ((str M).toList == [112, 114, 97, 103, 109, 97]) = true := by rw [eq_lit]; exact decide_eq_true h6
                have hc : rdsL.contains M = true := by rw [h6]; decide +kernel
                rw [HR.out]
                have HC := Lib.hid hc
                clear hc h0 h1 h2 h3 h4 h5 h6
                rw [HC.out]
                go_enter Tryz.func12, Tryz.ntmps12
                go_wp2_with (first | (go_at_call 29; (with_reducible refine (H.out _).mono ?_); (rintro e w1 ⟨rfl, hb⟩); have HB := Lib.hid hb; clear hb))
                go_ret
                exact ⟨rfl, HB.out⟩
              · skip
                have f0 : ((str M).toList == [99, 97, 99, 104, 101, 45, 99, 111, 110, 116, 114, 111, 108]) = false := by rw [eq_lit]; exact decide_eq_false h0
                have f1 : ((str M).toList == [99, 111, 110, 116, 101, 110, 116, 45, 108, 97, 110, 103, 117, 97, 103, 101]) = false := by rw [eq_lit]; exact decide_eq_false h1
                have f2 : ((str M).toList == [99, 111, 110, 116, 101, 110, 116, 45, 108, 101, 110, 103, 116, 104]) = false := by rw [eq_lit]; exact decide_eq_false h2
                have f3 : ((str M).toList == [99, 111, 110, 116, 101, 110, 116, 45, 116, 121, 112, 101]) = false := by rw [eq_lit]; exact decide_eq_false h3
                have f4 : ((str M).toList == [101, 120, 112, 105, 114, 101, 115]) = false := by rw [eq_lit]; exact decide_eq_false h4
                have f5 : ((str M).toList == [108, 97, 115, 116, 45, 109, 111, 100, 105, 102, 105, 101, 100]) = false := by rw [eq_lit]; exact decide_eq_false h5
                have f6 : ((str M).toList == [112, 114, 97, 103, 109, 97]) = false := by rw [eq_lit]; exact decide_eq_false h6
                have hc : rdsL.contains M = false := by
                  rw [rdsL]
                  simp only [List.contains_cons, List.contains_nil, Bool.or_false, Bool.or_eq_false_iff, beq_eq_false_iff_ne]
                  exact ⟨h0, h1, h2, h3, h4, h5, h6⟩
                rw [HR.out]
                have HC := Lib.hid hc
                clear hc h0 h1 h2 h3 h4 h5 h6
                rw [HC.out]
                go_enter Tryz.func12, Tryz.ntmps12
                go_wp2_with (first | (go_at_call 29; (with_reducible refine (H.out _).mono ?_); (rintro e w1 ⟨rfl, hb⟩); have HB := Lib.hid hb; clear hb))
                go_ret
                exact ⟨rfl, HB.out⟩
set_option maxHeartbeats 4000000 in
set_option maxRecDepth 100000 in
theorem hidden_any (n : List UInt8) (w : World) (hl : n.length ≤ 9223372036854775807) : Calls Tryz.prog 14 #[.string (str n)] w fun e w' => e = .returned (.bool (hdn n)) ∧ Below w.heap.size w w' := by
  have H : Hid (∀ w', Calls Tryz.prog 29 #[.string (str n)] w' fun e w2 => e = .returned (.string (str (low n))) ∧ Below w'.heap.size w' w2) := fun w' => lower_any n w' hl
  have HR : Hid (hdn n = hdnL.contains (low n)) := rfl
  have HL : Hid ((low n).length ≤ 9223372036854775807) := by show _ ≤ _; rw [low_length]; exact hl
  generalize low n = M at *
  by_cases h0 : M = [115, 101, 116, 45, 99, 111, 111, 107, 105, 101]
  · have f0 : ((str M).toList == [115, 101, 116, 45, 99, 111, 111, 107, 105, 101]) = true := by rw [eq_lit]; exact decide_eq_true h0
    have hc : hdnL.contains M = true := by rw [h0]; decide +kernel
    rw [HR.out]
    have HC := Lib.hid hc
    clear hc h0
    rw [HC.out]
    go_enter Tryz.func14, Tryz.ntmps14
    go_wp2_with (first | (go_at_call 29; (with_reducible refine (H.out _).mono ?_); (rintro e w1 ⟨rfl, hb⟩); have HB := Lib.hid hb; clear hb))
    go_ret
    exact ⟨rfl, HB.out⟩
  · skip
    by_cases h1 : M = [115, 101, 116, 45, 99, 111, 111, 107, 105, 101, 50]
    · have f0 : ((str M).toList == [115, 101, 116, 45, 99, 111, 111, 107, 105, 101]) = false := by rw [eq_lit]; exact decide_eq_false h0
      have f1 : ((str M).toList == [115, 101, 116, 45, 99, 111, 111, 107, 105, 101, 50]) = true := by rw [eq_lit]; exact decide_eq_true h1
      have hc : hdnL.contains M = true := by rw [h1]; decide +kernel
      rw [HR.out]
      have HC := Lib.hid hc
      clear hc h0 h1
      rw [HC.out]
      go_enter Tryz.func14, Tryz.ntmps14
      go_wp2_with (first | (go_at_call 29; (with_reducible refine (H.out _).mono ?_); (rintro e w1 ⟨rfl, hb⟩); have HB := Lib.hid hb; clear hb))
      go_ret
      exact ⟨rfl, HB.out⟩
    · skip
      have f0 : ((str M).toList == [115, 101, 116, 45, 99, 111, 111, 107, 105, 101]) = false := by rw [eq_lit]; exact decide_eq_false h0
      have f1 : ((str M).toList == [115, 101, 116, 45, 99, 111, 111, 107, 105, 101, 50]) = false := by rw [eq_lit]; exact decide_eq_false h1
      have hc : hdnL.contains M = false := by
        rw [hdnL]
        simp only [List.contains_cons, List.contains_nil, Bool.or_false, Bool.or_eq_false_iff, beq_eq_false_iff_ne]
        exact ⟨h0, h1⟩
      rw [HR.out]
      have HC := Lib.hid hc
      clear hc h0 h1
      rw [HC.out]
      go_enter Tryz.func14, Tryz.ntmps14
      go_wp2_with (first | (go_at_call 29; (with_reducible refine (H.out _).mono ?_); (rintro e w1 ⟨rfl, hb⟩); have HB := Lib.hid hb; clear hb))
      go_ret
      exact ⟨rfl, HB.out⟩
set_option maxHeartbeats 4000000 in
set_option maxRecDepth 100000 in
theorem never_any (n : List UInt8) (w : World) (hl : n.length ≤ 9223372036854775807) : Calls Tryz.prog 10 #[.string (str n)] w fun e w' => e = .returned (.bool (nvr n)) ∧ Below w.heap.size w w' := by
  have H : Hid (∀ w', Calls Tryz.prog 29 #[.string (str n)] w' fun e w2 => e = .returned (.string (str (low n))) ∧ Below w'.heap.size w' w2) := fun w' => lower_any n w' hl
  have HR : Hid (nvr n = (nvrs.contains (low n) || pre (low n) pxL || pre (low n) scL)) := rfl
  have HL : Hid ((low n).length ≤ 9223372036854775807) := by show _ ≤ _; rw [low_length]; exact hl
  generalize low n = M at *
  by_cases h0 : M = [97, 99, 99, 101, 112, 116, 45, 99, 104, 97, 114, 115, 101, 116]
  · have f0 : ((str M).toList == [97, 99, 99, 101, 112, 116, 45, 99, 104, 97, 114, 115, 101, 116]) = true := by rw [eq_lit]; exact decide_eq_true h0
    have hc : nvrs.contains M = true := by rw [h0]; decide +kernel
    rw [HR.out]
    have HC := Lib.hid hc
    clear hc h0
    rw [HC.out]
    go_enter Tryz.func10, Tryz.ntmps10
    go_wp2_with (first | (go_at_call 29; (with_reducible refine (H.out _).mono ?_); (rintro e w1 ⟨rfl, hb⟩); have HB := Lib.hid hb; clear hb))
    go_ret
    exact ⟨rfl, HB.out⟩
  · skip
    by_cases h1 : M = [97, 99, 99, 101, 112, 116, 45, 101, 110, 99, 111, 100, 105, 110, 103]
    · have f0 : ((str M).toList == [97, 99, 99, 101, 112, 116, 45, 99, 104, 97, 114, 115, 101, 116]) = false := by rw [eq_lit]; exact decide_eq_false h0
      have f1 : ((str M).toList == [97, 99, 99, 101, 112, 116, 45, 101, 110, 99, 111, 100, 105, 110, 103]) = true := by rw [eq_lit]; exact decide_eq_true h1
      have hc : nvrs.contains M = true := by rw [h1]; decide +kernel
      rw [HR.out]
      have HC := Lib.hid hc
      clear hc h0 h1
      rw [HC.out]
      go_enter Tryz.func10, Tryz.ntmps10
      go_wp2_with (first | (go_at_call 29; (with_reducible refine (H.out _).mono ?_); (rintro e w1 ⟨rfl, hb⟩); have HB := Lib.hid hb; clear hb))
      go_ret
      exact ⟨rfl, HB.out⟩
    · skip
      by_cases h2 : M = [97, 99, 99, 101, 115, 115, 45, 99, 111, 110, 116, 114, 111, 108, 45, 114, 101, 113, 117, 101, 115, 116, 45, 104, 101, 97, 100, 101, 114, 115]
      · have f0 : ((str M).toList == [97, 99, 99, 101, 112, 116, 45, 99, 104, 97, 114, 115, 101, 116]) = false := by rw [eq_lit]; exact decide_eq_false h0
        have f1 : ((str M).toList == [97, 99, 99, 101, 112, 116, 45, 101, 110, 99, 111, 100, 105, 110, 103]) = false := by rw [eq_lit]; exact decide_eq_false h1
        have f2 : ((str M).toList == [97, 99, 99, 101, 115, 115, 45, 99, 111, 110, 116, 114, 111, 108, 45, 114, 101, 113, 117, 101, 115, 116, 45, 104, 101, 97, 100, 101, 114, 115]) = true := by rw [eq_lit]; exact decide_eq_true h2
        have hc : nvrs.contains M = true := by rw [h2]; decide +kernel
        rw [HR.out]
        have HC := Lib.hid hc
        clear hc h0 h1 h2
        rw [HC.out]
        go_enter Tryz.func10, Tryz.ntmps10
        go_wp2_with (first | (go_at_call 29; (with_reducible refine (H.out _).mono ?_); (rintro e w1 ⟨rfl, hb⟩); have HB := Lib.hid hb; clear hb))
        go_ret
        exact ⟨rfl, HB.out⟩
      · skip
        by_cases h3 : M = [97, 99, 99, 101, 115, 115, 45, 99, 111, 110, 116, 114, 111, 108, 45, 114, 101, 113, 117, 101, 115, 116, 45, 109, 101, 116, 104, 111, 100]
        · have f0 : ((str M).toList == [97, 99, 99, 101, 112, 116, 45, 99, 104, 97, 114, 115, 101, 116]) = false := by rw [eq_lit]; exact decide_eq_false h0
          have f1 : ((str M).toList == [97, 99, 99, 101, 112, 116, 45, 101, 110, 99, 111, 100, 105, 110, 103]) = false := by rw [eq_lit]; exact decide_eq_false h1
          have f2 : ((str M).toList == [97, 99, 99, 101, 115, 115, 45, 99, 111, 110, 116, 114, 111, 108, 45, 114, 101, 113, 117, 101, 115, 116, 45, 104, 101, 97, 100, 101, 114, 115]) = false := by rw [eq_lit]; exact decide_eq_false h2
          have f3 : ((str M).toList == [97, 99, 99, 101, 115, 115, 45, 99, 111, 110, 116, 114, 111, 108, 45, 114, 101, 113, 117, 101, 115, 116, 45, 109, 101, 116, 104, 111, 100]) = true := by rw [eq_lit]; exact decide_eq_true h3
          have hc : nvrs.contains M = true := by rw [h3]; decide +kernel
          rw [HR.out]
          have HC := Lib.hid hc
          clear hc h0 h1 h2 h3
          rw [HC.out]
          go_enter Tryz.func10, Tryz.ntmps10
          go_wp2_with (first | (go_at_call 29; (with_reducible refine (H.out _).mono ?_); (rintro e w1 ⟨rfl, hb⟩); have HB := Lib.hid hb; clear hb))
          go_ret
          exact ⟨rfl, HB.out⟩
        · skip
          by_cases h4 : M = [99, 111, 110, 110, 101, 99, 116, 105, 111, 110]
          · have f0 : ((str M).toList == [97, 99, 99, 101, 112, 116, 45, 99, 104, 97, 114, 115, 101, 116]) = false := by rw [eq_lit]; exact decide_eq_false h0
            have f1 : ((str M).toList == [97, 99, 99, 101, 112, 116, 45, 101, 110, 99, 111, 100, 105, 110, 103]) = false := by rw [eq_lit]; exact decide_eq_false h1
            have f2 : ((str M).toList == [97, 99, 99, 101, 115, 115, 45, 99, 111, 110, 116, 114, 111, 108, 45, 114, 101, 113, 117, 101, 115, 116, 45, 104, 101, 97, 100, 101, 114, 115]) = false := by rw [eq_lit]; exact decide_eq_false h2
            have f3 : ((str M).toList == [97, 99, 99, 101, 115, 115, 45, 99, 111, 110, 116, 114, 111, 108, 45, 114, 101, 113, 117, 101, 115, 116, 45, 109, 101, 116, 104, 111, 100]) = false := by rw [eq_lit]; exact decide_eq_false h3
            have f4 : ((str M).toList == [99, 111, 110, 110, 101, 99, 116, 105, 111, 110]) = true := by rw [eq_lit]; exact decide_eq_true h4
            have hc : nvrs.contains M = true := by rw [h4]; decide +kernel
            rw [HR.out]
            have HC := Lib.hid hc
            clear hc h0 h1 h2 h3 h4
            rw [HC.out]
            go_enter Tryz.func10, Tryz.ntmps10
            go_wp2_with (first | (go_at_call 29; (with_reducible refine (H.out _).mono ?_); (rintro e w1 ⟨rfl, hb⟩); have HB := Lib.hid hb; clear hb))
            go_ret
            exact ⟨rfl, HB.out⟩
          · skip
            by_cases h5 : M = [99, 111, 110, 116, 101, 110, 116, 45, 108, 101, 110, 103, 116, 104]
            · have f0 : ((str M).toList == [97, 99, 99, 101, 112, 116, 45, 99, 104, 97, 114, 115, 101, 116]) = false := by rw [eq_lit]; exact decide_eq_false h0
              have f1 : ((str M).toList == [97, 99, 99, 101, 112, 116, 45, 101, 110, 99, 111, 100, 105, 110, 103]) = false := by rw [eq_lit]; exact decide_eq_false h1
              have f2 : ((str M).toList == [97, 99, 99, 101, 115, 115, 45, 99, 111, 110, 116, 114, 111, 108, 45, 114, 101, 113, 117, 101, 115, 116, 45, 104, 101, 97, 100, 101, 114, 115]) = false := by rw [eq_lit]; exact decide_eq_false h2
              have f3 : ((str M).toList == [97, 99, 99, 101, 115, 115, 45, 99, 111, 110, 116, 114, 111, 108, 45, 114, 101, 113, 117, 101, 115, 116, 45, 109, 101, 116, 104, 111, 100]) = false := by rw [eq_lit]; exact decide_eq_false h3
              have f4 : ((str M).toList == [99, 111, 110, 110, 101, 99, 116, 105, 111, 110]) = false := by rw [eq_lit]; exact decide_eq_false h4
              have f5 : ((str M).toList == [99, 111, 110, 116, 101, 110, 116, 45, 108, 101, 110, 103, 116, 104]) = true := by rw [eq_lit]; exact decide_eq_true h5
              have hc : nvrs.contains M = true := by rw [h5]; decide +kernel
              rw [HR.out]
              have HC := Lib.hid hc
              clear hc h0 h1 h2 h3 h4 h5
              rw [HC.out]
              go_enter Tryz.func10, Tryz.ntmps10
              go_wp2_with (first | (go_at_call 29; (with_reducible refine (H.out _).mono ?_); (rintro e w1 ⟨rfl, hb⟩); have HB := Lib.hid hb; clear hb))
              go_ret
              exact ⟨rfl, HB.out⟩
            · skip
              by_cases h6 : M = [99, 111, 111, 107, 105, 101]
              · have f0 : ((str M).toList == [97, 99, 99, 101, 112, 116, 45, 99, 104, 97, 114, 115, 101, 116]) = false := by rw [eq_lit]; exact decide_eq_false h0
                have f1 : ((str M).toList == [97, 99, 99, 101, 112, 116, 45, 101, 110, 99, 111, 100, 105, 110, 103]) = false := by rw [eq_lit]; exact decide_eq_false h1
                have f2 : ((str M).toList == [97, 99, 99, 101, 115, 115, 45, 99, 111, 110, 116, 114, 111, 108, 45, 114, 101, 113, 117, 101, 115, 116, 45, 104, 101, 97, 100, 101, 114, 115]) = false := by rw [eq_lit]; exact decide_eq_false h2
                have f3 : ((str M).toList == [97, 99, 99, 101, 115, 115, 45, 99, 111, 110, 116, 114, 111, 108, 45, 114, 101, 113, 117, 101, 115, 116, 45, 109, 101, 116, 104, 111, 100]) = false := by rw [eq_lit]; exact decide_eq_false h3
                have f4 : ((str M).toList == [99, 111, 110, 110, 101, 99, 116, 105, 111, 110]) = false := by rw [eq_lit]; exact decide_eq_false h4
                have f5 : ((str M).toList == [99, 111, 110, 116, 101, 110, 116, 45, 108, 101, 110, 103, 116, 104]) = false := by rw [eq_lit]; exact decide_eq_false h5
                have f6 : ((str M).toList == [99, 111, 111, 107, 105, 101]) = true := by rw [eq_lit]; exact decide_eq_true h6
                have hc : nvrs.contains M = true := by rw [h6]; decide +kernel
                rw [HR.out]
                have HC := Lib.hid hc
                clear hc h0 h1 h2 h3 h4 h5 h6
                rw [HC.out]
                go_enter Tryz.func10, Tryz.ntmps10
                go_wp2_with (first | (go_at_call 29; (with_reducible refine (H.out _).mono ?_); (rintro e w1 ⟨rfl, hb⟩); have HB := Lib.hid hb; clear hb))
                go_ret
                exact ⟨rfl, HB.out⟩
              · skip
                by_cases h7 : M = [99, 111, 111, 107, 105, 101, 50]
                · have f0 : ((str M).toList == [97, 99, 99, 101, 112, 116, 45, 99, 104, 97, 114, 115, 101, 116]) = false := by rw [eq_lit]; exact decide_eq_false h0
                  have f1 : ((str M).toList == [97, 99, 99, 101, 112, 116, 45, 101, 110, 99, 111, 100, 105, 110, 103]) = false := by rw [eq_lit]; exact decide_eq_false h1
                  have f2 : ((str M).toList == [97, 99, 99, 101, 115, 115, 45, 99, 111, 110, 116, 114, 111, 108, 45, 114, 101, 113, 117, 101, 115, 116, 45, 104, 101, 97, 100, 101, 114, 115]) = false := by rw [eq_lit]; exact decide_eq_false h2
                  have f3 : ((str M).toList == [97, 99, 99, 101, 115, 115, 45, 99, 111, 110, 116, 114, 111, 108, 45, 114, 101, 113, 117, 101, 115, 116, 45, 109, 101, 116, 104, 111, 100]) = false := by rw [eq_lit]; exact decide_eq_false h3
                  have f4 : ((str M).toList == [99, 111, 110, 110, 101, 99, 116, 105, 111, 110]) = false := by rw [eq_lit]; exact decide_eq_false h4
                  have f5 : ((str M).toList == [99, 111, 110, 116, 101, 110, 116, 45, 108, 101, 110, 103, 116, 104]) = false := by rw [eq_lit]; exact decide_eq_false h5
                  have f6 : ((str M).toList == [99, 111, 111, 107, 105, 101]) = false := by rw [eq_lit]; exact decide_eq_false h6
                  have f7 : ((str M).toList == [99, 111, 111, 107, 105, 101, 50]) = true := by rw [eq_lit]; exact decide_eq_true h7
                  have hc : nvrs.contains M = true := by rw [h7]; decide +kernel
                  rw [HR.out]
                  have HC := Lib.hid hc
                  clear hc h0 h1 h2 h3 h4 h5 h6 h7
                  rw [HC.out]
                  go_enter Tryz.func10, Tryz.ntmps10
                  go_wp2_with (first | (go_at_call 29; (with_reducible refine (H.out _).mono ?_); (rintro e w1 ⟨rfl, hb⟩); have HB := Lib.hid hb; clear hb))
                  go_ret
                  exact ⟨rfl, HB.out⟩
                · skip
                  by_cases h8 : M = [100, 97, 116, 101]
                  · have f0 : ((str M).toList == [97, 99, 99, 101, 112, 116, 45, 99, 104, 97, 114, 115, 101, 116]) = false := by rw [eq_lit]; exact decide_eq_false h0
                    have f1 : ((str M).toList == [97, 99, 99, 101, 112, 116, 45, 101, 110, 99, 111, 100, 105, 110, 103]) = false := by rw [eq_lit]; exact decide_eq_false h1
                    have f2 : ((str M).toList == [97, 99, 99, 101, 115, 115, 45, 99, 111, 110, 116, 114, 111, 108, 45, 114, 101, 113, 117, 101, 115, 116, 45, 104, 101, 97, 100, 101, 114, 115]) = false := by rw [eq_lit]; exact decide_eq_false h2
                    have f3 : ((str M).toList == [97, 99, 99, 101, 115, 115, 45, 99, 111, 110, 116, 114, 111, 108, 45, 114, 101, 113, 117, 101, 115, 116, 45, 109, 101, 116, 104, 111, 100]) = false := by rw [eq_lit]; exact decide_eq_false h3
                    have f4 : ((str M).toList == [99, 111, 110, 110, 101, 99, 116, 105, 111, 110]) = false := by rw [eq_lit]; exact decide_eq_false h4
                    have f5 : ((str M).toList == [99, 111, 110, 116, 101, 110, 116, 45, 108, 101, 110, 103, 116, 104]) = false := by rw [eq_lit]; exact decide_eq_false h5
                    have f6 : ((str M).toList == [99, 111, 111, 107, 105, 101]) = false := by rw [eq_lit]; exact decide_eq_false h6
                    have f7 : ((str M).toList == [99, 111, 111, 107, 105, 101, 50]) = false := by rw [eq_lit]; exact decide_eq_false h7
                    have f8 : ((str M).toList == [100, 97, 116, 101]) = true := by rw [eq_lit]; exact decide_eq_true h8
                    have hc : nvrs.contains M = true := by rw [h8]; decide +kernel
                    rw [HR.out]
                    have HC := Lib.hid hc
                    clear hc h0 h1 h2 h3 h4 h5 h6 h7 h8
                    rw [HC.out]
                    go_enter Tryz.func10, Tryz.ntmps10
                    go_wp2_with (first | (go_at_call 29; (with_reducible refine (H.out _).mono ?_); (rintro e w1 ⟨rfl, hb⟩); have HB := Lib.hid hb; clear hb))
                    go_ret
                    exact ⟨rfl, HB.out⟩
                  · skip
                    by_cases h9 : M = [100, 110, 116]
                    · have f0 : ((str M).toList == [97, 99, 99, 101, 112, 116, 45, 99, 104, 97, 114, 115, 101, 116]) = false := by rw [eq_lit]; exact decide_eq_false h0
                      have f1 : ((str M).toList == [97, 99, 99, 101, 112, 116, 45, 101, 110, 99, 111, 100, 105, 110, 103]) = false := by rw [eq_lit]; exact decide_eq_false h1
                      have f2 : ((str M).toList == [97, 99, 99, 101, 115, 115, 45, 99, 111, 110, 116, 114, 111, 108, 45, 114, 101, 113, 117, 101, 115, 116, 45, 104, 101, 97, 100, 101, 114, 115]) = false := by rw [eq_lit]; exact decide_eq_false h2
                      have f3 : ((str M).toList == [97, 99, 99, 101, 115, 115, 45, 99, 111, 110, 116, 114, 111, 108, 45, 114, 101, 113, 117, 101, 115, 116, 45, 109, 101, 116, 104, 111, 100]) = false := by rw [eq_lit]; exact decide_eq_false h3
                      have f4 : ((str M).toList == [99, 111, 110, 110, 101, 99, 116, 105, 111, 110]) = false := by rw [eq_lit]; exact decide_eq_false h4
                      have f5 : ((str M).toList == [99, 111, 110, 116, 101, 110, 116, 45, 108, 101, 110, 103, 116, 104]) = false := by rw [eq_lit]; exact decide_eq_false h5
                      have f6 : ((str M).toList == [99, 111, 111, 107, 105, 101]) = false := by rw [eq_lit]; exact decide_eq_false h6
                      have f7 : ((str M).toList == [99, 111, 111, 107, 105, 101, 50]) = false := by rw [eq_lit]; exact decide_eq_false h7
                      have f8 : ((str M).toList == [100, 97, 116, 101]) = false := by rw [eq_lit]; exact decide_eq_false h8
                      have f9 : ((str M).toList == [100, 110, 116]) = true := by rw [eq_lit]; exact decide_eq_true h9
                      have hc : nvrs.contains M = true := by rw [h9]; decide +kernel
                      rw [HR.out]
                      have HC := Lib.hid hc
                      clear hc h0 h1 h2 h3 h4 h5 h6 h7 h8 h9
                      rw [HC.out]
                      go_enter Tryz.func10, Tryz.ntmps10
                      go_wp2_with (first | (go_at_call 29; (with_reducible refine (H.out _).mono ?_); (rintro e w1 ⟨rfl, hb⟩); have HB := Lib.hid hb; clear hb))
                      go_ret
                      exact ⟨rfl, HB.out⟩
                    · skip
                      by_cases h10 : M = [101, 120, 112, 101, 99, 116]
                      · have f0 : ((str M).toList == [97, 99, 99, 101, 112, 116, 45, 99, 104, 97, 114, 115, 101, 116]) = false := by rw [eq_lit]; exact decide_eq_false h0
                        have f1 : ((str M).toList == [97, 99, 99, 101, 112, 116, 45, 101, 110, 99, 111, 100, 105, 110, 103]) = false := by rw [eq_lit]; exact decide_eq_false h1
                        have f2 : ((str M).toList == [97, 99, 99, 101, 115, 115, 45, 99, 111, 110, 116, 114, 111, 108, 45, 114, 101, 113, 117, 101, 115, 116, 45, 104, 101, 97, 100, 101, 114, 115]) = false := by rw [eq_lit]; exact decide_eq_false h2
                        have f3 : ((str M).toList == [97, 99, 99, 101, 115, 115, 45, 99, 111, 110, 116, 114, 111, 108, 45, 114, 101, 113, 117, 101, 115, 116, 45, 109, 101, 116, 104, 111, 100]) = false := by rw [eq_lit]; exact decide_eq_false h3
                        have f4 : ((str M).toList == [99, 111, 110, 110, 101, 99, 116, 105, 111, 110]) = false := by rw [eq_lit]; exact decide_eq_false h4
                        have f5 : ((str M).toList == [99, 111, 110, 116, 101, 110, 116, 45, 108, 101, 110, 103, 116, 104]) = false := by rw [eq_lit]; exact decide_eq_false h5
                        have f6 : ((str M).toList == [99, 111, 111, 107, 105, 101]) = false := by rw [eq_lit]; exact decide_eq_false h6
                        have f7 : ((str M).toList == [99, 111, 111, 107, 105, 101, 50]) = false := by rw [eq_lit]; exact decide_eq_false h7
                        have f8 : ((str M).toList == [100, 97, 116, 101]) = false := by rw [eq_lit]; exact decide_eq_false h8
                        have f9 : ((str M).toList == [100, 110, 116]) = false := by rw [eq_lit]; exact decide_eq_false h9
                        have f10 : ((str M).toList == [101, 120, 112, 101, 99, 116]) = true := by rw [eq_lit]; exact decide_eq_true h10
                        have hc : nvrs.contains M = true := by rw [h10]; decide +kernel
                        rw [HR.out]
                        have HC := Lib.hid hc
                        clear hc h0 h1 h2 h3 h4 h5 h6 h7 h8 h9 h10
                        rw [HC.out]
                        go_enter Tryz.func10, Tryz.ntmps10
                        go_wp2_with (first | (go_at_call 29; (with_reducible refine (H.out _).mono ?_); (rintro e w1 ⟨rfl, hb⟩); have HB := Lib.hid hb; clear hb))
                        go_ret
                        exact ⟨rfl, HB.out⟩
                      · skip
                        by_cases h11 : M = [104, 111, 115, 116]
                        · have f0 : ((str M).toList == [97, 99, 99, 101, 112, 116, 45, 99, 104, 97, 114, 115, 101, 116]) = false := by rw [eq_lit]; exact decide_eq_false h0
                          have f1 : ((str M).toList == [97, 99, 99, 101, 112, 116, 45, 101, 110, 99, 111, 100, 105, 110, 103]) = false := by rw [eq_lit]; exact decide_eq_false h1
                          have f2 : ((str M).toList == [97, 99, 99, 101, 115, 115, 45, 99, 111, 110, 116, 114, 111, 108, 45, 114, 101, 113, 117, 101, 115, 116, 45, 104, 101, 97, 100, 101, 114, 115]) = false := by rw [eq_lit]; exact decide_eq_false h2
                          have f3 : ((str M).toList == [97, 99, 99, 101, 115, 115, 45, 99, 111, 110, 116, 114, 111, 108, 45, 114, 101, 113, 117, 101, 115, 116, 45, 109, 101, 116, 104, 111, 100]) = false := by rw [eq_lit]; exact decide_eq_false h3
                          have f4 : ((str M).toList == [99, 111, 110, 110, 101, 99, 116, 105, 111, 110]) = false := by rw [eq_lit]; exact decide_eq_false h4
                          have f5 : ((str M).toList == [99, 111, 110, 116, 101, 110, 116, 45, 108, 101, 110, 103, 116, 104]) = false := by rw [eq_lit]; exact decide_eq_false h5
                          have f6 : ((str M).toList == [99, 111, 111, 107, 105, 101]) = false := by rw [eq_lit]; exact decide_eq_false h6
                          have f7 : ((str M).toList == [99, 111, 111, 107, 105, 101, 50]) = false := by rw [eq_lit]; exact decide_eq_false h7
                          have f8 : ((str M).toList == [100, 97, 116, 101]) = false := by rw [eq_lit]; exact decide_eq_false h8
                          have f9 : ((str M).toList == [100, 110, 116]) = false := by rw [eq_lit]; exact decide_eq_false h9
                          have f10 : ((str M).toList == [101, 120, 112, 101, 99, 116]) = false := by rw [eq_lit]; exact decide_eq_false h10
                          have f11 : ((str M).toList == [104, 111, 115, 116]) = true := by rw [eq_lit]; exact decide_eq_true h11
                          have hc : nvrs.contains M = true := by rw [h11]; decide +kernel
                          rw [HR.out]
                          have HC := Lib.hid hc
                          clear hc h0 h1 h2 h3 h4 h5 h6 h7 h8 h9 h10 h11
                          rw [HC.out]
                          go_enter Tryz.func10, Tryz.ntmps10
                          go_wp2_with (first | (go_at_call 29; (with_reducible refine (H.out _).mono ?_); (rintro e w1 ⟨rfl, hb⟩); have HB := Lib.hid hb; clear hb))
                          go_ret
                          exact ⟨rfl, HB.out⟩
                        · skip
                          by_cases h12 : M = [107, 101, 101, 112, 45, 97, 108, 105, 118, 101]
                          · have f0 : ((str M).toList == [97, 99, 99, 101, 112, 116, 45, 99, 104, 97, 114, 115, 101, 116]) = false := by rw [eq_lit]; exact decide_eq_false h0
                            have f1 : ((str M).toList == [97, 99, 99, 101, 112, 116, 45, 101, 110, 99, 111, 100, 105, 110, 103]) = false := by rw [eq_lit]; exact decide_eq_false h1
                            have f2 : ((str M).toList == [97, 99, 99, 101, 115, 115, 45, 99, 111, 110, 116, 114, 111, 108, 45, 114, 101, 113, 117, 101, 115, 116, 45, 104, 101, 97, 100, 101, 114, 115]) = false := by rw [eq_lit]; exact decide_eq_false h2
                            have f3 : ((str M).toList == [97, 99, 99, 101, 115, 115, 45, 99, 111, 110, 116, 114, 111, 108, 45, 114, 101, 113, 117, 101, 115, 116, 45, 109, 101, 116, 104, 111, 100]) = false := by rw [eq_lit]; exact decide_eq_false h3
                            have f4 : ((str M).toList == [99, 111, 110, 110, 101, 99, 116, 105, 111, 110]) = false := by rw [eq_lit]; exact decide_eq_false h4
                            have f5 : ((str M).toList == [99, 111, 110, 116, 101, 110, 116, 45, 108, 101, 110, 103, 116, 104]) = false := by rw [eq_lit]; exact decide_eq_false h5
                            have f6 : ((str M).toList == [99, 111, 111, 107, 105, 101]) = false := by rw [eq_lit]; exact decide_eq_false h6
                            have f7 : ((str M).toList == [99, 111, 111, 107, 105, 101, 50]) = false := by rw [eq_lit]; exact decide_eq_false h7
                            have f8 : ((str M).toList == [100, 97, 116, 101]) = false := by rw [eq_lit]; exact decide_eq_false h8
                            have f9 : ((str M).toList == [100, 110, 116]) = false := by rw [eq_lit]; exact decide_eq_false h9
                            have f10 : ((str M).toList == [101, 120, 112, 101, 99, 116]) = false := by rw [eq_lit]; exact decide_eq_false h10
                            have f11 : ((str M).toList == [104, 111, 115, 116]) = false := by rw [eq_lit]; exact decide_eq_false h11
                            have f12 : ((str M).toList == [107, 101, 101, 112, 45, 97, 108, 105, 118, 101]) = true := by rw [eq_lit]; exact decide_eq_true h12
                            have hc : nvrs.contains M = true := by rw [h12]; decide +kernel
                            rw [HR.out]
                            have HC := Lib.hid hc
                            clear hc h0 h1 h2 h3 h4 h5 h6 h7 h8 h9 h10 h11 h12
                            rw [HC.out]
                            go_enter Tryz.func10, Tryz.ntmps10
                            go_wp2_with (first | (go_at_call 29; (with_reducible refine (H.out _).mono ?_); (rintro e w1 ⟨rfl, hb⟩); have HB := Lib.hid hb; clear hb))
                            go_ret
                            exact ⟨rfl, HB.out⟩
                          · skip
                            by_cases h13 : M = [111, 114, 105, 103, 105, 110]
                            · have f0 : ((str M).toList == [97, 99, 99, 101, 112, 116, 45, 99, 104, 97, 114, 115, 101, 116]) = false := by rw [eq_lit]; exact decide_eq_false h0
                              have f1 : ((str M).toList == [97, 99, 99, 101, 112, 116, 45, 101, 110, 99, 111, 100, 105, 110, 103]) = false := by rw [eq_lit]; exact decide_eq_false h1
                              have f2 : ((str M).toList == [97, 99, 99, 101, 115, 115, 45, 99, 111, 110, 116, 114, 111, 108, 45, 114, 101, 113, 117, 101, 115, 116, 45, 104, 101, 97, 100, 101, 114, 115]) = false := by rw [eq_lit]; exact decide_eq_false h2
                              have f3 : ((str M).toList == [97, 99, 99, 101, 115, 115, 45, 99, 111, 110, 116, 114, 111, 108, 45, 114, 101, 113, 117, 101, 115, 116, 45, 109, 101, 116, 104, 111, 100]) = false := by rw [eq_lit]; exact decide_eq_false h3
                              have f4 : ((str M).toList == [99, 111, 110, 110, 101, 99, 116, 105, 111, 110]) = false := by rw [eq_lit]; exact decide_eq_false h4
                              have f5 : ((str M).toList == [99, 111, 110, 116, 101, 110, 116, 45, 108, 101, 110, 103, 116, 104]) = false := by rw [eq_lit]; exact decide_eq_false h5
                              have f6 : ((str M).toList == [99, 111, 111, 107, 105, 101]) = false := by rw [eq_lit]; exact decide_eq_false h6
                              have f7 : ((str M).toList == [99, 111, 111, 107, 105, 101, 50]) = false := by rw [eq_lit]; exact decide_eq_false h7
                              have f8 : ((str M).toList == [100, 97, 116, 101]) = false := by rw [eq_lit]; exact decide_eq_false h8
                              have f9 : ((str M).toList == [100, 110, 116]) = false := by rw [eq_lit]; exact decide_eq_false h9
                              have f10 : ((str M).toList == [101, 120, 112, 101, 99, 116]) = false := by rw [eq_lit]; exact decide_eq_false h10
                              have f11 : ((str M).toList == [104, 111, 115, 116]) = false := by rw [eq_lit]; exact decide_eq_false h11
                              have f12 : ((str M).toList == [107, 101, 101, 112, 45, 97, 108, 105, 118, 101]) = false := by rw [eq_lit]; exact decide_eq_false h12
                              have f13 : ((str M).toList == [111, 114, 105, 103, 105, 110]) = true := by rw [eq_lit]; exact decide_eq_true h13
                              have hc : nvrs.contains M = true := by rw [h13]; decide +kernel
                              rw [HR.out]
                              have HC := Lib.hid hc
                              clear hc h0 h1 h2 h3 h4 h5 h6 h7 h8 h9 h10 h11 h12 h13
                              rw [HC.out]
                              go_enter Tryz.func10, Tryz.ntmps10
                              go_wp2_with (first | (go_at_call 29; (with_reducible refine (H.out _).mono ?_); (rintro e w1 ⟨rfl, hb⟩); have HB := Lib.hid hb; clear hb))
                              go_ret
                              exact ⟨rfl, HB.out⟩
                            · skip
                              by_cases h14 : M = [114, 101, 102, 101, 114, 101, 114]
                              · have f0 : ((str M).toList == [97, 99, 99, 101, 112, 116, 45, 99, 104, 97, 114, 115, 101, 116]) = false := by rw [eq_lit]; exact decide_eq_false h0
                                have f1 : ((str M).toList == [97, 99, 99, 101, 112, 116, 45, 101, 110, 99, 111, 100, 105, 110, 103]) = false := by rw [eq_lit]; exact decide_eq_false h1
                                have f2 : ((str M).toList == [97, 99, 99, 101, 115, 115, 45, 99, 111, 110, 116, 114, 111, 108, 45, 114, 101, 113, 117, 101, 115, 116, 45, 104, 101, 97, 100, 101, 114, 115]) = false := by rw [eq_lit]; exact decide_eq_false h2
                                have f3 : ((str M).toList == [97, 99, 99, 101, 115, 115, 45, 99, 111, 110, 116, 114, 111, 108, 45, 114, 101, 113, 117, 101, 115, 116, 45, 109, 101, 116, 104, 111, 100]) = false := by rw [eq_lit]; exact decide_eq_false h3
                                have f4 : ((str M).toList == [99, 111, 110, 110, 101, 99, 116, 105, 111, 110]) = false := by rw [eq_lit]; exact decide_eq_false h4
                                have f5 : ((str M).toList == [99, 111, 110, 116, 101, 110, 116, 45, 108, 101, 110, 103, 116, 104]) = false := by rw [eq_lit]; exact decide_eq_false h5
                                have f6 : ((str M).toList == [99, 111, 111, 107, 105, 101]) = false := by rw [eq_lit]; exact decide_eq_false h6
                                have f7 : ((str M).toList == [99, 111, 111, 107, 105, 101, 50]) = false := by rw [eq_lit]; exact decide_eq_false h7
                                have f8 : ((str M).toList == [100, 97, 116, 101]) = false := by rw [eq_lit]; exact decide_eq_false h8
                                have f9 : ((str M).toList == [100, 110, 116]) = false := by rw [eq_lit]; exact decide_eq_false h9
                                have f10 : ((str M).toList == [101, 120, 112, 101, 99, 116]) = false := by rw [eq_lit]; exact decide_eq_false h10
                                have f11 : ((str M).toList == [104, 111, 115, 116]) = false := by rw [eq_lit]; exact decide_eq_false h11
                                have f12 : ((str M).toList == [107, 101, 101, 112, 45, 97, 108, 105, 118, 101]) = false := by rw [eq_lit]; exact decide_eq_false h12
                                have f13 : ((str M).toList == [111, 114, 105, 103, 105, 110]) = false := by rw [eq_lit]; exact decide_eq_false h13
                                have f14 : ((str M).toList == [114, 101, 102, 101, 114, 101, 114]) = true := by rw [eq_lit]; exact decide_eq_true h14
                                have hc : nvrs.contains M = true := by rw [h14]; decide +kernel
                                rw [HR.out]
                                have HC := Lib.hid hc
                                clear hc h0 h1 h2 h3 h4 h5 h6 h7 h8 h9 h10 h11 h12 h13 h14
                                rw [HC.out]
                                go_enter Tryz.func10, Tryz.ntmps10
                                go_wp2_with (first | (go_at_call 29; (with_reducible refine (H.out _).mono ?_); (rintro e w1 ⟨rfl, hb⟩); have HB := Lib.hid hb; clear hb))
                                go_ret
                                exact ⟨rfl, HB.out⟩
                              · skip
                                by_cases h15 : M = [115, 101, 116, 45, 99, 111, 111, 107, 105, 101]
                                · have f0 : ((str M).toList == [97, 99, 99, 101, 112, 116, 45, 99, 104, 97, 114, 115, 101, 116]) = false := by rw [eq_lit]; exact decide_eq_false h0
                                  have f1 : ((str M).toList == [97, 99, 99, 101, 112, 116, 45, 101, 110, 99, 111, 100, 105, 110, 103]) = false := by rw [eq_lit]; exact decide_eq_false h1
                                  have f2 : ((str M).toList == [97, 99, 99, 101, 115, 115, 45, 99, 111, 110, 116, 114, 111, 108, 45, 114, 101, 113, 117, 101, 115, 116, 45, 104, 101, 97, 100, 101, 114, 115]) = false := by rw [eq_lit]; exact decide_eq_false h2
                                  have f3 : ((str M).toList == [97, 99, 99, 101, 115, 115, 45, 99, 111, 110, 116, 114, 111, 108, 45, 114, 101, 113, 117, 101, 115, 116, 45, 109, 101, 116, 104, 111, 100]) = false := by rw [eq_lit]; exact decide_eq_false h3
                                  have f4 : ((str M).toList == [99, 111, 110, 110, 101, 99, 116, 105, 111, 110]) = false := by rw [eq_lit]; exact decide_eq_false h4
                                  have f5 : ((str M).toList == [99, 111, 110, 116, 101, 110, 116, 45, 108, 101, 110, 103, 116, 104]) = false := by rw [eq_lit]; exact decide_eq_false h5
                                  have f6 : ((str M).toList == [99, 111, 111, 107, 105, 101]) = false := by rw [eq_lit]; exact decide_eq_false h6
                                  have f7 : ((str M).toList == [99, 111, 111, 107, 105, 101, 50]) = false := by rw [eq_lit]; exact decide_eq_false h7
                                  have f8 : ((str M).toList == [100, 97, 116, 101]) = false := by rw [eq_lit]; exact decide_eq_false h8
                                  have f9 : ((str M).toList == [100, 110, 116]) = false := by rw [eq_lit]; exact decide_eq_false h9
                                  have f10 : ((str M).toList == [101, 120, 112, 101, 99, 116]) = false := by rw [eq_lit]; exact decide_eq_false h10
                                  have f11 : ((str M).toList == [104, 111, 115, 116]) = false := by rw [eq_lit]; exact decide_eq_false h11
                                  have f12 : ((str M).toList == [107, 101, 101, 112, 45, 97, 108, 105, 118, 101]) = false := by rw [eq_lit]; exact decide_eq_false h12
                                  have f13 : ((str M).toList == [111, 114, 105, 103, 105, 110]) = false := by rw [eq_lit]; exact decide_eq_false h13
                                  have f14 : ((str M).toList == [114, 101, 102, 101, 114, 101, 114]) = false := by rw [eq_lit]; exact decide_eq_false h14
                                  have f15 : ((str M).toList == [115, 101, 116, 45, 99, 111, 111, 107, 105, 101]) = true := by rw [eq_lit]; exact decide_eq_true h15
                                  have hc : nvrs.contains M = true := by rw [h15]; decide +kernel
                                  rw [HR.out]
                                  have HC := Lib.hid hc
                                  clear hc h0 h1 h2 h3 h4 h5 h6 h7 h8 h9 h10 h11 h12 h13 h14 h15
                                  rw [HC.out]
                                  go_enter Tryz.func10, Tryz.ntmps10
                                  go_wp2_with (first | (go_at_call 29; (with_reducible refine (H.out _).mono ?_); (rintro e w1 ⟨rfl, hb⟩); have HB := Lib.hid hb; clear hb))
                                  go_ret
                                  exact ⟨rfl, HB.out⟩
                                · skip
                                  by_cases h16 : M = [116, 101]
                                  · have f0 : ((str M).toList == [97, 99, 99, 101, 112, 116, 45, 99, 104, 97, 114, 115, 101, 116]) = false := by rw [eq_lit]; exact decide_eq_false h0
                                    have f1 : ((str M).toList == [97, 99, 99, 101, 112, 116, 45, 101, 110, 99, 111, 100, 105, 110, 103]) = false := by rw [eq_lit]; exact decide_eq_false h1
                                    have f2 : ((str M).toList == [97, 99, 99, 101, 115, 115, 45, 99, 111, 110, 116, 114, 111, 108, 45, 114, 101, 113, 117, 101, 115, 116, 45, 104, 101, 97, 100, 101, 114, 115]) = false := by rw [eq_lit]; exact decide_eq_false h2
                                    have f3 : ((str M).toList == [97, 99, 99, 101, 115, 115, 45, 99, 111, 110, 116, 114, 111, 108, 45, 114, 101, 113, 117, 101, 115, 116, 45, 109, 101, 116, 104, 111, 100]) = false := by rw [eq_lit]; exact decide_eq_false h3
                                    have f4 : ((str M).toList == [99, 111, 110, 110, 101, 99, 116, 105, 111, 110]) = false := by rw [eq_lit]; exact decide_eq_false h4
                                    have f5 : ((str M).toList == [99, 111, 110, 116, 101, 110, 116, 45, 108, 101, 110, 103, 116, 104]) = false := by rw [eq_lit]; exact decide_eq_false h5
                                    have f6 : ((str M).toList == [99, 111, 111, 107, 105, 101]) = false := by rw [eq_lit]; exact decide_eq_false h6
                                    have f7 : ((str M).toList == [99, 111, 111, 107, 105, 101, 50]) = false := by rw [eq_lit]; exact decide_eq_false h7
                                    have f8 : ((str M).toList == [100, 97, 116, 101]) = false := by rw [eq_lit]; exact decide_eq_false h8
                                    have f9 : ((str M).toList == [100, 110, 116]) = false := by rw [eq_lit]; exact decide_eq_false h9
                                    have f10 : ((str M).toList == [101, 120, 112, 101, 99, 116]) = false := by rw [eq_lit]; exact decide_eq_false h10
                                    have f11 : ((str M).toList == [104, 111, 115, 116]) = false := by rw [eq_lit]; exact decide_eq_false h11
                                    have f12 : ((str M).toList == [107, 101, 101, 112, 45, 97, 108, 105, 118, 101]) = false := by rw [eq_lit]; exact decide_eq_false h12
                                    have f13 : ((str M).toList == [111, 114, 105, 103, 105, 110]) = false := by rw [eq_lit]; exact decide_eq_false h13
                                    have f14 : ((str M).toList == [114, 101, 102, 101, 114, 101, 114]) = false := by rw [eq_lit]; exact decide_eq_false h14
                                    have f15 : ((str M).toList == [115, 101, 116, 45, 99, 111, 111, 107, 105, 101]) = false := by rw [eq_lit]; exact decide_eq_false h15
                                    have f16 : ((str M).toList == [116, 101]) = true := by rw [eq_lit]; exact decide_eq_true h16
                                    have hc : nvrs.contains M = true := by rw [h16]; decide +kernel
                                    rw [HR.out]
                                    have HC := Lib.hid hc
                                    clear hc h0 h1 h2 h3 h4 h5 h6 h7 h8 h9 h10 h11 h12 h13 h14 h15 h16
                                    rw [HC.out]
                                    go_enter Tryz.func10, Tryz.ntmps10
                                    go_wp2_with (first | (go_at_call 29; (with_reducible refine (H.out _).mono ?_); (rintro e w1 ⟨rfl, hb⟩); have HB := Lib.hid hb; clear hb))
                                    go_ret
                                    exact ⟨rfl, HB.out⟩
                                  · skip
                                    by_cases h17 : M = [116, 114, 97, 105, 108, 101, 114]
                                    · have f0 : ((str M).toList == [97, 99, 99, 101, 112, 116, 45, 99, 104, 97, 114, 115, 101, 116]) = false := by rw [eq_lit]; exact decide_eq_false h0
                                      have f1 : ((str M).toList == [97, 99, 99, 101, 112, 116, 45, 101, 110, 99, 111, 100, 105, 110, 103]) = false := by rw [eq_lit]; exact decide_eq_false h1
                                      have f2 : ((str M).toList == [97, 99, 99, 101, 115, 115, 45, 99, 111, 110, 116, 114, 111, 108, 45, 114, 101, 113, 117, 101, 115, 116, 45, 104, 101, 97, 100, 101, 114, 115]) = false := by rw [eq_lit]; exact decide_eq_false h2
                                      have f3 : ((str M).toList == [97, 99, 99, 101, 115, 115, 45, 99, 111, 110, 116, 114, 111, 108, 45, 114, 101, 113, 117, 101, 115, 116, 45, 109, 101, 116, 104, 111, 100]) = false := by rw [eq_lit]; exact decide_eq_false h3
                                      have f4 : ((str M).toList == [99, 111, 110, 110, 101, 99, 116, 105, 111, 110]) = false := by rw [eq_lit]; exact decide_eq_false h4
                                      have f5 : ((str M).toList == [99, 111, 110, 116, 101, 110, 116, 45, 108, 101, 110, 103, 116, 104]) = false := by rw [eq_lit]; exact decide_eq_false h5
                                      have f6 : ((str M).toList == [99, 111, 111, 107, 105, 101]) = false := by rw [eq_lit]; exact decide_eq_false h6
                                      have f7 : ((str M).toList == [99, 111, 111, 107, 105, 101, 50]) = false := by rw [eq_lit]; exact decide_eq_false h7
                                      have f8 : ((str M).toList == [100, 97, 116, 101]) = false := by rw [eq_lit]; exact decide_eq_false h8
                                      have f9 : ((str M).toList == [100, 110, 116]) = false := by rw [eq_lit]; exact decide_eq_false h9
                                      have f10 : ((str M).toList == [101, 120, 112, 101, 99, 116]) = false := by rw [eq_lit]; exact decide_eq_false h10
                                      have f11 : ((str M).toList == [104, 111, 115, 116]) = false := by rw [eq_lit]; exact decide_eq_false h11
                                      have f12 : ((str M).toList == [107, 101, 101, 112, 45, 97, 108, 105, 118, 101]) = false := by rw [eq_lit]; exact decide_eq_false h12
                                      have f13 : ((str M).toList == [111, 114, 105, 103, 105, 110]) = false := by rw [eq_lit]; exact decide_eq_false h13
                                      have f14 : ((str M).toList == [114, 101, 102, 101, 114, 101, 114]) = false := by rw [eq_lit]; exact decide_eq_false h14
                                      have f15 : ((str M).toList == [115, 101, 116, 45, 99, 111, 111, 107, 105, 101]) = false := by rw [eq_lit]; exact decide_eq_false h15
                                      have f16 : ((str M).toList == [116, 101]) = false := by rw [eq_lit]; exact decide_eq_false h16
                                      have f17 : ((str M).toList == [116, 114, 97, 105, 108, 101, 114]) = true := by rw [eq_lit]; exact decide_eq_true h17
                                      have hc : nvrs.contains M = true := by rw [h17]; decide +kernel
                                      rw [HR.out]
                                      have HC := Lib.hid hc
                                      clear hc h0 h1 h2 h3 h4 h5 h6 h7 h8 h9 h10 h11 h12 h13 h14 h15 h16 h17
                                      rw [HC.out]
                                      go_enter Tryz.func10, Tryz.ntmps10
                                      go_wp2_with (first | (go_at_call 29; (with_reducible refine (H.out _).mono ?_); (rintro e w1 ⟨rfl, hb⟩); have HB := Lib.hid hb; clear hb))
                                      go_ret
                                      exact ⟨rfl, HB.out⟩
                                    · skip
                                      by_cases h18 : M = [116, 114, 97, 110, 115, 102, 101, 114, 45, 101, 110, 99, 111, 100, 105, 110, 103]
                                      · have f0 : ((str M).toList == [97, 99, 99, 101, 112, 116, 45, 99, 104, 97, 114, 115, 101, 116]) = false := by rw [eq_lit]; exact decide_eq_false h0
                                        have f1 : ((str M).toList == [97, 99, 99, 101, 112, 116, 45, 101, 110, 99, 111, 100, 105, 110, 103]) = false := by rw [eq_lit]; exact decide_eq_false h1
                                        have f2 : ((str M).toList == [97, 99, 99, 101, 115, 115, 45, 99, 111, 110, 116, 114, 111, 108, 45, 114, 101, 113, 117, 101, 115, 116, 45, 104, 101, 97, 100, 101, 114, 115]) = false := by rw [eq_lit]; exact decide_eq_false h2
                                        have f3 : ((str M).toList == [97, 99, 99, 101, 115, 115, 45, 99, 111, 110, 116, 114, 111, 108, 45, 114, 101, 113, 117, 101, 115, 116, 45, 109, 101, 116, 104, 111, 100]) = false := by rw [eq_lit]; exact decide_eq_false h3
                                        have f4 : ((str M).toList == [99, 111, 110, 110, 101, 99, 116, 105, 111, 110]) = false := by rw [eq_lit]; exact decide_eq_false h4
                                        have f5 : ((str M).toList == [99, 111, 110, 116, 101, 110, 116, 45, 108, 101, 110, 103, 116, 104]) = false := by rw [eq_lit]; exact decide_eq_false h5
                                        have f6 : ((str M).toList == [99, 111, 111, 107, 105, 101]) = false := by rw [eq_lit]; exact decide_eq_false h6
                                        have f7 : ((str M).toList == [99, 111, 111, 107, 105, 101, 50]) = false := by rw [eq_lit]; exact decide_eq_false h7
                                        have f8 : ((str M).toList == [100, 97, 116, 101]) = false := by rw [eq_lit]; exact decide_eq_false h8
                                        have f9 : ((str M).toList == [100, 110, 116]) = false := by rw [eq_lit]; exact decide_eq_false h9
                                        have f10 : ((str M).toList == [101, 120, 112, 101, 99, 116]) = false := by rw [eq_lit]; exact decide_eq_false h10
                                        have f11 : ((str M).toList == [104, 111, 115, 116]) = false := by rw [eq_lit]; exact decide_eq_false h11
                                        have f12 : ((str M).toList == [107, 101, 101, 112, 45, 97, 108, 105, 118, 101]) = false := by rw [eq_lit]; exact decide_eq_false h12
                                        have f13 : ((str M).toList == [111, 114, 105, 103, 105, 110]) = false := by rw [eq_lit]; exact decide_eq_false h13
                                        have f14 : ((str M).toList == [114, 101, 102, 101, 114, 101, 114]) = false := by rw [eq_lit]; exact decide_eq_false h14
                                        have f15 : ((str M).toList == [115, 101, 116, 45, 99, 111, 111, 107, 105, 101]) = false := by rw [eq_lit]; exact decide_eq_false h15
                                        have f16 : ((str M).toList == [116, 101]) = false := by rw [eq_lit]; exact decide_eq_false h16
                                        have f17 : ((str M).toList == [116, 114, 97, 105, 108, 101, 114]) = false := by rw [eq_lit]; exact decide_eq_false h17
                                        have f18 : ((str M).toList == [116, 114, 97, 110, 115, 102, 101, 114, 45, 101, 110, 99, 111, 100, 105, 110, 103]) = true := by rw [eq_lit]; exact decide_eq_true h18
                                        have hc : nvrs.contains M = true := by rw [h18]; decide +kernel
                                        rw [HR.out]
                                        have HC := Lib.hid hc
                                        clear hc h0 h1 h2 h3 h4 h5 h6 h7 h8 h9 h10 h11 h12 h13 h14 h15 h16 h17 h18
                                        rw [HC.out]
                                        go_enter Tryz.func10, Tryz.ntmps10
                                        go_wp2_with (first | (go_at_call 29; (with_reducible refine (H.out _).mono ?_); (rintro e w1 ⟨rfl, hb⟩); have HB := Lib.hid hb; clear hb))
                                        go_ret
                                        exact ⟨rfl, HB.out⟩
                                      · skip
                                        by_cases h19 : M = [117, 112, 103, 114, 97, 100, 101]
                                        · have f0 : ((str M).toList == [97, 99, 99, 101, 112, 116, 45, 99, 104, 97, 114, 115, 101, 116]) = false := by rw [eq_lit]; exact decide_eq_false h0
                                          have f1 : ((str M).toList == [97, 99, 99, 101, 112, 116, 45, 101, 110, 99, 111, 100, 105, 110, 103]) = false := by rw [eq_lit]; exact decide_eq_false h1
                                          have f2 : ((str M).toList == [97, 99, 99, 101, 115, 115, 45, 99, 111, 110, 116, 114, 111, 108, 45, 114, 101, 113, 117, 101, 115, 116, 45, 104, 101, 97, 100, 101, 114, 115]) = false := by rw [eq_lit]; exact decide_eq_false h2
                                          have f3 : ((str M).toList == [97, 99, 99, 101, 115, 115, 45, 99, 111, 110, 116, 114, 111, 108, 45, 114, 101, 113, 117, 101, 115, 116, 45, 109, 101, 116, 104, 111, 100]) = false := by rw [eq_lit]; exact decide_eq_false h3
                                          have f4 : ((str M).toList == [99, 111, 110, 110, 101, 99, 116, 105, 111, 110]) = false := by rw [eq_lit]; exact decide_eq_false h4
                                          have f5 : ((str M).toList == [99, 111, 110, 116, 101, 110, 116, 45, 108, 101, 110, 103, 116, 104]) = false := by rw [eq_lit]; exact decide_eq_false h5
                                          have f6 : ((str M).toList == [99, 111, 111, 107, 105, 101]) = false := by rw [eq_lit]; exact decide_eq_false h6
                                          have f7 : ((str M).toList == [99, 111, 111, 107, 105, 101, 50]) = false := by rw [eq_lit]; exact decide_eq_false h7
                                          have f8 : ((str M).toList == [100, 97, 116, 101]) = false := by rw [eq_lit]; exact decide_eq_false h8
                                          have f9 : ((str M).toList == [100, 110, 116]) = false := by rw [eq_lit]; exact decide_eq_false h9
                                          have f10 : ((str M).toList == [101, 120, 112, 101, 99, 116]) = false := by rw [eq_lit]; exact decide_eq_false h10
                                          have f11 : ((str M).toList == [104, 111, 115, 116]) = false := by rw [eq_lit]; exact decide_eq_false h11
                                          have f12 : ((str M).toList == [107, 101, 101, 112, 45, 97, 108, 105, 118, 101]) = false := by rw [eq_lit]; exact decide_eq_false h12
                                          have f13 : ((str M).toList == [111, 114, 105, 103, 105, 110]) = false := by rw [eq_lit]; exact decide_eq_false h13
                                          have f14 : ((str M).toList == [114, 101, 102, 101, 114, 101, 114]) = false := by rw [eq_lit]; exact decide_eq_false h14
                                          have f15 : ((str M).toList == [115, 101, 116, 45, 99, 111, 111, 107, 105, 101]) = false := by rw [eq_lit]; exact decide_eq_false h15
                                          have f16 : ((str M).toList == [116, 101]) = false := by rw [eq_lit]; exact decide_eq_false h16
                                          have f17 : ((str M).toList == [116, 114, 97, 105, 108, 101, 114]) = false := by rw [eq_lit]; exact decide_eq_false h17
                                          have f18 : ((str M).toList == [116, 114, 97, 110, 115, 102, 101, 114, 45, 101, 110, 99, 111, 100, 105, 110, 103]) = false := by rw [eq_lit]; exact decide_eq_false h18
                                          have f19 : ((str M).toList == [117, 112, 103, 114, 97, 100, 101]) = true := by rw [eq_lit]; exact decide_eq_true h19
                                          have hc : nvrs.contains M = true := by rw [h19]; decide +kernel
                                          rw [HR.out]
                                          have HC := Lib.hid hc
                                          clear hc h0 h1 h2 h3 h4 h5 h6 h7 h8 h9 h10 h11 h12 h13 h14 h15 h16 h17 h18 h19
                                          rw [HC.out]
                                          go_enter Tryz.func10, Tryz.ntmps10
                                          go_wp2_with (first | (go_at_call 29; (with_reducible refine (H.out _).mono ?_); (rintro e w1 ⟨rfl, hb⟩); have HB := Lib.hid hb; clear hb))
                                          go_ret
                                          exact ⟨rfl, HB.out⟩
                                        · skip
                                          by_cases h20 : M = [118, 105, 97]
                                          · have f0 : ((str M).toList == [97, 99, 99, 101, 112, 116, 45, 99, 104, 97, 114, 115, 101, 116]) = false := by rw [eq_lit]; exact decide_eq_false h0
                                            have f1 : ((str M).toList == [97, 99, 99, 101, 112, 116, 45, 101, 110, 99, 111, 100, 105, 110, 103]) = false := by rw [eq_lit]; exact decide_eq_false h1
                                            have f2 : ((str M).toList == [97, 99, 99, 101, 115, 115, 45, 99, 111, 110, 116, 114, 111, 108, 45, 114, 101, 113, 117, 101, 115, 116, 45, 104, 101, 97, 100, 101, 114, 115]) = false := by rw [eq_lit]; exact decide_eq_false h2
                                            have f3 : ((str M).toList == [97, 99, 99, 101, 115, 115, 45, 99, 111, 110, 116, 114, 111, 108, 45, 114, 101, 113, 117, 101, 115, 116, 45, 109, 101, 116, 104, 111, 100]) = false := by rw [eq_lit]; exact decide_eq_false h3
                                            have f4 : ((str M).toList == [99, 111, 110, 110, 101, 99, 116, 105, 111, 110]) = false := by rw [eq_lit]; exact decide_eq_false h4
                                            have f5 : ((str M).toList == [99, 111, 110, 116, 101, 110, 116, 45, 108, 101, 110, 103, 116, 104]) = false := by rw [eq_lit]; exact decide_eq_false h5
                                            have f6 : ((str M).toList == [99, 111, 111, 107, 105, 101]) = false := by rw [eq_lit]; exact decide_eq_false h6
                                            have f7 : ((str M).toList == [99, 111, 111, 107, 105, 101, 50]) = false := by rw [eq_lit]; exact decide_eq_false h7
                                            have f8 : ((str M).toList == [100, 97, 116, 101]) = false := by rw [eq_lit]; exact decide_eq_false h8
                                            have f9 : ((str M).toList == [100, 110, 116]) = false := by rw [eq_lit]; exact decide_eq_false h9
                                            have f10 : ((str M).toList == [101, 120, 112, 101, 99, 116]) = false := by rw [eq_lit]; exact decide_eq_false h10
                                            have f11 : ((str M).toList == [104, 111, 115, 116]) = false := by rw [eq_lit]; exact decide_eq_false h11
                                            have f12 : ((str M).toList == [107, 101, 101, 112, 45, 97, 108, 105, 118, 101]) = false := by rw [eq_lit]; exact decide_eq_false h12
                                            have f13 : ((str M).toList == [111, 114, 105, 103, 105, 110]) = false := by rw [eq_lit]; exact decide_eq_false h13
                                            have f14 : ((str M).toList == [114, 101, 102, 101, 114, 101, 114]) = false := by rw [eq_lit]; exact decide_eq_false h14
                                            have f15 : ((str M).toList == [115, 101, 116, 45, 99, 111, 111, 107, 105, 101]) = false := by rw [eq_lit]; exact decide_eq_false h15
                                            have f16 : ((str M).toList == [116, 101]) = false := by rw [eq_lit]; exact decide_eq_false h16
                                            have f17 : ((str M).toList == [116, 114, 97, 105, 108, 101, 114]) = false := by rw [eq_lit]; exact decide_eq_false h17
                                            have f18 : ((str M).toList == [116, 114, 97, 110, 115, 102, 101, 114, 45, 101, 110, 99, 111, 100, 105, 110, 103]) = false := by rw [eq_lit]; exact decide_eq_false h18
                                            have f19 : ((str M).toList == [117, 112, 103, 114, 97, 100, 101]) = false := by rw [eq_lit]; exact decide_eq_false h19
                                            have f20 : ((str M).toList == [118, 105, 97]) = true := by rw [eq_lit]; exact decide_eq_true h20
                                            have hc : nvrs.contains M = true := by rw [h20]; decide +kernel
                                            rw [HR.out]
                                            have HC := Lib.hid hc
                                            clear hc h0 h1 h2 h3 h4 h5 h6 h7 h8 h9 h10 h11 h12 h13 h14 h15 h16 h17 h18 h19 h20
                                            rw [HC.out]
                                            go_enter Tryz.func10, Tryz.ntmps10
                                            go_wp2_with (first | (go_at_call 29; (with_reducible refine (H.out _).mono ?_); (rintro e w1 ⟨rfl, hb⟩); have HB := Lib.hid hb; clear hb))
                                            go_ret
                                            exact ⟨rfl, HB.out⟩
                                          · skip
                                            have f0 : ((str M).toList == [97, 99, 99, 101, 112, 116, 45, 99, 104, 97, 114, 115, 101, 116]) = false := by rw [eq_lit]; exact decide_eq_false h0
                                            have f1 : ((str M).toList == [97, 99, 99, 101, 112, 116, 45, 101, 110, 99, 111, 100, 105, 110, 103]) = false := by rw [eq_lit]; exact decide_eq_false h1
                                            have f2 : ((str M).toList == [97, 99, 99, 101, 115, 115, 45, 99, 111, 110, 116, 114, 111, 108, 45, 114, 101, 113, 117, 101, 115, 116, 45, 104, 101, 97, 100, 101, 114, 115]) = false := by rw [eq_lit]; exact decide_eq_false h2
                                            have f3 : ((str M).toList == [97, 99, 99, 101, 115, 115, 45, 99, 111, 110, 116, 114, 111, 108, 45, 114, 101, 113, 117, 101, 115, 116, 45, 109, 101, 116, 104, 111, 100]) = false := by rw [eq_lit]; exact decide_eq_false h3
                                            have f4 : ((str M).toList == [99, 111, 110, 110, 101, 99, 116, 105, 111, 110]) = false := by rw [eq_lit]; exact decide_eq_false h4
                                            have f5 : ((str M).toList == [99, 111, 110, 116, 101, 110, 116, 45, 108, 101, 110, 103, 116, 104]) = false := by rw [eq_lit]; exact decide_eq_false h5
                                            have f6 : ((str M).toList == [99, 111, 111, 107, 105, 101]) = false := by rw [eq_lit]; exact decide_eq_false h6
                                            have f7 : ((str M).toList == [99, 111, 111, 107, 105, 101, 50]) = false := by rw [eq_lit]; exact decide_eq_false h7
                                            have f8 : ((str M).toList == [100, 97, 116, 101]) = false := by rw [eq_lit]; exact decide_eq_false h8
                                            have f9 : ((str M).toList == [100, 110, 116]) = false := by rw [eq_lit]; exact decide_eq_false h9
                                            have f10 : ((str M).toList == [101, 120, 112, 101, 99, 116]) = false := by rw [eq_lit]; exact decide_eq_false h10
                                            have f11 : ((str M).toList == [104, 111, 115, 116]) = false := by rw [eq_lit]; exact decide_eq_false h11
                                            have f12 : ((str M).toList == [107, 101, 101, 112, 45, 97, 108, 105, 118, 101]) = false := by rw [eq_lit]; exact decide_eq_false h12
                                            have f13 : ((str M).toList == [111, 114, 105, 103, 105, 110]) = false := by rw [eq_lit]; exact decide_eq_false h13
                                            have f14 : ((str M).toList == [114, 101, 102, 101, 114, 101, 114]) = false := by rw [eq_lit]; exact decide_eq_false h14
                                            have f15 : ((str M).toList == [115, 101, 116, 45, 99, 111, 111, 107, 105, 101]) = false := by rw [eq_lit]; exact decide_eq_false h15
                                            have f16 : ((str M).toList == [116, 101]) = false := by rw [eq_lit]; exact decide_eq_false h16
                                            have f17 : ((str M).toList == [116, 114, 97, 105, 108, 101, 114]) = false := by rw [eq_lit]; exact decide_eq_false h17
                                            have f18 : ((str M).toList == [116, 114, 97, 110, 115, 102, 101, 114, 45, 101, 110, 99, 111, 100, 105, 110, 103]) = false := by rw [eq_lit]; exact decide_eq_false h18
                                            have f19 : ((str M).toList == [117, 112, 103, 114, 97, 100, 101]) = false := by rw [eq_lit]; exact decide_eq_false h19
                                            have f20 : ((str M).toList == [118, 105, 97]) = false := by rw [eq_lit]; exact decide_eq_false h20
                                            have hc : nvrs.contains M = false := by
                                              rw [nvrs]
                                              simp only [List.contains_cons, List.contains_nil, Bool.or_false, Bool.or_eq_false_iff, beq_eq_false_iff_ne]
                                              exact ⟨h0, h1, h2, h3, h4, h5, h6, h7, h8, h9, h10, h11, h12, h13, h14, h15, h16, h17, h18, h19, h20⟩
                                            rw [HR.out]
                                            have HC := Lib.hid hc
                                            clear hc h0 h1 h2 h3 h4 h5 h6 h7 h8 h9 h10 h11 h12 h13 h14 h15 h16 h17 h18 h19 h20
                                            rw [HC.out]
                                            have P1 : Hid (∀ w', Calls Tryz.prog 30 #[.string (str M), .string ⟨#[112, 114, 111, 120, 121, 45]⟩] w' fun e w2 => e = .returned (.bool (pre M pxL)) ∧ w2 = w') := fun w' => pre_any M pxL w' HL.out (by decide)
                                            have P2 : Hid (∀ w', Calls Tryz.prog 30 #[.string (str M), .string ⟨#[115, 101, 99, 45]⟩] w' fun e w2 => e = .returned (.bool (pre M scL)) ∧ w2 = w') := fun w' => pre_any M scL w' HL.out (by decide)
                                            generalize pre M pxL = B1 at *
                                            generalize pre M scL = B2 at *
                                            clear HR HC
                                            rw [Bool.false_or]
                                            cases B1
                                            · go_enter Tryz.func10, Tryz.ntmps10
                                              go_wp2_with (first | (go_at_call 29; (with_reducible refine (H.out _).mono ?_); (rintro e w1 ⟨rfl, hb⟩); have HB := Lib.hid hb; clear hb) | (go_at_call 30; (with_reducible refine (P1.out _).mono ?_); (rintro e w2 ⟨rfl, hq⟩); subst w2; clear P1) | (go_at_call 30; (with_reducible refine (P2.out _).mono ?_); (rintro e w2 ⟨rfl, hq⟩); subst w2; clear P2))
                                              go_ret
                                              exact ⟨rfl, HB.out⟩
                                            · go_enter Tryz.func10, Tryz.ntmps10
                                              go_wp2_with (first | (go_at_call 29; (with_reducible refine (H.out _).mono ?_); (rintro e w1 ⟨rfl, hb⟩); have HB := Lib.hid hb; clear hb) | (go_at_call 30; (with_reducible refine (P1.out _).mono ?_); (rintro e w2 ⟨rfl, hq⟩); subst w2; clear P1))
                                              go_ret
                                              exact ⟨rfl, HB.out⟩
set_option maxHeartbeats 4000000 in
set_option maxRecDepth 100000 in
theorem plain_any (v : List UInt8) (w : World) (hl : v.length ≤ 4611686018427387904) : Calls Tryz.prog 41 #[.string (str v)] w fun e w' => e = .returned (.bool (plB v)) ∧ Below w.heap.size w w' := by
  have H : Hid (∀ w', Calls Tryz.prog 55 #[.string (str v)] w' fun e w2 => e = .returned (.tuple #[.string (str (esS v)), .bool (esB v)]) ∧ Below w'.heap.size w' w2) := fun w' => ess_any v w' hl
  have HR : Hid (plB v = knds.contains (esS v)) := rfl
  generalize esS v = M at *
  generalize esB v = E at *
  by_cases h0 : M = [97, 112, 112, 108, 105, 99, 97, 116, 105, 111, 110, 47, 120, 45, 119, 119, 119, 45, 102, 111, 114, 109, 45, 117, 114, 108, 101, 110, 99, 111, 100, 101, 100]
  · have f0 : ((str M).toList == [97, 112, 112, 108, 105, 99, 97, 116, 105, 111, 110, 47, 120, 45, 119, 119, 119, 45, 102, 111, 114, 109, 45, 117, 114, 108, 101, 110, 99, 111, 100, 101, 100]) = true := by rw [eq_lit]; exact decide_eq_true h0
    have hc : knds.contains M = true := by rw [h0]; decide +kernel
    rw [HR.out]
    have HC := Lib.hid hc
    clear hc h0
    rw [HC.out]
    go_enter Tryz.func41, Tryz.ntmps41
    go_wp2_with (first | (go_at_call 55; (with_reducible refine (H.out _).mono ?_); (rintro e w1 ⟨rfl, hb⟩); have HB := Lib.hid hb; clear hb))
    go_ret
    exact ⟨rfl, HB.out⟩
  · skip
    by_cases h1 : M = [109, 117, 108, 116, 105, 112, 97, 114, 116, 47, 102, 111, 114, 109, 45, 100, 97, 116, 97]
    · have f0 : ((str M).toList == [97, 112, 112, 108, 105, 99, 97, 116, 105, 111, 110, 47, 120, 45, 119, 119, 119, 45, 102, 111, 114, 109, 45, 117, 114, 108, 101, 110, 99, 111, 100, 101, 100]) = false := by rw [eq_lit]; exact decide_eq_false h0
      have f1 : ((str M).toList == [109, 117, 108, 116, 105, 112, 97, 114, 116, 47, 102, 111, 114, 109, 45, 100, 97, 116, 97]) = true := by rw [eq_lit]; exact decide_eq_true h1
      have hc : knds.contains M = true := by rw [h1]; decide +kernel
      rw [HR.out]
      have HC := Lib.hid hc
      clear hc h0 h1
      rw [HC.out]
      go_enter Tryz.func41, Tryz.ntmps41
      go_wp2_with (first | (go_at_call 55; (with_reducible refine (H.out _).mono ?_); (rintro e w1 ⟨rfl, hb⟩); have HB := Lib.hid hb; clear hb))
      go_ret
      exact ⟨rfl, HB.out⟩
    · skip
      by_cases h2 : M = [116, 101, 120, 116, 47, 112, 108, 97, 105, 110]
      · have f0 : ((str M).toList == [97, 112, 112, 108, 105, 99, 97, 116, 105, 111, 110, 47, 120, 45, 119, 119, 119, 45, 102, 111, 114, 109, 45, 117, 114, 108, 101, 110, 99, 111, 100, 101, 100]) = false := by rw [eq_lit]; exact decide_eq_false h0
        have f1 : ((str M).toList == [109, 117, 108, 116, 105, 112, 97, 114, 116, 47, 102, 111, 114, 109, 45, 100, 97, 116, 97]) = false := by rw [eq_lit]; exact decide_eq_false h1
        have f2 : ((str M).toList == [116, 101, 120, 116, 47, 112, 108, 97, 105, 110]) = true := by rw [eq_lit]; exact decide_eq_true h2
        have hc : knds.contains M = true := by rw [h2]; decide +kernel
        rw [HR.out]
        have HC := Lib.hid hc
        clear hc h0 h1 h2
        rw [HC.out]
        go_enter Tryz.func41, Tryz.ntmps41
        go_wp2_with (first | (go_at_call 55; (with_reducible refine (H.out _).mono ?_); (rintro e w1 ⟨rfl, hb⟩); have HB := Lib.hid hb; clear hb))
        go_ret
        exact ⟨rfl, HB.out⟩
      · skip
        have f0 : ((str M).toList == [97, 112, 112, 108, 105, 99, 97, 116, 105, 111, 110, 47, 120, 45, 119, 119, 119, 45, 102, 111, 114, 109, 45, 117, 114, 108, 101, 110, 99, 111, 100, 101, 100]) = false := by rw [eq_lit]; exact decide_eq_false h0
        have f1 : ((str M).toList == [109, 117, 108, 116, 105, 112, 97, 114, 116, 47, 102, 111, 114, 109, 45, 100, 97, 116, 97]) = false := by rw [eq_lit]; exact decide_eq_false h1
        have f2 : ((str M).toList == [116, 101, 120, 116, 47, 112, 108, 97, 105, 110]) = false := by rw [eq_lit]; exact decide_eq_false h2
        have hc : knds.contains M = false := by
          rw [knds]
          simp only [List.contains_cons, List.contains_nil, Bool.or_false, Bool.or_eq_false_iff, beq_eq_false_iff_ne]
          exact ⟨h0, h1, h2⟩
        rw [HR.out]
        have HC := Lib.hid hc
        clear hc h0 h1 h2
        rw [HC.out]
        go_enter Tryz.func41, Tryz.ntmps41
        go_wp2_with (first | (go_at_call 55; (with_reducible refine (H.out _).mono ?_); (rintro e w1 ⟨rfl, hb⟩); have HB := Lib.hid hb; clear hb))
        go_ret
        exact ⟨rfl, HB.out⟩
end Go.Proofs.YtonchnmcklgpoaaGreatDoor
