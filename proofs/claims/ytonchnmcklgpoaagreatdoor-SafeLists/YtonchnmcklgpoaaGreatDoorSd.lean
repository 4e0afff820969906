/-
  What safe.inOrder answers. No condition but sizes.
-/
import Derived.Test.YtonchnmcklgpoaaGreatDoorSc
import Derived.Test.YtonchnmcklgpoaaGreatDoorFn
namespace Go.Proofs.YtonchnmcklgpoaaGreatDoor
open Go.RowKit
set_option linter.unusedVariables false

set_option maxHeartbeats 4000000 in
set_option maxRecDepth 100000 in
theorem order_any (v : List UInt8) (w : World) (hl : v.length ≤ 4611686018427387904) : Calls Tryz.prog 42 #[.string (str v)] w fun e w' => e = .returned (.bool (rgB v)) ∧ Below w.heap.size w w' := by
  have hr : (rst v unitL).length ≤ v.length := by
    rw [rst]
    split
    · rw [List.length_drop]; omega
    · omega
  have H1 : Hid (∀ w', Calls Tryz.prog 56 #[.string (str v), .string ⟨#[98, 121, 116, 101, 115, 61]⟩] w' fun e w2 => e = .returned (.tuple #[.string (str (rst v unitL)), .bool (pre v unitL)]) ∧ w2 = w') := fun w' => cutpre_any v unitL w' (by omega) (by decide)
  have H2 : Hid (∀ w', Calls Tryz.prog 57 #[.string (str (rst v unitL)), .string ⟨#[45]⟩] w' fun e w2 => e = .returned (.tuple #[.string (str (rg1 v)), .string (str (rg2 v)), .bool ((rst v unitL).contains 45)]) ∧ Below w'.heap.size w' w2) := fun w' => cut_any (rst v unitL) 45 w' (by omega)
  have H3 : Hid (∀ w', Calls Tryz.prog 58 #[.string (str (rg1 v)), .int .i64 999999999] w' fun e w2 => e = .returned (.tuple #[.int .i64 (nmv (rg1 v) 999999999), .bool (dg (rg1 v))]) ∧ w2 = w') := fun w' => number_any (rg1 v) 999999999 w'
  have H4 : Hid (∀ w', Calls Tryz.prog 58 #[.string (str (rg2 v)), .int .i64 999999999] w' fun e w2 => e = .returned (.tuple #[.int .i64 (nmv (rg2 v) 999999999), .bool (dg (rg2 v))]) ∧ w2 = w') := fun w' => number_any (rg2 v) 999999999 w'
  have HR : Hid (rgB v = (pre v unitL && (rst v unitL).contains 45 && dg (rg1 v) && (decide (rg2 v = []) || (dg (rg2 v) && decide (nmv (rg1 v) 999999999 ≤ nmv (rg2 v) 999999999))))) := rfl
  have HM : Hid ((str (rg2 v)).toList.isEmpty = decide (rg2 v = [])) := str_empty _
  rw [HR.out]
  clear HR hr
  generalize nmv (rg1 v) 999999999 = N1 at *
  generalize nmv (rg2 v) 999999999 = N2 at *
  generalize dg (rg1 v) = D1 at *
  generalize dg (rg2 v) = D2 at *
  generalize (rst v unitL).contains 45 = C at *
  generalize pre v unitL = P at *
  generalize decide (rg2 v = []) = E at *
  obtain ⟨L, hL⟩ : ∃ L, L = decide (N1 ≤ N2) := ⟨_, rfl⟩
  generalize rg1 v = X1 at *
  generalize rg2 v = X2 at *
  generalize rst v unitL = X3 at *
  have hm := HM.out
  rw [← hL]
  have hle := hL.symm
  clear hL HM
  cases P
  · skip
    go_enter Tryz.func42, Tryz.ntmps42
    go_wp2_with (first | (go_at_call 56; (with_reducible refine (H1.out _).mono ?_); (rintro e w1 ⟨rfl, hq1⟩); subst w1; clear H1) | (go_at_call 57; (with_reducible refine (H2.out _).mono ?_); (rintro e w2 ⟨rfl, hb⟩); have HB := Lib.hid hb; clear hb; clear H2) | (go_at_call 58; (with_reducible refine (H3.out _).mono ?_); (rintro e w3 ⟨rfl, hq3⟩); subst w3; clear H3))
    go_ret
    exact ⟨rfl, HB.out⟩
  · skip
    cases C
    · skip
      go_enter Tryz.func42, Tryz.ntmps42
      go_wp2_with (first | (go_at_call 56; (with_reducible refine (H1.out _).mono ?_); (rintro e w1 ⟨rfl, hq1⟩); subst w1; clear H1) | (go_at_call 57; (with_reducible refine (H2.out _).mono ?_); (rintro e w2 ⟨rfl, hb⟩); have HB := Lib.hid hb; clear hb; clear H2) | (go_at_call 58; (with_reducible refine (H3.out _).mono ?_); (rintro e w3 ⟨rfl, hq3⟩); subst w3; clear H3))
      go_ret
      exact ⟨rfl, HB.out⟩
    · skip
      cases D1
      · skip
        go_enter Tryz.func42, Tryz.ntmps42
        go_wp2_with (first | (go_at_call 56; (with_reducible refine (H1.out _).mono ?_); (rintro e w1 ⟨rfl, hq1⟩); subst w1; clear H1) | (go_at_call 57; (with_reducible refine (H2.out _).mono ?_); (rintro e w2 ⟨rfl, hb⟩); have HB := Lib.hid hb; clear hb; clear H2) | (go_at_call 58; (with_reducible refine (H3.out _).mono ?_); (rintro e w3 ⟨rfl, hq3⟩); subst w3; clear H3))
        go_ret
        exact ⟨rfl, HB.out⟩
      · skip
        cases E
        · skip
          cases D2
          · skip
            go_enter Tryz.func42, Tryz.ntmps42
            go_wp2_with (first | (go_at_call 56; (with_reducible refine (H1.out _).mono ?_); (rintro e w1 ⟨rfl, hq1⟩); subst w1; clear H1) | (go_at_call 57; (with_reducible refine (H2.out _).mono ?_); (rintro e w2 ⟨rfl, hb⟩); have HB := Lib.hid hb; clear hb; clear H2) | (go_at_call 58; (with_reducible refine (H3.out _).mono ?_); (rintro e w3 ⟨rfl, hq3⟩); subst w3; clear H3) | (go_at_call 58; (with_reducible refine (H4.out _).mono ?_); (rintro e w4 ⟨rfl, hq4⟩); subst w4; clear H4))
            go_ret
            exact ⟨rfl, HB.out⟩
          · skip
            cases L
            · skip
              go_enter Tryz.func42, Tryz.ntmps42
              go_wp2_with (first | (go_at_call 56; (with_reducible refine (H1.out _).mono ?_); (rintro e w1 ⟨rfl, hq1⟩); subst w1; clear H1) | (go_at_call 57; (with_reducible refine (H2.out _).mono ?_); (rintro e w2 ⟨rfl, hb⟩); have HB := Lib.hid hb; clear hb; clear H2) | (go_at_call 58; (with_reducible refine (H3.out _).mono ?_); (rintro e w3 ⟨rfl, hq3⟩); subst w3; clear H3) | (go_at_call 58; (with_reducible refine (H4.out _).mono ?_); (rintro e w4 ⟨rfl, hq4⟩); subst w4; clear H4))
              go_ret
              exact ⟨rfl, HB.out⟩
            · skip
              go_enter Tryz.func42, Tryz.ntmps42
              go_wp2_with (first | (go_at_call 56; (with_reducible refine (H1.out _).mono ?_); (rintro e w1 ⟨rfl, hq1⟩); subst w1; clear H1) | (go_at_call 57; (with_reducible refine (H2.out _).mono ?_); (rintro e w2 ⟨rfl, hb⟩); have HB := Lib.hid hb; clear hb; clear H2) | (go_at_call 58; (with_reducible refine (H3.out _).mono ?_); (rintro e w3 ⟨rfl, hq3⟩); subst w3; clear H3) | (go_at_call 58; (with_reducible refine (H4.out _).mono ?_); (rintro e w4 ⟨rfl, hq4⟩); subst w4; clear H4))
              go_ret
              exact ⟨rfl, HB.out⟩
        · skip
          go_enter Tryz.func42, Tryz.ntmps42
          go_wp2_with (first | (go_at_call 56; (with_reducible refine (H1.out _).mono ?_); (rintro e w1 ⟨rfl, hq1⟩); subst w1; clear H1) | (go_at_call 57; (with_reducible refine (H2.out _).mono ?_); (rintro e w2 ⟨rfl, hb⟩); have HB := Lib.hid hb; clear hb; clear H2) | (go_at_call 58; (with_reducible refine (H3.out _).mono ?_); (rintro e w3 ⟨rfl, hq3⟩); subst w3; clear H3))
          go_ret
          exact ⟨rfl, HB.out⟩
end Go.Proofs.YtonchnmcklgpoaaGreatDoor
