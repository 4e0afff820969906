/-
  SafeLetters and SafeCuts walked. Condition: texts of at most 2^62 bytes.
-/
import Derived.Test.YtonchnmcklgpoaaDoorSh
import Derived.BigQuiet
namespace Go.Proofs.YtonchnmcklgpoaaDoor
open Go.RowKit Go.Maps
set_option linter.unusedVariables false

set_option maxHeartbeats 4000000 in
set_option maxRecDepth 100000 in
theorem letters_any (n v : List UInt8) (w : World) (hn : n.length ≤ 4611686018427387904) (hv : v.length ≤ 4611686018427387904) : Calls Tryd.prog 3 #[.string (str n), .string (str v)] w fun e w' => e = .returned (.bool true) ∧ Below w.heap.size w w' := by
  have HSh : Hid (∀ w', Calls Tryd.prog 9 #[] w' fun e w2 => e = .returned (.bool true) ∧ Below w'.heap.size w' w2) := fun w' => shown_any w'
  have HLo : Hid (∀ w', Calls Tryd.prog 10 #[.string (str n)] w' fun e w2 => e = .returned (.string (str (low n))) ∧ Below w'.heap.size w' w2) := fun w' => lower_any n w' (by omega)
  have H1a : Hid (∀ w', Calls Tryd.prog 11 #[.string (str n)] w' fun e w2 => e = .returned (.bool (mtd n)) ∧ Below w'.heap.size w' w2) := fun w' => smethod_any n w' (by omega)
  have H1b : Hid (∀ w', Calls Tryd.prog 11 #[.string (str (low n))] w' fun e w2 => e = .returned (.bool (mtd n)) ∧ Below w'.heap.size w' w2) := fun w' => by rw [← mtd_low n]; exact smethod_any (low n) w' (by rw [low_length]; omega)
  have H3a : Hid (∀ w', Calls Tryd.prog 13 #[.string (str n)] w' fun e w2 => e = .returned (.bool (nvr n)) ∧ Below w'.heap.size w' w2) := fun w' => never_any n w' (by omega)
  have H3b : Hid (∀ w', Calls Tryd.prog 13 #[.string (str (low n))] w' fun e w2 => e = .returned (.bool (nvr n)) ∧ Below w'.heap.size w' w2) := fun w' => by rw [← nvr_low n]; exact never_any (low n) w' (by rw [low_length]; omega)
  have H4a : Hid (∀ w', Calls Tryd.prog 14 #[.string (str n)] w' fun e w2 => e = .returned (.bool (rds n)) ∧ Below w'.heap.size w' w2) := fun w' => reads_any n w' (by omega)
  have H4b : Hid (∀ w', Calls Tryd.prog 14 #[.string (str (low n))] w' fun e w2 => e = .returned (.bool (rds n)) ∧ Below w'.heap.size w' w2) := fun w' => by rw [← rds_low n]; exact reads_any (low n) w' (by rw [low_length]; omega)
  have H5a : Hid (∀ w', Calls Tryd.prog 15 #[.string (str n)] w' fun e w2 => e = .returned (.bool (hdn n)) ∧ Below w'.heap.size w' w2) := fun w' => hidden_any n w' (by omega)
  have H5b : Hid (∀ w', Calls Tryd.prog 15 #[.string (str (low n))] w' fun e w2 => e = .returned (.bool (hdn n)) ∧ Below w'.heap.size w' w2) := fun w' => by rw [← hdn_low n]; exact hidden_any (low n) w' (by rw [low_length]; omega)
  have H2a : Hid (∀ w', Calls Tryd.prog 12 #[.string (str n), .string (str v)] w' fun e w2 => e = .returned (.bool (hdr n v)) ∧ Below w'.heap.size w' w2) := fun w' => header_any n v w' (by omega) (by omega)
  have H2b : Hid (∀ w', Calls Tryd.prog 12 #[.string (str (low n)), .string (str v)] w' fun e w2 => e = .returned (.bool (hdr n v)) ∧ Below w'.heap.size w' w2) := fun w' => by rw [← hdr_low n v]; exact header_any (low n) v w' (by rw [low_length]; omega) (by omega)
  have HNS : hdr n v = true → nvr n = false := nvr_safe
  generalize mtd n = M at *
  generalize nvr n = V at *
  generalize rds n = R at *
  generalize hdn n = D at *
  generalize hdr n v = B at *
  generalize low n = L at *
  have q1 : (M == M) = true := by cases M <;> rfl
  have q2 : (R == R) = true := by cases R <;> rfl
  have q3 : (D == D) = true := by cases D <;> rfl
  clear hn hv
  cases B
  · cases V
    · skip
      go_enter Tryd.func3, Tryd.ntmps3
      go_wp2_with (first
                | (go_at_call 9; (with_reducible refine (HSh.out _).mono ?_); (rintro e w1 ⟨rfl, hb⟩); have HB_1 := Lib.hid hb; clear hb)
                | (go_at_call 10; (with_reducible refine (HLo.out _).mono ?_); (rintro e w2 ⟨rfl, hb⟩); have HB_2 := Lib.hid (HB_1.out.trans (hb.mono HB_1.out.size)); clear hb)
                | (go_at_call 11; (with_reducible refine (H1a.out _).mono ?_); (rintro e w3 ⟨rfl, hb⟩); have HB_3 := Lib.hid (HB_2.out.trans (hb.mono HB_2.out.size)); clear hb; clear H1a)
                | (go_at_call 11; (with_reducible refine (H1b.out _).mono ?_); (rintro e w4 ⟨rfl, hb⟩); have HB_4 := Lib.hid (HB_3.out.trans (hb.mono HB_3.out.size)); clear hb; clear H1b)
                | (go_at_call 12; (with_reducible refine (H2a.out _).mono ?_); (rintro e w5 ⟨rfl, hb⟩); have HB_5 := Lib.hid (HB_4.out.trans (hb.mono HB_4.out.size)); clear hb)
                | (go_at_call 12; (with_reducible refine (H2b.out _).mono ?_); (rintro e w6 ⟨rfl, hb⟩); have HB_6 := Lib.hid (HB_5.out.trans (hb.mono HB_5.out.size)); clear hb; clear H2b)
                | (go_at_call 13; (with_reducible refine (H3a.out _).mono ?_); (rintro e w7 ⟨rfl, hb⟩); have HB_7 := Lib.hid (HB_6.out.trans (hb.mono HB_6.out.size)); clear hb)
                | (go_at_call 13; (with_reducible refine (H3b.out _).mono ?_); (rintro e w8 ⟨rfl, hb⟩); have HB_8 := Lib.hid (HB_7.out.trans (hb.mono HB_7.out.size)); clear hb; clear H3b)
                | (go_at_call 14; (with_reducible refine (H4a.out _).mono ?_); (rintro e w9 ⟨rfl, hb⟩); have HB_9 := Lib.hid (HB_8.out.trans (hb.mono HB_8.out.size)); clear hb; clear H4a)
                | (go_at_call 14; (with_reducible refine (H4b.out _).mono ?_); (rintro e w10 ⟨rfl, hb⟩); have HB_10 := Lib.hid (HB_9.out.trans (hb.mono HB_9.out.size)); clear hb; clear H4b)
                | (go_at_call 15; (with_reducible refine (H5a.out _).mono ?_); (rintro e w11 ⟨rfl, hb⟩); have HB_11 := Lib.hid (HB_10.out.trans (hb.mono HB_10.out.size)); clear hb; clear H5a)
                | (go_at_call 15; (with_reducible refine (H5b.out _).mono ?_); (rintro e w12 ⟨rfl, hb⟩); have HB_12 := Lib.hid (HB_11.out.trans (hb.mono HB_11.out.size)); clear hb; clear H5b)
                | (go_at_call 12; (with_reducible refine (H2a.out _).mono ?_); (rintro e w13 ⟨rfl, hb⟩); have HB_13 := Lib.hid (HB_12.out.trans (hb.mono HB_12.out.size)); clear hb))
      go_ret
      exact ⟨rfl, HB_13.out⟩
    · skip
      go_enter Tryd.func3, Tryd.ntmps3
      go_wp2_with (first
                | (go_at_call 9; (with_reducible refine (HSh.out _).mono ?_); (rintro e w1 ⟨rfl, hb⟩); have HB_1 := Lib.hid hb; clear hb)
                | (go_at_call 10; (with_reducible refine (HLo.out _).mono ?_); (rintro e w2 ⟨rfl, hb⟩); have HB_2 := Lib.hid (HB_1.out.trans (hb.mono HB_1.out.size)); clear hb)
                | (go_at_call 11; (with_reducible refine (H1a.out _).mono ?_); (rintro e w3 ⟨rfl, hb⟩); have HB_3 := Lib.hid (HB_2.out.trans (hb.mono HB_2.out.size)); clear hb; clear H1a)
                | (go_at_call 11; (with_reducible refine (H1b.out _).mono ?_); (rintro e w4 ⟨rfl, hb⟩); have HB_4 := Lib.hid (HB_3.out.trans (hb.mono HB_3.out.size)); clear hb; clear H1b)
                | (go_at_call 12; (with_reducible refine (H2a.out _).mono ?_); (rintro e w5 ⟨rfl, hb⟩); have HB_5 := Lib.hid (HB_4.out.trans (hb.mono HB_4.out.size)); clear hb)
                | (go_at_call 12; (with_reducible refine (H2b.out _).mono ?_); (rintro e w6 ⟨rfl, hb⟩); have HB_6 := Lib.hid (HB_5.out.trans (hb.mono HB_5.out.size)); clear hb; clear H2b)
                | (go_at_call 13; (with_reducible refine (H3a.out _).mono ?_); (rintro e w7 ⟨rfl, hb⟩); have HB_7 := Lib.hid (HB_6.out.trans (hb.mono HB_6.out.size)); clear hb)
                | (go_at_call 13; (with_reducible refine (H3b.out _).mono ?_); (rintro e w8 ⟨rfl, hb⟩); have HB_8 := Lib.hid (HB_7.out.trans (hb.mono HB_7.out.size)); clear hb; clear H3b)
                | (go_at_call 14; (with_reducible refine (H4a.out _).mono ?_); (rintro e w9 ⟨rfl, hb⟩); have HB_9 := Lib.hid (HB_8.out.trans (hb.mono HB_8.out.size)); clear hb; clear H4a)
                | (go_at_call 14; (with_reducible refine (H4b.out _).mono ?_); (rintro e w10 ⟨rfl, hb⟩); have HB_10 := Lib.hid (HB_9.out.trans (hb.mono HB_9.out.size)); clear hb; clear H4b)
                | (go_at_call 15; (with_reducible refine (H5a.out _).mono ?_); (rintro e w11 ⟨rfl, hb⟩); have HB_11 := Lib.hid (HB_10.out.trans (hb.mono HB_10.out.size)); clear hb; clear H5a)
                | (go_at_call 15; (with_reducible refine (H5b.out _).mono ?_); (rintro e w12 ⟨rfl, hb⟩); have HB_12 := Lib.hid (HB_11.out.trans (hb.mono HB_11.out.size)); clear hb; clear H5b)
                | (go_at_call 12; (with_reducible refine (H2a.out _).mono ?_); (rintro e w13 ⟨rfl, hb⟩); have HB_13 := Lib.hid (HB_12.out.trans (hb.mono HB_12.out.size)); clear hb))
      go_ret
      exact ⟨rfl, HB_13.out⟩
  · obtain rfl := HNS rfl
    go_enter Tryd.func3, Tryd.ntmps3
    go_wp2_with (first
            | (go_at_call 9; (with_reducible refine (HSh.out _).mono ?_); (rintro e w1 ⟨rfl, hb⟩); have HB_1 := Lib.hid hb; clear hb)
            | (go_at_call 10; (with_reducible refine (HLo.out _).mono ?_); (rintro e w2 ⟨rfl, hb⟩); have HB_2 := Lib.hid (HB_1.out.trans (hb.mono HB_1.out.size)); clear hb)
            | (go_at_call 11; (with_reducible refine (H1a.out _).mono ?_); (rintro e w3 ⟨rfl, hb⟩); have HB_3 := Lib.hid (HB_2.out.trans (hb.mono HB_2.out.size)); clear hb; clear H1a)
            | (go_at_call 11; (with_reducible refine (H1b.out _).mono ?_); (rintro e w4 ⟨rfl, hb⟩); have HB_4 := Lib.hid (HB_3.out.trans (hb.mono HB_3.out.size)); clear hb; clear H1b)
            | (go_at_call 12; (with_reducible refine (H2a.out _).mono ?_); (rintro e w5 ⟨rfl, hb⟩); have HB_5 := Lib.hid (HB_4.out.trans (hb.mono HB_4.out.size)); clear hb)
            | (go_at_call 12; (with_reducible refine (H2b.out _).mono ?_); (rintro e w6 ⟨rfl, hb⟩); have HB_6 := Lib.hid (HB_5.out.trans (hb.mono HB_5.out.size)); clear hb; clear H2b)
            | (go_at_call 13; (with_reducible refine (H3a.out _).mono ?_); (rintro e w7 ⟨rfl, hb⟩); have HB_7 := Lib.hid (HB_6.out.trans (hb.mono HB_6.out.size)); clear hb)
            | (go_at_call 13; (with_reducible refine (H3b.out _).mono ?_); (rintro e w8 ⟨rfl, hb⟩); have HB_8 := Lib.hid (HB_7.out.trans (hb.mono HB_7.out.size)); clear hb; clear H3b)
            | (go_at_call 14; (with_reducible refine (H4a.out _).mono ?_); (rintro e w9 ⟨rfl, hb⟩); have HB_9 := Lib.hid (HB_8.out.trans (hb.mono HB_8.out.size)); clear hb; clear H4a)
            | (go_at_call 14; (with_reducible refine (H4b.out _).mono ?_); (rintro e w10 ⟨rfl, hb⟩); have HB_10 := Lib.hid (HB_9.out.trans (hb.mono HB_9.out.size)); clear hb; clear H4b)
            | (go_at_call 15; (with_reducible refine (H5a.out _).mono ?_); (rintro e w11 ⟨rfl, hb⟩); have HB_11 := Lib.hid (HB_10.out.trans (hb.mono HB_10.out.size)); clear hb; clear H5a)
            | (go_at_call 15; (with_reducible refine (H5b.out _).mono ?_); (rintro e w12 ⟨rfl, hb⟩); have HB_12 := Lib.hid (HB_11.out.trans (hb.mono HB_11.out.size)); clear hb; clear H5b)
            | (go_at_call 12; (with_reducible refine (H2a.out _).mono ?_); (rintro e w13 ⟨rfl, hb⟩); have HB_13 := Lib.hid (HB_12.out.trans (hb.mono HB_12.out.size)); clear hb)
            | (go_at_call 13; (with_reducible refine (H3a.out _).mono ?_); (rintro e w14 ⟨rfl, hb⟩); have HB_14 := Lib.hid (HB_13.out.trans (hb.mono HB_13.out.size)); clear hb))
    go_ret
    exact ⟨rfl, HB_14.out⟩
end Go.Proofs.YtonchnmcklgpoaaDoor
