/-
  SafeTells walked. Condition: texts of at most 2^62 bytes.
-/
import Derived.Test.YtonchnmcklgpoaaGreatDoorZc
import Derived.BigQuiet
namespace Go.Proofs.YtonchnmcklgpoaaGreatDoor
open Go.RowKit
set_option linter.unusedVariables false

set_option maxHeartbeats 4000000 in
set_option maxRecDepth 100000 in
theorem tells_any (n v : List UInt8) (w : World) (hn : n.length ≤ 4611686018427387904) (hv : v.length ≤ 4611686018427387904) : Calls Tryz.prog 3 #[.string (str n), .string (str v)] w fun e w' => e = .returned (.bool true) ∧ Below w.heap.size w w' := by
  have HSh : Hid (∀ w', Calls Tryz.prog 5 #[] w' fun e w2 => e = .returned (.bool true) ∧ Below w'.heap.size w' w2) := fun w' => shown_any w'
  have H1a : Hid (∀ w', Calls Tryz.prog 6 #[.string (str n)] w' fun e w2 => e = .returned (.bool (mtd n)) ∧ Below w'.heap.size w' w2) := fun w' => smethod_any n w' (by omega)
  have H1b : Hid (∀ w', Calls Tryz.prog 7 #[.string (str n)] w' fun e w2 => e = .returned (.bool (mtd n)) ∧ Below w'.heap.size w' w2) := fun w' => rmeth_any n w' (by omega)
  have H2a : Hid (∀ w', Calls Tryz.prog 8 #[.string (str n), .string (str v)] w' fun e w2 => e = .returned (.bool (hdr n v)) ∧ Below w'.heap.size w' w2) := fun w' => header_any n v w' (by omega) (by omega)
  have H2b : Hid (∀ w', Calls Tryz.prog 9 #[.string (str n), .string (str v)] w' fun e w2 => e = .returned (.bool (hdr n v)) ∧ Below w'.heap.size w' w2) := fun w' => rheader_any n v w' (by omega) (by omega)
  have H3a : Hid (∀ w', Calls Tryz.prog 10 #[.string (str n)] w' fun e w2 => e = .returned (.bool (nvr n)) ∧ Below w'.heap.size w' w2) := fun w' => never_any n w' (by omega)
  have H3b : Hid (∀ w', Calls Tryz.prog 11 #[.string (str n)] w' fun e w2 => e = .returned (.bool (nvr n)) ∧ Below w'.heap.size w' w2) := fun w' => rnever_any n w' (by omega)
  have H4a : Hid (∀ w', Calls Tryz.prog 12 #[.string (str n)] w' fun e w2 => e = .returned (.bool (rds n)) ∧ Below w'.heap.size w' w2) := fun w' => reads_any n w' (by omega)
  have H4b : Hid (∀ w', Calls Tryz.prog 13 #[.string (str n)] w' fun e w2 => e = .returned (.bool (rds n)) ∧ Below w'.heap.size w' w2) := fun w' => rreads_any n w' (by omega)
  have H5a : Hid (∀ w', Calls Tryz.prog 14 #[.string (str n)] w' fun e w2 => e = .returned (.bool (hdn n)) ∧ Below w'.heap.size w' w2) := fun w' => hidden_any n w' (by omega)
  have H5b : Hid (∀ w', Calls Tryz.prog 15 #[.string (str n)] w' fun e w2 => e = .returned (.bool (hdn n)) ∧ Below w'.heap.size w' w2) := fun w' => rhidden_any n w' (by omega)
  generalize mtd n = M at *
  generalize nvr n = V at *
  generalize rds n = R at *
  generalize hdn n = D at *
  generalize hdr n v = B at *
  have q1 : (M == M) = true := by cases M <;> rfl
  have q2 : (R == R) = true := by cases R <;> rfl
  have q3 : (D == D) = true := by cases D <;> rfl
  have q4 : (B == B) = true := by cases B <;> rfl
  have q5 : (V == V) = true := by cases V <;> rfl
  clear hn hv
  go_enter Tryz.func3, Tryz.ntmps3
  go_wp2_with (first
    | (go_at_call 5; (with_reducible refine (HSh.out _).mono ?_); (rintro e w1 ⟨rfl, hb⟩); have HB_1 := Lib.hid hb; clear hb)
    | (go_at_call 6; (with_reducible refine (H1a.out _).mono ?_); (rintro e w2 ⟨rfl, hb⟩); have HB_2 := Lib.hid (HB_1.out.trans (hb.mono HB_1.out.size)); clear hb)
    | (go_at_call 7; (with_reducible refine (H1b.out _).mono ?_); (rintro e w3 ⟨rfl, hb⟩); have HB_3 := Lib.hid (HB_2.out.trans (hb.mono HB_2.out.size)); clear hb)
    | (go_at_call 8; (with_reducible refine (H2a.out _).mono ?_); (rintro e w4 ⟨rfl, hb⟩); have HB_4 := Lib.hid (HB_3.out.trans (hb.mono HB_3.out.size)); clear hb)
    | (go_at_call 9; (with_reducible refine (H2b.out _).mono ?_); (rintro e w5 ⟨rfl, hb⟩); have HB_5 := Lib.hid (HB_4.out.trans (hb.mono HB_4.out.size)); clear hb)
    | (go_at_call 10; (with_reducible refine (H3a.out _).mono ?_); (rintro e w6 ⟨rfl, hb⟩); have HB_6 := Lib.hid (HB_5.out.trans (hb.mono HB_5.out.size)); clear hb)
    | (go_at_call 11; (with_reducible refine (H3b.out _).mono ?_); (rintro e w7 ⟨rfl, hb⟩); have HB_7 := Lib.hid (HB_6.out.trans (hb.mono HB_6.out.size)); clear hb)
    | (go_at_call 12; (with_reducible refine (H4a.out _).mono ?_); (rintro e w8 ⟨rfl, hb⟩); have HB_8 := Lib.hid (HB_7.out.trans (hb.mono HB_7.out.size)); clear hb)
    | (go_at_call 13; (with_reducible refine (H4b.out _).mono ?_); (rintro e w9 ⟨rfl, hb⟩); have HB_9 := Lib.hid (HB_8.out.trans (hb.mono HB_8.out.size)); clear hb)
    | (go_at_call 14; (with_reducible refine (H5a.out _).mono ?_); (rintro e w10 ⟨rfl, hb⟩); have HB_10 := Lib.hid (HB_9.out.trans (hb.mono HB_9.out.size)); clear hb)
    | (go_at_call 15; (with_reducible refine (H5b.out _).mono ?_); (rintro e w11 ⟨rfl, hb⟩); have HB_11 := Lib.hid (HB_10.out.trans (hb.mono HB_10.out.size)); clear hb))
  go_ret
  exact ⟨rfl, HB_11.out⟩
end Go.Proofs.YtonchnmcklgpoaaGreatDoor
