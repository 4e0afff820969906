/-
  What transeptref12.Header answers. No condition but sizes.
-/
import Derived.Test.YtonchnmcklgpoaaGreatDoorZb
import Derived.BigQuiet
namespace Go.Proofs.YtonchnmcklgpoaaGreatDoor
open Go.RowKit
set_option linter.unusedVariables false

set_option maxHeartbeats 4000000 in
set_option maxRecDepth 100000 in
theorem rheader_any (n v : List UInt8) (w : World) (hn : n.length ≤ 9223372036854775807) (hv : v.length ≤ 9223372036854775807) : Calls Tryz.prog 9 #[.string (str n), .string (str v)] w fun e w' => e = .returned (.bool (hdr n v)) ∧ Below w.heap.size w w' := by
  have hsz := str_size v
  have HLo : Hid (∀ w', Calls Tryz.prog 24 #[.string (str n)] w' fun e w2 => e = .returned (.string (str (low n))) ∧ Below w'.heap.size w' w2) := fun w' => rlower_any n w' hn
  have HR : Hid (hdr n v = (keys5.contains (low n) && decide (v.length ≤ 128) && tst (low n) v)) := rfl
  rw [HR.out]
  clear HR hn
  generalize low n = K at *
  obtain ⟨S, hS⟩ : ∃ S, S = v.length := ⟨_, rfl⟩
  rw [← hS] at hsz hv ⊢
  by_cases hl : S ≤ 128
  · have hl2 : ¬ (128 : Int) < (S : Int) := by omega
    have hl3 : decide ((128 : Int) < (S : Int)) = false := by simp; omega
    have hv2 : v.length ≤ 128 := by omega
    have HC1 : Hid (∀ w', Calls Tryz.prog 25 #[.string (str v)] w' fun e w2 => e = .returned (.bool (!cln v)) ∧ w2 = w') := fun w' => rodd_any v w' (by omega)
    have HC2 : Hid (∀ w', Calls Tryz.prog 26 #[.string (str v)] w' fun e w2 => e = .returned (.bool (lng v)) ∧ w2 = w') := fun w' => rplain_any v w' (by omega)
    have HC3 : Hid (∀ w', Calls Tryz.prog 27 #[.string (str v)] w' fun e w2 => e = .returned (.tuple #[.string (str (esS v)), .bool (esB v)]) ∧ Below w'.heap.size w' w2) := fun w' => ress_any v w' (by omega)
    have HC4 : Hid (∀ w', Calls Tryz.prog 28 #[.string (str v)] w' fun e w2 => e = .returned (.bool (rgB v)) ∧ w2 = w') := fun w' => ranged_any v w' (by omega)
    have HN : Hid (∀ W : World, Tw (W.alloc (.cells #[.string ⟨#[97, 112, 112, 108, 105, 99, 97, 116, 105, 111, 110, 47, 120, 45, 119, 119, 119, 45, 102, 111, 114, 109, 45, 117, 114, 108, 101, 110, 99, 111, 100, 101, 100]⟩, .string ⟨#[109, 117, 108, 116, 105, 112, 97, 114, 116, 47, 102, 111, 114, 109, 45, 100, 97, 116, 97]⟩, .string ⟨#[116, 101, 120, 116, 47, 112, 108, 97, 105, 110]⟩] 9)) (some ⟨W.heap.size, 0, none⟩) 3 knds) := fun W => Tw.new W knds _ rfl 3 rfl
    have HA : Hid (∀ A w', Tw w' A 3 knds → Calls Tryz.prog 20 #[.slice A 3 3, .string (str (esS v))] w' fun e w2 => e = .returned (.bool (plB v)) ∧ w2 = w') := fun A w' h => among_any knds (esS v) A 3 3 w' (by decide) h
    rw [decide_eq_true hl, Bool.and_true]
    clear hl hS hv hv2
    by_cases h0 : K = kAcc
    · have HAn : Hid ((keys5.contains K && tst K v) = (cln v)) := by
        show _ = _
        rw [h0]
        rfl
      rw [HAn.out]
      have f0 : ((str K).toList == [97, 99, 99, 101, 112, 116]) = true := by rw [eq_lit]; exact decide_eq_true h0
      clear HAn h0
      generalize cln v = C at *
      cases C
      · skip
        go_enter Tryz.func9, Tryz.ntmps9
        go_wp2_with (first
            | (go_at_call 24; (with_reducible refine (HLo.out _).mono ?_); (rintro e w1 ⟨rfl, hb⟩); have HB := Lib.hid hb; clear hb HLo)
            | (go_at_call 25; (with_reducible refine (HC1.out _).mono ?_); (rintro e w2 ⟨rfl, hq⟩); subst w2))
        go_ret
        exact ⟨rfl, HB.out⟩
      · skip
        go_enter Tryz.func9, Tryz.ntmps9
        go_wp2_with (first
            | (go_at_call 24; (with_reducible refine (HLo.out _).mono ?_); (rintro e w1 ⟨rfl, hb⟩); have HB := Lib.hid hb; clear hb HLo)
            | (go_at_call 25; (with_reducible refine (HC1.out _).mono ?_); (rintro e w2 ⟨rfl, hq⟩); subst w2))
        go_ret
        exact ⟨rfl, HB.out⟩
    · skip
      by_cases h1 : K = kAL
      · have HAn : Hid ((keys5.contains K && tst K v) = (lng v)) := by
          show _ = _
          rw [h1]
          rfl
        rw [HAn.out]
        have f0 : ((str K).toList == [97, 99, 99, 101, 112, 116]) = false := by rw [eq_lit]; exact decide_eq_false h0
        have f1 : ((str K).toList == [97, 99, 99, 101, 112, 116, 45, 108, 97, 110, 103, 117, 97, 103, 101]) = true := by rw [eq_lit]; exact decide_eq_true h1
        clear HAn h0 h1
        generalize lng v = C at *
        go_enter Tryz.func9, Tryz.ntmps9
        go_wp2_with (first
            | (go_at_call 24; (with_reducible refine (HLo.out _).mono ?_); (rintro e w1 ⟨rfl, hb⟩); have HB := Lib.hid hb; clear hb HLo)
            | (go_at_call 26; (with_reducible refine (HC2.out _).mono ?_); (rintro e w2 ⟨rfl, hq⟩); subst w2))
        go_ret
        exact ⟨rfl, HB.out⟩
      · skip
        by_cases h2 : K = kCL
        · have HAn : Hid ((keys5.contains K && tst K v) = (lng v)) := by
            show _ = _
            rw [h2]
            rfl
          rw [HAn.out]
          have f0 : ((str K).toList == [97, 99, 99, 101, 112, 116]) = false := by rw [eq_lit]; exact decide_eq_false h0
          have f1 : ((str K).toList == [97, 99, 99, 101, 112, 116, 45, 108, 97, 110, 103, 117, 97, 103, 101]) = false := by rw [eq_lit]; exact decide_eq_false h1
          have f2 : ((str K).toList == [99, 111, 110, 116, 101, 110, 116, 45, 108, 97, 110, 103, 117, 97, 103, 101]) = true := by rw [eq_lit]; exact decide_eq_true h2
          clear HAn h0 h1 h2
          generalize lng v = C at *
          go_enter Tryz.func9, Tryz.ntmps9
          go_wp2_with (first
              | (go_at_call 24; (with_reducible refine (HLo.out _).mono ?_); (rintro e w1 ⟨rfl, hb⟩); have HB := Lib.hid hb; clear hb HLo)
              | (go_at_call 26; (with_reducible refine (HC2.out _).mono ?_); (rintro e w2 ⟨rfl, hq⟩); subst w2))
          go_ret
          exact ⟨rfl, HB.out⟩
        · skip
          by_cases h3 : K = kCT
          · have HAn : Hid ((keys5.contains K && tst K v) = ((cln v && plB v))) := by
              show _ = _
              rw [h3]
              rfl
            rw [HAn.out]
            have f0 : ((str K).toList == [97, 99, 99, 101, 112, 116]) = false := by rw [eq_lit]; exact decide_eq_false h0
            have f1 : ((str K).toList == [97, 99, 99, 101, 112, 116, 45, 108, 97, 110, 103, 117, 97, 103, 101]) = false := by rw [eq_lit]; exact decide_eq_false h1
            have f2 : ((str K).toList == [99, 111, 110, 116, 101, 110, 116, 45, 108, 97, 110, 103, 117, 97, 103, 101]) = false := by rw [eq_lit]; exact decide_eq_false h2
            have f3 : ((str K).toList == [99, 111, 110, 116, 101, 110, 116, 45, 116, 121, 112, 101]) = true := by rw [eq_lit]; exact decide_eq_true h3
            clear HAn h0 h1 h2 h3
            generalize cln v = C at *
            generalize plB v = D at *
            cases C
            · rw [Bool.false_and]
              go_enter Tryz.func9, Tryz.ntmps9
              go_wp2_with (first
                  | (go_at_call 24; (with_reducible refine (HLo.out _).mono ?_); (rintro e w1 ⟨rfl, hb⟩); have HB := Lib.hid hb; clear hb HLo)
                  | (go_at_call 27; (with_reducible refine (HC3.out _).mono ?_); (rintro e w2 ⟨rfl, hb⟩); have HB2 := Lib.hid (HB.out.trans (hb.mono HB.out.size)); clear hb HC3)
                  | (go_at_call 25; (with_reducible refine (HC1.out _).mono ?_); (rintro e w3 ⟨rfl, hq⟩); subst w3))
              go_ret
              exact ⟨rfl, HB2.out⟩
            · rw [Bool.true_and]
              go_enter Tryz.func9, Tryz.ntmps9
              go_wp2_with (first
                  | (go_at_call 24; (with_reducible refine (HLo.out _).mono ?_); (rintro e w1 ⟨rfl, hb⟩); have HB := Lib.hid hb; clear hb HLo)
                  | (go_at_call 27; (with_reducible refine (HC3.out _).mono ?_); (rintro e w2 ⟨rfl, hb⟩); have HB2 := Lib.hid (HB.out.trans (hb.mono HB.out.size)); clear hb HC3)
                  | (go_at_call 25; (with_reducible refine (HC1.out _).mono ?_); (rintro e w3 ⟨rfl, hq⟩); subst w3)
                  | (go_at_call 20; (with_reducible refine (HA.out _ _ (HN.out w2)).mono ?_); (rintro e w4 ⟨rfl, hq⟩); subst w4))
              go_ret
              exact ⟨rfl, HB2.out.alloc HB2.out.size _⟩
          · skip
            by_cases h4 : K = kRg
            · have HAn : Hid ((keys5.contains K && tst K v) = (rgB v)) := by
                show _ = _
                rw [h4]
                rfl
              rw [HAn.out]
              have f0 : ((str K).toList == [97, 99, 99, 101, 112, 116]) = false := by rw [eq_lit]; exact decide_eq_false h0
              have f1 : ((str K).toList == [97, 99, 99, 101, 112, 116, 45, 108, 97, 110, 103, 117, 97, 103, 101]) = false := by rw [eq_lit]; exact decide_eq_false h1
              have f2 : ((str K).toList == [99, 111, 110, 116, 101, 110, 116, 45, 108, 97, 110, 103, 117, 97, 103, 101]) = false := by rw [eq_lit]; exact decide_eq_false h2
              have f3 : ((str K).toList == [99, 111, 110, 116, 101, 110, 116, 45, 116, 121, 112, 101]) = false := by rw [eq_lit]; exact decide_eq_false h3
              have f4 : ((str K).toList == [114, 97, 110, 103, 101]) = true := by rw [eq_lit]; exact decide_eq_true h4
              clear HAn h0 h1 h2 h3 h4
              generalize rgB v = C at *
              go_enter Tryz.func9, Tryz.ntmps9
              go_wp2_with (first
                  | (go_at_call 24; (with_reducible refine (HLo.out _).mono ?_); (rintro e w1 ⟨rfl, hb⟩); have HB := Lib.hid hb; clear hb HLo)
                  | (go_at_call 28; (with_reducible refine (HC4.out _).mono ?_); (rintro e w2 ⟨rfl, hq⟩); subst w2))
              go_ret
              exact ⟨rfl, HB.out⟩
            · skip
              have f0 : ((str K).toList == [97, 99, 99, 101, 112, 116]) = false := by rw [eq_lit]; exact decide_eq_false h0
              have f1 : ((str K).toList == [97, 99, 99, 101, 112, 116, 45, 108, 97, 110, 103, 117, 97, 103, 101]) = false := by rw [eq_lit]; exact decide_eq_false h1
              have f2 : ((str K).toList == [99, 111, 110, 116, 101, 110, 116, 45, 108, 97, 110, 103, 117, 97, 103, 101]) = false := by rw [eq_lit]; exact decide_eq_false h2
              have f3 : ((str K).toList == [99, 111, 110, 116, 101, 110, 116, 45, 116, 121, 112, 101]) = false := by rw [eq_lit]; exact decide_eq_false h3
              have f4 : ((str K).toList == [114, 97, 110, 103, 101]) = false := by rw [eq_lit]; exact decide_eq_false h4
              have HAn : Hid ((keys5.contains K && tst K v) = false) := by
                show _ = _
                rw [show keys5.contains K = false by simp [keys5, h0, h1, h2, h3, h4], Bool.false_and]
              rw [HAn.out]
              clear HAn h0 h1 h2 h3 h4
              go_enter Tryz.func9, Tryz.ntmps9
              go_wp2_with (first
                  | (go_at_call 24; (with_reducible refine (HLo.out _).mono ?_); (rintro e w1 ⟨rfl, hb⟩); have HB := Lib.hid hb; clear hb HLo))
              go_ret
              exact ⟨rfl, HB.out⟩
  · have hl2 : (128 : Int) < (S : Int) := by omega
    have hl3 : decide ((128 : Int) < (S : Int)) = true := by simp; omega
    rw [decide_eq_false hl, Bool.and_false, Bool.false_and]
    clear hl hS
    go_enter Tryz.func9, Tryz.ntmps9
    go_wp2_with fail
    go_ret
    exact ⟨rfl, Below.refl _ _⟩
end Go.Proofs.YtonchnmcklgpoaaGreatDoor
