/-
  What safe.safeValues, hold and Header answer. No condition but sizes.
-/
import Derived.Test.YtonchnmcklgpoaaGreatDoorSe
namespace Go.Proofs.YtonchnmcklgpoaaGreatDoor
open Go.RowKit Go.Maps
set_option linter.unusedVariables false

set_option maxHeartbeats 4000000 in
set_option maxRecDepth 100000 in
theorem values_any (w : World) : Calls Tryz.prog 22 #[] w fun e w' => ∃ g1 g2 g3 m, e = .returned (.map (some m)) ∧ Tst w' g1 g2 g3 m ∧ Below w.heap.size w w' := by
  have hmf : ∀ (fn : Fn) (first cap : Array Value) (w : World), (Instr.makeFunc fn first cap).run Tryz.prog w = .ok (.func fn first cap) w := fun _ _ _ _ => rfl
  have hmm := @run_makeMap Tryz.prog
  have H1 : Hid (∀ w', Calls Tryz.prog 36 #[.func (.func 37) #[] #[]] w' fun e w2 => ∃ g, e = .returned (.func (.func 53) #[] #[.pointer (some ⟨g, 0, none⟩)]) ∧ Blk w2 g 45 [.func (.func 37) #[] #[]] ∧ Below w'.heap.size w' w2) := fun w' => each_any _ rfl w'
  have H2 : Hid (∀ w', Calls Tryz.prog 36 #[.func (.func 39) #[] #[]] w' fun e w2 => ∃ g, e = .returned (.func (.func 53) #[] #[.pointer (some ⟨g, 0, none⟩)]) ∧ Blk w2 g 45 [.func (.func 39) #[] #[]] ∧ Below w'.heap.size w' w2) := fun w' => each_any _ rfl w'
  go_enter Tryz.func22, Tryz.ntmps22
  go_wp2_with (first
    | (go_at_call 36; (with_reducible refine (H1.out _).mono ?_); (rintro e w1 ⟨g1, rfl, hc1, hb1⟩); clear H1)
    | ((with_reducible show wpList _ _ _ (⟨none, .store 23 _ _, _, _, _, _⟩ :: _) _ _); refine wp_set _ rfl 23 _ _ rfl w1.heap.size 0 _ _ (.func (.func 53) #[] #[.pointer (some ⟨g1, 0, none⟩)]) rfl rfl rfl rfl (Blk.new w1 23 [.nilFunc]) (by simp) (by kernel_rfl) ?_; intro w2 HC2 hU2; simp only [Act.put]; have hb2 := ((Below.refl w1.heap.size w1).alloc (Nat.le_refl _) (.cells #[.nilFunc] 23)).trans (hU2.below (Nat.le_refl _)))
    | (go_at_call 36; (with_reducible refine (H2.out _).mono ?_); (rintro e w3 ⟨g3, rfl, hc3, hb3⟩); have HC3 := HC2.kept hb3; have hd := (HC3.alloc (.map #[] 0)).cell (i := 0) (v := .func (.func 53) #[] #[.pointer (some ⟨g1, 0, none⟩)]) rfl; clear H2)
    | ((with_reducible show wpList _ _ _ (⟨none, .insert _ _ (.const (.string ⟨#[97, 99, 99, 101, 112, 116]⟩)) _, _, _, _, _⟩ :: _) _ _); refine wp_insT _ rfl _ _ _ rfl w3.heap.size 0 (.map [] : DataW Value) (World.ownsMap_made w3 _ _ _) (by omega) kAcc (by decide) (.func (.func 53) #[] #[.pointer (some ⟨g1, 0, none⟩)]) rfl rfl rfl ?_; intro wa hm0 hg0; simp only [Act.put]; have hz0 := below_map (B := w3.heap.size) hg0 (Nat.le_refl _) (by simp); have hs0 : w3.heap.size ≤ (w3.alloc (.map #[] 0)).heap.size := by simp)
    | ((with_reducible show wpList _ _ _ (⟨none, .insert _ _ (.const (.string ⟨#[97, 99, 99, 101, 112, 116, 45, 108, 97, 110, 103, 117, 97, 103, 101]⟩)) _, _, _, _, _⟩ :: _) _ _); refine wp_insT _ rfl _ _ _ rfl w3.heap.size 1 ((.map [] : DataW Value).put (.string kAcc) (.held (.func (.func 53) #[] #[.pointer (some ⟨g1, 0, none⟩)]))) hm0 (by omega) kAL (by decide) (.func (.func 53) #[] #[.pointer (some ⟨g3, 0, none⟩)]) rfl rfl rfl ?_; intro wb hm1 hg1; simp only [Act.put]; have hz1 := below_map (B := w3.heap.size) hg1 (Nat.le_refl _) (Nat.le_trans hs0 hg0.size); have hs1 : w3.heap.size ≤ wa.heap.size := Nat.le_trans hs0 hg0.size)
    | ((with_reducible show wpList _ _ _ (⟨none, .insert _ _ (.const (.string ⟨#[99, 111, 110, 116, 101, 110, 116, 45, 108, 97, 110, 103, 117, 97, 103, 101]⟩)) _, _, _, _, _⟩ :: _) _ _); refine wp_insT _ rfl _ _ _ rfl w3.heap.size 2 (((.map [] : DataW Value).put (.string kAcc) (.held (.func (.func 53) #[] #[.pointer (some ⟨g1, 0, none⟩)]))).put (.string kAL) (.held (.func (.func 53) #[] #[.pointer (some ⟨g3, 0, none⟩)]))) hm1 (by omega) kCL (by decide) (.func (.func 53) #[] #[.pointer (some ⟨g3, 0, none⟩)]) rfl rfl rfl ?_; intro wc hm2 hg2; simp only [Act.put]; have hz2 := below_map (B := w3.heap.size) hg2 (Nat.le_refl _) (Nat.le_trans hs1 hg1.size); have hs2 : w3.heap.size ≤ wb.heap.size := Nat.le_trans hs1 hg1.size)
    | ((with_reducible show wpList _ _ _ (⟨none, .insert _ _ (.const (.string ⟨#[99, 111, 110, 116, 101, 110, 116, 45, 116, 121, 112, 101]⟩)) _, _, _, _, _⟩ :: _) _ _); refine wp_insT _ rfl _ _ _ rfl w3.heap.size 3 ((((.map [] : DataW Value).put (.string kAcc) (.held (.func (.func 53) #[] #[.pointer (some ⟨g1, 0, none⟩)]))).put (.string kAL) (.held (.func (.func 53) #[] #[.pointer (some ⟨g3, 0, none⟩)]))).put (.string kCL) (.held (.func (.func 53) #[] #[.pointer (some ⟨g3, 0, none⟩)]))) hm2 (by omega) kCT (by decide) (.func (.func 40) #[] #[.pointer (some ⟨w1.heap.size, 0, none⟩)]) rfl rfl rfl ?_; intro wd hm3 hg3; simp only [Act.put]; have hz3 := below_map (B := w3.heap.size) hg3 (Nat.le_refl _) (Nat.le_trans hs2 hg2.size); have hs3 : w3.heap.size ≤ wc.heap.size := Nat.le_trans hs2 hg2.size)
    | ((with_reducible show wpList _ _ _ (⟨none, .insert _ _ (.const (.string ⟨#[114, 97, 110, 103, 101]⟩)) _, _, _, _, _⟩ :: _) _ _); refine wp_insT _ rfl _ _ _ rfl w3.heap.size 4 (((((.map [] : DataW Value).put (.string kAcc) (.held (.func (.func 53) #[] #[.pointer (some ⟨g1, 0, none⟩)]))).put (.string kAL) (.held (.func (.func 53) #[] #[.pointer (some ⟨g3, 0, none⟩)]))).put (.string kCL) (.held (.func (.func 53) #[] #[.pointer (some ⟨g3, 0, none⟩)]))).put (.string kCT) (.held (.func (.func 40) #[] #[.pointer (some ⟨w1.heap.size, 0, none⟩)]))) hm3 (by omega) kRg (by decide) (.func (.func 42) #[] #[]) rfl rfl rfl ?_; intro we hm4 hg4; simp only [Act.put]; have hz4 := below_map (B := w3.heap.size) hg4 (Nat.le_refl _) (Nat.le_trans hs3 hg3.size); have hs4 : w3.heap.size ≤ wd.heap.size := Nat.le_trans hs3 hg3.size))
  go_ret
  have hbt : Below w3.heap.size w3 we := ((Below.refl w3.heap.size w3).alloc (Nat.le_refl _) (.map #[] 0)).trans (hz0.trans (hz1.trans (hz2.trans (hz3.trans hz4))))
  have hbB : Below w2.heap.size w2 we := hb3.trans (hbt.mono hb3.size)
  have hbA : Below w1.heap.size w1 we := hb2.trans (hbB.mono hb2.size)
  exact ⟨g1, w1.heap.size, g3, w3.heap.size, rfl, ⟨hc1.kept hbA, HC2.kept hbB, hc3.kept hbt, hm4⟩, hb1.trans (hbA.mono hb1.size)⟩
set_option maxHeartbeats 4000000 in
set_option maxRecDepth 100000 in
theorem sv2_any (v : List UInt8) (b g : Nat) (w : World) (hv : v.length ≤ 4611686018427387904) (h1 : w.cell? ⟨g, 0, none⟩ = some (.func (.func 37) #[] #[])) (h2 : w.cell? ⟨b, 0, none⟩ = some (.func (.func 53) #[] #[.pointer (some ⟨g, 0, none⟩)])) : Calls Tryz.prog 40 #[.string (str v), .pointer (some ⟨b, 0, none⟩)] w fun e w' => e = .returned (.bool (cln v && plB v)) ∧ Below w.heap.size w w' := by
  have HC : Hid (Calls Tryz.prog 53 #[.string (str v), .pointer (some ⟨g, 0, none⟩)] w fun e w2 => e = .returned (.bool (cln v)) ∧ Below w.heap.size w w2) := cln_any v g w (by omega) h1
  have HP : Hid (∀ w', Calls Tryz.prog 41 #[.string (str v)] w' fun e w2 => e = .returned (.bool (plB v)) ∧ Below w'.heap.size w' w2) := fun w' => plain_any v w' hv
  generalize cln v = C at *
  generalize plB v = P at *
  clear h1 hv
  cases C
  · rw [Bool.false_and]
    go_enter Tryz.func40, Tryz.ntmps40
    go_wp2_with (first
      | (go_at_call 53; (with_reducible refine (HC.out).mono ?_); (rintro e w1 ⟨rfl, hb⟩); have HB := Lib.hid hb; clear hb))
    go_ret
    exact ⟨rfl, HB.out⟩
  · rw [Bool.true_and]
    go_enter Tryz.func40, Tryz.ntmps40
    go_wp2_with (first
      | (go_at_call 53; (with_reducible refine (HC.out).mono ?_); (rintro e w1 ⟨rfl, hb⟩); have HB := Lib.hid hb; clear hb)
      | (go_at_call 41; (with_reducible refine (HP.out _).mono ?_); (rintro e w2 ⟨rfl, hb⟩); have HB2 := Lib.hid (HB.out.trans (hb.mono HB.out.size)); clear hb))
    go_ret
    exact ⟨rfl, HB2.out⟩
set_option maxHeartbeats 4000000 in
set_option maxRecDepth 100000 in
theorem hold_any (n v : List UInt8) (g1 g2 g3 m : Nat) (w : World) (ht : Tst w g1 g2 g3 m) (hn : n.length ≤ 9223372036854775807) (hv : v.length ≤ 9223372036854775807) : Calls Tryz.prog 23 #[.map (some m), .string (str n), .string (str v)] w fun e w' => e = .returned (.bool (hdr n v)) ∧ Below w.heap.size w w' := by
  have HT := Lib.hid ht
  have hsz := str_size v
  have HLo : Hid (∀ w', Calls Tryz.prog 29 #[.string (str n)] w' fun e w2 => e = .returned (.string (str (low n))) ∧ Below w'.heap.size w' w2) := fun w' => lower_any n w' hn
  have HKl : Hid ((low n).length ≤ 9223372036854775807) := by show _ ≤ _; rw [low_length]; exact hn
  have HR : Hid (hdr n v = (keys5.contains (low n) && decide (v.length ≤ 128) && tst (low n) v)) := rfl
  rw [HR.out]
  clear HR ht hn
  generalize low n = K at *
  obtain ⟨S, hS⟩ : ∃ S, S = v.length := ⟨_, rfl⟩
  rw [← hS] at hsz hv ⊢
  have HS := Lib.hid hS
  clear hS
  by_cases hc : keys5.contains K = true
  · have HBc := Lib.hid hc
    rw [HBc.out, Bool.true_and]
    by_cases hl : S ≤ 128
    · have hl2 : (S : Int) ≤ 128 := by omega
      rw [decide_eq_true hl, Bool.true_and]
      have HC1 : Hid (∀ b w', w'.cell? ⟨b, 0, none⟩ = some (.func (.func 37) #[] #[]) → Calls Tryz.prog 53 #[.string (str v), .pointer (some ⟨b, 0, none⟩)] w' fun e w2 => e = .returned (.bool (cln v)) ∧ Below w'.heap.size w' w2) := fun b w' h => cln_any v b w' (by have := HS.out; omega) h
      have HC2 : Hid (∀ b w', w'.cell? ⟨b, 0, none⟩ = some (.func (.func 39) #[] #[]) → Calls Tryz.prog 53 #[.string (str v), .pointer (some ⟨b, 0, none⟩)] w' fun e w2 => e = .returned (.bool (lng v)) ∧ Below w'.heap.size w' w2) := fun b w' h => lng_any v b w' (by have := HS.out; omega) h
      have HC3 : Hid (∀ b g w', w'.cell? ⟨g, 0, none⟩ = some (.func (.func 37) #[] #[]) → w'.cell? ⟨b, 0, none⟩ = some (.func (.func 53) #[] #[.pointer (some ⟨g, 0, none⟩)]) → Calls Tryz.prog 40 #[.string (str v), .pointer (some ⟨b, 0, none⟩)] w' fun e w2 => e = .returned (.bool (cln v && plB v)) ∧ Below w'.heap.size w' w2) := fun b g w' h1 h2 => sv2_any v b g w' (by have := HS.out; omega) h1 h2
      have HC4 : Hid (∀ w', Calls Tryz.prog 42 #[.string (str v)] w' fun e w2 => e = .returned (.bool (rgB v)) ∧ Below w'.heap.size w' w2) := fun w' => order_any v w' (by have := HS.out; omega)
      by_cases h0 : K = kAcc
      · have HA : Hid (tst K v = (cln v)) := by
          show _ = _
          rw [h0]
          rfl
        rw [HA.out]
        generalize (cln v) = R at *
        have HLk : Hid ((D5 (.func (.func 53) #[] #[.pointer (some ⟨g1, 0, none⟩)]) (.func (.func 53) #[] #[.pointer (some ⟨g3, 0, none⟩)]) (.func (.func 40) #[] #[.pointer (some ⟨g2, 0, none⟩)])).atKey (.string K) (.held .nilFunc) = .held (.func (.func 53) #[] #[.pointer (some ⟨g1, 0, none⟩)])) := by show _ = _; rw [h0]; exact D5_at0 _ _ _ _
        clear h0 hc hl HA
        go_enter Tryz.func23, Tryz.ntmps23
        go_wp2_with (first
                  | (go_at_call 29; (with_reducible refine (HLo.out _).mono ?_); (rintro e w1 ⟨rfl, hb⟩); have HT1 := Lib.hid (HT.out.kept hb); have HB1 := Lib.hid hb; clear hb HLo)
                  | ((with_reducible show wpList _ _ _ (⟨some 13, .lookup 38 _ _ _, _, _, _, _⟩ :: _) _ _); refine wp_lookT _ rfl _ _ rfl g1 g2 g3 m HT1.out K HKl.out rfl rfl (.func (.func 53) #[] #[.pointer (some ⟨g1, 0, none⟩)]) HLk.out true HBc.out ?_; simp only [Act.put, List.setIfInBounds_toArray, List.set_cons_zero, List.set_cons_succ])
                  | (go_at_call 53; (with_reducible refine (HC1.out g1 w1 HT1.out.c1).mono ?_); (rintro e w2 ⟨rfl, hb⟩); have HB2 := Lib.hid (HB1.out.trans (hb.mono HB1.out.size)); clear hb))
        go_ret
        exact ⟨rfl, HB2.out⟩
      · skip
        by_cases h1 : K = kAL
        · have HA : Hid (tst K v = (lng v)) := by
            show _ = _
            rw [h1]
            rfl
          rw [HA.out]
          generalize (lng v) = R at *
          have HLk : Hid ((D5 (.func (.func 53) #[] #[.pointer (some ⟨g1, 0, none⟩)]) (.func (.func 53) #[] #[.pointer (some ⟨g3, 0, none⟩)]) (.func (.func 40) #[] #[.pointer (some ⟨g2, 0, none⟩)])).atKey (.string K) (.held .nilFunc) = .held (.func (.func 53) #[] #[.pointer (some ⟨g3, 0, none⟩)])) := by show _ = _; rw [h1]; exact D5_at1 _ _ _ _
          clear h0 h1 hc hl HA
          go_enter Tryz.func23, Tryz.ntmps23
          go_wp2_with (first
                      | (go_at_call 29; (with_reducible refine (HLo.out _).mono ?_); (rintro e w1 ⟨rfl, hb⟩); have HT1 := Lib.hid (HT.out.kept hb); have HB1 := Lib.hid hb; clear hb HLo)
                      | ((with_reducible show wpList _ _ _ (⟨some 13, .lookup 38 _ _ _, _, _, _, _⟩ :: _) _ _); refine wp_lookT _ rfl _ _ rfl g1 g2 g3 m HT1.out K HKl.out rfl rfl (.func (.func 53) #[] #[.pointer (some ⟨g3, 0, none⟩)]) HLk.out true HBc.out ?_; simp only [Act.put, List.setIfInBounds_toArray, List.set_cons_zero, List.set_cons_succ])
                      | (go_at_call 53; (with_reducible refine (HC2.out g3 w1 HT1.out.c3).mono ?_); (rintro e w2 ⟨rfl, hb⟩); have HB2 := Lib.hid (HB1.out.trans (hb.mono HB1.out.size)); clear hb))
          go_ret
          exact ⟨rfl, HB2.out⟩
        · skip
          by_cases h2 : K = kCL
          · have HA : Hid (tst K v = (lng v)) := by
              show _ = _
              rw [h2]
              rfl
            rw [HA.out]
            generalize (lng v) = R at *
            have HLk : Hid ((D5 (.func (.func 53) #[] #[.pointer (some ⟨g1, 0, none⟩)]) (.func (.func 53) #[] #[.pointer (some ⟨g3, 0, none⟩)]) (.func (.func 40) #[] #[.pointer (some ⟨g2, 0, none⟩)])).atKey (.string K) (.held .nilFunc) = .held (.func (.func 53) #[] #[.pointer (some ⟨g3, 0, none⟩)])) := by show _ = _; rw [h2]; exact D5_at2 _ _ _ _
            clear h0 h1 h2 hc hl HA
            go_enter Tryz.func23, Tryz.ntmps23
            go_wp2_with (first
                          | (go_at_call 29; (with_reducible refine (HLo.out _).mono ?_); (rintro e w1 ⟨rfl, hb⟩); have HT1 := Lib.hid (HT.out.kept hb); have HB1 := Lib.hid hb; clear hb HLo)
                          | ((with_reducible show wpList _ _ _ (⟨some 13, .lookup 38 _ _ _, _, _, _, _⟩ :: _) _ _); refine wp_lookT _ rfl _ _ rfl g1 g2 g3 m HT1.out K HKl.out rfl rfl (.func (.func 53) #[] #[.pointer (some ⟨g3, 0, none⟩)]) HLk.out true HBc.out ?_; simp only [Act.put, List.setIfInBounds_toArray, List.set_cons_zero, List.set_cons_succ])
                          | (go_at_call 53; (with_reducible refine (HC2.out g3 w1 HT1.out.c3).mono ?_); (rintro e w2 ⟨rfl, hb⟩); have HB2 := Lib.hid (HB1.out.trans (hb.mono HB1.out.size)); clear hb))
            go_ret
            exact ⟨rfl, HB2.out⟩
          · skip
            by_cases h3 : K = kCT
            · have HA : Hid (tst K v = (cln v && plB v)) := by
                show _ = _
                rw [h3]
                rfl
              rw [HA.out]
              generalize (cln v && plB v) = R at *
              have HLk : Hid ((D5 (.func (.func 53) #[] #[.pointer (some ⟨g1, 0, none⟩)]) (.func (.func 53) #[] #[.pointer (some ⟨g3, 0, none⟩)]) (.func (.func 40) #[] #[.pointer (some ⟨g2, 0, none⟩)])).atKey (.string K) (.held .nilFunc) = .held (.func (.func 40) #[] #[.pointer (some ⟨g2, 0, none⟩)])) := by show _ = _; rw [h3]; exact D5_at3 _ _ _ _
              clear h0 h1 h2 h3 hc hl HA
              go_enter Tryz.func23, Tryz.ntmps23
              go_wp2_with (first
                              | (go_at_call 29; (with_reducible refine (HLo.out _).mono ?_); (rintro e w1 ⟨rfl, hb⟩); have HT1 := Lib.hid (HT.out.kept hb); have HB1 := Lib.hid hb; clear hb HLo)
                              | ((with_reducible show wpList _ _ _ (⟨some 13, .lookup 38 _ _ _, _, _, _, _⟩ :: _) _ _); refine wp_lookT _ rfl _ _ rfl g1 g2 g3 m HT1.out K HKl.out rfl rfl (.func (.func 40) #[] #[.pointer (some ⟨g2, 0, none⟩)]) HLk.out true HBc.out ?_; simp only [Act.put, List.setIfInBounds_toArray, List.set_cons_zero, List.set_cons_succ])
                              | (go_at_call 40; (with_reducible refine (HC3.out g2 g1 w1 HT1.out.c1 HT1.out.c2).mono ?_); (rintro e w2 ⟨rfl, hb⟩); have HB2 := Lib.hid (HB1.out.trans (hb.mono HB1.out.size)); clear hb))
              go_ret
              exact ⟨rfl, HB2.out⟩
            · skip
              by_cases h4 : K = kRg
              · have HA : Hid (tst K v = (rgB v)) := by
                  show _ = _
                  rw [h4]
                  rfl
                rw [HA.out]
                generalize (rgB v) = R at *
                have HLk : Hid ((D5 (.func (.func 53) #[] #[.pointer (some ⟨g1, 0, none⟩)]) (.func (.func 53) #[] #[.pointer (some ⟨g3, 0, none⟩)]) (.func (.func 40) #[] #[.pointer (some ⟨g2, 0, none⟩)])).atKey (.string K) (.held .nilFunc) = .held (.func (.func 42) #[] #[])) := by show _ = _; rw [h4]; exact D5_at4 _ _ _ _
                clear h0 h1 h2 h3 h4 hc hl HA
                go_enter Tryz.func23, Tryz.ntmps23
                go_wp2_with (first
                                  | (go_at_call 29; (with_reducible refine (HLo.out _).mono ?_); (rintro e w1 ⟨rfl, hb⟩); have HT1 := Lib.hid (HT.out.kept hb); have HB1 := Lib.hid hb; clear hb HLo)
                                  | ((with_reducible show wpList _ _ _ (⟨some 13, .lookup 38 _ _ _, _, _, _, _⟩ :: _) _ _); refine wp_lookT _ rfl _ _ rfl g1 g2 g3 m HT1.out K HKl.out rfl rfl (.func (.func 42) #[] #[]) HLk.out true HBc.out ?_; simp only [Act.put, List.setIfInBounds_toArray, List.set_cons_zero, List.set_cons_succ])
                                  | (go_at_call 42; (with_reducible refine (HC4.out w1).mono ?_); (rintro e w2 ⟨rfl, hb⟩); have HB2 := Lib.hid (HB1.out.trans (hb.mono HB1.out.size)); clear hb))
                go_ret
                exact ⟨rfl, HB2.out⟩
              · skip
                exact absurd hc (by rw [keys5]; simp [h0, h1, h2, h3, h4])
    · have hl2 : ¬ (S : Int) ≤ 128 := by omega
      rw [decide_eq_false hl, Bool.false_and]
      obtain ⟨V, hV⟩ : ∃ V, (D5 (.func (.func 53) #[] #[.pointer (some ⟨g1, 0, none⟩)]) (.func (.func 53) #[] #[.pointer (some ⟨g3, 0, none⟩)]) (.func (.func 40) #[] #[.pointer (some ⟨g2, 0, none⟩)])).atKey (.string K) (.held .nilFunc) = .held V := by
        have h2 : K ∈ keys5 := by simpa using hc
        simp only [keys5, List.mem_cons, List.not_mem_nil, or_false] at h2
        rcases h2 with rfl | rfl | rfl | rfl | rfl
        · exact ⟨_, D5_at0 _ _ _ _⟩
        · exact ⟨_, D5_at1 _ _ _ _⟩
        · exact ⟨_, D5_at2 _ _ _ _⟩
        · exact ⟨_, D5_at3 _ _ _ _⟩
        · exact ⟨_, D5_at4 _ _ _ _⟩
      have HLk := Lib.hid hV
      clear hc hV hl
      go_enter Tryz.func23, Tryz.ntmps23
      go_wp2_with (first
              | (go_at_call 29; (with_reducible refine (HLo.out _).mono ?_); (rintro e w1 ⟨rfl, hb⟩); have HT1 := Lib.hid (HT.out.kept hb); have HB1 := Lib.hid hb; clear hb HLo)
              | ((with_reducible show wpList _ _ _ (⟨some 13, .lookup 38 _ _ _, _, _, _, _⟩ :: _) _ _); refine wp_lookT _ rfl _ _ rfl g1 g2 g3 m HT1.out K HKl.out rfl rfl (V) HLk.out true HBc.out ?_; simp only [Act.put, List.setIfInBounds_toArray, List.set_cons_zero, List.set_cons_succ]))
      go_ret
      exact ⟨rfl, HB1.out⟩
  · have hc2 : keys5.contains K = false := by simpa using hc
    have HLk := Lib.hid (D5_no (.func (.func 53) #[] #[.pointer (some ⟨g1, 0, none⟩)]) (.func (.func 53) #[] #[.pointer (some ⟨g3, 0, none⟩)]) (.func (.func 40) #[] #[.pointer (some ⟨g2, 0, none⟩)]) .nilFunc K hc2)
    have HBc := Lib.hid hc2
    clear hc hc2
    rw [HBc.out, Bool.false_and, Bool.false_and]
    go_enter Tryz.func23, Tryz.ntmps23
    go_wp2_with (first
          | (go_at_call 29; (with_reducible refine (HLo.out _).mono ?_); (rintro e w1 ⟨rfl, hb⟩); have HT1 := Lib.hid (HT.out.kept hb); have HB1 := Lib.hid hb; clear hb HLo)
          | ((with_reducible show wpList _ _ _ (⟨some 13, .lookup 38 _ _ _, _, _, _, _⟩ :: _) _ _); refine wp_lookT _ rfl _ _ rfl g1 g2 g3 m HT1.out K HKl.out rfl rfl (.nilFunc) HLk.out false HBc.out ?_; simp only [Act.put, List.setIfInBounds_toArray, List.set_cons_zero, List.set_cons_succ]))
    go_ret
    exact ⟨rfl, HB1.out⟩
set_option maxHeartbeats 4000000 in
set_option maxRecDepth 100000 in
theorem header_any (n v : List UInt8) (w : World) (hn : n.length ≤ 9223372036854775807) (hv : v.length ≤ 9223372036854775807) : Calls Tryz.prog 8 #[.string (str n), .string (str v)] w fun e w' => e = .returned (.bool (hdr n v)) ∧ Below w.heap.size w w' := by
  have HH : Hid (∀ g1 g2 g3 m w', Tst w' g1 g2 g3 m → Calls Tryz.prog 23 #[.map (some m), .string (str n), .string (str v)] w' fun e w2 => e = .returned (.bool (hdr n v)) ∧ Below w'.heap.size w' w2) := fun g1 g2 g3 m w' h => hold_any n v g1 g2 g3 m w' h hn hv
  have HV : Hid (∀ w', Calls Tryz.prog 22 #[] w' fun e w2 => ∃ g1 g2 g3 m, e = .returned (.map (some m)) ∧ Tst w2 g1 g2 g3 m ∧ Below w'.heap.size w' w2) := fun w' => values_any w'
  generalize hdr n v = R at *
  go_enter Tryz.func8, Tryz.ntmps8
  go_wp2_with (first
    | (go_at_call 22; (with_reducible refine (HV.out _).mono ?_); (rintro e w1 ⟨g1, g2, g3, m, rfl, ht, hb⟩); have HT := Lib.hid ht; have HB := Lib.hid hb; clear ht hb)
    | (go_at_call 23; (with_reducible refine (HH.out g1 g2 g3 m _ HT.out).mono ?_); (rintro e w2 ⟨rfl, hb⟩); have HB2 := Lib.hid (HB.out.trans (hb.mono HB.out.size)); clear hb))
  go_ret
  exact ⟨rfl, HB2.out⟩
end Go.Proofs.YtonchnmcklgpoaaGreatDoor
