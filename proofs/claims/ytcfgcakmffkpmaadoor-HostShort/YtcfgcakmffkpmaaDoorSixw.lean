/-
  What host.IPv6 answers: the walk; nothing that was there turns. Condition: texts of at most 10000000 bytes; the library's tables.
-/
import Derived.Test.YtcfgcakmffkpmaaDoorSix
namespace Go.Proofs.YtcfgcakmffkpmaaDoor
open Go.RowKit

theorem Pco.gen {R : Option (List Nat)} {w w' : World} {e : Ending} (h : Pco R w e w') : ∃ v b, e = .returned (.tuple #[v, .bool b]) ∧ Below w.heap.size w w' := by
  cases R with
  | none =>
    obtain ⟨v, rfl, hb⟩ := h
    exact ⟨v, false, rfl, hb⟩
  | some r =>
    obtain ⟨A, c, rfl, _, _, hb⟩ := h
    exact ⟨_, true, rfl, hb⟩
theorem cut_len (l s : List UInt8) : (Lib.cut l s).1.length ≤ l.length ∧ (Lib.cut l s).2.1.length ≤ l.length := by
  unfold Lib.cut
  split
  · constructor
    · simp
      omega
    · simp
  · simp
theorem cut_any (l : List UInt8) (w : World) (hl : l.length ≤ 10000000) (hm : ∃ m, w.cell? ⟨0, 0, none⟩ = some (.int .i64 m)) :
    Calls Tryd.prog 27 #[.string (str l), .string ⟨#[58, 58]⟩] w fun e w' => e = .returned (.tuple #[.string (str (Lib.cut l [58, 58]).1), .string (str (Lib.cut l [58, 58]).2.1), .bool (Lib.cut l [58, 58]).2.2]) ∧ ∃ n, w' = w.drewN n := by
  obtain ⟨m, hm⟩ := hm
  exact Tryd.strings_Cut (str l) ⟨#[58, 58]⟩ m w (by rw [str_size]; omega) hm
theorem below_drewN (w : World) (n : Nat) : Below w.heap.size w (w.drewN n) := ⟨rfl, rfl, rfl, Nat.le_refl _, fun _ _ => rfl⟩
theorem cells_done (f b : List Nat) (o : Nat) (h : f.length + b.length ≤ 8) (ho : b.length = 0 ∨ o = 8 - b.length) :
    ((vhs zero8).take 0 ++ vhs f ++ (vhs zero8).drop (0 + f.length)).take o ++ vhs b ++ ((vhs zero8).take 0 ++ vhs f ++ (vhs zero8).drop (0 + f.length)).drop (o + b.length) = vhs (f ++ List.replicate (8 - f.length - b.length) 0 ++ b) := by
  have hz : vhs zero8 = List.replicate 8 (vh 0) := rfl
  have e1 : (vhs zero8).take 0 ++ vhs f ++ (vhs zero8).drop (0 + f.length) = vhs f ++ List.replicate (8 - f.length) (vh 0) := by
    rw [hz, List.take_zero, List.nil_append, Nat.zero_add, List.drop_replicate]
  rw [e1]
  rcases ho with ho | ho
  · have hb : b = [] := List.eq_nil_of_length_eq_zero ho
    subst hb
    have e2 : vhs [] = [] := rfl
    rw [e2]
    simp [vhs]
  · subst ho
    have hfl : (vhs f).length = f.length := Hs_len f
    rw [List.take_append, List.drop_eq_nil_of_le (by simp [hfl]; omega), List.take_of_length_le (by rw [hfl]; omega), hfl]
    simp [vhs]
    congr 1
    omega
theorem pco_none {w w' : World} {e : Ending} (h : Pco none w e w') : ∃ v, e = .returned (.tuple #[v, .bool false]) ∧ Below w.heap.size w w' := h
theorem pco_some {r : List Nat} {w w' : World} {e : Ending} (h : Pco (some r) w e w') : ∃ A c, e = .returned (.tuple #[.slice A r.length c, .bool true]) ∧ r.length ≤ c ∧ Hs w' w'.heap.size A r.length r ∧ Below w.heap.size w w' := h
theorem slice38' (w : World) (g q o d : Nat) (h : q ≤ 8) (ho : o = if 8 = q then 0 else q) (hd : d = 8 - q) : (Instr.sliceAt 38 (.pointer (some ⟨g, 0, none⟩)) (some (.int .i64 (q : Int))) none none).run Tryd.prog w = .ok (.slice (some ⟨g, o, none⟩) d d) w := by
  rw [ho, hd]
  exact slice38 w g q h

set_option maxHeartbeats 8000000 in
set_option maxRecDepth 100000 in
theorem six_any (l : List UInt8) (w : World) (hl : l.length ≤ 10000000) (ht : Tabs w) : Calls Tryd.prog 17 #[.string (str l)] w fun e w' => e = .returned (ip6V (ip6 l)) ∧ Below w.heap.size w w' := by
  have HT := Lib.hid ht
  clear ht
  have hR : ip6 l = (pcs (!(Lib.cut l [58, 58]).2.2) (Lib.cut l [58, 58]).1).bind fun f => (pcs (Lib.cut l [58, 58]).2.2 (Lib.cut l [58, 58]).2.1).bind fun b =>
    if f.length + b.length ≤ 8 ∧ (Lib.cut l [58, 58]).2.2 ≠ decide (f.length + b.length = 8) then some (f ++ List.replicate (8 - f.length - b.length) 0 ++ b) else none := rfl
  have hcl := cut_len l [58, 58]
  have HC : Hid (∀ w, (∃ m, w.cell? ⟨0, 0, none⟩ = some (.int .i64 m)) → Calls Tryd.prog 27 #[.string (str l), .string ⟨#[58, 58]⟩] w fun e w' => e = .returned (.tuple #[.string (str (Lib.cut l [58, 58]).1), .string (str (Lib.cut l [58, 58]).2.1), .bool (Lib.cut l [58, 58]).2.2]) ∧ ∃ n, w' = w.drewN n) := fun w hm => cut_any l w hl hm
  obtain ⟨H, hH⟩ : ∃ H, H = (Lib.cut l [58, 58]).1 := ⟨_, rfl⟩
  obtain ⟨T, hT⟩ : ∃ T, T = (Lib.cut l [58, 58]).2.1 := ⟨_, rfl⟩
  obtain ⟨gap, hgap⟩ : ∃ gap, gap = (Lib.cut l [58, 58]).2.2 := ⟨_, rfl⟩
  rw [← hH, ← hT] at HC hcl
  rw [← hgap] at HC
  rw [← hH, ← hT, ← hgap] at hR
  obtain ⟨R, hR'⟩ : ∃ R, R = ip6 l := ⟨_, rfl⟩
  rw [← hR'] at hR ⊢
  have hHl : H.length ≤ 10000000 := by omega
  have hTl : T.length ≤ 10000000 := by omega
  have HF : Hid (∀ w', Kept w w' → Calls Tryd.prog 28 #[.string (str H), .bool (!gap)] w' fun x w2 => Pco (pcs (!gap) H) w' x w2) := fun w' hk => pieces_any H (!gap) w' hHl (HT.out.kp hk)
  have HG : Hid (∀ w', Kept w w' → Calls Tryd.prog 28 #[.string (str T), .bool gap] w' fun x w2 => Pco (pcs gap T) w' x w2) := fun w' hk => pieces_any T gap w' hTl (HT.out.kp hk)
  have hfl := pcs_len (!gap) H
  have hbl := pcs_len gap T
  clear hH hT hgap hR' hcl
  obtain ⟨fo', hfo⟩ : ∃ f, f = pcs (!gap) H := ⟨_, rfl⟩
  obtain ⟨bo, hbo⟩ : ∃ b, b = pcs gap T := ⟨_, rfl⟩
  rw [← hfo] at hR HF hfl
  rw [← hbo] at hR HG hbl
  clear hfo hbo
  cases fo' with
  | none =>
    have hR2 : Hid (R = none) := hR
    clear hR hfl hbl
    cases gap with
    | true =>
      have HF : Hid (∀ w', Kept w w' → Calls Tryd.prog 28 #[.string (str H), .bool false] w' fun x w2 => Pco none w' x w2) := HF.out
      go_enter Tryd.func17, Tryd.ntmps17
      go_wp2_with (first
        | ((with_reducible show wpList _ _ _ (⟨some 2, .alloc _, _, _, _, _⟩ :: _) _ _); refine wp_new _ rfl 38 rfl _ type38 ?_; intro w1 g2 B1 F1; simp only [Act.put, List.setIfInBounds_toArray, List.set_cons_zero, List.set_cons_succ]; have hk1 := kept_of F1.below; have HM := len_of (HT.out.kp hk1))
        | (go_at_call 27; with_reducible refine (HC.out w1 HM).mono ?_; rintro x w2 ⟨rfl, nn, hw2⟩; have hb2 := below_drewN w1 nn; rw [← hw2] at hb2; have hk2 := hk1.step hb2; have B2 := B1.kept hb2; clear hw2)
        | (go_at_call 28; first | (with_reducible refine (HF.out w2 hk2).mono ?_; rintro x w3 hf3; obtain ⟨v3, rfl, hb3⟩ := pco_none hf3; have hk3 := hk2.step hb3; have B3 := B2.kept hb3) | (with_reducible refine (HG.out w3 hk3).mono ?_; rintro x w4 hf4; obtain ⟨v4, b4, rfl, hb4⟩ := hf4.gen; have hk4 := hk3.step hb4; have B4 := B3.kept hb4))
        | ((with_reducible show wpList _ _ _ (⟨some 38, .build _ _, _, _, _, _⟩ :: _) _ _); refine wp_build0 _ rfl 38 rfl _ (build38 _) ?_; simp only [Act.put, List.setIfInBounds_toArray, List.set_cons_zero, List.set_cons_succ])
        | ((with_reducible show wpList _ _ _ (⟨none, .store 38 (.tmp 2) _, _, _, _, _⟩ :: _) _ _); refine wp_putAll _ rfl 38 (.tmp 2) (.tmp 38) rfl g2 38 _ (vhs zero8) rfl rfl B4 rfl size38 (Hs_one _) ?_; intro w9 B9 U9; simp only [Act.put]))
      refine ret_cell2 2 3 38 rfl g2 (vhs zero8) _ rfl B9.whole Tryd.underlying38 rfl size38 rfl (.int .i64 7) rfl ⟨?_, ?_⟩
      · rw [hR2.out]
        rfl
      · exact hk4.base (U9.below (Nat.le_of_eq F1.is.symm))
    | false =>
      have HF : Hid (∀ w', Kept w w' → Calls Tryd.prog 28 #[.string (str H), .bool true] w' fun x w2 => Pco none w' x w2) := HF.out
      go_enter Tryd.func17, Tryd.ntmps17
      go_wp2_with (first
        | ((with_reducible show wpList _ _ _ (⟨some 2, .alloc _, _, _, _, _⟩ :: _) _ _); refine wp_new _ rfl 38 rfl _ type38 ?_; intro w1 g2 B1 F1; simp only [Act.put, List.setIfInBounds_toArray, List.set_cons_zero, List.set_cons_succ]; have hk1 := kept_of F1.below; have HM := len_of (HT.out.kp hk1))
        | (go_at_call 27; with_reducible refine (HC.out w1 HM).mono ?_; rintro x w2 ⟨rfl, nn, hw2⟩; have hb2 := below_drewN w1 nn; rw [← hw2] at hb2; have hk2 := hk1.step hb2; have B2 := B1.kept hb2; clear hw2)
        | (go_at_call 28; first | (with_reducible refine (HF.out w2 hk2).mono ?_; rintro x w3 hf3; obtain ⟨v3, rfl, hb3⟩ := pco_none hf3; have hk3 := hk2.step hb3; have B3 := B2.kept hb3) | (with_reducible refine (HG.out w3 hk3).mono ?_; rintro x w4 hf4; obtain ⟨v4, b4, rfl, hb4⟩ := hf4.gen; have hk4 := hk3.step hb4; have B4 := B3.kept hb4))
        | ((with_reducible show wpList _ _ _ (⟨some 38, .build _ _, _, _, _, _⟩ :: _) _ _); refine wp_build0 _ rfl 38 rfl _ (build38 _) ?_; simp only [Act.put, List.setIfInBounds_toArray, List.set_cons_zero, List.set_cons_succ])
        | ((with_reducible show wpList _ _ _ (⟨none, .store 38 (.tmp 2) _, _, _, _, _⟩ :: _) _ _); refine wp_putAll _ rfl 38 (.tmp 2) (.tmp 38) rfl g2 38 _ (vhs zero8) rfl rfl B4 rfl size38 (Hs_one _) ?_; intro w9 B9 U9; simp only [Act.put]))
      refine ret_cell2 2 3 38 rfl g2 (vhs zero8) _ rfl B9.whole Tryd.underlying38 rfl size38 rfl (.int .i64 7) rfl ⟨?_, ?_⟩
      · rw [hR2.out]
        rfl
      · exact hk4.base (U9.below (Nat.le_of_eq F1.is.symm))
  | some f =>
    cases bo with
    | none =>
      have hR2 : Hid (R = none) := hR
      clear hR hfl hbl
      cases gap with
      | true =>
        have HF : Hid (∀ w', Kept w w' → Calls Tryd.prog 28 #[.string (str H), .bool false] w' fun x w2 => Pco (some f) w' x w2) := HF.out
        go_enter Tryd.func17, Tryd.ntmps17
        go_wp2_with (first
          | ((with_reducible show wpList _ _ _ (⟨some 2, .alloc _, _, _, _, _⟩ :: _) _ _); refine wp_new _ rfl 38 rfl _ type38 ?_; intro w1 g2 B1 F1; simp only [Act.put, List.setIfInBounds_toArray, List.set_cons_zero, List.set_cons_succ]; have hk1 := kept_of F1.below; have HM := len_of (HT.out.kp hk1))
          | (go_at_call 27; with_reducible refine (HC.out w1 HM).mono ?_; rintro x w2 ⟨rfl, nn, hw2⟩; have hb2 := below_drewN w1 nn; rw [← hw2] at hb2; have hk2 := hk1.step hb2; have B2 := B1.kept hb2; clear hw2)
          | (go_at_call 28; first | (with_reducible refine (HF.out w2 hk2).mono ?_; rintro x w3 hf3; obtain ⟨A3, c3, rfl, hc3, hs3, hb3⟩ := pco_some hf3; have hk3 := hk2.step hb3; have B3 := B2.kept hb3) | (with_reducible refine (HG.out w3 hk3).mono ?_; rintro x w4 hf4; obtain ⟨v4, rfl, hb4⟩ := pco_none hf4; have hk4 := hk3.step hb4; have B4 := B3.kept hb4))
          | ((with_reducible show wpList _ _ _ (⟨some 38, .build _ _, _, _, _, _⟩ :: _) _ _); refine wp_build0 _ rfl 38 rfl _ (build38 _) ?_; simp only [Act.put, List.setIfInBounds_toArray, List.set_cons_zero, List.set_cons_succ])
          | ((with_reducible show wpList _ _ _ (⟨none, .store 38 (.tmp 2) _, _, _, _, _⟩ :: _) _ _); refine wp_putAll _ rfl 38 (.tmp 2) (.tmp 38) rfl g2 38 _ (vhs zero8) rfl rfl B4 rfl size38 (Hs_one _) ?_; intro w9 B9 U9; simp only [Act.put]))
        refine ret_cell2 2 3 38 rfl g2 (vhs zero8) _ rfl B9.whole Tryd.underlying38 rfl size38 rfl (.int .i64 7) rfl ⟨?_, ?_⟩
        · rw [hR2.out]
          rfl
        · exact hk4.base (U9.below (Nat.le_of_eq F1.is.symm))
      | false =>
        have HF : Hid (∀ w', Kept w w' → Calls Tryd.prog 28 #[.string (str H), .bool true] w' fun x w2 => Pco (some f) w' x w2) := HF.out
        go_enter Tryd.func17, Tryd.ntmps17
        go_wp2_with (first
          | ((with_reducible show wpList _ _ _ (⟨some 2, .alloc _, _, _, _, _⟩ :: _) _ _); refine wp_new _ rfl 38 rfl _ type38 ?_; intro w1 g2 B1 F1; simp only [Act.put, List.setIfInBounds_toArray, List.set_cons_zero, List.set_cons_succ]; have hk1 := kept_of F1.below; have HM := len_of (HT.out.kp hk1))
          | (go_at_call 27; with_reducible refine (HC.out w1 HM).mono ?_; rintro x w2 ⟨rfl, nn, hw2⟩; have hb2 := below_drewN w1 nn; rw [← hw2] at hb2; have hk2 := hk1.step hb2; have B2 := B1.kept hb2; clear hw2)
          | (go_at_call 28; first | (with_reducible refine (HF.out w2 hk2).mono ?_; rintro x w3 hf3; obtain ⟨A3, c3, rfl, hc3, hs3, hb3⟩ := pco_some hf3; have hk3 := hk2.step hb3; have B3 := B2.kept hb3) | (with_reducible refine (HG.out w3 hk3).mono ?_; rintro x w4 hf4; obtain ⟨v4, rfl, hb4⟩ := pco_none hf4; have hk4 := hk3.step hb4; have B4 := B3.kept hb4))
          | ((with_reducible show wpList _ _ _ (⟨some 38, .build _ _, _, _, _, _⟩ :: _) _ _); refine wp_build0 _ rfl 38 rfl _ (build38 _) ?_; simp only [Act.put, List.setIfInBounds_toArray, List.set_cons_zero, List.set_cons_succ])
          | ((with_reducible show wpList _ _ _ (⟨none, .store 38 (.tmp 2) _, _, _, _, _⟩ :: _) _ _); refine wp_putAll _ rfl 38 (.tmp 2) (.tmp 38) rfl g2 38 _ (vhs zero8) rfl rfl B4 rfl size38 (Hs_one _) ?_; intro w9 B9 U9; simp only [Act.put]))
        refine ret_cell2 2 3 38 rfl g2 (vhs zero8) _ rfl B9.whole Tryd.underlying38 rfl size38 rfl (.int .i64 7) rfl ⟨?_, ?_⟩
        · rw [hR2.out]
          rfl
        · exact hk4.base (U9.below (Nat.le_of_eq F1.is.symm))
    | some b =>
      have hf9 := (hfl f rfl).1
      have hb9 := (hbl b rfl).1
      have hR : R = if f.length + b.length ≤ 8 ∧ gap ≠ decide (f.length + b.length = 8) then some (f ++ List.replicate (8 - f.length - b.length) 0 ++ b) else none := hR
      obtain ⟨fl, hfl'⟩ : ∃ n, n = f.length := ⟨_, rfl⟩
      obtain ⟨bl, hbl'⟩ : ∃ n, n = b.length := ⟨_, rfl⟩
      have hF3 : Hid (∀ {w w' : World} {e : Ending}, Pco (some f) w e w' → ∃ A c, e = .returned (.tuple #[.slice A fl c, .bool true]) ∧ fl ≤ c ∧ Hs w' w'.heap.size A fl f ∧ Below w.heap.size w w') := fun h => by rw [hfl']; exact h
      have hF4 : Hid (∀ {w w' : World} {e : Ending}, Pco (some b) w e w' → ∃ A c, e = .returned (.tuple #[.slice A bl c, .bool true]) ∧ bl ≤ c ∧ Hs w' w'.heap.size A bl b ∧ Below w.heap.size w w') := fun h => by rw [hbl']; exact h
      rw [← hfl'] at hR hf9
      rw [← hbl'] at hR hb9
      have HL := Lib.hid (And.intro hfl' hbl')
      have hfl9 : fl ≤ 10000002 := by omega
      have hbl9 : bl ≤ 10000002 := by omega
      clear hfl hbl hfl' hbl' hf9 hb9
      by_cases h8 : fl + bl ≤ 8
      · obtain ⟨m, hm⟩ : ∃ m, m = 8 - fl - bl := ⟨_, rfl⟩
        have hmi : (8 : Int) - (fl : Int) - (bl : Int) = (m : Int) := by omega
        have hm0 : decide ((m : Int) < 0) = false := by simp
        have hdm : Hid (decide (fl + bl = 8) = decide (m = 0)) := by
          show _ = _
          rw [Bool.eq_iff_iff]
          simp
          omega
        by_cases hg : gap = decide (m = 0)
        · have hR2 : Hid (R = none) := by show _ = _; rw [hR, if_neg (by rw [hdm.out]; exact fun h => h.2 hg)]
          clear hR hdm
          cases gap with
          | true =>
            have hm1 : ((m : Int) == 0) = true := by have : m = 0 := by simpa using hg.symm
                                                     simp [this]
            have HMm := Lib.hid hm
            clear hg hm
            have HF : Hid (∀ w', Kept w w' → Calls Tryd.prog 28 #[.string (str H), .bool false] w' fun x w2 => Pco (some f) w' x w2) := HF.out
            go_enter Tryd.func17, Tryd.ntmps17
            go_wp2_with (first
              | ((with_reducible show wpList _ _ _ (⟨some 2, .alloc _, _, _, _, _⟩ :: _) _ _); refine wp_new _ rfl 38 rfl _ type38 ?_; intro w1 g2 B1 F1; simp only [Act.put, List.setIfInBounds_toArray, List.set_cons_zero, List.set_cons_succ]; have hk1 := kept_of F1.below; have HM := len_of (HT.out.kp hk1))
              | (go_at_call 27; with_reducible refine (HC.out w1 HM).mono ?_; rintro x w2 ⟨rfl, nn, hw2⟩; have hb2 := below_drewN w1 nn; rw [← hw2] at hb2; have hk2 := hk1.step hb2; have B2 := B1.kept hb2; clear hw2)
              | (go_at_call 28; first | (with_reducible refine (HF.out w2 hk2).mono ?_; rintro x w3 hf3; obtain ⟨A3, c3, rfl, hc3, hs3, hb3⟩ := hF3.out hf3; have hk3 := hk2.step hb3; have B3 := B2.kept hb3) | (with_reducible refine (HG.out w3 hk3).mono ?_; rintro x w4 hf4; obtain ⟨A4, c4, rfl, hc4, hs4, hb4⟩ := hF4.out hf4; have hk4 := hk3.step hb4; have B4 := B3.kept hb4; have hs34 := hs3.below hb4; have HSz := Lib.hid hb4.size))
              | ((with_reducible show wpList _ _ _ (⟨some 53, .build _ _, _, _, _, _⟩ :: _) _ _); refine wp_build0 _ rfl 38 rfl _ (build38 _) ?_; simp only [Act.put, List.setIfInBounds_toArray, List.set_cons_zero, List.set_cons_succ])
              | ((with_reducible show wpList _ _ _ (⟨none, .store 38 (.tmp 2) _, _, _, _, _⟩ :: _) _ _); refine wp_putAll _ rfl 38 (.tmp 2) (.tmp 53) rfl g2 38 _ (vhs zero8) rfl rfl B4 rfl size38 (Hs_one _) ?_; intro w9 B9 U9; simp only [Act.put]))
            refine ret_cell2 2 3 38 rfl g2 (vhs zero8) _ rfl B9.whole Tryd.underlying38 rfl size38 rfl (.int .i64 7) rfl ⟨?_, ?_⟩
            · rw [hR2.out]
              rfl
            · exact hk4.base (U9.below (Nat.le_of_eq F1.is.symm))
          | false =>
            have hm1 : ((m : Int) == 0) = false := by have : m ≠ 0 := by simpa using hg.symm
                                                      simp
                                                      omega
            have HMm := Lib.hid hm
            clear hg hm
            have HF : Hid (∀ w', Kept w w' → Calls Tryd.prog 28 #[.string (str H), .bool true] w' fun x w2 => Pco (some f) w' x w2) := HF.out
            go_enter Tryd.func17, Tryd.ntmps17
            go_wp2_with (first
              | ((with_reducible show wpList _ _ _ (⟨some 2, .alloc _, _, _, _, _⟩ :: _) _ _); refine wp_new _ rfl 38 rfl _ type38 ?_; intro w1 g2 B1 F1; simp only [Act.put, List.setIfInBounds_toArray, List.set_cons_zero, List.set_cons_succ]; have hk1 := kept_of F1.below; have HM := len_of (HT.out.kp hk1))
              | (go_at_call 27; with_reducible refine (HC.out w1 HM).mono ?_; rintro x w2 ⟨rfl, nn, hw2⟩; have hb2 := below_drewN w1 nn; rw [← hw2] at hb2; have hk2 := hk1.step hb2; have B2 := B1.kept hb2; clear hw2)
              | (go_at_call 28; first | (with_reducible refine (HF.out w2 hk2).mono ?_; rintro x w3 hf3; obtain ⟨A3, c3, rfl, hc3, hs3, hb3⟩ := hF3.out hf3; have hk3 := hk2.step hb3; have B3 := B2.kept hb3) | (with_reducible refine (HG.out w3 hk3).mono ?_; rintro x w4 hf4; obtain ⟨A4, c4, rfl, hc4, hs4, hb4⟩ := hF4.out hf4; have hk4 := hk3.step hb4; have B4 := B3.kept hb4; have hs34 := hs3.below hb4; have HSz := Lib.hid hb4.size))
              | ((with_reducible show wpList _ _ _ (⟨some 53, .build _ _, _, _, _, _⟩ :: _) _ _); refine wp_build0 _ rfl 38 rfl _ (build38 _) ?_; simp only [Act.put, List.setIfInBounds_toArray, List.set_cons_zero, List.set_cons_succ])
              | ((with_reducible show wpList _ _ _ (⟨none, .store 38 (.tmp 2) _, _, _, _, _⟩ :: _) _ _); refine wp_putAll _ rfl 38 (.tmp 2) (.tmp 53) rfl g2 38 _ (vhs zero8) rfl rfl B4 rfl size38 (Hs_one _) ?_; intro w9 B9 U9; simp only [Act.put]))
            refine ret_cell2 2 3 38 rfl g2 (vhs zero8) _ rfl B9.whole Tryd.underlying38 rfl size38 rfl (.int .i64 7) rfl ⟨?_, ?_⟩
            · rw [hR2.out]
              rfl
            · exact hk4.base (U9.below (Nat.le_of_eq F1.is.symm))
        · have hR2 : Hid (R = some (f ++ List.replicate (8 - fl - bl) 0 ++ b)) := by show _ = _; rw [hR, if_pos ⟨h8, by rw [hdm.out]; exact hg⟩]
          clear hR hdm
          obtain ⟨q, hq⟩ : ∃ q, q = 8 - bl := ⟨_, rfl⟩
          have hqi : (8 : Int) - (bl : Int) = (q : Int) := by omega
          obtain ⟨o, ho⟩ : ∃ o, o = if 8 = q then 0 else q := ⟨_, rfl⟩
          have hsl : ∀ (w' : World) (g : Nat), (Instr.sliceAt 38 (.pointer (some ⟨g, 0, none⟩)) (some (.int .i64 (q : Int))) none none).run Tryd.prog w' = .ok (.slice (some ⟨g, o, none⟩) bl bl) w' := fun w' g => slice38' w' g q o bl (by omega) ho (by omega)
          have hob : o + bl ≤ 8 := by rw [ho]; split <;> omega
          have hor : Hid (b.length = 0 ∨ o = 8 - b.length) := by
            show _ ∨ _
            rw [← HL.out.2, ho]
            split
            · left; omega
            · right; omega
          have hc1 : Hid (0 + fl ≤ (vhs zero8).length) := by show _ ≤ _; have : (vhs zero8).length = 8 := rfl; omega
          have hc2 : Hid (o + bl ≤ ((vhs zero8).take 0 ++ vhs f ++ (vhs zero8).drop (0 + fl)).length) := by
            show _ ≤ _
            have h1 : (vhs zero8).length = 8 := rfl
            have h2 : (vhs f).length = fl := by rw [Hs_len, HL.out.1]
            simp [h1, h2]
            omega
          have hfin : Hid (((vhs zero8).take 0 ++ vhs f ++ (vhs zero8).drop (0 + fl)).take o ++ vhs b ++ ((vhs zero8).take 0 ++ vhs f ++ (vhs zero8).drop (0 + fl)).drop (o + bl) = vhs (f ++ List.replicate (8 - fl - bl) 0 ++ b)) := by
            show _ = _
            rw [HL.out.1, HL.out.2]
            exact cells_done f b o (by rw [← HL.out.1, ← HL.out.2]; exact h8) hor.out
          obtain ⟨Y, hY⟩ : ∃ Y, Y = f ++ List.replicate (8 - fl - bl) 0 ++ b := ⟨_, rfl⟩
          rw [← hY] at hR2 hfin
          have hYl : Y.length = 8 := by
            rw [hY]
            have h1 := HL.out.1
            have h2 := HL.out.2
            simp
            omega
          have hs38 := Lib.hid (size38' Y hYl)
          have hYz : Hid ((vhs Y).length = (vhs zero8).length) := by show _ = _; rw [Hs_len, hYl]; rfl
          have hfl8 : fl ≤ 8 := by omega
          have HQ := Lib.hid (And.intro hq (And.intro ho hm))
          clear hq ho hm hY hYl hor h8
          cases gap with
          | true =>
            have hm1 : ((m : Int) == 0) = false := by have : m ≠ 0 := by simpa using hg
                                                      simp
                                                      omega
            clear hg
            have HF : Hid (∀ w', Kept w w' → Calls Tryd.prog 28 #[.string (str H), .bool false] w' fun x w2 => Pco (some f) w' x w2) := HF.out
            go_enter Tryd.func17, Tryd.ntmps17
            go_wp2_with (first
              | ((with_reducible show wpList _ _ _ (⟨some 2, .alloc _, _, _, _, _⟩ :: _) _ _); refine wp_new _ rfl 38 rfl _ type38 ?_; intro w1 g2 B1 F1; simp only [Act.put, List.setIfInBounds_toArray, List.set_cons_zero, List.set_cons_succ]; have hk1 := kept_of F1.below; have HM := len_of (HT.out.kp hk1))
              | (go_at_call 27; with_reducible refine (HC.out w1 HM).mono ?_; rintro x w2 ⟨rfl, nn, hw2⟩; have hb2 := below_drewN w1 nn; rw [← hw2] at hb2; have hk2 := hk1.step hb2; have B2 := B1.kept hb2; clear hw2)
              | (go_at_call 28; first | (with_reducible refine (HF.out w2 hk2).mono ?_; rintro x w3 hf3; obtain ⟨A3, c3, rfl, hc3, hs3, hb3⟩ := hF3.out hf3; have hk3 := hk2.step hb3; have B3 := B2.kept hb3) | (with_reducible refine (HG.out w3 hk3).mono ?_; rintro x w4 hf4; obtain ⟨A4, c4, rfl, hc4, hs4, hb4⟩ := hF4.out hf4; have hk4 := hk3.step hb4; have B4 := B3.kept hb4; have hs34 := hs3.below hb4; have HSz := Lib.hid hb4.size))
              | ((with_reducible show wpList _ _ _ (⟨some 54, .build _ _, _, _, _, _⟩ :: _) _ _); refine wp_build0 _ rfl 38 rfl _ (build38 _) ?_; simp only [Act.put, List.setIfInBounds_toArray, List.set_cons_zero, List.set_cons_succ])
              | ((with_reducible show wpList _ _ _ (⟨some 12, .alloc _, _, _, _, _⟩ :: _) _ _); refine wp_new _ rfl 38 rfl _ type38 ?_; intro w5 g5 B5 F5; simp only [Act.put, List.setIfInBounds_toArray, List.set_cons_zero, List.set_cons_succ]; have hg5 := Lib.hid F5.is)
              | ((with_reducible show wpList _ _ _ (⟨none, .store 38 (.tmp 12) _, _, _, _, _⟩ :: _) _ _); refine wp_putAll _ rfl 38 (.tmp 12) (.tmp 54) rfl g5 38 _ (vhs zero8) rfl rfl B5 rfl size38 (Hs_one _) ?_; intro w6 B6 U6; simp only [Act.put]; have hb46 := F5.below.trans (U6.below (Nat.le_of_eq hg5.out.symm)); have hs6 := (hs34.more HSz.out).below hb46; have ht6 := hs4.below hb46; have hsa := slice38a)
              | ((with_reducible show wpList _ _ _ (⟨some 57, .call _, _, _, _, _⟩ :: _) _ _); refine wp_copyH _ rfl (.tmp 55) (.tmp 56) rfl g5 0 8 8 _ fl _ f _ rfl rfl hs6 _ B6 hfl8 hc1.out ?_; intro w7 B7 U7; simp only [Act.put, List.setIfInBounds_toArray, List.set_cons_zero, List.set_cons_succ]; have ht7 := ht6.below (U7.below (Nat.le_of_eq hg5.out.symm)))
              | ((with_reducible show wpList _ _ _ (⟨some 63, .call _, _, _, _, _⟩ :: _) _ _); refine wp_copyH _ rfl (.tmp 61) (.tmp 62) rfl g5 o bl bl _ bl _ b _ rfl rfl ht7 _ B7 (Nat.le_refl _) hc2.out ?_; intro w8 B8 U8; simp only [Act.put, List.setIfInBounds_toArray, List.set_cons_zero, List.set_cons_succ]; have hb8 := hb46.trans ((U7.trans U8).below (Nat.le_of_eq hg5.out.symm)); have B48 := B4.kept hb8; have hk8 := hk4.step hb8; rw [hfin.out] at B8)
              | ((with_reducible show wpList _ _ _ (⟨some 64, .load 38 _, _, _, _, _⟩ :: _) _ _); refine wp_get _ rfl 38 (.tmp 12) rfl g5 0 (vhs Y) _ rfl B8.whole Tryd.underlying38 rfl hs38.out ?_; simp only [Act.put, List.setIfInBounds_toArray, List.set_cons_zero, List.set_cons_succ])
              | ((with_reducible show wpList _ _ _ (⟨none, .store 38 (.tmp 2) _, _, _, _, _⟩ :: _) _ _); refine wp_putAll _ rfl 38 (.tmp 2) (.tmp 64) rfl g2 38 _ (vhs Y) rfl rfl B48 hYz.out hs38.out (Hs_one _) ?_; intro w9 B9 U9; simp only [Act.put]))
            refine ret_cell2 2 3 38 rfl g2 (vhs Y) _ rfl B9.whole Tryd.underlying38 rfl hs38.out rfl (.int .i64 0) rfl ⟨?_, ?_⟩
            · rw [hR2.out]
              rfl
            · exact hk8.base (U9.below (Nat.le_of_eq F1.is.symm))
          | false =>
            have hm1 : ((m : Int) == 0) = true := by have : m = 0 := by simpa using hg
                                                     simp [this]
            clear hg
            have HF : Hid (∀ w', Kept w w' → Calls Tryd.prog 28 #[.string (str H), .bool true] w' fun x w2 => Pco (some f) w' x w2) := HF.out
            go_enter Tryd.func17, Tryd.ntmps17
            go_wp2_with (first
              | ((with_reducible show wpList _ _ _ (⟨some 2, .alloc _, _, _, _, _⟩ :: _) _ _); refine wp_new _ rfl 38 rfl _ type38 ?_; intro w1 g2 B1 F1; simp only [Act.put, List.setIfInBounds_toArray, List.set_cons_zero, List.set_cons_succ]; have hk1 := kept_of F1.below; have HM := len_of (HT.out.kp hk1))
              | (go_at_call 27; with_reducible refine (HC.out w1 HM).mono ?_; rintro x w2 ⟨rfl, nn, hw2⟩; have hb2 := below_drewN w1 nn; rw [← hw2] at hb2; have hk2 := hk1.step hb2; have B2 := B1.kept hb2; clear hw2)
              | (go_at_call 28; first | (with_reducible refine (HF.out w2 hk2).mono ?_; rintro x w3 hf3; obtain ⟨A3, c3, rfl, hc3, hs3, hb3⟩ := hF3.out hf3; have hk3 := hk2.step hb3; have B3 := B2.kept hb3) | (with_reducible refine (HG.out w3 hk3).mono ?_; rintro x w4 hf4; obtain ⟨A4, c4, rfl, hc4, hs4, hb4⟩ := hF4.out hf4; have hk4 := hk3.step hb4; have B4 := B3.kept hb4; have hs34 := hs3.below hb4; have HSz := Lib.hid hb4.size))
              | ((with_reducible show wpList _ _ _ (⟨some 54, .build _ _, _, _, _, _⟩ :: _) _ _); refine wp_build0 _ rfl 38 rfl _ (build38 _) ?_; simp only [Act.put, List.setIfInBounds_toArray, List.set_cons_zero, List.set_cons_succ])
              | ((with_reducible show wpList _ _ _ (⟨some 12, .alloc _, _, _, _, _⟩ :: _) _ _); refine wp_new _ rfl 38 rfl _ type38 ?_; intro w5 g5 B5 F5; simp only [Act.put, List.setIfInBounds_toArray, List.set_cons_zero, List.set_cons_succ]; have hg5 := Lib.hid F5.is)
              | ((with_reducible show wpList _ _ _ (⟨none, .store 38 (.tmp 12) _, _, _, _, _⟩ :: _) _ _); refine wp_putAll _ rfl 38 (.tmp 12) (.tmp 54) rfl g5 38 _ (vhs zero8) rfl rfl B5 rfl size38 (Hs_one _) ?_; intro w6 B6 U6; simp only [Act.put]; have hb46 := F5.below.trans (U6.below (Nat.le_of_eq hg5.out.symm)); have hs6 := (hs34.more HSz.out).below hb46; have ht6 := hs4.below hb46; have hsa := slice38a)
              | ((with_reducible show wpList _ _ _ (⟨some 57, .call _, _, _, _, _⟩ :: _) _ _); refine wp_copyH _ rfl (.tmp 55) (.tmp 56) rfl g5 0 8 8 _ fl _ f _ rfl rfl hs6 _ B6 hfl8 hc1.out ?_; intro w7 B7 U7; simp only [Act.put, List.setIfInBounds_toArray, List.set_cons_zero, List.set_cons_succ]; have ht7 := ht6.below (U7.below (Nat.le_of_eq hg5.out.symm)))
              | ((with_reducible show wpList _ _ _ (⟨some 63, .call _, _, _, _, _⟩ :: _) _ _); refine wp_copyH _ rfl (.tmp 61) (.tmp 62) rfl g5 o bl bl _ bl _ b _ rfl rfl ht7 _ B7 (Nat.le_refl _) hc2.out ?_; intro w8 B8 U8; simp only [Act.put, List.setIfInBounds_toArray, List.set_cons_zero, List.set_cons_succ]; have hb8 := hb46.trans ((U7.trans U8).below (Nat.le_of_eq hg5.out.symm)); have B48 := B4.kept hb8; have hk8 := hk4.step hb8; rw [hfin.out] at B8)
              | ((with_reducible show wpList _ _ _ (⟨some 64, .load 38 _, _, _, _, _⟩ :: _) _ _); refine wp_get _ rfl 38 (.tmp 12) rfl g5 0 (vhs Y) _ rfl B8.whole Tryd.underlying38 rfl hs38.out ?_; simp only [Act.put, List.setIfInBounds_toArray, List.set_cons_zero, List.set_cons_succ])
              | ((with_reducible show wpList _ _ _ (⟨none, .store 38 (.tmp 2) _, _, _, _, _⟩ :: _) _ _); refine wp_putAll _ rfl 38 (.tmp 2) (.tmp 64) rfl g2 38 _ (vhs Y) rfl rfl B48 hYz.out hs38.out (Hs_one _) ?_; intro w9 B9 U9; simp only [Act.put]))
            refine ret_cell2 2 3 38 rfl g2 (vhs Y) _ rfl B9.whole Tryd.underlying38 rfl hs38.out rfl (.int .i64 0) rfl ⟨?_, ?_⟩
            · rw [hR2.out]
              rfl
            · exact hk8.base (U9.below (Nat.le_of_eq F1.is.symm))
      · have hR2 : Hid (R = none) := by show _ = _; rw [hR, if_neg (fun h => h8 h.1)]
        have hneg : decide ((8 : Int) - (fl : Int) - (bl : Int) < 0) = true := by simp; omega
        clear hR
        cases gap with
        | true =>
          have HF : Hid (∀ w', Kept w w' → Calls Tryd.prog 28 #[.string (str H), .bool false] w' fun x w2 => Pco (some f) w' x w2) := HF.out
          go_enter Tryd.func17, Tryd.ntmps17
          go_wp2_with (first
            | ((with_reducible show wpList _ _ _ (⟨some 2, .alloc _, _, _, _, _⟩ :: _) _ _); refine wp_new _ rfl 38 rfl _ type38 ?_; intro w1 g2 B1 F1; simp only [Act.put, List.setIfInBounds_toArray, List.set_cons_zero, List.set_cons_succ]; have hk1 := kept_of F1.below; have HM := len_of (HT.out.kp hk1))
            | (go_at_call 27; with_reducible refine (HC.out w1 HM).mono ?_; rintro x w2 ⟨rfl, nn, hw2⟩; have hb2 := below_drewN w1 nn; rw [← hw2] at hb2; have hk2 := hk1.step hb2; have B2 := B1.kept hb2; clear hw2)
            | (go_at_call 28; first | (with_reducible refine (HF.out w2 hk2).mono ?_; rintro x w3 hf3; obtain ⟨A3, c3, rfl, hc3, hs3, hb3⟩ := hF3.out hf3; have hk3 := hk2.step hb3; have B3 := B2.kept hb3) | (with_reducible refine (HG.out w3 hk3).mono ?_; rintro x w4 hf4; obtain ⟨A4, c4, rfl, hc4, hs4, hb4⟩ := hF4.out hf4; have hk4 := hk3.step hb4; have B4 := B3.kept hb4; have hs34 := hs3.below hb4; have HSz := Lib.hid hb4.size))
            | ((with_reducible show wpList _ _ _ (⟨some 53, .build _ _, _, _, _, _⟩ :: _) _ _); refine wp_build0 _ rfl 38 rfl _ (build38 _) ?_; simp only [Act.put, List.setIfInBounds_toArray, List.set_cons_zero, List.set_cons_succ])
            | ((with_reducible show wpList _ _ _ (⟨none, .store 38 (.tmp 2) _, _, _, _, _⟩ :: _) _ _); refine wp_putAll _ rfl 38 (.tmp 2) (.tmp 53) rfl g2 38 _ (vhs zero8) rfl rfl B4 rfl size38 (Hs_one _) ?_; intro w9 B9 U9; simp only [Act.put]))
          refine ret_cell2 2 3 38 rfl g2 (vhs zero8) _ rfl B9.whole Tryd.underlying38 rfl size38 rfl (.int .i64 7) rfl ⟨?_, ?_⟩
          · rw [hR2.out]
            rfl
          · exact hk4.base (U9.below (Nat.le_of_eq F1.is.symm))
        | false =>
          have HF : Hid (∀ w', Kept w w' → Calls Tryd.prog 28 #[.string (str H), .bool true] w' fun x w2 => Pco (some f) w' x w2) := HF.out
          go_enter Tryd.func17, Tryd.ntmps17
          go_wp2_with (first
            | ((with_reducible show wpList _ _ _ (⟨some 2, .alloc _, _, _, _, _⟩ :: _) _ _); refine wp_new _ rfl 38 rfl _ type38 ?_; intro w1 g2 B1 F1; simp only [Act.put, List.setIfInBounds_toArray, List.set_cons_zero, List.set_cons_succ]; have hk1 := kept_of F1.below; have HM := len_of (HT.out.kp hk1))
            | (go_at_call 27; with_reducible refine (HC.out w1 HM).mono ?_; rintro x w2 ⟨rfl, nn, hw2⟩; have hb2 := below_drewN w1 nn; rw [← hw2] at hb2; have hk2 := hk1.step hb2; have B2 := B1.kept hb2; clear hw2)
            | (go_at_call 28; first | (with_reducible refine (HF.out w2 hk2).mono ?_; rintro x w3 hf3; obtain ⟨A3, c3, rfl, hc3, hs3, hb3⟩ := hF3.out hf3; have hk3 := hk2.step hb3; have B3 := B2.kept hb3) | (with_reducible refine (HG.out w3 hk3).mono ?_; rintro x w4 hf4; obtain ⟨A4, c4, rfl, hc4, hs4, hb4⟩ := hF4.out hf4; have hk4 := hk3.step hb4; have B4 := B3.kept hb4; have hs34 := hs3.below hb4; have HSz := Lib.hid hb4.size))
            | ((with_reducible show wpList _ _ _ (⟨some 53, .build _ _, _, _, _, _⟩ :: _) _ _); refine wp_build0 _ rfl 38 rfl _ (build38 _) ?_; simp only [Act.put, List.setIfInBounds_toArray, List.set_cons_zero, List.set_cons_succ])
            | ((with_reducible show wpList _ _ _ (⟨none, .store 38 (.tmp 2) _, _, _, _, _⟩ :: _) _ _); refine wp_putAll _ rfl 38 (.tmp 2) (.tmp 53) rfl g2 38 _ (vhs zero8) rfl rfl B4 rfl size38 (Hs_one _) ?_; intro w9 B9 U9; simp only [Act.put]))
          refine ret_cell2 2 3 38 rfl g2 (vhs zero8) _ rfl B9.whole Tryd.underlying38 rfl size38 rfl (.int .i64 7) rfl ⟨?_, ?_⟩
          · rw [hR2.out]
            rfl
          · exact hk4.base (U9.below (Nat.le_of_eq F1.is.symm))
end Go.Proofs.YtcfgcakmffkpmaaDoor
