/-
  What transeptlaw08.WeburlHosts answers: true; nothing that was there turns. Condition: the library's tables.
-/
import Derived.Test.YtcepigekibidfaaGreatDoorRhq
import Derived.Test.YtcepigekibidfaaGreatDoorGr
import Derived.Test.YtcepigekibidfaaGreatDoorGn
namespace Go.Proofs.YtcepigekibidfaaGreatDoor
open Go.RowKit

theorem prs_err (l : List UInt8) (h : (prs l).2 = true) : (prs l).1 = [] := by
  unfold prs at h ⊢
  split at h
  · rename_i hp
    rw [if_pos hp]
    unfold prb at h ⊢
    split at h
    · rename_i hs
      rw [if_pos hs]
      cases ho : ip6 (Lib.trimSuffix (l.drop 1) [93]) with
      | none => rfl
      | some a => rw [ho] at h; cases h
    · rename_i hs
      rw [if_neg hs]
  · rename_i hp
    rw [if_neg hp]
    exact nam_err _ h
theorem col_no : ∀ (b : Bool) (l : List UInt8), (58 : UInt8) ∉ l → col b l = none
  | b, [], _ => by cases b <;> rfl
  | true, a :: r, h => by
    rw [col, col_no _ r (fun hm => h (List.mem_cons_of_mem _ hm))]
    rfl
  | false, a :: r, h => by
    rw [col, if_neg (fun e => h (by rw [e]; exact List.mem_cons_self))]
    split
    · rw [col_no true r (fun hm => h (List.mem_cons_of_mem _ hm))]; rfl
    · rw [col_no false r (fun hm => h (List.mem_cons_of_mem _ hm))]; rfl
/-- Bytes that neither end nor part a host, and count. -/
def hby (c : UInt8) : Bool := decide (32 < c.toNat) && decide (c.toNat ≠ 47) && decide (c.toNat ≠ 92) && decide (c.toNat ≠ 63) && decide (c.toNat ≠ 35) && decide (c.toNat ≠ 64) && decide (c.toNat ≠ 58)
theorem hby_out (c : UInt8) (h : hby c = true) : lowc c = false ∧ c ≠ 47 ∧ c ≠ 92 ∧ c ≠ 63 ∧ c ≠ 35 ∧ c ≠ 64 ∧ c ≠ 58 := by
  refine u8_all (P := fun c => hby c = true → lowc c = false ∧ c ≠ 47 ∧ c ≠ 92 ∧ c ≠ 63 ∧ c ≠ 35 ∧ c ≠ 64 ∧ c ≠ 58) ?_ c h
  decide +kernel
theorem host_url (s : List UInt8) (h : ∀ c ∈ s, hby c = true) : prsU ([104, 116, 116, 112, 58, 47, 47] ++ s ++ [47, 120]) = if (prs s).2 then none else some ⟨[104, 116, 116, 112], (prs s).1, -1, [47, 120], [], []⟩ := by
  have hc : cln ([104, 116, 116, 112, 58, 47, 47] ++ s ++ [47, 120]) = [104, 116, 116, 112] ++ 58 :: (47 :: 47 :: (s ++ [47, 120])) := by
    rw [show ([104, 116, 116, 112, 58, 47, 47] : List UInt8) ++ s ++ [47, 120] = [104, 116, 116, 112] ++ 58 :: (47 :: 47 :: (s ++ [47, 120])) by simp]
    refine cln_hi _ fun c hc => ?_
    rcases List.mem_append.1 hc with hc | hc
    · have : ∀ c ∈ ([104, 116, 116, 112] : List UInt8), lowc c = false := by decide
      exact this c hc
    · simp only [List.mem_cons, List.mem_append, List.not_mem_nil, or_false] at hc
      rcases hc with rfl | rfl | rfl | hc | rfl | rfl
      · decide
      · decide
      · decide
      · exact (hby_out c (h c hc)).1
      · decide
      · decide
  have hno : ∀ x : UInt8, x ≠ 47 → x ≠ 120 → (∀ c, hby c = true → c ≠ x) → x ∉ (47 :: 47 :: (s ++ [47, 120]) : List UInt8) := fun x h1 h2 h3 hm => by
    simp only [List.mem_cons, List.mem_append, List.not_mem_nil, or_false] at hm
    rcases hm with hm | hm | hm | hm | hm
    · exact h1 hm
    · exact h1 hm
    · exact h3 x (h x hm) rfl
    · exact h1 hm
    · exact h2 hm
  have h35 := hno 35 (by decide) (by decide) (fun c hc => (hby_out c hc).2.2.2.2.1)
  have h63 := hno 63 (by decide) (by decide) (fun c hc => (hby_out c hc).2.2.2.1)
  have h92 := hno 92 (by decide) (by decide) (fun c hc => (hby_out c hc).2.2.1)
  have n47 : (47 : UInt8) ∉ s := fun hm => (hby_out 47 (h 47 hm)).2.1 rfl
  have n64 : (64 : UInt8) ∉ s := fun hm => (hby_out 64 (h 64 hm)).2.2.2.2.2.1 rfl
  have n58 : (58 : UInt8) ∉ s := fun hm => (hby_out 58 (h 58 hm)).2.2.2.2.2.2 rfl
  unfold prsU
  rw [hc, scheme_cut [104, 116, 116, 112] _ 80 rfl]
  unfold psc
  rw [if_neg (by decide), bef_none 35 _ h35, bef_none 63 _ h63, sgn_none 63 4 _ h63, sgn_none 35 2 _ h35, sub1_id 92 47 _ h92, if_pos (by simp [List.isPrefixOf])]
  show psp [104, 116, 116, 112] 80 (s ++ [47, 120]) [] [] = _
  have e1 : bef 47 (s ++ [47, 120]) = s := bef_app 47 [120] s n47
  have e2 : aft 47 (s ++ [47, 120]) = [120] := aft_app 47 [120] s n47
  have e3 : cpt s = (s, []) := by unfold cpt; rw [col_no false s n58]
  have e4 : s.contains 64 = false := no_contains 64 s n64
  have e5 : pth [120] = [47, 120] := by decide
  unfold psp
  rw [e1, e2, e3, e4, e5]
  cases (prs s).2 <;> rfl
set_option maxHeartbeats 8000000 in
set_option maxRecDepth 100000 in
theorem hs_bad (u : U) (l s H X1 X : List UInt8) (m S : Nat) (w : World) (hm : min (l.length : Int) 100 = (m : Int)) (hm2 : m ≤ l.length) (hts : (str l).extract 0 m = str s) (hsl : (str l).size = l.length) (hS : S = s.length) (hS2 : S ≤ 100) (HS : Hid (∀ w', Kept w w' → Calls Tryz.prog 13 #[] w' fun e w2 => e = .returned (.bool true) ∧ Below w'.heap.size w' w2)) (HP : (∀ c ∈ s, hby c = true) → Hid (∀ w', Kept w w' → Calls Tryz.prog 30 #[.string (str s)] w' fun e w2 => e = .returned (.tuple #[.string (str H), .int .i64 7]) ∧ Below w'.heap.size w' w2)) (HU : (∀ c ∈ s, hby c = true) → Hid (∀ w', Kept w w' → Calls Tryz.prog 14 #[.string (str X)] w' fun e w2 => e = .returned (.tuple #[.agg (uC u.sch u.host u.port u.path u.q u.f).toArray, .int .i64 7]) ∧ Below w'.heap.size w' w2)) (b1 : ⟨#[104, 116, 116, 112, 58, 47, 47]⟩ ++ str s = str X1) (b2 : str X1 ++ ⟨#[47, 120]⟩ = str X) (r2 : ¬ (9223372036854775807 : Nat) < (str X1).size + 2) (hh : ((str u.host).toList == (str H).toList) = true) : Calls Tryz.prog 10 #[.string (str l)] w fun e w' => e = .returned (.bool true) ∧ Below w.heap.size w w' := by
    have hsz := str_size s
    have hgb : Hid (∀ k, k < S → ∀ h, ((str s)[k]'h).toNat = (s.getD k 0).toNat) := fun k hk h => str_at s k (by omega) h
    have hend : Hid ((∀ j, j < S → hby (s.getD j 0) = true) → ∀ c ∈ s, hby c = true) := fun h c hc => by
      obtain ⟨k, hk, e⟩ := List.getElem_of_mem hc
      have := h k (by omega)
      rw [List.getD_eq_getElem?_getD, List.getElem?_eq_getElem hk] at this
      rw [← e]
      exact this
    have HP0 := Lib.hid HP
    have HU0 := Lib.hid HU
    clear HP HU
    rw [← hS] at hsz
    clear hS
    go_enter Tryz.func10, Tryz.ntmps10
    go_wp2_with (first
      | (go_at_call 13; (with_reducible refine (HS.out _ (Hl.nil w).kp).mono ?_); (rintro e w1 ⟨rfl, hb⟩; have H0 := (Hl.nil w).step hb; clear hb)))
    go_loopw [4] (fun i wr => ∃ k : Nat, k ≤ S ∧ i = .int .i64 (k : Int) ∧ Hl w wr [] ∧ ∀ j, j < k → hby (s.getD j 0) = true) (fun i _ => S - (intOf i).toNat)
    case atStart => exact ⟨0, by omega, rfl, H0, fun j hj => absurd hj (Nat.not_lt_zero _)⟩
    case round =>
      obtain ⟨k, hk, rfl, H1, hj⟩ := hrel
      clear H0
      have HJ := Lib.hid hj
      clear hj
      by_cases hlt : k < S
      · have hkS : (k : Int) < (S : Int) := by omega
        have HG := hgb.out k hlt
        obtain ⟨c, hc⟩ : ∃ c, c = s.getD k 0 := ⟨_, rfl⟩
        rw [← hc] at HG
        have HC := Lib.hid hc
        have hby1 : hby c = (decide (32 < c.toNat) && decide (c.toNat ≠ 47) && decide (c.toNat ≠ 92) && decide (c.toNat ≠ 63) && decide (c.toNat ≠ 35) && decide (c.toNat ≠ 64) && decide (c.toNat ≠ 58)) := rfl
        obtain ⟨b, hb⟩ : ∃ b, b = c.toNat := ⟨_, rfl⟩
        rw [← hb] at HG hby1
        clear hc hb
        by_cases hc1 : b ≤ 32
        · have c1 : decide ((b : Int) ≤ 32) = true := by first | (simp; done) | (simp; omega) | (simp [hc1]; done)
          clear hby1 hc1
          go_wp2_with fail
          go_ret
          exact ⟨by simp, H1.kp⟩
        have c1 : decide ((b : Int) ≤ 32) = false := by first | (simp; done) | (simp; omega)
        by_cases hc2 : b = 47
        · have c2 : ((b : Int) == 47) = true := by first | (simp; done) | (simp; omega) | (simp [hc2]; done)
          clear hby1 hc1 hc2
          go_wp2_with fail
          go_ret
          exact ⟨by simp, H1.kp⟩
        have c2 : ((b : Int) == 47) = false := by first | (simp; done) | (simp; omega)
        by_cases hc3 : b = 92
        · have c3 : ((b : Int) == 92) = true := by first | (simp; done) | (simp; omega) | (simp [hc3]; done)
          clear hby1 hc1 hc2 hc3
          go_wp2_with fail
          go_ret
          exact ⟨by simp, H1.kp⟩
        have c3 : ((b : Int) == 92) = false := by first | (simp; done) | (simp; omega)
        by_cases hc4 : b = 63
        · have c4 : ((b : Int) == 63) = true := by first | (simp; done) | (simp; omega) | (simp [hc4]; done)
          clear hby1 hc1 hc2 hc3 hc4
          go_wp2_with fail
          go_ret
          exact ⟨by simp, H1.kp⟩
        have c4 : ((b : Int) == 63) = false := by first | (simp; done) | (simp; omega)
        by_cases hc5 : b = 35
        · have c5 : ((b : Int) == 35) = true := by first | (simp; done) | (simp; omega) | (simp [hc5]; done)
          clear hby1 hc1 hc2 hc3 hc4 hc5
          go_wp2_with fail
          go_ret
          exact ⟨by simp, H1.kp⟩
        have c5 : ((b : Int) == 35) = false := by first | (simp; done) | (simp; omega)
        by_cases hc6 : b = 64
        · have c6 : ((b : Int) == 64) = true := by first | (simp; done) | (simp; omega) | (simp [hc6]; done)
          clear hby1 hc1 hc2 hc3 hc4 hc5 hc6
          go_wp2_with fail
          go_ret
          exact ⟨by simp, H1.kp⟩
        have c6 : ((b : Int) == 64) = false := by first | (simp; done) | (simp; omega)
        by_cases hc7 : b = 58
        · have c7 : ((b : Int) == 58) = true := by first | (simp; done) | (simp; omega) | (simp [hc7]; done)
          clear hby1 hc1 hc2 hc3 hc4 hc5 hc6 hc7
          go_wp2_with fail
          go_ret
          exact ⟨by simp, H1.kp⟩
        have c7 : ((b : Int) == 58) = false := by first | (simp; done) | (simp; omega)
        have hok : Hid (hby c = true) := by
          show _ = _
          rw [hby1]
          simp only [Bool.and_eq_true, decide_eq_true_eq]
          omega
        clear hby1 hc1 hc2 hc3 hc4 hc5 hc6 hc7
        go_wp2_with fail
        go_roundw
        case rel =>
          refine ⟨k + 1, by omega, by go_num, H1, fun j hj => ?_⟩
          by_cases e : j = k
          · rw [e, ← HC.out]; exact hok.out
          · exact HJ.out j (by omega)
        case measure => simp [intOf]; omega
      · have hkS : ¬ (k : Int) < (S : Int) := by omega
        have hall := hend.out (fun j hj => HJ.out j (by omega))
        have HP := HP0.out hall
        have HU := HU0.out hall
        clear hall hlt HJ HP0 HU0 hend
        go_wp2_with (first
          | (go_at_call 30; (with_reducible refine (HP.out _ H1.kp).mono ?_); (rintro e w2 ⟨rfl, hb⟩; have H2 := H1.step hb; clear hb))
          | (go_at_call 14; (with_reducible refine (HU.out _ H2.kp).mono ?_); (rintro e wa1 ⟨rfl, hb⟩; have G1 := H2.step hb; clear hb))
          | ((with_reducible show wpList _ _ _ (⟨some 8, .alloc _, _, _, _, _⟩ :: _) _ _); refine wp_new _ rfl 24 rfl _ z24 ?_; intro wb1 g1 B1 F1; simp only [Act.put, List.setIfInBounds_toArray, List.set_cons_zero, List.set_cons_succ])
          | ((with_reducible show wpList _ _ _ (⟨none, .store 24 (.tmp 8) (.tmp 62), _, _, _, _⟩ :: _) _ _); refine wp_putAll _ rfl 24 (.tmp 8) (.tmp 62) rfl g1 24 _ (uC u.sch u.host u.port u.path u.q u.f) rfl rfl B1 rfl n24 (uC_one _ _ _ _ _ _) ?_; intro wc1 B U; simp only [Act.put]; have H3 := G1.new F1 U B; clear B U F1 B1 G1; have d1 : wc1.cell? ⟨g1, 1, none⟩ = some (.string (str u.host)) := (H3.at (x := (g1, uC u.sch u.host u.port u.path u.q u.f)) (by simp)).cell rfl; have d3 : wc1.cell? ⟨g1, 3, none⟩ = some (.string (str u.path)) := (H3.at (x := (g1, uC u.sch u.host u.port u.path u.q u.f)) (by simp)).cell rfl))
        go_ret
        exact ⟨by simp, H3.kp⟩
set_option maxHeartbeats 8000000 in
set_option maxRecDepth 100000 in
theorem hs_ok (u : U) (l s H X1 X O OU : List UInt8) (m S : Nat) (w : World) (hm : min (l.length : Int) 100 = (m : Int)) (hm2 : m ≤ l.length) (hts : (str l).extract 0 m = str s) (hsl : (str l).size = l.length) (hS : S = s.length) (hS2 : S ≤ 100) (HS : Hid (∀ w', Kept w w' → Calls Tryz.prog 13 #[] w' fun e w2 => e = .returned (.bool true) ∧ Below w'.heap.size w' w2)) (HP : (∀ c ∈ s, hby c = true) → Hid (∀ w', Kept w w' → Calls Tryz.prog 30 #[.string (str s)] w' fun e w2 => e = .returned (.tuple #[.string (str H), .int .i64 0]) ∧ Below w'.heap.size w' w2)) (HU : (∀ c ∈ s, hby c = true) → Hid (∀ w', Kept w w' → Calls Tryz.prog 14 #[.string (str X)] w' fun e w2 => e = .returned (.tuple #[.agg (uC u.sch u.host u.port u.path u.q u.f).toArray, .int .i64 0]) ∧ Below w'.heap.size w' w2)) (b1 : ⟨#[104, 116, 116, 112, 58, 47, 47]⟩ ++ str s = str X1) (b2 : str X1 ++ ⟨#[47, 120]⟩ = str X) (r2 : ¬ (9223372036854775807 : Nat) < (str X1).size + 2) (hh : ((str u.host).toList == (str H).toList) = true) (hpa : ((str u.path).toList == [47, 120]) = true) (HO : Hid (∀ w', Kept w w' → Calls Tryz.prog 21 #[uV u] w' fun e w2 => e = .returned (.string (str O)) ∧ Below w'.heap.size w' w2)) (b3 : ⟨#[104, 116, 116, 112, 58, 47, 47]⟩ ++ str H = str OU) (r3 : ¬ (9223372036854775807 : Nat) < 7 + (str H).size) (ho : ((str O).toList == (str OU).toList) = true) : Calls Tryz.prog 10 #[.string (str l)] w fun e w' => e = .returned (.bool true) ∧ Below w.heap.size w w' := by
    have hsz := str_size s
    have hgb : Hid (∀ k, k < S → ∀ h, ((str s)[k]'h).toNat = (s.getD k 0).toNat) := fun k hk h => str_at s k (by omega) h
    have hend : Hid ((∀ j, j < S → hby (s.getD j 0) = true) → ∀ c ∈ s, hby c = true) := fun h c hc => by
      obtain ⟨k, hk, e⟩ := List.getElem_of_mem hc
      have := h k (by omega)
      rw [List.getD_eq_getElem?_getD, List.getElem?_eq_getElem hk] at this
      rw [← e]
      exact this
    have HP0 := Lib.hid HP
    have HU0 := Lib.hid HU
    clear HP HU
    rw [← hS] at hsz
    clear hS
    go_enter Tryz.func10, Tryz.ntmps10
    go_wp2_with (first
      | (go_at_call 13; (with_reducible refine (HS.out _ (Hl.nil w).kp).mono ?_); (rintro e w1 ⟨rfl, hb⟩; have H0 := (Hl.nil w).step hb; clear hb)))
    go_loopw [4] (fun i wr => ∃ k : Nat, k ≤ S ∧ i = .int .i64 (k : Int) ∧ Hl w wr [] ∧ ∀ j, j < k → hby (s.getD j 0) = true) (fun i _ => S - (intOf i).toNat)
    case atStart => exact ⟨0, by omega, rfl, H0, fun j hj => absurd hj (Nat.not_lt_zero _)⟩
    case round =>
      obtain ⟨k, hk, rfl, H1, hj⟩ := hrel
      clear H0
      have HJ := Lib.hid hj
      clear hj
      by_cases hlt : k < S
      · have hkS : (k : Int) < (S : Int) := by omega
        have HG := hgb.out k hlt
        obtain ⟨c, hc⟩ : ∃ c, c = s.getD k 0 := ⟨_, rfl⟩
        rw [← hc] at HG
        have HC := Lib.hid hc
        have hby1 : hby c = (decide (32 < c.toNat) && decide (c.toNat ≠ 47) && decide (c.toNat ≠ 92) && decide (c.toNat ≠ 63) && decide (c.toNat ≠ 35) && decide (c.toNat ≠ 64) && decide (c.toNat ≠ 58)) := rfl
        obtain ⟨b, hb⟩ : ∃ b, b = c.toNat := ⟨_, rfl⟩
        rw [← hb] at HG hby1
        clear hc hb
        by_cases hc1 : b ≤ 32
        · have c1 : decide ((b : Int) ≤ 32) = true := by first | (simp; done) | (simp; omega) | (simp [hc1]; done)
          clear hby1 hc1
          go_wp2_with fail
          go_ret
          exact ⟨by simp, H1.kp⟩
        have c1 : decide ((b : Int) ≤ 32) = false := by first | (simp; done) | (simp; omega)
        by_cases hc2 : b = 47
        · have c2 : ((b : Int) == 47) = true := by first | (simp; done) | (simp; omega) | (simp [hc2]; done)
          clear hby1 hc1 hc2
          go_wp2_with fail
          go_ret
          exact ⟨by simp, H1.kp⟩
        have c2 : ((b : Int) == 47) = false := by first | (simp; done) | (simp; omega)
        by_cases hc3 : b = 92
        · have c3 : ((b : Int) == 92) = true := by first | (simp; done) | (simp; omega) | (simp [hc3]; done)
          clear hby1 hc1 hc2 hc3
          go_wp2_with fail
          go_ret
          exact ⟨by simp, H1.kp⟩
        have c3 : ((b : Int) == 92) = false := by first | (simp; done) | (simp; omega)
        by_cases hc4 : b = 63
        · have c4 : ((b : Int) == 63) = true := by first | (simp; done) | (simp; omega) | (simp [hc4]; done)
          clear hby1 hc1 hc2 hc3 hc4
          go_wp2_with fail
          go_ret
          exact ⟨by simp, H1.kp⟩
        have c4 : ((b : Int) == 63) = false := by first | (simp; done) | (simp; omega)
        by_cases hc5 : b = 35
        · have c5 : ((b : Int) == 35) = true := by first | (simp; done) | (simp; omega) | (simp [hc5]; done)
          clear hby1 hc1 hc2 hc3 hc4 hc5
          go_wp2_with fail
          go_ret
          exact ⟨by simp, H1.kp⟩
        have c5 : ((b : Int) == 35) = false := by first | (simp; done) | (simp; omega)
        by_cases hc6 : b = 64
        · have c6 : ((b : Int) == 64) = true := by first | (simp; done) | (simp; omega) | (simp [hc6]; done)
          clear hby1 hc1 hc2 hc3 hc4 hc5 hc6
          go_wp2_with fail
          go_ret
          exact ⟨by simp, H1.kp⟩
        have c6 : ((b : Int) == 64) = false := by first | (simp; done) | (simp; omega)
        by_cases hc7 : b = 58
        · have c7 : ((b : Int) == 58) = true := by first | (simp; done) | (simp; omega) | (simp [hc7]; done)
          clear hby1 hc1 hc2 hc3 hc4 hc5 hc6 hc7
          go_wp2_with fail
          go_ret
          exact ⟨by simp, H1.kp⟩
        have c7 : ((b : Int) == 58) = false := by first | (simp; done) | (simp; omega)
        have hok : Hid (hby c = true) := by
          show _ = _
          rw [hby1]
          simp only [Bool.and_eq_true, decide_eq_true_eq]
          omega
        clear hby1 hc1 hc2 hc3 hc4 hc5 hc6 hc7
        go_wp2_with fail
        go_roundw
        case rel =>
          refine ⟨k + 1, by omega, by go_num, H1, fun j hj => ?_⟩
          by_cases e : j = k
          · rw [e, ← HC.out]; exact hok.out
          · exact HJ.out j (by omega)
        case measure => simp [intOf]; omega
      · have hkS : ¬ (k : Int) < (S : Int) := by omega
        have hall := hend.out (fun j hj => HJ.out j (by omega))
        have HP := HP0.out hall
        have HU := HU0.out hall
        clear hall hlt HJ HP0 HU0 hend
        go_wp2_with (first
          | (go_at_call 30; (with_reducible refine (HP.out _ H1.kp).mono ?_); (rintro e w2 ⟨rfl, hb⟩; have H2 := H1.step hb; clear hb))
          | (go_at_call 14; (with_reducible refine (HU.out _ H2.kp).mono ?_); (rintro e wa1 ⟨rfl, hb⟩; have G1 := H2.step hb; clear hb))
          | ((with_reducible show wpList _ _ _ (⟨some 8, .alloc _, _, _, _, _⟩ :: _) _ _); refine wp_new _ rfl 24 rfl _ z24 ?_; intro wb1 g1 B1 F1; simp only [Act.put, List.setIfInBounds_toArray, List.set_cons_zero, List.set_cons_succ])
          | ((with_reducible show wpList _ _ _ (⟨none, .store 24 (.tmp 8) (.tmp 62), _, _, _, _⟩ :: _) _ _); refine wp_putAll _ rfl 24 (.tmp 8) (.tmp 62) rfl g1 24 _ (uC u.sch u.host u.port u.path u.q u.f) rfl rfl B1 rfl n24 (uC_one _ _ _ _ _ _) ?_; intro wc1 B U; simp only [Act.put]; have H3 := G1.new F1 U B; clear B U F1 B1 G1; have d1 : wc1.cell? ⟨g1, 1, none⟩ = some (.string (str u.host)) := (H3.at (x := (g1, uC u.sch u.host u.port u.path u.q u.f)) (by simp)).cell rfl; have d3 : wc1.cell? ⟨g1, 3, none⟩ = some (.string (str u.path)) := (H3.at (x := (g1, uC u.sch u.host u.port u.path u.q u.f)) (by simp)).cell rfl)
          | ((with_reducible show wpList _ _ _ (⟨some 84, .load 24 (.tmp 8), _, _, _, _⟩ :: _) _ _); refine wp_getU _ (by rfl) (.tmp 8) rfl g1 u rfl (H3.at (x := (g1, uC u.sch u.host u.port u.path u.q u.f)) (by simp)) ?_; simp only [Act.put, List.setIfInBounds_toArray, List.set_cons_zero, List.set_cons_succ])
          | (go_at_call 21; (with_reducible refine (HO.out _ H3.kp).mono ?_); (rintro e w5 ⟨rfl, hb⟩; have H4 := H3.step hb; clear hb)))
        go_ret
        exact ⟨by simp, H4.kp⟩
theorem hosts_any8 (l : List UInt8) (w : World) (ht : Tb w) : Calls Tryz.prog 10 #[.string (str l)] w fun e w' => e = .returned (.bool true) ∧ Below w.heap.size w w' := by
  have HS : Hid (∀ w', Kept w w' → Calls Tryz.prog 13 #[] w' fun e w2 => e = .returned (.bool true) ∧ Below w'.heap.size w' w2) := fun w' hk => shown_any w' (ht.kp hk)
  obtain ⟨m, hm, hm1, hm2⟩ : ∃ m : Nat, min (l.length : Int) 100 = (m : Int) ∧ m ≤ 100 ∧ m ≤ l.length := ⟨min l.length 100, by omega, by omega, by omega⟩
  have hts := str_take l m
  have hls : (l.take m).length ≤ 100 := by rw [List.length_take]; omega
  generalize l.take m = s at hts hls
  have hsl := str_size l
  have HP : ∀ w', Kept w w' → Calls Tryz.prog 30 #[.string (str s)] w' fun e w2 => e = .returned (prsV (prs s)) ∧ Below w'.heap.size w' w2 := fun w' _ => rparse_any s w' (by omega)
  have hXl : ([104, 116, 116, 112, 58, 47, 47] ++ s ++ [47, 120] : List UInt8).length ≤ 1000 := by simp only [List.length_append, List.length_cons, List.length_nil]; omega
  have HU : ∀ w', Kept w w' → Calls Tryz.prog 14 #[.string (str ([104, 116, 116, 112, 58, 47, 47] ++ s ++ [47, 120]))] w' fun e w2 => e = .returned (rU (prsU ([104, 116, 116, 112, 58, 47, 47] ++ s ++ [47, 120]))) ∧ Below w'.heap.size w' w2 := fun w' hk => url_any _ w' (by omega) (ht.kp hk)
  have hhu := host_url s
  have her := prs_err s
  have hpl : (prs s).1.length ≤ 100000 := prs_len s (prs s).1 (prs s).2 rfl (by omega)
  have hq : prs s = ((prs s).1, (prs s).2) := rfl
  obtain ⟨H, hH⟩ : ∃ H, H = (prs s).1 := ⟨_, rfl⟩
  obtain ⟨E, hE⟩ : ∃ H, H = (prs s).2 := ⟨_, rfl⟩
  rw [← hH, ← hE] at hhu her hq
  rw [← hH] at hpl
  rw [hq] at HP
  clear hH hE hq
  cases E with
  | true =>
    obtain rfl := her rfl
    exact hs_bad zU l s [] ([104, 116, 116, 112, 58, 47, 47] ++ s) ([104, 116, 116, 112, 58, 47, 47] ++ s ++ [47, 120]) m s.length w hm hm2 hts hsl rfl hls HS (fun _ => HP) (fun h w' hk => by
      have := HU w' hk
      rw [hhu h] at this
      exact this) (str_add [104, 116, 116, 112, 58, 47, 47] _) (str_add _ [47, 120]) (by rw [str_size, List.length_append]; simp only [List.length_cons, List.length_nil]; omega) (by simp [zU])
  | false =>
    have hub : Ub ⟨[104, 116, 116, 112], H, -1, [47, 120], [], []⟩ := ⟨Nat.le_of_ble_eq_true rfl, by show H.length ≤ _; omega, by show (-9223372036854775808 : Int) ≤ -1; decide, by show (-1 : Int) ≤ 9223372036854775807; decide, itoa_ub (-1) (by decide) (by decide), Nat.le_of_ble_eq_true rfl, Nat.le_of_ble_eq_true rfl, Nat.le_of_ble_eq_true rfl⟩
    have ho : org ⟨[104, 116, 116, 112], H, -1, [47, 120], [], []⟩ = [104, 116, 116, 112, 58, 47, 47] ++ H := by
      have h5 : spc [104, 116, 116, 112] = true := rfl
      have h4 : prtT (-1) = [] := rfl
      simp only [org, orgT, h5, if_true, h4, List.append_nil]
      rfl
    exact hs_ok ⟨[104, 116, 116, 112], H, -1, [47, 120], [], []⟩ l s H ([104, 116, 116, 112, 58, 47, 47] ++ s) ([104, 116, 116, 112, 58, 47, 47] ++ s ++ [47, 120]) (org ⟨[104, 116, 116, 112], H, -1, [47, 120], [], []⟩) ([104, 116, 116, 112, 58, 47, 47] ++ H) m s.length w hm hm2 hts hsl rfl hls HS (fun _ => HP) (fun h w' hk => by
      have := HU w' hk
      rw [hhu h] at this
      exact this) (str_add [104, 116, 116, 112, 58, 47, 47] _) (str_add _ [47, 120]) (by rw [str_size, List.length_append]; simp only [List.length_cons, List.length_nil]; omega) (by simp) (by rw [toList_str]; rfl) (fun w' hk => origin_any _ w' hub (ht.kp hk)) (str_add [104, 116, 116, 112, 58, 47, 47] _) (by rw [str_size]; omega) (by rw [toList_str, toList_str, ho]; simp)
end Go.Proofs.YtcepigekibidfaaGreatDoor
