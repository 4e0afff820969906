/-
  What transeptref12.odd, plain and ranged answer. No condition but sizes.
-/
import Derived.Test.YtonchnmcklgpoaaGreatDoorZa
import Derived.BigQuiet
namespace Go.Proofs.YtonchnmcklgpoaaGreatDoor
open Go.RowKit
set_option linter.unusedVariables false

theorem lng_aln (c : UInt8) : lngB c = (aln c || lngL.contains c) := by
  refine u8_all (P := fun c => lngB c = (aln c || lngL.contains c)) ?_ c
  decide +kernel
theorem nmv_same (l : List UInt8) : nmv l 1000000000 = nmv l 999999999 := by
  by_cases h : dg l = true
  · have := (dg_nine h).2
    rw [nmv_yes l _ h, nmv_yes l _ h]
    omega
  · have h2 : dg l = false := by simpa using h
    rw [nmv_no l _ h2, nmv_no l _ h2]
set_option maxHeartbeats 4000000 in
set_option maxRecDepth 100000 in
theorem rodd_any (l : List UInt8) (w : World) (hl : l.length ≤ 9223372036854775807) : Calls Tryz.prog 25 #[.string (str l)] w fun e w' => e = .returned (.bool (!cln l)) ∧ w' = w := by
  have hsz := str_size l
  have hgb : Hid (∀ k, k < l.length → ∀ h, ((str l)[k]'h).toNat = (l.getD k 0).toNat) := fun k hk h => str_at l k hk h
  have HNo : Hid (∀ k, k < l.length → clnB (l.getD k 0) = false → l.all clnB = false) := fun k hk h => all_take_no _ l k hk h
  have HYes : Hid (∀ k, k < l.length → (l.take k).all clnB = true → clnB (l.getD k 0) = true → (l.take (k + 1)).all clnB = true) := fun k hk h h2 => all_take_yes _ l k hk h h2
  have HEnd : Hid ((l.take l.length).all clnB = true → l.all clnB = true) := fun h => by rw [List.take_length] at h; exact h
  obtain ⟨R, hR⟩ : ∃ R, R = l.all clnB := ⟨_, rfl⟩
  rw [← hR] at HNo HEnd
  have hA : (!cln l) = (!R) := by rw [hR]; rfl
  rw [hA]
  obtain ⟨S, hS⟩ : ∃ S, S = l.length := ⟨_, rfl⟩
  rw [← hS] at hsz hl hgb HNo HYes HEnd
  clear hA hR hS
  go_enter Tryz.func25, Tryz.ntmps25
  go_wp2_with fail
  go_loop [3] (fun i => ∃ k : Nat, k ≤ S ∧ i = .int .i64 (k : Int) ∧ (l.take k).all clnB = true) (fun i => S - (intOf i).toNat)
  case atStart => exact ⟨0, by omega, rfl, rfl⟩
  case round =>
    obtain ⟨k, hk, rfl, hA⟩ := hrel
    have HA := Lib.hid hA
    clear hA
    by_cases hlt : k < S
    · have hkS : (k : Int) < (S : Int) := by omega
      have hGk := hgb.out k hlt
      have HNk := Lib.hid (HNo.out k hlt)
      have HYk := Lib.hid (HYes.out k hlt HA.out)
      obtain ⟨x, hx⟩ : ∃ x, x = l.getD k 0 := ⟨_, rfl⟩
      rw [← hx] at hGk HNk HYk
      have HIn : Hid (∀ w', Calls Tryz.prog 43 #[.string ⟨#[34, 40, 41, 58, 60, 62, 63, 64, 91, 92, 93, 123, 125]⟩, .int .u8 (x.toNat : Int)] w' fun e w2 => e = .returned (.bool (oddL.contains x)) ∧ w2 = w') := fun w' => in_any oddL x w' (by decide)
      obtain ⟨m, hm⟩ : ∃ m, m = x.toNat := ⟨_, rfl⟩
      have hO := odd_at x m hm
      rw [← hm] at hGk HIn
      have hcl : clnB x = !oddB x := rfl
      rw [hcl] at HNk HYk
      generalize oddL.contains x = I at *
      clear hx hm hcl
      rcases (by omega : (m < 32 ∧ m ≠ 9) ∨ m = 9 ∨ (32 ≤ m ∧ m ≠ 127) ∨ m = 127) with h | h | h | h
      · skip
        have l32 : (decide ((m : Int) < 32)) = true := by simp; omega
        have n9 : ((m : Int) != 9) = true := by simp; omega
        have e127 : ((m : Int) == 127) = false := by simp; omega
        rw [show ((decide (m < 32) && !decide (m = 9)) || decide (m = 127)) = true from by simp; omega] at hO
        clear h
        rw [Bool.true_or] at hO
        have HD := Lib.hid (HNk.out (by rw [hO]; rfl))
        clear hO
        go_wp2_with fail
        go_ret
        rw [HD.out]
        exact ⟨rfl, rfl⟩
      · skip
        have l32 : (decide ((m : Int) < 32)) = true := by simp; omega
        have n9 : ((m : Int) != 9) = false := by simp; omega
        have e127 : ((m : Int) == 127) = false := by simp; omega
        rw [show ((decide (m < 32) && !decide (m = 9)) || decide (m = 127)) = false from by simp; omega] at hO
        clear h
        rw [Bool.false_or] at hO
        cases I
        · have HD := Lib.hid (HYk.out (by rw [hO]; rfl))
          clear hO
          go_wp2_with (first | (go_at_call 43; (with_reducible refine (HIn.out _).mono ?_); (rintro e w1 ⟨rfl, hq⟩); subst w1))
          go_round
          case rel => exact ⟨k + 1, by omega, by go_num, HD.out⟩
          case measure => simp [intOf]; omega
        · have HD := Lib.hid (HNk.out (by rw [hO]; rfl))
          clear hO
          go_wp2_with (first | (go_at_call 43; (with_reducible refine (HIn.out _).mono ?_); (rintro e w1 ⟨rfl, hq⟩); subst w1))
          go_ret
          rw [HD.out]
          exact ⟨rfl, rfl⟩
      · skip
        have l32 : (decide ((m : Int) < 32)) = false := by simp; omega
        have n9 : ((m : Int) != 9) = true := by simp; omega
        have e127 : ((m : Int) == 127) = false := by simp; omega
        rw [show ((decide (m < 32) && !decide (m = 9)) || decide (m = 127)) = false from by simp; omega] at hO
        clear h
        rw [Bool.false_or] at hO
        cases I
        · have HD := Lib.hid (HYk.out (by rw [hO]; rfl))
          clear hO
          go_wp2_with (first | (go_at_call 43; (with_reducible refine (HIn.out _).mono ?_); (rintro e w1 ⟨rfl, hq⟩); subst w1))
          go_round
          case rel => exact ⟨k + 1, by omega, by go_num, HD.out⟩
          case measure => simp [intOf]; omega
        · have HD := Lib.hid (HNk.out (by rw [hO]; rfl))
          clear hO
          go_wp2_with (first | (go_at_call 43; (with_reducible refine (HIn.out _).mono ?_); (rintro e w1 ⟨rfl, hq⟩); subst w1))
          go_ret
          rw [HD.out]
          exact ⟨rfl, rfl⟩
      · skip
        have l32 : (decide ((m : Int) < 32)) = false := by simp; omega
        have n9 : ((m : Int) != 9) = true := by simp; omega
        have e127 : ((m : Int) == 127) = true := by simp; omega
        rw [show ((decide (m < 32) && !decide (m = 9)) || decide (m = 127)) = true from by simp; omega] at hO
        clear h
        rw [Bool.true_or] at hO
        have HD := Lib.hid (HNk.out (by rw [hO]; rfl))
        clear hO
        go_wp2_with fail
        go_ret
        rw [HD.out]
        exact ⟨rfl, rfl⟩
    · have hkS : ¬ (k : Int) < (S : Int) := by omega
      have hke : k = S := by omega
      subst hke
      have HD := Lib.hid (HEnd.out HA.out)
      go_wp2_with fail
      go_ret
      rw [HD.out]
      exact ⟨rfl, rfl⟩
set_option maxHeartbeats 4000000 in
set_option maxRecDepth 100000 in
theorem rplain_any (l : List UInt8) (w : World) (hl : l.length ≤ 9223372036854775807) : Calls Tryz.prog 26 #[.string (str l)] w fun e w' => e = .returned (.bool (lng l)) ∧ w' = w := by
  have hsz := str_size l
  have hgb : Hid (∀ k, k < l.length → ∀ h, ((str l)[k]'h).toNat = (l.getD k 0).toNat) := fun k hk h => str_at l k hk h
  have HNo : Hid (∀ k, k < l.length → lngB (l.getD k 0) = false → l.all lngB = false) := fun k hk h => all_take_no _ l k hk h
  have HYes : Hid (∀ k, k < l.length → (l.take k).all lngB = true → lngB (l.getD k 0) = true → (l.take (k + 1)).all lngB = true) := fun k hk h h2 => all_take_yes _ l k hk h h2
  have HEnd : Hid ((l.take l.length).all lngB = true → l.all lngB = true) := fun h => by rw [List.take_length] at h; exact h
  obtain ⟨R, hR⟩ : ∃ R, R = l.all lngB := ⟨_, rfl⟩
  rw [← hR] at HNo HEnd
  have hA : (lng l) = (R) := by rw [hR]; rfl
  rw [hA]
  obtain ⟨S, hS⟩ : ∃ S, S = l.length := ⟨_, rfl⟩
  rw [← hS] at hsz hl hgb HNo HYes HEnd
  clear hA hR hS
  go_enter Tryz.func26, Tryz.ntmps26
  go_wp2_with fail
  go_loop [3] (fun i => ∃ k : Nat, k ≤ S ∧ i = .int .i64 (k : Int) ∧ (l.take k).all lngB = true) (fun i => S - (intOf i).toNat)
  case atStart => exact ⟨0, by omega, rfl, rfl⟩
  case round =>
    obtain ⟨k, hk, rfl, hA⟩ := hrel
    have HA := Lib.hid hA
    clear hA
    by_cases hlt : k < S
    · have hkS : (k : Int) < (S : Int) := by omega
      have hGk := hgb.out k hlt
      have HNk := Lib.hid (HNo.out k hlt)
      have HYk := Lib.hid (HYes.out k hlt HA.out)
      obtain ⟨x, hx⟩ : ∃ x, x = l.getD k 0 := ⟨_, rfl⟩
      rw [← hx] at hGk HNk HYk
      have HIn : Hid (∀ w', Calls Tryz.prog 43 #[.string ⟨#[42, 45, 46, 59, 61, 44, 32]⟩, .int .u8 (x.toNat : Int)] w' fun e w2 => e = .returned (.bool (lngL.contains x)) ∧ w2 = w') := fun w' => in_any lngL x w' (by decide)
      have HAl : Hid (∀ w', Calls Tryz.prog 44 #[.int .u8 (x.toNat : Int)] w' fun e w2 => e = .returned (.bool (aln x)) ∧ w2 = w') := fun w' => aln_any x w'
      obtain ⟨m, hm⟩ : ∃ m, m = x.toNat := ⟨_, rfl⟩
      have hO := lng_aln x
      rw [← hm] at hGk HIn HAl
      generalize lngL.contains x = I at *
      generalize aln x = J at *
      clear hx hm
      cases J
      · rw [Bool.false_or] at hO
        cases I
        · have HD := Lib.hid (HNk.out hO)
          clear hO
          go_wp2_with (first | (go_at_call 44; (with_reducible refine (HAl.out _).mono ?_); (rintro e w2 ⟨rfl, hq⟩); subst w2) | (go_at_call 43; (with_reducible refine (HIn.out _).mono ?_); (rintro e w1 ⟨rfl, hq⟩); subst w1))
          go_ret
          rw [HD.out]
          exact ⟨rfl, rfl⟩
        · have HD := Lib.hid (HYk.out hO)
          clear hO
          go_wp2_with (first | (go_at_call 44; (with_reducible refine (HAl.out _).mono ?_); (rintro e w2 ⟨rfl, hq⟩); subst w2) | (go_at_call 43; (with_reducible refine (HIn.out _).mono ?_); (rintro e w1 ⟨rfl, hq⟩); subst w1))
          go_round
          case rel => exact ⟨k + 1, by omega, by go_num, HD.out⟩
          case measure => simp [intOf]; omega
      · rw [Bool.true_or] at hO
        have HD := Lib.hid (HYk.out hO)
        clear hO
        go_wp2_with (first | (go_at_call 44; (with_reducible refine (HAl.out _).mono ?_); (rintro e w2 ⟨rfl, hq⟩); subst w2))
        go_round
        case rel => exact ⟨k + 1, by omega, by go_num, HD.out⟩
        case measure => simp [intOf]; omega
    · have hkS : ¬ (k : Int) < (S : Int) := by omega
      have hke : k = S := by omega
      subst hke
      have HD := Lib.hid (HEnd.out HA.out)
      go_wp2_with fail
      go_ret
      rw [HD.out]
      exact ⟨rfl, rfl⟩
set_option maxHeartbeats 4000000 in
set_option maxRecDepth 100000 in
theorem ranged_any (v : List UInt8) (w : World) (hl : v.length ≤ 4611686018427387904) : Calls Tryz.prog 28 #[.string (str v)] w fun e w' => e = .returned (.bool (rgB v)) ∧ w' = w := by
  have hsz := str_size v
  have hu : unitL.length = 6 := rfl
  have HR : Hid (rgB v = (pre v unitL && (rst v unitL).contains 45 && dg (rg1 v) && (decide (rg2 v = []) || (dg (rg2 v) && decide (nmv (rg1 v) 999999999 ≤ nmv (rg2 v) 999999999))))) := rfl
  have HT := str_take v 6
  have HE := eq_lit (v.take 6) [98, 121, 116, 101, 115, 61]
  have HNo : Hid (pre v unitL = false → rgB v = false) := fun h => by show _ = _; rw [HR.out, h]; rfl
  rcases (by omega : v.length < 6 ∨ 6 ≤ v.length) with h6 | h6
  · have hp : pre v unitL = false := by
      rw [pre, hu, decide_eq_false (by omega), Bool.false_and]
    have HF := Lib.hid (HNo.out hp)
    obtain ⟨S, hS⟩ : ∃ S, S = v.length := ⟨_, rfl⟩
    rw [← hS] at hsz h6
    have h7 : decide ((S : Int) < 6) = true := by simp; omega
    have h8 : (S : Int) < 6 := by omega
    rw [HF.out]
    clear hp HR HNo hS HT HE
    go_enter Tryz.func28, Tryz.ntmps28
    go_wp2_with fail
    go_ret
    exact ⟨rfl, rfl⟩
  · by_cases hp2 : v.take 6 = unitL
    · have hp : pre v unitL = true := by
        rw [pre, hu, decide_eq_true (by omega), Bool.true_and]
        exact decide_eq_true hp2
      have hr : rst v unitL = v.drop 6 := by rw [rst, if_pos hp, hu]
      have hX := str_drop v 6 v.length rfl h6
      have hrg1 : rg1 v = bef 45 (v.drop 6) := by rw [rg1, hr]
      have hrg2 : rg2 v = aft 45 (v.drop 6) := by rw [rg2, hr]
      rw [hp, hr, hrg1, hrg2, Bool.true_and] at HR
      rw [show decide (v.take 6 = [98, 121, 116, 101, 115, 61]) = true from decide_eq_true hp2] at HE
      have hTl : (v.drop 6).length = v.length - 6 := List.length_drop
      generalize v.drop 6 = T at *
      obtain ⟨S, hS⟩ : ∃ S, S = v.length := ⟨_, rfl⟩
      rw [← hS] at hsz hl h6 hX hTl
      obtain ⟨U, hU⟩ : ∃ U, U = T.length := ⟨_, rfl⟩
      rw [← hU] at hTl
      have hsT : (str T).size = U := by rw [str_size, hU]
      have hgb : Hid (∀ k, k < U → ∀ h, ((str T)[k]'h).toNat = (T.getD k 0).toNat) := fun k hk h => str_at T k (by omega) h
      have hat : Hid (∀ k, k < U → T[k]? = some (T.getD k 0)) := fun k hk => by rw [List.getD_eq_getElem?_getD, List.getElem?_eq_getElem (by omega)]; rfl
      have hx1 : Hid (∀ k, (str T).extract 0 k = str (T.take k)) := fun k => str_take T k
      have hx2 : Hid (∀ j, j ≤ U → (str T).extract j U = str (T.drop j)) := fun j h => str_drop T j U hU h
      have hxe : Hid (∀ i, i < U → ((T.drop (i + 1) = []) ↔ i + 1 = U)) := fun i hi => by
        rw [List.drop_eq_nil_iff]; omega
      have Hno : Hid ((∀ k b, k < U → T[k]? = some b → b ≠ 45) → rgB v = false) := fun h => by
        show _ = _
        have h2 : (45 : UInt8) ∉ T := fun e => by
          obtain ⟨k, hk, e⟩ := List.mem_iff_getElem.1 e
          exact h k 45 (by omega) (by rw [List.getElem?_eq_getElem hk, e]) rfl
        rw [HR.out, show T.contains 45 = false by simpa using h2]
        rfl
      have Hyes : Hid (∀ i, T[i]? = some 45 → (∀ k b, k < i → T[k]? = some b → b ≠ 45) → rgB v = (dg (T.take i) && (decide (T.drop (i + 1) = []) || (dg (T.drop (i + 1)) && decide (nmv (T.take i) 1000000000 ≤ nmv (T.drop (i + 1)) 1000000000))))) := fun i h1 h2 => by
        show _ = _
        obtain ⟨h3, h4⟩ := bef_at 45 T i h1 fun k hk e => h2 k 45 hk e rfl
        rw [HR.out, h3, h4, nmv_same, nmv_same, show T.contains 45 = true by simpa using List.mem_of_getElem? h1, Bool.true_and]
      have HNu : Hid (∀ (X : List UInt8) w', Calls Tryz.prog 48 #[.string (str X), .int .i64 1000000000] w' fun e w2 => e = .returned (.tuple #[.int .i64 (nmv X 1000000000), .bool (dg X)]) ∧ w2 = w') := fun X w' => rnumber_any X 1000000000 w'
      have h7 : decide ((S : Int) < 6) = false := by simp; omega
      have h8 : ¬ (S : Int) < 6 := by omega
      have h9 : (6 : Int) ≤ (S : Int) := by omega
      obtain ⟨RB, hRB⟩ : ∃ R, R = rgB v := ⟨_, rfl⟩
      rw [← hRB] at Hno Hyes ⊢
      generalize v.take 6 = T6 at *
      have HE2 : ((str T6).toList != [98, 121, 116, 101, 115, 61]) = false := by rw [bne, HE]; rfl
      have hul : U ≤ 4611686018427387904 := by omega
      clear HR HNo hp hp2 hr hrg1 hrg2 hS hU hTl hRB
      go_enter Tryz.func28, Tryz.ntmps28
      go_wp2_with fail
      go_loop [3] (fun i => ∃ k : Nat, k ≤ U ∧ i = .int .i64 (k : Int) ∧ ∀ j b, j < k → T[j]? = some b → b ≠ 45) (fun i => U - (intOf i).toNat)
      case atStart => exact ⟨0, by omega, rfl, fun j b h => absurd h (by omega)⟩
      case round =>
        obtain ⟨k, hk, rfl, hA⟩ := hrel
        have HA := Lib.hid hA
        clear hA
        by_cases hlt : k < U
        · have hkS : (k : Int) < (U : Int) := by omega
          have HG := hgb.out k hlt
          have HO := Lib.hid (hat.out k hlt)
          obtain ⟨x, hxx⟩ : ∃ x, x = T.getD k 0 := ⟨_, rfl⟩
          rw [← hxx] at HG HO
          obtain ⟨b, hbb⟩ : ∃ b, b = x.toNat := ⟨_, rfl⟩
          have hb45 : x = 45 ↔ b = 45 := by rw [hbb]; exact ⟨fun e => by rw [e]; rfl, fun e => UInt8.toNat_inj.1 e⟩
          have Hb := Lib.hid hb45
          rw [← hbb] at HG
          clear hxx hbb hb45
          by_cases he : b = 45
          · have hc : ((b : Int) == 45) = true := by simp [he]
            have HX := Lib.hid (Hb.out.2 he)
            have HY := Lib.hid (Hyes.out k (HX.out ▸ HO.out) HA.out)
            have hxe2 := hxe.out k hlt
            clear he
            obtain ⟨j, hj⟩ : ∃ j, j = k + 1 := ⟨_, rfl⟩
            rw [← hj] at HY hxe2
            have x1 := hx1.out k
            have x2 := hx2.out j (by omega)
            have x3 : (k : Int) + 1 = (j : Int) := by omega
            have x4 : IntKind.i64.wrap (j : Int) = (j : Int) := by rw [IntKind.wrap_i64]; omega
            have x5 : (0 : Int) ≤ (k : Int) := by omega
            have x6 : (k : Int) ≤ (U : Int) := by omega
            have x7 : (j : Int) ≤ (U : Int) := by omega
            have x8 : (0 : Int) ≤ (j : Int) := by omega
            have N1 := Lib.hid (HNu.out (T.take k))
            have N2 := Lib.hid (HNu.out (T.drop j))
            generalize T.take k = X1 at *
            generalize T.drop j = X2 at *
            generalize nmv X1 1000000000 = n1 at *
            generalize nmv X2 1000000000 = n2 at *
            generalize dg X1 = D1 at *
            generalize dg X2 = D2 at *
            have hxe3 : decide (X2 = []) = decide (j = U) := by simp [hxe2]
            rw [hxe3] at HY
            clear hxe2 hxe3 hj hlt
            cases D1
            · skip
              go_wp2_with (first | (go_at_call 48; (with_reducible refine (N1.out _).mono ?_); (rintro e w1 ⟨rfl, hq⟩); subst w1; clear N1) | (go_at_call 48; (with_reducible refine (N2.out _).mono ?_); (rintro e w2 ⟨rfl, hq⟩); subst w2; clear N2))
              go_ret
              rw [HY.out]
              exact ⟨rfl, rfl⟩
            · by_cases hju : j = U
              · have y1 : ((j : Int) == (U : Int)) = true := by simp [hju]
                rw [decide_eq_true hju] at HY
                clear hju
                go_wp2_with (first | (go_at_call 48; (with_reducible refine (N1.out _).mono ?_); (rintro e w1 ⟨rfl, hq⟩); subst w1; clear N1) | (go_at_call 48; (with_reducible refine (N2.out _).mono ?_); (rintro e w2 ⟨rfl, hq⟩); subst w2; clear N2))
                go_ret
                rw [HY.out]
                exact ⟨rfl, rfl⟩
              · have y1 : ((j : Int) == (U : Int)) = false := by simp; omega
                rw [decide_eq_false hju] at HY
                clear hju
                cases D2
                · skip
                  go_wp2_with (first | (go_at_call 48; (with_reducible refine (N1.out _).mono ?_); (rintro e w1 ⟨rfl, hq⟩); subst w1; clear N1) | (go_at_call 48; (with_reducible refine (N2.out _).mono ?_); (rintro e w2 ⟨rfl, hq⟩); subst w2; clear N2))
                  go_ret
                  rw [HY.out]
                  exact ⟨rfl, rfl⟩
                · by_cases hle : n1 ≤ n2
                  · have y2 : decide (n1 ≤ n2) = true := decide_eq_true hle
                    rw [y2] at HY
                    go_wp2_with (first | (go_at_call 48; (with_reducible refine (N1.out _).mono ?_); (rintro e w1 ⟨rfl, hq⟩); subst w1; clear N1) | (go_at_call 48; (with_reducible refine (N2.out _).mono ?_); (rintro e w2 ⟨rfl, hq⟩); subst w2; clear N2))
                    go_ret
                    rw [HY.out]
                    exact ⟨rfl, rfl⟩
                  · have y2 : decide (n1 ≤ n2) = false := decide_eq_false hle
                    rw [y2] at HY
                    go_wp2_with (first | (go_at_call 48; (with_reducible refine (N1.out _).mono ?_); (rintro e w1 ⟨rfl, hq⟩); subst w1; clear N1) | (go_at_call 48; (with_reducible refine (N2.out _).mono ?_); (rintro e w2 ⟨rfl, hq⟩); subst w2; clear N2))
                    go_ret
                    rw [HY.out]
                    exact ⟨rfl, rfl⟩
          · have hc : ((b : Int) == 45) = false := by simp; omega
            have HX : Hid (x ≠ 45) := fun e => he (Hb.out.1 e)
            clear he
            go_wp2_with fail
            go_round
            case rel => exact ⟨k + 1, by omega, by go_num, fun j y hj hy => by
              by_cases e : j = k
              · subst e
                rw [HO.out] at hy
                obtain rfl := Option.some.inj hy
                exact HX.out
              · exact HA.out j y (by omega) hy⟩
            case measure => simp [intOf]; omega
        · have hkS : ¬ (k : Int) < (U : Int) := by omega
          have hke : Hid (k = U) := by show _ = _; omega
          have HY := Lib.hid (Hno.out fun j b hj hb => HA.out j b (by rw [hke.out]; exact hj) hb)
          go_wp2_with fail
          go_ret
          rw [HY.out]
          exact ⟨rfl, rfl⟩
    · have hp : pre v unitL = false := by
        rw [pre, hu, decide_eq_true (by omega), Bool.true_and]
        exact decide_eq_false hp2
      have HF := Lib.hid (HNo.out hp)
      rw [show decide (v.take 6 = [98, 121, 116, 101, 115, 61]) = false from decide_eq_false hp2] at HE
      obtain ⟨S, hS⟩ : ∃ S, S = v.length := ⟨_, rfl⟩
      rw [← hS] at hsz h6
      generalize v.take 6 = T6 at *
      have HE2 : ((str T6).toList != [98, 121, 116, 101, 115, 61]) = true := by rw [bne, HE]; rfl
      have h7 : decide ((S : Int) < 6) = false := by simp; omega
      have h8 : ¬ (S : Int) < 6 := by omega
      have h9 : (6 : Int) ≤ (S : Int) := by omega
      rw [HF.out]
      clear hp HR HNo hS hp2
      go_enter Tryz.func28, Tryz.ntmps28
      go_wp2_with fail
      go_ret
      exact ⟨rfl, rfl⟩
end Go.Proofs.YtonchnmcklgpoaaGreatDoor
