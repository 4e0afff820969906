/-
  transeptref09.In, Strip, turned, Lower, Parts, strings.Trim, token.Parts. No condition.
-/
import Derived.Test.YtonchnmcklgpoaaGreatDoorLo
import Derived.Test.YtonchnmcklgpoaaGreatDoorShelf
namespace Go.Proofs.YtonchnmcklgpoaaGreatDoor
open Go.RowKit
set_option linter.unusedVariables false

set_option maxHeartbeats 4000000 in
set_option maxRecDepth 100000 in
theorem in_any (l : List UInt8) (c : UInt8) (w : World) (hl : l.length ≤ 9223372036854775807) : Calls Tryz.prog 43 #[.string (str l), vb c] w fun e w' => e = .returned (.bool (l.contains c)) ∧ w' = w := by
  have hsz := str_size l
  have hgb : Hid (∀ k, k < l.length → ∀ h, ((str l)[k]'h).toNat = (l.getD k 0).toNat) := fun k hk h => str_at l k hk h
  have hdr : Hid (∀ k, k < l.length → (l.drop k).contains c = (c == l.getD k 0 || (l.drop (k + 1)).contains c)) := fun k hk => by rw [drop_at l k hk, has_cons]
  have hend : Hid ((l.drop l.length).contains c = false) := by show _ = _; rw [List.drop_length]; rfl
  obtain ⟨R, hR⟩ : ∃ R, R = l.contains c := ⟨_, rfl⟩
  have HR := Lib.hid hR
  obtain ⟨S, hS⟩ : ∃ S, S = l.length := ⟨_, rfl⟩
  rw [← hR]
  rw [← hS] at hsz hgb hdr hend hl
  clear hS hR
  unfold vb
  obtain ⟨m, hm⟩ : ∃ m, m = c.toNat := ⟨_, rfl⟩
  have hmc := Lib.hid (uInj c m hm)
  rw [← hm]
  clear hm
  go_enter Tryz.func43, Tryz.ntmps43
  go_wp2_with fail
  go_loop [5] (fun i => ∃ k : Nat, k ≤ S ∧ i = .int .i64 (k : Int) ∧ (l.drop k).contains c = R) (fun i => S - (intOf i).toNat)
  case atStart => exact ⟨0, by omega, rfl, by rw [List.drop_zero]; exact HR.out.symm⟩
  case round =>
    obtain ⟨k, hk, rfl, hA⟩ := hrel
    have HA := Lib.hid hA
    clear hA
    by_cases hlt : k < S
    · have hkS : (k : Int) < (S : Int) := by omega
      have HG := hgb.out k hlt
      have HD := hdr.out k hlt
      obtain ⟨x, hx⟩ : ∃ x, x = l.getD k 0 := ⟨_, rfl⟩
      rw [← hx] at HG HD
      have hb := hmc.out x
      obtain ⟨b, hbb⟩ : ∃ b, b = x.toNat := ⟨_, rfl⟩
      rw [← hbb] at HG hb
      have HD := Lib.hid HD
      clear hx hbb
      by_cases he : b = m
      · have hc : ((b : Int) == (m : Int)) = true := by simp [he]
        have HX := Lib.hid (hb.1 he)
        clear hb he
        go_wp2_with fail
        go_ret
        refine ⟨?_, rfl⟩
        rw [← HA.out, HD.out, HX.out]
        simp
      · have hc : ((b : Int) == (m : Int)) = false := by simp; omega
        have HX : Hid ((c == x) = false) := by show _ = _; simp; exact fun e => he (hb.2 e.symm)
        clear hb he
        go_wp2_with fail
        go_round
        case rel => exact ⟨k + 1, by omega, by go_num, by rw [← HA.out, HD.out, HX.out]; rfl⟩
        case measure => simp [intOf]; omega
    · have hkS : ¬ (k : Int) < (S : Int) := by omega
      have hke : Hid (k = S) := by show _ = _; omega
      go_wp2_with fail
      go_ret
      refine ⟨?_, rfl⟩
      rw [← HA.out, hke.out, hend.out]
      rfl
theorem trim_any (l cs : List UInt8) (w : World) (hl : l.length ≤ 9223372036854775807) (hc : cs.length < 4294967281) (ha : ∀ b ∈ cs, b.toNat < 128) : Calls Tryz.prog 72 #[.string (str l), .string (str cs)] w fun e w' => e = .returned (.string (str (Lib.trimS l cs))) ∧ Below w.heap.size w w' :=
  Tryz.strings_Trim_laid (str l) (str cs) w (by rw [str_size]; exact hl) (by rw [str_size]; exact hc) (fun j b hb => ha b (List.mem_of_getElem? hb))
set_option maxHeartbeats 4000000 in
set_option maxRecDepth 100000 in
theorem strip_any (l cs : List UInt8) (w : World) (hl : l.length ≤ 9223372036854775807) (hcs : cs.length ≤ 9223372036854775807) : Calls Tryz.prog 59 #[.string (str l), .string (str cs)] w fun e w' => e = .returned (.string (str (Lib.trimS l cs))) ∧ w' = w := by
  have hsz := str_size l
  have hgb : Hid (∀ k, k < l.length → ∀ h, ((str l)[k]'h).toNat = (l.getD k 0).toNat) := fun k hk h => str_at l k hk h
  have hsub : Hid (∀ f k, f ≤ k → k ≤ l.length → (str l).extract f k = str ((l.drop f).take (k - f))) := fun f k _ _ => str_sub l f k
  have hat : Hid (∀ k, k < l.length → l[k]? = some (l.getD k 0)) := fun k hk => by rw [List.getD_eq_getElem?_getD, List.getElem?_eq_getElem hk]; rfl
  have hout : Hid (∀ k b, l[k]? = some b → k < l.length) := fun k b h => (List.getElem?_eq_some_iff.1 h).1
  have hin : Hid (∀ (x : UInt8) (w' : World), Calls Tryz.prog 43 #[.string (str cs), .int .u8 (x.toNat : Int)] w' fun e w2 => e = .returned (.bool (cs.contains x)) ∧ w2 = w') := fun x w' => in_any cs x w' hcs
  obtain ⟨S, hS⟩ : ∃ S, S = l.length := ⟨_, rfl⟩
  have HS := Lib.hid hS
  rw [← hS] at hsz hgb hl hsub hat hout
  have hnone : Hid (∀ (j : Nat) (b : UInt8), S ≤ j → l[j]? = some b → cs.contains b = true) := fun j b h1 h2 => absurd (hout.out j b h2) (by omega)
  clear hS
  go_enter Tryz.func59, Tryz.ntmps59
  go_wp2_with fail
  go_loop [5] (fun i => ∃ k : Nat, k ≤ S ∧ i = .int .i64 (k : Int) ∧ ∀ (j : Nat) (b : UInt8), j < k → l[j]? = some b → cs.contains b = true) (fun i => S - (intOf i).toNat)
  case atStart => exact ⟨0, by omega, rfl, fun j b h => absurd h (by omega)⟩
  case round =>
    obtain ⟨k, hk, rfl, hA⟩ := hrel
    have HF1 := Lib.hid hA
    clear hA
    by_cases hlt : k < S
    · have hkS : (k : Int) < (S : Int) := by omega
      have HG := hgb.out k hlt
      have HO := hat.out k hlt
      obtain ⟨x, hxx⟩ : ∃ x, x = l.getD k 0 := ⟨_, rfl⟩
      rw [← hxx] at HG HO
      have HI := hin.out x
      obtain ⟨b, hbb⟩ : ∃ b, b = x.toNat := ⟨_, rfl⟩
      rw [← hbb] at HG HI
      have HI := Lib.hid HI
      have HO := Lib.hid HO
      clear hxx hbb
      cases hc : cs.contains x
      · rw [hc] at HI
        have HF2 : Hid (∀ b, l[k]? = some b → cs.contains b = false) := fun y hy => by
          rw [HO.out] at hy
          obtain rfl := Option.some.inj hy
          exact hc
        clear hc
        go_wp2_with (go_at_call 43; (with_reducible refine (HI.out _).mono ?_); (rintro e w1 ⟨rfl, rfl⟩))
        have hFS : ((k : Nat) : Int) ≤ (S : Int) := by omega
        go_loop [6] (fun i => ∃ t : Nat, k ≤ t ∧ t ≤ S ∧ i = .int .i64 (t : Int) ∧ ∀ (j : Nat) (b : UInt8), t ≤ j → l[j]? = some b → cs.contains b = true) (fun i => (intOf i).toNat)
        case atStart => exact ⟨S, by omega, Nat.le_refl _, rfl, hnone.out⟩
        case round =>
          obtain ⟨t, hFt, htS, rfl, hP⟩ := hrel
          have HP := Lib.hid hP
          clear hP
          have hx := hsub.out k t hFt htS
          by_cases hgt : k < t
          · have hgi : ((k : Nat) : Int) < (t : Int) := by omega
            obtain ⟨t1, ht1⟩ : ∃ t1, t = t1 + 1 := ⟨t - 1, by omega⟩
            have hsb : (t : Int) - 1 = (t1 : Int) := by omega
            have hsw : IntKind.i64.wrap (t1 : Int) = (t1 : Int) := by rw [IntKind.wrap_i64]; omega
            have hlt1 : t1 < S := by omega
            have hlti : (t1 : Int) < (S : Int) := by omega
            have HG := hgb.out t1 hlt1
            have HO := hat.out t1 hlt1
            obtain ⟨x, hxx⟩ : ∃ x, x = l.getD t1 0 := ⟨_, rfl⟩
            rw [← hxx] at HG HO
            have HI := hin.out x
            obtain ⟨b, hbb⟩ : ∃ b, b = x.toNat := ⟨_, rfl⟩
            rw [← hbb] at HG HI
            have HI := Lib.hid HI
            have HO := Lib.hid HO
            have HT := Lib.hid ht1
            clear hxx hbb ht1
            cases hc : cs.contains x
            · rw [hc] at HI
              have HC := Lib.hid hc
              clear hc
              go_wp2_with (go_at_call 43; (with_reducible refine (HI.out _).mono ?_); (rintro e w1 ⟨rfl, rfl⟩))
              go_ret
              refine ⟨?_, rfl⟩
              rw [tS_at l cs k t hFt (by rw [← HS.out]; exact htS) HF1.out HF2.out HP.out (fun y _ hy => by
                rw [show t - 1 = t1 by have := HT.out; omega, HO.out] at hy
                obtain rfl := Option.some.inj hy
                exact HC.out)]
              all_goals rfl
            · rw [hc] at HI
              have HC := Lib.hid hc
              clear hc
              go_wp2_with (go_at_call 43; (with_reducible refine (HI.out _).mono ?_); (rintro e w1 ⟨rfl, rfl⟩))
              go_round
              case rel => exact ⟨t1, by omega, by omega, by go_num, fun j y hj hy => by
                by_cases e : j = t1
                · subst e
                  rw [HO.out] at hy
                  obtain rfl := Option.some.inj hy
                  exact HC.out
                · exact HP.out j y (by have := HT.out; omega) hy⟩
              case measure => simp [intOf]; have := HT.out; omega
          · have hgi : ¬ ((k : Nat) : Int) < (t : Int) := by omega
            have hle : ((k : Nat) : Int) ≤ (t : Int) := by omega
            have hti : (t : Int) ≤ (S : Int) := by omega
            have het : Hid (t = k) := by show _ = _; omega
            go_wp2_with fail
            go_ret
            refine ⟨?_, rfl⟩
            rw [tS_at l cs k t hFt (by rw [← HS.out]; exact htS) HF1.out HF2.out HP.out (fun y h _ => absurd h (by have := het.out; omega))]
            all_goals rfl
      · rw [hc] at HI
        have HC := Lib.hid hc
        clear hc
        go_wp2_with (go_at_call 43; (with_reducible refine (HI.out _).mono ?_); (rintro e w1 ⟨rfl, rfl⟩))
        go_round
        case rel => exact ⟨k + 1, by omega, by go_num, fun j y hj hy => by
          by_cases e : j = k
          · subst e
            rw [HO.out] at hy
            obtain rfl := Option.some.inj hy
            exact HC.out
          · exact HF1.out j y (by omega) hy⟩
        case measure => simp [intOf]; omega
    · have hkS : ¬ (k : Int) < (S : Int) := by omega
      have hke : Hid (k = S) := by show _ = _; omega
      have HF2 : Hid (∀ b, l[k]? = some b → cs.contains b = false) := fun y hy => absurd (hout.out k y hy) hlt
      have hFS : ((k : Nat) : Int) ≤ (S : Int) := by omega
      go_wp2_with fail
      go_loop [6] (fun i => ∃ t : Nat, k ≤ t ∧ t ≤ S ∧ i = .int .i64 (t : Int) ∧ ∀ (j : Nat) (b : UInt8), t ≤ j → l[j]? = some b → cs.contains b = true) (fun i => (intOf i).toNat)
      case atStart => exact ⟨S, by omega, Nat.le_refl _, rfl, hnone.out⟩
      case round =>
        obtain ⟨t, hFt, htS, rfl, hP⟩ := hrel
        have HP := Lib.hid hP
        clear hP
        have hx := hsub.out k t hFt htS
        by_cases hgt : k < t
        · have hgi : ((k : Nat) : Int) < (t : Int) := by omega
          obtain ⟨t1, ht1⟩ : ∃ t1, t = t1 + 1 := ⟨t - 1, by omega⟩
          have hsb : (t : Int) - 1 = (t1 : Int) := by omega
          have hsw : IntKind.i64.wrap (t1 : Int) = (t1 : Int) := by rw [IntKind.wrap_i64]; omega
          have hlt1 : t1 < S := by omega
          have hlti : (t1 : Int) < (S : Int) := by omega
          have HG := hgb.out t1 hlt1
          have HO := hat.out t1 hlt1
          obtain ⟨x, hxx⟩ : ∃ x, x = l.getD t1 0 := ⟨_, rfl⟩
          rw [← hxx] at HG HO
          have HI := hin.out x
          obtain ⟨b, hbb⟩ : ∃ b, b = x.toNat := ⟨_, rfl⟩
          rw [← hbb] at HG HI
          have HI := Lib.hid HI
          have HO := Lib.hid HO
          have HT := Lib.hid ht1
          clear hxx hbb ht1
          cases hc : cs.contains x
          · rw [hc] at HI
            have HC := Lib.hid hc
            clear hc
            go_wp2_with (go_at_call 43; (with_reducible refine (HI.out _).mono ?_); (rintro e w1 ⟨rfl, rfl⟩))
            go_ret
            refine ⟨?_, rfl⟩
            rw [tS_at l cs k t hFt (by rw [← HS.out]; exact htS) HF1.out HF2.out HP.out (fun y _ hy => by
              rw [show t - 1 = t1 by have := HT.out; omega, HO.out] at hy
              obtain rfl := Option.some.inj hy
              exact HC.out)]
            all_goals rfl
          · rw [hc] at HI
            have HC := Lib.hid hc
            clear hc
            go_wp2_with (go_at_call 43; (with_reducible refine (HI.out _).mono ?_); (rintro e w1 ⟨rfl, rfl⟩))
            go_round
            case rel => exact ⟨t1, by omega, by omega, by go_num, fun j y hj hy => by
              by_cases e : j = t1
              · subst e
                rw [HO.out] at hy
                obtain rfl := Option.some.inj hy
                exact HC.out
              · exact HP.out j y (by have := HT.out; omega) hy⟩
            case measure => simp [intOf]; have := HT.out; omega
        · have hgi : ¬ ((k : Nat) : Int) < (t : Int) := by omega
          have hle : ((k : Nat) : Int) ≤ (t : Int) := by omega
          have hti : (t : Int) ≤ (S : Int) := by omega
          have het : Hid (t = k) := by show _ = _; omega
          go_wp2_with fail
          go_ret
          refine ⟨?_, rfl⟩
          rw [tS_at l cs k t hFt (by rw [← HS.out]; exact htS) HF1.out HF2.out HP.out (fun y h _ => absurd h (by have := het.out; omega))]
          all_goals rfl
set_option maxHeartbeats 4000000 in
set_option maxRecDepth 100000 in
theorem turned65 (l : List UInt8) (w : World) (hl : l.length ≤ 9223372036854775807) : Calls Tryz.prog 35 #[.string (str l), .int .u8 65, .int .u8 32] w fun e w' => e = .returned (.string (str (l.map lwc))) ∧ Below w.heap.size w w' := by
  obtain ⟨cap, w1, hcv, hcap, hcap2, hwb, hb1⟩ := conv_bytes w l (by omega)
  obtain ⟨S, hS⟩ : ∃ S, S = l.length := ⟨_, rfl⟩
  obtain ⟨g, hg⟩ : ∃ g, g = w.heap.size := ⟨_, rfl⟩
  rw [← hg] at hcv hwb
  have HG : Hid (w.heap.size ≤ g) := by show _ ≤ _; omega
  obtain ⟨M, hM⟩ : ∃ M : Nat → List UInt8, M = fun k => (l.take k).map lwc ++ l.drop k := ⟨_, rfl⟩
  have HL : Hid (∀ k, (M k).length = S) := by rw [hM, hS]; exact mk_len lwc l
  have HA : Hid (∀ k, k < S → (M k).getD k 0 = l.getD k 0) := by rw [hM, hS]; exact mk_at lwc l
  have HN : Hid (∀ k, k < S → (M k).set k (lwc (l.getD k 0)) = M (k + 1)) := by rw [hM, hS]; exact mk_set lwc l
  have H0 : Hid (M 0 = l) := by show _ = _; rw [hM]; simp
  have HE : Hid (M S = l.map lwc) := by show _ = _; rw [hM, hS]; simp
  rw [← hS] at hcv hcap hl
  have hwb' := Lib.hid hwb
  have hb1' := Lib.hid hb1
  clear hM hS hg hwb hb1
  go_enter Tryz.func35, Tryz.ntmps35
  go_wp2_with fail
  go_loopw [8] (fun i wr => ∃ k : Nat, k ≤ S ∧ i = .int .i64 (k : Int) ∧ Wb wr g (M k) ∧ Kept w wr) (fun i _ => S - (intOf i).toNat)
  case atStart => exact ⟨0, by omega, rfl, by rw [H0.out]; exact hwb'.out, hb1'.out⟩
  case round =>
    obtain ⟨k, hk, rfl, hW, hkp⟩ := hrel
    by_cases hlt : k < S
    · have hkS : (k : Int) < (S : Int) := by omega
      have hkc : k < (M k).length := by rw [HL.out]; exact hlt
      have hcell := hW.cell hkc
      have hfz := hW.frozen hkc
      have hst := hW.set hkc (lwc (l.getD k 0))
      rw [HN.out k hlt] at hst
      rw [HA.out k hlt] at hcell
      obtain ⟨c, hc⟩ : ∃ c, c = l.getD k 0 := ⟨_, rfl⟩
      rw [← hc] at hcell hst
      have hsame : (M k).set k (lwc c) = M (k + 1) := by rw [hc]; exact HN.out k hlt
      have hid : (M k).set k c = M k := by
        have h1 := HA.out k hlt
        rw [← hc] at h1
        rw [← h1, List.getD_eq_getElem?_getD, List.getElem?_eq_getElem hkc]
        simp
      have hc256 : c.toNat < 256 := c.toNat_lt
      obtain ⟨m, hm⟩ : ∃ m, m = c.toNat := ⟨_, rfl⟩
      unfold vb at hcell
      rw [← hm] at hcell hc256
      have hwr : IntKind.u8.wrap 90 = 90 := by rfl
      by_cases h1 : 65 ≤ m ∧ m ≤ 90
      · have b1 : (65 : Int) ≤ (m : Int) := by omega
        have b2 : (m : Int) ≤ 90 := by omega
        obtain ⟨b, hbv⟩ : ∃ b, b = (c ^^^ 32).toNat := ⟨_, rfl⟩
        have hv : vb (lwc c) = .int .u8 (b : Int) := by rw [lwc_xor c (by rw [← hm]; exact h1), vb, hbv]
        have hx := xor32 c
        rw [← hm, ← hbv] at hx
        rw [hv] at hst
        have hst' := Lib.hid hst
        have hkp2 := Lib.hid (below_setCell hkp g k (.int .u8 (b : Int)) HG.out)
        clear hv hW hkp hsame hid hc hm hbv h1 hkc hc256 hst
        go_wp2_with fail
        go_roundw
        case rel => exact ⟨k + 1, by omega, by go_num, hst'.out, hkp2.out⟩
        case measure => simp [intOf]; omega
      · have hv : lwc c = c := by unfold lwc; rw [if_neg (by rw [← hm]; exact h1)]
        have hW2 : Hid (Wb wr g (M (k + 1))) := by
          show Wb _ _ _
          rw [← hsame, hv, hid]
          exact hW
        have hkp2 := Lib.hid hkp
        by_cases h2 : 65 ≤ m
        · have b1 : (65 : Int) ≤ (m : Int) := by omega
          have b2 : ¬ (m : Int) ≤ 90 := by omega
          clear hv hW hkp hsame hid hc hm h1 hkc hc256 hst hfz
          go_wp2_with fail
          go_roundw
          case rel => exact ⟨k + 1, by omega, by go_num, hW2.out, hkp2.out⟩
          case measure => simp [intOf]; omega
        · have b1 : ¬ (65 : Int) ≤ (m : Int) := by omega
          clear hv hW hkp hsame hid hc hm h1 hkc hc256 hst hfz
          go_wp2_with fail
          go_roundw
          case rel => exact ⟨k + 1, by omega, by go_num, hW2.out, hkp2.out⟩
          case measure => simp [intOf]; omega
    · have hkS : ¬ (k : Int) < (S : Int) := by omega
      have hk' : k = S := by omega
      have hbs := hW.bs
      rw [HL.out, hk', HE.out] at hbs
      have hkp2 := Lib.hid hkp
      have hbs' := Lib.hid hbs
      clear hW hkp hk' hlt hbs
      go_wp2_with ((with_reducible show wpList _ _ _ (⟨some 42, .convert _ _ _, _, _, _, _⟩ :: _) _ _); refine wp_str _ rfl (.tmp 41) rfl _ (some ⟨g, 0, none⟩) _ cap _ rfl hbs'.out ?_; simp only [Act.put, List.setIfInBounds_toArray, List.set_cons_zero, List.set_cons_succ])
      go_ret
      exact ⟨rfl, hkp2.out⟩
theorem rlower_any (l : List UInt8) (w : World) (hl : l.length ≤ 9223372036854775807) : Calls Tryz.prog 24 #[.string (str l)] w fun e w' => e = .returned (.string (str (low l))) ∧ Below w.heap.size w w' := by
  have H : Hid (∀ w', Calls Tryz.prog 35 #[.string (str l), .int .u8 65, .int .u8 32] w' fun e w2 => e = .returned (.string (str (low l))) ∧ Below w'.heap.size w' w2) := fun w' => turned65 l w' hl
  go_enter Tryz.func24, Tryz.ntmps24
  go_wp2_with (go_at_call 35; (with_reducible refine (H.out _).mono ?_); (rintro e w1 ⟨rfl, hb⟩))
  go_ret
  exact ⟨rfl, hb⟩
theorem pt_pos : ∀ (l : List UInt8) (q : Nat) (cur : List UInt8), 1 ≤ (pt l q cur).length
  | [], _, _ => by simp [pt]
  | c :: r, 0, cur => by
    have h1 := pt_pos r 1 (cur ++ [c])
    have h2 := pt_pos r 0 (cur ++ [c])
    simp only [pt]
    split
    · omega
    · split
      · simp
      · omega
  | c :: r, 1, cur => by
    have h1 := pt_pos r 2 (cur ++ [c])
    have h2 := pt_pos r 0 (cur ++ [c])
    have h3 := pt_pos r 1 (cur ++ [c])
    simp only [pt]
    split
    · omega
    · split <;> omega
  | c :: r, q + 2, cur => by
    simp only [pt]
    exact pt_pos r 1 (cur ++ [c])
theorem prts_pos (l : List UInt8) : 1 ≤ (prts l).length := pt_pos l 0 []
theorem Pi.size {l : List UInt8} {k st : Nat} {q : Bool} {ps : List (List UInt8)} (h : Pi l k st q ps) : ps.length ≤ (prts l).length := by
  rcases h.2 with ⟨_, _, h3⟩ | ⟨_, h3⟩ <;> rw [← h3, List.length_append] <;> omega
end Go.Proofs.YtonchnmcklgpoaaGreatDoor
