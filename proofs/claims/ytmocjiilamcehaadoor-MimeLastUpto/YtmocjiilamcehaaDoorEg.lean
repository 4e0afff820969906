/-
  What transeptlaw11.MimeLast answers: true; nothing that was there turns. Condition: texts of at most 1048576 bytes.
-/
import Derived.Test.YtmocjiilamcehaaDoorEf
namespace Go.Proofs.YtmocjiilamcehaaDoor
open Go.RowKit
set_option linter.unusedVariables false

theorem nq_jn (fs : List (List UInt8 × List UInt8)) (h : ∀ f ∈ fs, (34 : UInt8) ∉ f.2) (nm : List UInt8) : (34 : UInt8) ∉ jn (vals fs nm) := by
  intro e
  rcases jn_mem _ _ e with ⟨x, hx, h34⟩ | h1 | h1
  · obtain ⟨f, hf, rfl⟩ := vl_mem hx
    exact h f hf h34
  · cases h1
  · cases h1
theorem spt_snoc (fs : List (List UInt8 × List UInt8)) (n v : List UInt8) (hq : ∀ f ∈ fs, (34 : UInt8) ∉ f.2) (h1 : (34 : UInt8) ∉ v) (h2 : (44 : UInt8) ∉ v) (hn : low n = low ctn) : spt (fs ++ [(n, v)]) ctn = spt fs ctn ++ [tg v] := by
  have e : vals (fs ++ [(n, v)]) ctn = vals fs ctn ++ [v] := by rw [vals_app, vals, vals, vl_one, if_pos hn]
  have e2 : vals (fs ++ [(n, v)]) ctn ≠ [] := by rw [e]; simp
  rw [spt_yes _ _ e2, e]
  by_cases h : vals fs ctn = []
  · rw [h, spt_no fs ctn h, List.nil_append, List.nil_append, jn_one]
    show pt v 0 [] = _
    rw [pt_one v [] h1 h2]
    rfl
  · rw [spt_yes fs ctn h, jn_snoc _ _ h]
    exact prts_snoc _ _ (nq_jn fs hq ctn) h1 h2
/-- The name, in large and small letters. -/
def CTU : List UInt8 := [67, 79, 78, 84, 69, 78, 84, 45, 116, 121, 112, 101]
theorem ctu_low : low CTU = low ctn := by decide
theorem of_snoc (fs : List (List UInt8 × List UInt8)) (n v : List UInt8) (hq : ∀ f ∈ fs, (34 : UInt8) ∉ f.2) (h : qtd v = false) (hn : low n = low ctn) : ofS (spt (fs ++ [(n, v)]) ctn) = (if gd v then esS v else ofS (spt fs ctn)) ∧ ofB (spt (fs ++ [(n, v)]) ctn) = (ofB (spt fs ctn) || gd v) := by
  obtain ⟨h2, h1⟩ := (qtd_no v).1 h
  rw [spt_snoc fs n v hq h1 h2 hn, ofS_snoc, ofB_snoc, gd_tg, (es_tg v).2]
  exact ⟨rfl, rfl⟩
set_option maxHeartbeats 8000000 in
set_option maxRecDepth 100000 in
theorem last_any (fs : List (List UInt8 × List UInt8)) (A : Option Addr) (n c : Nat) (S M : List UInt8) (w : World) (hf : Fs w w.heap.size A n fs) (hc : n ≤ c) (hc2 : c ≤ 9223372036854775807)
    (hN : ∀ f ∈ fs, f.1.length ≤ 1048576 ∧ f.2.length ≤ 1048576) (hS : S.length ≤ 1048576) (hM : M.length ≤ 1048576) : Calls Tryd.prog 5 #[.slice A n c, .string (str S), .string (str M)] w fun e w' => e = .returned (.bool true) ∧ Below w.heap.size w w' := by
  have HS : Hid (∀ w', Calls Tryd.prog 7 #[] w' fun e w2 => e = .returned (.bool true) ∧ Below w'.heap.size w' w2) := fun w' => shown_any w'
  obtain ⟨k, hk, hkn, hk50⟩ : ∃ k : Nat, min (n : Int) 50 = (k : Int) ∧ k ≤ n ∧ k ≤ 50 := ⟨min n 50, by omega, by omega, by omega⟩
  have hkc : (k : Int) ≤ (c : Int) := by omega
  obtain ⟨L, hL⟩ : ∃ L, L = fs.take k := ⟨_, rfl⟩
  have hF0 := hf.take k hkn
  rw [← hL] at hF0
  have HF0 := Lib.hid hF0
  have hLk : L.length = k := hF0.1
  have hLN : ∀ f ∈ L, f.1.length ≤ 1048576 ∧ f.2.length ≤ 1048576 := fun f h => hN f (List.mem_of_mem_take (hL ▸ h))
  have big : ∀ {Z : List (List UInt8 × List UInt8)}, (∀ f ∈ Z, f.1.length ≤ 1048576 ∧ f.2.length ≤ 1048576) → ∀ f ∈ Z, f.1.length ≤ 9223372036854775807 ∧ f.2.length ≤ 9223372036854775807 := fun h f hf => ⟨Nat.le_trans (h f hf).1 (by decide), Nat.le_trans (h f hf).2 (by decide)⟩
  have hjs : (jn (vals L ctn)).length ≤ 200000000 := Nat.le_trans (jn_size L ctn 1048576 (by omega) hLN) (by decide)
  have HOf : Hid (∀ W A' c', Fs W W.heap.size A' k L → Calls Tryd.prog 10 #[.slice A' k c'] W fun e w2 => e = .returned (.tuple #[.string (str (ofS (spt L ctn))), .bool (ofB (spt L ctn))]) ∧ Below W.heap.size W w2) := fun W A' c' hF => by
    have h := of_any L A' c' W (by omega) (by rw [hLk]; exact hF) (big hLN) hjs
    rw [hLk] at h
    exact h
  have HOf2 : Hid (∀ (nm v : List UInt8), nm.length ≤ 1048576 → v.length ≤ 1048576 → ∀ W A' c', Fs W W.heap.size A' (k + 1) (L ++ [(nm, v)]) → Calls Tryd.prog 10 #[.slice A' (k + 1) c'] W fun e w2 => e = .returned (.tuple #[.string (str (ofS (spt (L ++ [(nm, v)]) ctn))), .bool (ofB (spt (L ++ [(nm, v)]) ctn))]) ∧ Below W.heap.size W w2) := fun nm v h1 h2 W A' c' hF => by
    have hl : (L ++ [(nm, v)]).length = k + 1 := by rw [List.length_append, hLk]; rfl
    have hN2 : ∀ f ∈ L ++ [(nm, v)], f.1.length ≤ 1048576 ∧ f.2.length ≤ 1048576 := fun f h => by
      rcases List.mem_append.1 h with h | h
      · exact hLN f h
      · rw [List.mem_singleton.1 h]; exact ⟨h1, h2⟩
    have h := of_any (L ++ [(nm, v)]) A' c' W (by omega) (by rw [hl]; exact hF) (big hN2) (Nat.le_trans (jn_size _ ctn 1048576 (by omega) hN2) (by decide))
    rw [hl] at h
    exact h
  have HQ : Hid (∀ (q : List UInt8) (W : World), q.length ≤ 1048576 → Calls Tryd.prog 14 #[.string (str q)] W fun e w2 => e = .returned (.bool (qtd q)) ∧ w2 = W) := fun q W h => quoted_any q W (by omega)
  have HLq : Hid (∀ (j : Nat) f, L[j]? = some f → f.2.length ≤ 1048576) := fun j f h => (hLN f (List.mem_of_getElem? h)).2
  have HE1 : Hid (∀ w', Calls Tryd.prog 8 #[.string (str S)] w' fun e w2 => e = .returned (.tuple #[.string (str (esS S)), .bool (esB S)]) ∧ Below w'.heap.size w' w2) := fun w' => ess_any S w' (by omega)
  have HE2 : Hid (∀ w', Calls Tryd.prog 8 #[.string (str M)] w' fun e w2 => e = .returned (.tuple #[.string (str (esS M)), .bool (esB M)]) ∧ Below w'.heap.size w' w2) := fun w' => ess_any M w' (by omega)
  have HQ1 : Hid (∀ W : World, Calls Tryd.prog 14 #[.string (str S)] W fun e w2 => e = .returned (.bool (qtd S)) ∧ w2 = W) := fun W => quoted_any S W (by omega)
  have HQ2 : Hid (∀ W : World, Calls Tryd.prog 14 #[.string (str M)] W fun e w2 => e = .returned (.bool (qtd M)) ∧ w2 = W) := fun W => quoted_any M W (by omega)
  have HOs := Lib.hid (HOf2.out CTU S (by decide) hS)
  have HOm := Lib.hid (HOf2.out ctn M (by decide) hM)
  have Hk50 : Hid (k ≤ 50) := hk50
  have HLk : Hid (L.length = k) := hLk
  clear hN hf hc hc2 hL hLN hjs hF0 hLk hkn HOf2 hk50 hS hM big
  go_enter Tryd.func5, Tryd.ntmps5
  go_wp2_with (first
    | (go_at_call 7; (with_reducible refine (HS.out _).mono ?_); (rintro e w1 ⟨rfl, hb⟩); have HB_1 := Lib.hid hb; clear hb)
    | ((with_reducible show wpList _ _ _ (⟨some 26, .call _, _, _, _, _⟩ :: _) _ _); refine wp_appF _ rfl _ _ 22 35 rfl Tryd.underlying22 fd_info w1.heap.size _ 0 [] rfl (ownF_made 35 w1 w1.heap.size (Nat.le_refl _)) w1.heap.size A k c L rfl ((HF0.out.kept HB_1.out).below ((Below.refl _ w1).alloc (Nat.le_refl _) _)) (by have := Hk50.out; omega) (by simp) k (Nat.zero_add _) ?_; intro A7 c7 w2 hc7 hcm7 hown7 hb7 hgr7; simp only [Act.put, List.setIfInBounds_toArray, List.set_cons_zero, List.set_cons_succ]; have HC := Lib.hid (((Below.refl _ w1).alloc (Nat.le_refl _) (.cells #[] 35)).trans hb7); have HB_2 := Lib.hid (HB_1.out.trans (HC.out.mono HB_1.out.size)); obtain ⟨A9, c9, he9, _, _, hf9⟩ := hown7.form; cases he9; rw [List.nil_append] at hf9; have FL_2 := Lib.hid hf9; clear hf9; clear hc7 hcm7 hown7 hb7 hgr7))
  go_loop [8] (fun i => ∃ j : Nat, j ≤ k ∧ i = .int .i64 (j : Int) ∧ ∀ m f, m < j → L[m]? = some f → qtd f.2 = false) (fun i => k - (intOf i).toNat)
  case atStart => exact ⟨0, by omega, rfl, fun m f h => absurd h (by omega)⟩
  case round =>
    obtain ⟨j, hj, rfl, hA⟩ := hrel
    have HA := Lib.hid hA
    clear hA
    by_cases hlt : j < k
    · have hjk : (j : Int) < (k : Int) := by omega
      have hj50 : j ≤ 1000 := by have := Hk50.out; omega
      obtain ⟨b, off, f, rfl, hb, hfj, h0, h1⟩ := FL_2.out.at_ hlt
      have HQf := Lib.hid (HQ.out f.2 w2 (HLq.out j f hfj))
      obtain ⟨p, q⟩ := f
      have HFj := Lib.hid hfj
      clear hb hfj h0
      cases hqt : qtd q
      · rw [hqt] at HQf
        have HT := Lib.hid hqt
        clear hqt
        go_wp2_with (first
          | (go_at_call 14; (with_reducible refine (HQf.out).mono ?_); (rintro e wq ⟨rfl, hw⟩); subst wq))
        go_round
        case rel => exact ⟨j + 1, by omega, by go_num, fun m y hm hy => by
          by_cases e : m = j
          · subst e
            rw [HFj.out] at hy
            obtain rfl := Option.some.inj hy
            exact HT.out
          · exact HA.out m y (by omega) hy⟩
        case measure => simp [intOf]; omega
      · rw [hqt] at HQf
        clear hqt
        go_wp2_with (first
          | (go_at_call 14; (with_reducible refine (HQf.out).mono ?_); (rintro e wq ⟨rfl, hw⟩); subst wq))
        go_ret
        exact ⟨rfl, HB_2.out⟩
    · have hjk : ¬ (j : Int) < (k : Int) := by omega
      have Hno : Hid (∀ f ∈ L, (34 : UInt8) ∉ f.2) := fun f hf => by
        obtain ⟨m, hm, e⟩ := List.mem_iff_getElem.1 hf
        have h := HA.out m f (by have := HLk.out; omega) (by rw [List.getElem?_eq_getElem hm, e])
        exact ((qtd_no f.2).1 h).2
      clear hlt
      cases hq1 : qtd S
      · cases hq2 : qtd M
        · have s1 := of_snoc L CTU S Hno.out hq1 ctu_low
          have s2 := of_snoc L ctn M Hno.out hq2 rfl
          rw [hq1] at HQ1
          rw [hq2] at HQ2
          rw [s1.1, s1.2] at HOs
          rw [s2.1, s2.2] at HOm
          clear s1 s2 hq1 hq2
          obtain ⟨R, hR⟩ : ∃ R, R = decide (esS S = [42, 47, 42]) := ⟨_, rfl⟩
          have hqR : ((str (esS S)).toList == [42, 47, 42]) = R := by rw [toList_str, hR, Bool.eq_iff_iff, beq_iff_eq, decide_eq_true_iff]
          have hG : gd S = (esB S && !R) := by rw [hR, ← decide_not]; rfl
          have hG2 : esB M = false → gd M = false := fun h => by rw [gd, h]; rfl
          rw [hG] at HOs
          clear hR hG
          generalize ofS (spt L ctn) = Wz at *
          generalize ofB (spt L ctn) = wb at *
          generalize esS S = a at *
          generalize esB S = o at *
          generalize gd M = gm at *
          generalize esS M = aM at *
          generalize esB M = em at *
          have hqa : ((str a).toList == (str a).toList) = true := by simp
          have hqw : ((str Wz).toList == (str Wz).toList) = true := by simp
          have hqb : (wb == wb) = true := by simp
          clear HLq HQ Hno HA
          cases em
          · rw [hG2 rfl] at HOm
            simp only [Bool.or_false, Bool.false_eq_true, if_false] at HOm
            clear hG2
            cases o
            · generalize (if (false && !R) = true then a else Wz) = b at HOs
              generalize (wb || (false && !R)) = ob at HOs
              go_wp2_with (first
                | (go_at_call 14; (with_reducible refine (HQ1.out _).mono ?_); (rintro e wq1 ⟨rfl, hw⟩); subst wq1; clear HQ1)
                | (go_at_call 14; (with_reducible refine (HQ2.out _).mono ?_); (rintro e wq2 ⟨rfl, hw⟩); subst wq2; clear HQ2)
                | (go_at_call 8; (with_reducible refine (HE1.out _).mono ?_); (rintro e w3 ⟨rfl, hb⟩); have HB_3 := Lib.hid (HB_2.out.trans (hb.mono HB_2.out.size)); have FL_3 := Lib.hid (FL_2.out.kept hb); clear hb; clear HE1)
                | (go_at_call 10; (with_reducible refine (HOf.out _ _ _ FL_3.out).mono ?_); (rintro e w4 ⟨rfl, hb⟩); have HB_4 := Lib.hid (HB_3.out.trans (hb.mono HB_3.out.size)); have FL_4 := Lib.hid (FL_3.out.kept hb); clear hb; clear HOf)
                | (go_at_call 8; (with_reducible refine (HE2.out _).mono ?_); (rintro e w5 ⟨rfl, hb⟩); have HB_5 := Lib.hid (HB_4.out.trans (hb.mono HB_4.out.size)); have FL_5 := Lib.hid (FL_4.out.kept hb); clear hb; clear HE2)
                | ((with_reducible show wpList _ _ _ (⟨some 65, .call _, _, _, _, _⟩ :: _) _ _); refine wp_appF _ rfl _ _ 22 35 rfl Tryd.underlying22 fd_info w5.heap.size _ 0 [] rfl (ownF_made 35 w5 w5.heap.size (Nat.le_refl _)) w5.heap.size A7 k c7 L rfl (FL_5.out.below ((Below.refl _ w5).alloc (Nat.le_refl _) _)) (by have := Hk50.out; omega) (by simp) k (Nat.zero_add _) ?_; intro A7x c7x w6 hc7 hcm7 hown7 hb7 hgr7; simp only [Act.put, List.setIfInBounds_toArray, List.set_cons_zero, List.set_cons_succ]; have HCx := Lib.hid (((Below.refl _ w5).alloc (Nat.le_refl _) (.cells #[] 35)).trans hb7); have HB_6 := Lib.hid (HB_5.out.trans (HCx.out.mono HB_5.out.size)); have HOx := Lib.hid hown7; clear hc7 hcm7 hown7 hb7 hgr7)
                | ((with_reducible show wpList _ _ _ (⟨some 69, .call _, _, _, _, _⟩ :: _) _ _); refine wp_appF _ rfl _ _ 22 35 rfl Tryd.underlying22 fd_info w5.heap.size _ k ([] ++ L) rfl (HOx.out.alloc _) (w6.heap.size + 1) _ 1 1 [(CTU, S)] rfl (Fs.one _ _ _ _ _ rfl) (by have := Hk50.out; omega) (Nat.le_trans HCx.out.size (by simp)) (k + 1) rfl ?_; intro A8x c8x w7 hc7 hcm7 hown7 hb7 hgr7; simp only [Act.put, List.setIfInBounds_toArray, List.set_cons_zero, List.set_cons_succ]; have HC2 := Lib.hid (HCx.out.trans ((Below.alloc (Below.refl w5.heap.size w6) HCx.out.size _).trans hb7)); have HB_7 := Lib.hid (HB_5.out.trans (HC2.out.mono HB_5.out.size)); have FL_7 := Lib.hid (FL_5.out.kept HC2.out); obtain ⟨A9, c9, he9, _, _, hf9⟩ := hown7.form; cases he9; rw [List.nil_append] at hf9; have FM_7 := Lib.hid hf9; clear HC2 hc7 hcm7 hown7 hb7 hgr7 hf9)
                | (go_at_call 10; (with_reducible refine (HOs.out _ _ _ FM_7.out).mono ?_); (rintro e w8 ⟨rfl, hb⟩); have HB_8 := Lib.hid (HB_7.out.trans (hb.mono HB_7.out.size)); have FL_8 := Lib.hid (FL_7.out.kept hb); have FM_8 := Lib.hid (FM_7.out.kept hb); clear hb; clear HOs)
                | ((with_reducible show wpList _ _ _ (⟨some 76, .call _, _, _, _, _⟩ :: _) _ _); refine wp_appF _ rfl _ _ 22 35 rfl Tryd.underlying22 fd_info w8.heap.size _ 0 [] rfl (ownF_made 35 w8 w8.heap.size (Nat.le_refl _)) w8.heap.size A7 k c7 L rfl (FL_8.out.below ((Below.refl _ w8).alloc (Nat.le_refl _) _)) (by have := Hk50.out; omega) (by simp) k (Nat.zero_add _) ?_; intro A7y c7y w9 hc7 hcm7 hown7 hb7 hgr7; simp only [Act.put, List.setIfInBounds_toArray, List.set_cons_zero, List.set_cons_succ]; have HCy := Lib.hid (((Below.refl _ w8).alloc (Nat.le_refl _) (.cells #[] 35)).trans hb7); have HB_9 := Lib.hid (HB_8.out.trans (HCy.out.mono HB_8.out.size)); have HOy := Lib.hid hown7; clear hc7 hcm7 hown7 hb7 hgr7)
                | ((with_reducible show wpList _ _ _ (⟨some 80, .call _, _, _, _, _⟩ :: _) _ _); refine wp_appF _ rfl _ _ 22 35 rfl Tryd.underlying22 fd_info w8.heap.size _ k ([] ++ L) rfl (HOy.out.alloc _) (w9.heap.size + 1) _ 1 1 [(ctn, M)] rfl (Fs.one _ _ _ _ _ rfl) (by have := Hk50.out; omega) (Nat.le_trans HCy.out.size (by simp)) (k + 1) rfl ?_; intro A8y c8y w10 hc7 hcm7 hown7 hb7 hgr7; simp only [Act.put, List.setIfInBounds_toArray, List.set_cons_zero, List.set_cons_succ]; have HC2 := Lib.hid (HCy.out.trans ((Below.alloc (Below.refl w8.heap.size w9) HCy.out.size _).trans hb7)); have HB_10 := Lib.hid (HB_8.out.trans (HC2.out.mono HB_8.out.size)); have FL_10 := Lib.hid (FL_8.out.kept HC2.out); obtain ⟨A9, c9, he9, _, _, hf9⟩ := hown7.form; cases he9; rw [List.nil_append] at hf9; have FM_10 := Lib.hid hf9; clear HC2 hc7 hcm7 hown7 hb7 hgr7 hf9)
                | (go_at_call 10; (with_reducible refine (HOm.out _ _ _ FM_10.out).mono ?_); (rintro e w11 ⟨rfl, hb⟩); have HB_11 := Lib.hid (HB_10.out.trans (hb.mono HB_10.out.size)); have FL_11 := Lib.hid (FL_10.out.kept hb); have FM_11 := Lib.hid (FM_10.out.kept hb); clear hb))
              go_ret
              exact ⟨rfl, HB_11.out⟩
            · cases R
              · simp only [Bool.not_false, Bool.and_true, if_true, Bool.or_true] at HOs
                go_wp2_with (first
                | (go_at_call 14; (with_reducible refine (HQ1.out _).mono ?_); (rintro e wq1 ⟨rfl, hw⟩); subst wq1; clear HQ1)
                | (go_at_call 14; (with_reducible refine (HQ2.out _).mono ?_); (rintro e wq2 ⟨rfl, hw⟩); subst wq2; clear HQ2)
                | (go_at_call 8; (with_reducible refine (HE1.out _).mono ?_); (rintro e w3 ⟨rfl, hb⟩); have HB_3 := Lib.hid (HB_2.out.trans (hb.mono HB_2.out.size)); have FL_3 := Lib.hid (FL_2.out.kept hb); clear hb; clear HE1)
                | (go_at_call 10; (with_reducible refine (HOf.out _ _ _ FL_3.out).mono ?_); (rintro e w4 ⟨rfl, hb⟩); have HB_4 := Lib.hid (HB_3.out.trans (hb.mono HB_3.out.size)); have FL_4 := Lib.hid (FL_3.out.kept hb); clear hb; clear HOf)
                | (go_at_call 8; (with_reducible refine (HE2.out _).mono ?_); (rintro e w5 ⟨rfl, hb⟩); have HB_5 := Lib.hid (HB_4.out.trans (hb.mono HB_4.out.size)); have FL_5 := Lib.hid (FL_4.out.kept hb); clear hb; clear HE2)
                | ((with_reducible show wpList _ _ _ (⟨some 65, .call _, _, _, _, _⟩ :: _) _ _); refine wp_appF _ rfl _ _ 22 35 rfl Tryd.underlying22 fd_info w5.heap.size _ 0 [] rfl (ownF_made 35 w5 w5.heap.size (Nat.le_refl _)) w5.heap.size A7 k c7 L rfl (FL_5.out.below ((Below.refl _ w5).alloc (Nat.le_refl _) _)) (by have := Hk50.out; omega) (by simp) k (Nat.zero_add _) ?_; intro A7x c7x w6 hc7 hcm7 hown7 hb7 hgr7; simp only [Act.put, List.setIfInBounds_toArray, List.set_cons_zero, List.set_cons_succ]; have HCx := Lib.hid (((Below.refl _ w5).alloc (Nat.le_refl _) (.cells #[] 35)).trans hb7); have HB_6 := Lib.hid (HB_5.out.trans (HCx.out.mono HB_5.out.size)); have HOx := Lib.hid hown7; clear hc7 hcm7 hown7 hb7 hgr7)
                | ((with_reducible show wpList _ _ _ (⟨some 69, .call _, _, _, _, _⟩ :: _) _ _); refine wp_appF _ rfl _ _ 22 35 rfl Tryd.underlying22 fd_info w5.heap.size _ k ([] ++ L) rfl (HOx.out.alloc _) (w6.heap.size + 1) _ 1 1 [(CTU, S)] rfl (Fs.one _ _ _ _ _ rfl) (by have := Hk50.out; omega) (Nat.le_trans HCx.out.size (by simp)) (k + 1) rfl ?_; intro A8x c8x w7 hc7 hcm7 hown7 hb7 hgr7; simp only [Act.put, List.setIfInBounds_toArray, List.set_cons_zero, List.set_cons_succ]; have HC2 := Lib.hid (HCx.out.trans ((Below.alloc (Below.refl w5.heap.size w6) HCx.out.size _).trans hb7)); have HB_7 := Lib.hid (HB_5.out.trans (HC2.out.mono HB_5.out.size)); have FL_7 := Lib.hid (FL_5.out.kept HC2.out); obtain ⟨A9, c9, he9, _, _, hf9⟩ := hown7.form; cases he9; rw [List.nil_append] at hf9; have FM_7 := Lib.hid hf9; clear HC2 hc7 hcm7 hown7 hb7 hgr7 hf9)
                | (go_at_call 10; (with_reducible refine (HOs.out _ _ _ FM_7.out).mono ?_); (rintro e w8 ⟨rfl, hb⟩); have HB_8 := Lib.hid (HB_7.out.trans (hb.mono HB_7.out.size)); have FL_8 := Lib.hid (FL_7.out.kept hb); have FM_8 := Lib.hid (FM_7.out.kept hb); clear hb; clear HOs)
                | ((with_reducible show wpList _ _ _ (⟨some 76, .call _, _, _, _, _⟩ :: _) _ _); refine wp_appF _ rfl _ _ 22 35 rfl Tryd.underlying22 fd_info w8.heap.size _ 0 [] rfl (ownF_made 35 w8 w8.heap.size (Nat.le_refl _)) w8.heap.size A7 k c7 L rfl (FL_8.out.below ((Below.refl _ w8).alloc (Nat.le_refl _) _)) (by have := Hk50.out; omega) (by simp) k (Nat.zero_add _) ?_; intro A7y c7y w9 hc7 hcm7 hown7 hb7 hgr7; simp only [Act.put, List.setIfInBounds_toArray, List.set_cons_zero, List.set_cons_succ]; have HCy := Lib.hid (((Below.refl _ w8).alloc (Nat.le_refl _) (.cells #[] 35)).trans hb7); have HB_9 := Lib.hid (HB_8.out.trans (HCy.out.mono HB_8.out.size)); have HOy := Lib.hid hown7; clear hc7 hcm7 hown7 hb7 hgr7)
                | ((with_reducible show wpList _ _ _ (⟨some 80, .call _, _, _, _, _⟩ :: _) _ _); refine wp_appF _ rfl _ _ 22 35 rfl Tryd.underlying22 fd_info w8.heap.size _ k ([] ++ L) rfl (HOy.out.alloc _) (w9.heap.size + 1) _ 1 1 [(ctn, M)] rfl (Fs.one _ _ _ _ _ rfl) (by have := Hk50.out; omega) (Nat.le_trans HCy.out.size (by simp)) (k + 1) rfl ?_; intro A8y c8y w10 hc7 hcm7 hown7 hb7 hgr7; simp only [Act.put, List.setIfInBounds_toArray, List.set_cons_zero, List.set_cons_succ]; have HC2 := Lib.hid (HCy.out.trans ((Below.alloc (Below.refl w8.heap.size w9) HCy.out.size _).trans hb7)); have HB_10 := Lib.hid (HB_8.out.trans (HC2.out.mono HB_8.out.size)); have FL_10 := Lib.hid (FL_8.out.kept HC2.out); obtain ⟨A9, c9, he9, _, _, hf9⟩ := hown7.form; cases he9; rw [List.nil_append] at hf9; have FM_10 := Lib.hid hf9; clear HC2 hc7 hcm7 hown7 hb7 hgr7 hf9)
                | (go_at_call 10; (with_reducible refine (HOm.out _ _ _ FM_10.out).mono ?_); (rintro e w11 ⟨rfl, hb⟩); have HB_11 := Lib.hid (HB_10.out.trans (hb.mono HB_10.out.size)); have FL_11 := Lib.hid (FL_10.out.kept hb); have FM_11 := Lib.hid (FM_10.out.kept hb); clear hb))
                go_ret
                exact ⟨rfl, HB_11.out⟩
              · generalize (if (true && !true) = true then a else Wz) = b at HOs
                generalize (wb || (true && !true)) = ob at HOs
                go_wp2_with (first
                | (go_at_call 14; (with_reducible refine (HQ1.out _).mono ?_); (rintro e wq1 ⟨rfl, hw⟩); subst wq1; clear HQ1)
                | (go_at_call 14; (with_reducible refine (HQ2.out _).mono ?_); (rintro e wq2 ⟨rfl, hw⟩); subst wq2; clear HQ2)
                | (go_at_call 8; (with_reducible refine (HE1.out _).mono ?_); (rintro e w3 ⟨rfl, hb⟩); have HB_3 := Lib.hid (HB_2.out.trans (hb.mono HB_2.out.size)); have FL_3 := Lib.hid (FL_2.out.kept hb); clear hb; clear HE1)
                | (go_at_call 10; (with_reducible refine (HOf.out _ _ _ FL_3.out).mono ?_); (rintro e w4 ⟨rfl, hb⟩); have HB_4 := Lib.hid (HB_3.out.trans (hb.mono HB_3.out.size)); have FL_4 := Lib.hid (FL_3.out.kept hb); clear hb; clear HOf)
                | (go_at_call 8; (with_reducible refine (HE2.out _).mono ?_); (rintro e w5 ⟨rfl, hb⟩); have HB_5 := Lib.hid (HB_4.out.trans (hb.mono HB_4.out.size)); have FL_5 := Lib.hid (FL_4.out.kept hb); clear hb; clear HE2)
                | ((with_reducible show wpList _ _ _ (⟨some 65, .call _, _, _, _, _⟩ :: _) _ _); refine wp_appF _ rfl _ _ 22 35 rfl Tryd.underlying22 fd_info w5.heap.size _ 0 [] rfl (ownF_made 35 w5 w5.heap.size (Nat.le_refl _)) w5.heap.size A7 k c7 L rfl (FL_5.out.below ((Below.refl _ w5).alloc (Nat.le_refl _) _)) (by have := Hk50.out; omega) (by simp) k (Nat.zero_add _) ?_; intro A7x c7x w6 hc7 hcm7 hown7 hb7 hgr7; simp only [Act.put, List.setIfInBounds_toArray, List.set_cons_zero, List.set_cons_succ]; have HCx := Lib.hid (((Below.refl _ w5).alloc (Nat.le_refl _) (.cells #[] 35)).trans hb7); have HB_6 := Lib.hid (HB_5.out.trans (HCx.out.mono HB_5.out.size)); have HOx := Lib.hid hown7; clear hc7 hcm7 hown7 hb7 hgr7)
                | ((with_reducible show wpList _ _ _ (⟨some 69, .call _, _, _, _, _⟩ :: _) _ _); refine wp_appF _ rfl _ _ 22 35 rfl Tryd.underlying22 fd_info w5.heap.size _ k ([] ++ L) rfl (HOx.out.alloc _) (w6.heap.size + 1) _ 1 1 [(CTU, S)] rfl (Fs.one _ _ _ _ _ rfl) (by have := Hk50.out; omega) (Nat.le_trans HCx.out.size (by simp)) (k + 1) rfl ?_; intro A8x c8x w7 hc7 hcm7 hown7 hb7 hgr7; simp only [Act.put, List.setIfInBounds_toArray, List.set_cons_zero, List.set_cons_succ]; have HC2 := Lib.hid (HCx.out.trans ((Below.alloc (Below.refl w5.heap.size w6) HCx.out.size _).trans hb7)); have HB_7 := Lib.hid (HB_5.out.trans (HC2.out.mono HB_5.out.size)); have FL_7 := Lib.hid (FL_5.out.kept HC2.out); obtain ⟨A9, c9, he9, _, _, hf9⟩ := hown7.form; cases he9; rw [List.nil_append] at hf9; have FM_7 := Lib.hid hf9; clear HC2 hc7 hcm7 hown7 hb7 hgr7 hf9)
                | (go_at_call 10; (with_reducible refine (HOs.out _ _ _ FM_7.out).mono ?_); (rintro e w8 ⟨rfl, hb⟩); have HB_8 := Lib.hid (HB_7.out.trans (hb.mono HB_7.out.size)); have FL_8 := Lib.hid (FL_7.out.kept hb); have FM_8 := Lib.hid (FM_7.out.kept hb); clear hb; clear HOs)
                | ((with_reducible show wpList _ _ _ (⟨some 76, .call _, _, _, _, _⟩ :: _) _ _); refine wp_appF _ rfl _ _ 22 35 rfl Tryd.underlying22 fd_info w8.heap.size _ 0 [] rfl (ownF_made 35 w8 w8.heap.size (Nat.le_refl _)) w8.heap.size A7 k c7 L rfl (FL_8.out.below ((Below.refl _ w8).alloc (Nat.le_refl _) _)) (by have := Hk50.out; omega) (by simp) k (Nat.zero_add _) ?_; intro A7y c7y w9 hc7 hcm7 hown7 hb7 hgr7; simp only [Act.put, List.setIfInBounds_toArray, List.set_cons_zero, List.set_cons_succ]; have HCy := Lib.hid (((Below.refl _ w8).alloc (Nat.le_refl _) (.cells #[] 35)).trans hb7); have HB_9 := Lib.hid (HB_8.out.trans (HCy.out.mono HB_8.out.size)); have HOy := Lib.hid hown7; clear hc7 hcm7 hown7 hb7 hgr7)
                | ((with_reducible show wpList _ _ _ (⟨some 80, .call _, _, _, _, _⟩ :: _) _ _); refine wp_appF _ rfl _ _ 22 35 rfl Tryd.underlying22 fd_info w8.heap.size _ k ([] ++ L) rfl (HOy.out.alloc _) (w9.heap.size + 1) _ 1 1 [(ctn, M)] rfl (Fs.one _ _ _ _ _ rfl) (by have := Hk50.out; omega) (Nat.le_trans HCy.out.size (by simp)) (k + 1) rfl ?_; intro A8y c8y w10 hc7 hcm7 hown7 hb7 hgr7; simp only [Act.put, List.setIfInBounds_toArray, List.set_cons_zero, List.set_cons_succ]; have HC2 := Lib.hid (HCy.out.trans ((Below.alloc (Below.refl w8.heap.size w9) HCy.out.size _).trans hb7)); have HB_10 := Lib.hid (HB_8.out.trans (HC2.out.mono HB_8.out.size)); have FL_10 := Lib.hid (FL_8.out.kept HC2.out); obtain ⟨A9, c9, he9, _, _, hf9⟩ := hown7.form; cases he9; rw [List.nil_append] at hf9; have FM_10 := Lib.hid hf9; clear HC2 hc7 hcm7 hown7 hb7 hgr7 hf9)
                | (go_at_call 10; (with_reducible refine (HOm.out _ _ _ FM_10.out).mono ?_); (rintro e w11 ⟨rfl, hb⟩); have HB_11 := Lib.hid (HB_10.out.trans (hb.mono HB_10.out.size)); have FL_11 := Lib.hid (FL_10.out.kept hb); have FM_11 := Lib.hid (FM_10.out.kept hb); clear hb))
                go_ret
                exact ⟨rfl, HB_11.out⟩
          · clear hG2
            generalize (if gm = true then aM else Wz) = cM at HOm
            generalize (wb || gm) = om at HOm
            cases o
            · generalize (if (false && !R) = true then a else Wz) = b at HOs
              generalize (wb || (false && !R)) = ob at HOs
              go_wp2_with (first
                | (go_at_call 14; (with_reducible refine (HQ1.out _).mono ?_); (rintro e wq1 ⟨rfl, hw⟩); subst wq1; clear HQ1)
                | (go_at_call 14; (with_reducible refine (HQ2.out _).mono ?_); (rintro e wq2 ⟨rfl, hw⟩); subst wq2; clear HQ2)
                | (go_at_call 8; (with_reducible refine (HE1.out _).mono ?_); (rintro e w3 ⟨rfl, hb⟩); have HB_3 := Lib.hid (HB_2.out.trans (hb.mono HB_2.out.size)); have FL_3 := Lib.hid (FL_2.out.kept hb); clear hb; clear HE1)
                | (go_at_call 10; (with_reducible refine (HOf.out _ _ _ FL_3.out).mono ?_); (rintro e w4 ⟨rfl, hb⟩); have HB_4 := Lib.hid (HB_3.out.trans (hb.mono HB_3.out.size)); have FL_4 := Lib.hid (FL_3.out.kept hb); clear hb; clear HOf)
                | (go_at_call 8; (with_reducible refine (HE2.out _).mono ?_); (rintro e w5 ⟨rfl, hb⟩); have HB_5 := Lib.hid (HB_4.out.trans (hb.mono HB_4.out.size)); have FL_5 := Lib.hid (FL_4.out.kept hb); clear hb; clear HE2)
                | ((with_reducible show wpList _ _ _ (⟨some 65, .call _, _, _, _, _⟩ :: _) _ _); refine wp_appF _ rfl _ _ 22 35 rfl Tryd.underlying22 fd_info w5.heap.size _ 0 [] rfl (ownF_made 35 w5 w5.heap.size (Nat.le_refl _)) w5.heap.size A7 k c7 L rfl (FL_5.out.below ((Below.refl _ w5).alloc (Nat.le_refl _) _)) (by have := Hk50.out; omega) (by simp) k (Nat.zero_add _) ?_; intro A7x c7x w6 hc7 hcm7 hown7 hb7 hgr7; simp only [Act.put, List.setIfInBounds_toArray, List.set_cons_zero, List.set_cons_succ]; have HCx := Lib.hid (((Below.refl _ w5).alloc (Nat.le_refl _) (.cells #[] 35)).trans hb7); have HB_6 := Lib.hid (HB_5.out.trans (HCx.out.mono HB_5.out.size)); have HOx := Lib.hid hown7; clear hc7 hcm7 hown7 hb7 hgr7)
                | ((with_reducible show wpList _ _ _ (⟨some 69, .call _, _, _, _, _⟩ :: _) _ _); refine wp_appF _ rfl _ _ 22 35 rfl Tryd.underlying22 fd_info w5.heap.size _ k ([] ++ L) rfl (HOx.out.alloc _) (w6.heap.size + 1) _ 1 1 [(CTU, S)] rfl (Fs.one _ _ _ _ _ rfl) (by have := Hk50.out; omega) (Nat.le_trans HCx.out.size (by simp)) (k + 1) rfl ?_; intro A8x c8x w7 hc7 hcm7 hown7 hb7 hgr7; simp only [Act.put, List.setIfInBounds_toArray, List.set_cons_zero, List.set_cons_succ]; have HC2 := Lib.hid (HCx.out.trans ((Below.alloc (Below.refl w5.heap.size w6) HCx.out.size _).trans hb7)); have HB_7 := Lib.hid (HB_5.out.trans (HC2.out.mono HB_5.out.size)); have FL_7 := Lib.hid (FL_5.out.kept HC2.out); obtain ⟨A9, c9, he9, _, _, hf9⟩ := hown7.form; cases he9; rw [List.nil_append] at hf9; have FM_7 := Lib.hid hf9; clear HC2 hc7 hcm7 hown7 hb7 hgr7 hf9)
                | (go_at_call 10; (with_reducible refine (HOs.out _ _ _ FM_7.out).mono ?_); (rintro e w8 ⟨rfl, hb⟩); have HB_8 := Lib.hid (HB_7.out.trans (hb.mono HB_7.out.size)); have FL_8 := Lib.hid (FL_7.out.kept hb); have FM_8 := Lib.hid (FM_7.out.kept hb); clear hb; clear HOs)
                | ((with_reducible show wpList _ _ _ (⟨some 76, .call _, _, _, _, _⟩ :: _) _ _); refine wp_appF _ rfl _ _ 22 35 rfl Tryd.underlying22 fd_info w8.heap.size _ 0 [] rfl (ownF_made 35 w8 w8.heap.size (Nat.le_refl _)) w8.heap.size A7 k c7 L rfl (FL_8.out.below ((Below.refl _ w8).alloc (Nat.le_refl _) _)) (by have := Hk50.out; omega) (by simp) k (Nat.zero_add _) ?_; intro A7y c7y w9 hc7 hcm7 hown7 hb7 hgr7; simp only [Act.put, List.setIfInBounds_toArray, List.set_cons_zero, List.set_cons_succ]; have HCy := Lib.hid (((Below.refl _ w8).alloc (Nat.le_refl _) (.cells #[] 35)).trans hb7); have HB_9 := Lib.hid (HB_8.out.trans (HCy.out.mono HB_8.out.size)); have HOy := Lib.hid hown7; clear hc7 hcm7 hown7 hb7 hgr7)
                | ((with_reducible show wpList _ _ _ (⟨some 80, .call _, _, _, _, _⟩ :: _) _ _); refine wp_appF _ rfl _ _ 22 35 rfl Tryd.underlying22 fd_info w8.heap.size _ k ([] ++ L) rfl (HOy.out.alloc _) (w9.heap.size + 1) _ 1 1 [(ctn, M)] rfl (Fs.one _ _ _ _ _ rfl) (by have := Hk50.out; omega) (Nat.le_trans HCy.out.size (by simp)) (k + 1) rfl ?_; intro A8y c8y w10 hc7 hcm7 hown7 hb7 hgr7; simp only [Act.put, List.setIfInBounds_toArray, List.set_cons_zero, List.set_cons_succ]; have HC2 := Lib.hid (HCy.out.trans ((Below.alloc (Below.refl w8.heap.size w9) HCy.out.size _).trans hb7)); have HB_10 := Lib.hid (HB_8.out.trans (HC2.out.mono HB_8.out.size)); have FL_10 := Lib.hid (FL_8.out.kept HC2.out); obtain ⟨A9, c9, he9, _, _, hf9⟩ := hown7.form; cases he9; rw [List.nil_append] at hf9; have FM_10 := Lib.hid hf9; clear HC2 hc7 hcm7 hown7 hb7 hgr7 hf9)
                | (go_at_call 10; (with_reducible refine (HOm.out _ _ _ FM_10.out).mono ?_); (rintro e w11 ⟨rfl, hb⟩); have HB_11 := Lib.hid (HB_10.out.trans (hb.mono HB_10.out.size)); have FL_11 := Lib.hid (FL_10.out.kept hb); have FM_11 := Lib.hid (FM_10.out.kept hb); clear hb))
              go_ret
              exact ⟨rfl, HB_11.out⟩
            · cases R
              · simp only [Bool.not_false, Bool.and_true, if_true, Bool.or_true] at HOs
                go_wp2_with (first
                | (go_at_call 14; (with_reducible refine (HQ1.out _).mono ?_); (rintro e wq1 ⟨rfl, hw⟩); subst wq1; clear HQ1)
                | (go_at_call 14; (with_reducible refine (HQ2.out _).mono ?_); (rintro e wq2 ⟨rfl, hw⟩); subst wq2; clear HQ2)
                | (go_at_call 8; (with_reducible refine (HE1.out _).mono ?_); (rintro e w3 ⟨rfl, hb⟩); have HB_3 := Lib.hid (HB_2.out.trans (hb.mono HB_2.out.size)); have FL_3 := Lib.hid (FL_2.out.kept hb); clear hb; clear HE1)
                | (go_at_call 10; (with_reducible refine (HOf.out _ _ _ FL_3.out).mono ?_); (rintro e w4 ⟨rfl, hb⟩); have HB_4 := Lib.hid (HB_3.out.trans (hb.mono HB_3.out.size)); have FL_4 := Lib.hid (FL_3.out.kept hb); clear hb; clear HOf)
                | (go_at_call 8; (with_reducible refine (HE2.out _).mono ?_); (rintro e w5 ⟨rfl, hb⟩); have HB_5 := Lib.hid (HB_4.out.trans (hb.mono HB_4.out.size)); have FL_5 := Lib.hid (FL_4.out.kept hb); clear hb; clear HE2)
                | ((with_reducible show wpList _ _ _ (⟨some 65, .call _, _, _, _, _⟩ :: _) _ _); refine wp_appF _ rfl _ _ 22 35 rfl Tryd.underlying22 fd_info w5.heap.size _ 0 [] rfl (ownF_made 35 w5 w5.heap.size (Nat.le_refl _)) w5.heap.size A7 k c7 L rfl (FL_5.out.below ((Below.refl _ w5).alloc (Nat.le_refl _) _)) (by have := Hk50.out; omega) (by simp) k (Nat.zero_add _) ?_; intro A7x c7x w6 hc7 hcm7 hown7 hb7 hgr7; simp only [Act.put, List.setIfInBounds_toArray, List.set_cons_zero, List.set_cons_succ]; have HCx := Lib.hid (((Below.refl _ w5).alloc (Nat.le_refl _) (.cells #[] 35)).trans hb7); have HB_6 := Lib.hid (HB_5.out.trans (HCx.out.mono HB_5.out.size)); have HOx := Lib.hid hown7; clear hc7 hcm7 hown7 hb7 hgr7)
                | ((with_reducible show wpList _ _ _ (⟨some 69, .call _, _, _, _, _⟩ :: _) _ _); refine wp_appF _ rfl _ _ 22 35 rfl Tryd.underlying22 fd_info w5.heap.size _ k ([] ++ L) rfl (HOx.out.alloc _) (w6.heap.size + 1) _ 1 1 [(CTU, S)] rfl (Fs.one _ _ _ _ _ rfl) (by have := Hk50.out; omega) (Nat.le_trans HCx.out.size (by simp)) (k + 1) rfl ?_; intro A8x c8x w7 hc7 hcm7 hown7 hb7 hgr7; simp only [Act.put, List.setIfInBounds_toArray, List.set_cons_zero, List.set_cons_succ]; have HC2 := Lib.hid (HCx.out.trans ((Below.alloc (Below.refl w5.heap.size w6) HCx.out.size _).trans hb7)); have HB_7 := Lib.hid (HB_5.out.trans (HC2.out.mono HB_5.out.size)); have FL_7 := Lib.hid (FL_5.out.kept HC2.out); obtain ⟨A9, c9, he9, _, _, hf9⟩ := hown7.form; cases he9; rw [List.nil_append] at hf9; have FM_7 := Lib.hid hf9; clear HC2 hc7 hcm7 hown7 hb7 hgr7 hf9)
                | (go_at_call 10; (with_reducible refine (HOs.out _ _ _ FM_7.out).mono ?_); (rintro e w8 ⟨rfl, hb⟩); have HB_8 := Lib.hid (HB_7.out.trans (hb.mono HB_7.out.size)); have FL_8 := Lib.hid (FL_7.out.kept hb); have FM_8 := Lib.hid (FM_7.out.kept hb); clear hb; clear HOs)
                | ((with_reducible show wpList _ _ _ (⟨some 76, .call _, _, _, _, _⟩ :: _) _ _); refine wp_appF _ rfl _ _ 22 35 rfl Tryd.underlying22 fd_info w8.heap.size _ 0 [] rfl (ownF_made 35 w8 w8.heap.size (Nat.le_refl _)) w8.heap.size A7 k c7 L rfl (FL_8.out.below ((Below.refl _ w8).alloc (Nat.le_refl _) _)) (by have := Hk50.out; omega) (by simp) k (Nat.zero_add _) ?_; intro A7y c7y w9 hc7 hcm7 hown7 hb7 hgr7; simp only [Act.put, List.setIfInBounds_toArray, List.set_cons_zero, List.set_cons_succ]; have HCy := Lib.hid (((Below.refl _ w8).alloc (Nat.le_refl _) (.cells #[] 35)).trans hb7); have HB_9 := Lib.hid (HB_8.out.trans (HCy.out.mono HB_8.out.size)); have HOy := Lib.hid hown7; clear hc7 hcm7 hown7 hb7 hgr7)
                | ((with_reducible show wpList _ _ _ (⟨some 80, .call _, _, _, _, _⟩ :: _) _ _); refine wp_appF _ rfl _ _ 22 35 rfl Tryd.underlying22 fd_info w8.heap.size _ k ([] ++ L) rfl (HOy.out.alloc _) (w9.heap.size + 1) _ 1 1 [(ctn, M)] rfl (Fs.one _ _ _ _ _ rfl) (by have := Hk50.out; omega) (Nat.le_trans HCy.out.size (by simp)) (k + 1) rfl ?_; intro A8y c8y w10 hc7 hcm7 hown7 hb7 hgr7; simp only [Act.put, List.setIfInBounds_toArray, List.set_cons_zero, List.set_cons_succ]; have HC2 := Lib.hid (HCy.out.trans ((Below.alloc (Below.refl w8.heap.size w9) HCy.out.size _).trans hb7)); have HB_10 := Lib.hid (HB_8.out.trans (HC2.out.mono HB_8.out.size)); have FL_10 := Lib.hid (FL_8.out.kept HC2.out); obtain ⟨A9, c9, he9, _, _, hf9⟩ := hown7.form; cases he9; rw [List.nil_append] at hf9; have FM_10 := Lib.hid hf9; clear HC2 hc7 hcm7 hown7 hb7 hgr7 hf9)
                | (go_at_call 10; (with_reducible refine (HOm.out _ _ _ FM_10.out).mono ?_); (rintro e w11 ⟨rfl, hb⟩); have HB_11 := Lib.hid (HB_10.out.trans (hb.mono HB_10.out.size)); have FL_11 := Lib.hid (FL_10.out.kept hb); have FM_11 := Lib.hid (FM_10.out.kept hb); clear hb))
                go_ret
                exact ⟨rfl, HB_11.out⟩
              · generalize (if (true && !true) = true then a else Wz) = b at HOs
                generalize (wb || (true && !true)) = ob at HOs
                go_wp2_with (first
                | (go_at_call 14; (with_reducible refine (HQ1.out _).mono ?_); (rintro e wq1 ⟨rfl, hw⟩); subst wq1; clear HQ1)
                | (go_at_call 14; (with_reducible refine (HQ2.out _).mono ?_); (rintro e wq2 ⟨rfl, hw⟩); subst wq2; clear HQ2)
                | (go_at_call 8; (with_reducible refine (HE1.out _).mono ?_); (rintro e w3 ⟨rfl, hb⟩); have HB_3 := Lib.hid (HB_2.out.trans (hb.mono HB_2.out.size)); have FL_3 := Lib.hid (FL_2.out.kept hb); clear hb; clear HE1)
                | (go_at_call 10; (with_reducible refine (HOf.out _ _ _ FL_3.out).mono ?_); (rintro e w4 ⟨rfl, hb⟩); have HB_4 := Lib.hid (HB_3.out.trans (hb.mono HB_3.out.size)); have FL_4 := Lib.hid (FL_3.out.kept hb); clear hb; clear HOf)
                | (go_at_call 8; (with_reducible refine (HE2.out _).mono ?_); (rintro e w5 ⟨rfl, hb⟩); have HB_5 := Lib.hid (HB_4.out.trans (hb.mono HB_4.out.size)); have FL_5 := Lib.hid (FL_4.out.kept hb); clear hb; clear HE2)
                | ((with_reducible show wpList _ _ _ (⟨some 65, .call _, _, _, _, _⟩ :: _) _ _); refine wp_appF _ rfl _ _ 22 35 rfl Tryd.underlying22 fd_info w5.heap.size _ 0 [] rfl (ownF_made 35 w5 w5.heap.size (Nat.le_refl _)) w5.heap.size A7 k c7 L rfl (FL_5.out.below ((Below.refl _ w5).alloc (Nat.le_refl _) _)) (by have := Hk50.out; omega) (by simp) k (Nat.zero_add _) ?_; intro A7x c7x w6 hc7 hcm7 hown7 hb7 hgr7; simp only [Act.put, List.setIfInBounds_toArray, List.set_cons_zero, List.set_cons_succ]; have HCx := Lib.hid (((Below.refl _ w5).alloc (Nat.le_refl _) (.cells #[] 35)).trans hb7); have HB_6 := Lib.hid (HB_5.out.trans (HCx.out.mono HB_5.out.size)); have HOx := Lib.hid hown7; clear hc7 hcm7 hown7 hb7 hgr7)
                | ((with_reducible show wpList _ _ _ (⟨some 69, .call _, _, _, _, _⟩ :: _) _ _); refine wp_appF _ rfl _ _ 22 35 rfl Tryd.underlying22 fd_info w5.heap.size _ k ([] ++ L) rfl (HOx.out.alloc _) (w6.heap.size + 1) _ 1 1 [(CTU, S)] rfl (Fs.one _ _ _ _ _ rfl) (by have := Hk50.out; omega) (Nat.le_trans HCx.out.size (by simp)) (k + 1) rfl ?_; intro A8x c8x w7 hc7 hcm7 hown7 hb7 hgr7; simp only [Act.put, List.setIfInBounds_toArray, List.set_cons_zero, List.set_cons_succ]; have HC2 := Lib.hid (HCx.out.trans ((Below.alloc (Below.refl w5.heap.size w6) HCx.out.size _).trans hb7)); have HB_7 := Lib.hid (HB_5.out.trans (HC2.out.mono HB_5.out.size)); have FL_7 := Lib.hid (FL_5.out.kept HC2.out); obtain ⟨A9, c9, he9, _, _, hf9⟩ := hown7.form; cases he9; rw [List.nil_append] at hf9; have FM_7 := Lib.hid hf9; clear HC2 hc7 hcm7 hown7 hb7 hgr7 hf9)
                | (go_at_call 10; (with_reducible refine (HOs.out _ _ _ FM_7.out).mono ?_); (rintro e w8 ⟨rfl, hb⟩); have HB_8 := Lib.hid (HB_7.out.trans (hb.mono HB_7.out.size)); have FL_8 := Lib.hid (FL_7.out.kept hb); have FM_8 := Lib.hid (FM_7.out.kept hb); clear hb; clear HOs)
                | ((with_reducible show wpList _ _ _ (⟨some 76, .call _, _, _, _, _⟩ :: _) _ _); refine wp_appF _ rfl _ _ 22 35 rfl Tryd.underlying22 fd_info w8.heap.size _ 0 [] rfl (ownF_made 35 w8 w8.heap.size (Nat.le_refl _)) w8.heap.size A7 k c7 L rfl (FL_8.out.below ((Below.refl _ w8).alloc (Nat.le_refl _) _)) (by have := Hk50.out; omega) (by simp) k (Nat.zero_add _) ?_; intro A7y c7y w9 hc7 hcm7 hown7 hb7 hgr7; simp only [Act.put, List.setIfInBounds_toArray, List.set_cons_zero, List.set_cons_succ]; have HCy := Lib.hid (((Below.refl _ w8).alloc (Nat.le_refl _) (.cells #[] 35)).trans hb7); have HB_9 := Lib.hid (HB_8.out.trans (HCy.out.mono HB_8.out.size)); have HOy := Lib.hid hown7; clear hc7 hcm7 hown7 hb7 hgr7)
                | ((with_reducible show wpList _ _ _ (⟨some 80, .call _, _, _, _, _⟩ :: _) _ _); refine wp_appF _ rfl _ _ 22 35 rfl Tryd.underlying22 fd_info w8.heap.size _ k ([] ++ L) rfl (HOy.out.alloc _) (w9.heap.size + 1) _ 1 1 [(ctn, M)] rfl (Fs.one _ _ _ _ _ rfl) (by have := Hk50.out; omega) (Nat.le_trans HCy.out.size (by simp)) (k + 1) rfl ?_; intro A8y c8y w10 hc7 hcm7 hown7 hb7 hgr7; simp only [Act.put, List.setIfInBounds_toArray, List.set_cons_zero, List.set_cons_succ]; have HC2 := Lib.hid (HCy.out.trans ((Below.alloc (Below.refl w8.heap.size w9) HCy.out.size _).trans hb7)); have HB_10 := Lib.hid (HB_8.out.trans (HC2.out.mono HB_8.out.size)); have FL_10 := Lib.hid (FL_8.out.kept HC2.out); obtain ⟨A9, c9, he9, _, _, hf9⟩ := hown7.form; cases he9; rw [List.nil_append] at hf9; have FM_10 := Lib.hid hf9; clear HC2 hc7 hcm7 hown7 hb7 hgr7 hf9)
                | (go_at_call 10; (with_reducible refine (HOm.out _ _ _ FM_10.out).mono ?_); (rintro e w11 ⟨rfl, hb⟩); have HB_11 := Lib.hid (HB_10.out.trans (hb.mono HB_10.out.size)); have FL_11 := Lib.hid (FL_10.out.kept hb); have FM_11 := Lib.hid (FM_10.out.kept hb); clear hb))
                go_ret
                exact ⟨rfl, HB_11.out⟩
        · rw [hq1] at HQ1
          rw [hq2] at HQ2
          clear hq1 hq2
          go_wp2_with (first
          | (go_at_call 14; (with_reducible refine (HQ1.out _).mono ?_); (rintro e wq1 ⟨rfl, hw⟩); subst wq1; clear HQ1)
          | (go_at_call 14; (with_reducible refine (HQ2.out _).mono ?_); (rintro e wq2 ⟨rfl, hw⟩); subst wq2; clear HQ2))
          go_ret
          exact ⟨rfl, HB_2.out⟩
      · rw [hq1] at HQ1
        clear hq1
        generalize qtd M = qm at *
        go_wp2_with (first
          | (go_at_call 14; (with_reducible refine (HQ1.out _).mono ?_); (rintro e wq1 ⟨rfl, hw⟩); subst wq1; clear HQ1)
          | (go_at_call 14; (with_reducible refine (HQ2.out _).mono ?_); (rintro e wq2 ⟨rfl, hw⟩); subst wq2; clear HQ2))
        go_ret
        exact ⟨rfl, HB_2.out⟩
end Go.Proofs.YtmocjiilamcehaaDoor
