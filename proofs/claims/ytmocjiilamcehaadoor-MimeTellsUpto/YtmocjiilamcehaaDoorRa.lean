/-
  What transeptref10.All, Get, Only answer. No condition but sizes.
-/
import Derived.Test.YtmocjiilamcehaaDoorFc
import Derived.Test.YtmocjiilamcehaaDoorPa
namespace Go.Proofs.YtmocjiilamcehaaDoor
open Go.RowKit
set_option linter.unusedVariables false

set_option maxHeartbeats 4000000 in
set_option maxRecDepth 100000 in
theorem rall_any (fs : List (List UInt8 × List UInt8)) (A : Option Addr) (c : Nat) (nm : List UInt8) (w : World) (hn : fs.length ≤ 1000) (hf : Fs w w.heap.size A fs.length fs) (hN : ∀ f ∈ fs, f.1.length ≤ 9223372036854775807 ∧ f.2.length ≤ 9223372036854775807) (hnm : nm.length ≤ 9223372036854775807) : Calls Tryd.prog 48 #[.slice A fs.length c, .string (str nm)] w fun e w' => ∃ A' c', e = .returned (.slice A' (vals fs nm).length c') ∧ OwnT w' w.heap.size (.slice A' (vals fs nm).length c') (vals fs nm).length (vals fs nm) ∧ Below w.heap.size w w' := by
  have HF := Lib.hid hf
  obtain ⟨S, hS⟩ : ∃ S, S = fs.length := ⟨_, rfl⟩
  rw [← hS] at hn HF ⊢
  have HS := Lib.hid hS
  have HNk : Hid (∀ (k : Nat) f, fs[k]? = some f → f.1.length ≤ 9223372036854775807 ∧ f.2.length ≤ 9223372036854775807) := fun k f h => hN f (List.mem_of_getElem? h)
  have HV : Hid (∀ (k : Nat) f, fs[k]? = some f → vals (fs.take (k + 1)) nm = vals (fs.take k) nm ++ if low f.1 = low nm then [f.2] else []) := fun k f h => vl_take fs k f h _
  have HVl : Hid (∀ k, k ≤ S → (vals (fs.take k) nm).length ≤ 1000) := fun k hk => Nat.le_trans (vl_len _ _) (by rw [List.length_take]; omega)
  have HE : Hid (fs.take S = fs) := by show _ = _; rw [HS.out, List.take_length]
  have HLo : Hid (∀ p w', p.length ≤ 9223372036854775807 → Calls Tryd.prog 21 #[.string (str p)] w' fun e w2 => e = .returned (.string (str (low p))) ∧ Below w'.heap.size w' w2) := fun p w' hp => rlower_any p w' hp
  have HLn : Hid (∀ w', Calls Tryd.prog 21 #[.string (str nm)] w' fun e w2 => e = .returned (.string (str (low nm))) ∧ Below w'.heap.size w' w2) := fun w' => rlower_any nm w' hnm
  clear hf hS hN hnm
  go_enter Tryd.func48, Tryd.ntmps48
  go_wp2_with fail
  have hown0 : Hid (OwnT (w.alloc (.cells #[] 9)) w.heap.size (.slice (some ⟨w.heap.size, 0, none⟩) 0 0) 0 []) := ownT_made w w.heap.size (Nat.le_refl _)
  go_loopw [6, 5] (fun i o wr => ∃ (k n : Nat) (A1 : Option Addr) (c1 : Nat), k ≤ S ∧ i = .int .i64 (k : Int) ∧ o = .slice A1 n c1 ∧ OwnT wr w.heap.size (.slice A1 n c1) n (vals (fs.take k) nm) ∧ Kept w wr) (fun i _ _ => S - (intOf i).toNat)
  case atStart => exact ⟨0, 0, _, _, by omega, rfl, rfl, hown0.out, (Kept.refl w).alloc _⟩
  case round =>
    obtain ⟨k, n, A1, c1, hk, rfl, rfl, hown, hkp⟩ := hrel
    clear hown0
    have HOwn := Lib.hid hown
    have HK := Lib.hid hkp
    have hnl := hown.len
    have hnb := HVl.out k hk
    rw [hnl] at hnb
    have Hnb := Lib.hid hnb
    have Hnl := Lib.hid hnl
    clear hown hkp hnb hnl
    by_cases hlt : k < S
    · have hkS : (k : Int) < (S : Int) := by omega
      obtain ⟨b, off, f, rfl, hbl, hfk, h1, h2⟩ := HF.out.at_ hlt
      have hVk := HV.out k f hfk
      have hNf := HNk.out k f hfk
      obtain ⟨p, q⟩ := f
      have HP : Hid (p.length ≤ 9223372036854775807) := hNf.1
      have HBl := Lib.hid hbl
      have HC0 := Lib.hid h1
      have HC1 := Lib.hid h2
      have d0 : wr.cell? ⟨b, off + k * 2, none⟩ = some (.string (str p)) := (HK.out.cell (p := ⟨b, off + k * 2, none⟩) HBl.out).trans HC0.out
      clear hNf hfk hbl h1 h2
      obtain ⟨R, hR⟩ : ∃ R, R = decide (low p = low nm) := ⟨_, rfl⟩
      have HR : Hid (R = true ↔ low p = low nm) := by show _ ↔ _; rw [hR]; simp
      have HX := Lib.hid (HLo.out p)
      generalize hx : low p = x at *
      generalize hy : low nm = y at *
      clear hx hy hR
      have hq : ((str x).toList == (str y).toList) = R := by rw [toList_str, toList_str, Bool.eq_iff_iff, beq_iff_eq, HR.out]
      cases R with
      | true =>
        have hVk2 : vals (fs.take (k + 1)) nm = vals (fs.take k) nm ++ [q] := by rw [hVk, if_pos (HR.out.1 rfl)]
        have HVk := Lib.hid hVk2
        clear hVk hVk2
        go_wp2_with (first
          | (go_at_call 21; (with_reducible refine (HX.out _ HP.out).mono ?_); (rintro e w1 ⟨rfl, hb⟩); have HB1 := Lib.hid hb; clear hb)
          | (go_at_call 21; (with_reducible refine (HLn.out _).mono ?_); (rintro e w2 ⟨rfl, hb⟩); have HB2 := Lib.hid (HB1.out.trans (hb.mono HB1.out.size)); have HK2 := Lib.hid (HK.out.step HB2.out); have HO2 := Lib.hid (HOwn.out.kept HB2.out); have d1 : w2.cell? ⟨b, off + k * 2 + 1, none⟩ = some (.string (str q)) := (HK2.out.cell (p := ⟨b, off + k * 2 + 1, none⟩) HBl.out).trans HC1.out; clear hb)
          | ((with_reducible show wpList _ _ _ (⟨some 30, .call _, _, _, _, _⟩ :: _) _ _); refine wp_appT _ rfl _ _ rfl w.heap.size _ n (vals (fs.take k) nm) rfl (HO2.out.alloc _) w2.heap.size 0 1 1 [q] rfl rfl (lit_one _ _ _ rfl) (by have := Hnb.out; omega) (Nat.le_trans HK2.out.size (by simp)) (n + 1) rfl ?_; intro A4 c4 w4 hc4 hown4 hb4 hkb4 hgr4; simp only [Act.put, List.setIfInBounds_toArray, List.set_cons_zero, List.set_cons_succ]))
        go_roundw
        case rel => exact ⟨k + 1, n + 1, A4, c4, by omega, by go_num, rfl, by rw [HVk.out]; exact hown4, (HK2.out.alloc _).base hb4⟩
        case measure => simp [intOf]; omega
      | false =>
        have hVk2 : vals (fs.take (k + 1)) nm = vals (fs.take k) nm := by rw [hVk, if_neg (fun h => by have := HR.out.2 h; cases this), List.append_nil]
        have HVk := Lib.hid hVk2
        clear hVk hVk2
        go_wp2_with (first
          | (go_at_call 21; (with_reducible refine (HX.out _ HP.out).mono ?_); (rintro e w1 ⟨rfl, hb⟩); have HB1 := Lib.hid hb; clear hb)
          | (go_at_call 21; (with_reducible refine (HLn.out _).mono ?_); (rintro e w2 ⟨rfl, hb⟩); have HB2 := Lib.hid (HB1.out.trans (hb.mono HB1.out.size)); have HK2 := Lib.hid (HK.out.step HB2.out); have HO2 := Lib.hid (HOwn.out.kept HB2.out); have d1 : w2.cell? ⟨b, off + k * 2 + 1, none⟩ = some (.string (str q)) := (HK2.out.cell (p := ⟨b, off + k * 2 + 1, none⟩) HBl.out).trans HC1.out; clear hb))
        go_roundw
        case rel => exact ⟨k + 1, n, A1, c1, by omega, by go_num, rfl, by rw [HVk.out]; exact HO2.out, HK2.out⟩
        case measure => simp [intOf]; omega
    · have hkS : ¬ (k : Int) < (S : Int) := by omega
      have hk2 : k = S := by omega
      have HVS : Hid (vals (fs.take k) nm = vals fs nm) := by show _ = _; rw [hk2, HE.out]
      clear hk2 hlt
      go_wp2_with fail
      go_ret
      have hl := Hnl.out
      have ho := HOwn.out
      rw [HVS.out] at hl ho
      rw [hl]
      exact ⟨A1, c1, rfl, ho, HK.out⟩
theorem jn_take (L : List (List UInt8)) (k : Nat) (x : List UInt8) (h : L[k]? = some x) : jn (L.take (k + 1)) = if k = 0 then x else jn (L.take k) ++ [44, 32] ++ x := by
  rw [take_snoc L k x h]
  split
  · rename_i h0
    subst h0
    exact jn_one x
  · rename_i h0
    rw [jn_snoc _ _ (fun e => by
      have h1 := congrArg List.length e
      have h2 := (List.getElem?_eq_some_iff.1 h).1
      rw [List.length_take, List.length_nil] at h1
      omega), List.append_assoc]
theorem jn_take_le (L : List (List UInt8)) (k : Nat) : (jn (L.take k)).length ≤ (jn L).length := by
  by_cases h : k < L.length
  · have e : L = L.take k ++ L.drop k := (List.take_append_drop k L).symm
    by_cases h0 : L.take k = []
    · rw [h0]; simp [jn_nil]
    · have h1 : L.drop k ≠ [] := fun e2 => by
        have := congrArg List.length e2
        rw [List.length_drop, List.length_nil] at this
        omega
      have h2 := jn_app _ _ h0 h1
      rw [← e] at h2
      rw [h2, List.length_append, List.length_append]
      omega
  · rw [List.take_of_length_le (by omega)]
    exact Nat.le_refl _
set_option maxHeartbeats 4000000 in
set_option maxRecDepth 100000 in
theorem rget_any (fs : List (List UInt8 × List UInt8)) (A : Option Addr) (c : Nat) (nm : List UInt8) (w : World) (hn : fs.length ≤ 1000) (hf : Fs w w.heap.size A fs.length fs) (hN : ∀ f ∈ fs, f.1.length ≤ 9223372036854775807 ∧ f.2.length ≤ 9223372036854775807) (hnm : nm.length ≤ 9223372036854775807) (hj : (jn (vals fs nm)).length ≤ 140737488355328) : Calls Tryd.prog 35 #[.slice A fs.length c, .string (str nm)] w fun e w' => e = .returned (.tuple #[.string (str (jn (vals fs nm))), .bool (decide (vals fs nm ≠ []))]) ∧ Below w.heap.size w w' := by
  have HAl : Hid (∀ w', w' = w → Calls Tryd.prog 48 #[.slice A fs.length c, .string (str nm)] w' fun e w2 => ∃ A' c', e = .returned (.slice A' (vals fs nm).length c') ∧ OwnT w2 w.heap.size (.slice A' (vals fs nm).length c') (vals fs nm).length (vals fs nm) ∧ Below w.heap.size w w2) := fun w' hw => by subst hw; exact rall_any fs A c nm w' hn hf hN hnm
  have HLn : Hid ((vals fs nm).length ≤ 1000) := Nat.le_trans (vl_len _ _) hn
  have hb0 : decide (vals fs nm ≠ []) = decide (0 < (vals fs nm).length) := by
    rw [decide_eq_decide]
    cases vals fs nm <;> simp
  rw [hb0]
  obtain ⟨L, hL⟩ : ∃ L, L = vals fs nm := ⟨_, rfl⟩
  rw [← hL] at HAl HLn hj ⊢
  have HJ := Lib.hid (jn_take L)
  have HJl : Hid (∀ k, (jn (L.take k)).length ≤ 140737488355328) := fun k => Nat.le_trans (jn_take_le L k) hj
  have HE : Hid (L.take L.length = L) := List.take_length
  obtain ⟨S, hSS⟩ : ∃ S, S = L.length := ⟨_, rfl⟩
  rw [← hSS] at HAl HLn HE ⊢
  have HS := Lib.hid hSS
  clear hb0 hL hSS hn hf hN hnm hj
  go_enter Tryd.func35, Tryd.ntmps35
  go_wp2_with (first
    | (go_at_call 48; (with_reducible refine (HAl.out _ rfl).mono ?_); (rintro e w1 ⟨A1, c1, rfl, hown, hb1⟩); have HO := Lib.hid hown; have HB1 := Lib.hid hb1; clear hown hb1))
  go_loop [8, 7] (fun i v => ∃ k : Nat, k ≤ S ∧ i = .int .i64 (k : Int) ∧ v = .string (str (jn (L.take k)))) (fun i _ => S - (intOf i).toNat)
  case atStart => exact ⟨0, by omega, rfl, rfl⟩
  case round =>
    obtain ⟨k, hk, rfl, rfl⟩ := hrel
    by_cases hlt : k < S
    · have hkS : (k : Int) < (S : Int) := by omega
      obtain ⟨A2, c2, he, hc2, _, hf2⟩ := HO.out.form
      cases he
      obtain ⟨g2, rfl, _, _, hcell⟩ := hf2 (by omega)
      have hkl : k < L.length := by rw [← HS.out]; exact hlt
      obtain ⟨x, hx⟩ : ∃ x, L[k]? = some x := ⟨_, List.getElem?_eq_getElem hkl⟩
      have d0 : w1.cell? ⟨g2, k, none⟩ = some (.string (str x)) := hcell k x hx
      have hjk := HJ.out k x hx
      have l1 := HJl.out k
      have l2 := HJl.out (k + 1)
      have Hkl : Hid (k ≤ 1000) := by show _ ≤ _; have := HLn.out; omega
      clear hf2 hcell hkl hx hc2
      obtain ⟨X, hX⟩ : ∃ X, X = jn (L.take k) := ⟨_, rfl⟩
      obtain ⟨Z, hZ⟩ : ∃ Z, Z = jn (L.take (k + 1)) := ⟨_, rfl⟩
      rw [← hX] at l1 ⊢
      rw [← hX, ← hZ] at hjk
      rw [← hZ] at l2
      have HZ := Lib.hid hZ
      by_cases h0 : k = 0
      · have hX0 : X = [] := by rw [hX, h0]; rfl
        rw [if_pos h0] at hjk
        have hkp0 : ¬ (0 : Int) < (k : Int) := by omega
        have hk00 : ¬ 0 < k := by omega
        have e1 : str X ++ str x = str Z := by rw [hjk, hX0]; exact str_add [] x
        have q1 : ¬ (9223372036854775807 : Nat) < (str X).size + (str x).size := by
          have h9 := congrArg List.length hjk
          rw [str_size, str_size, hX0, List.length_nil]
          omega
        have hk100 : k ≤ 1000 := Hkl.out
        clear hX hZ hjk hX0 h0 l1 l2
        go_wp2_with fail
        go_round
        case rel => exact ⟨k + 1, by omega, by go_num, by rw [← HZ.out]⟩
        case measure => simp [intOf]; omega
      · rw [if_neg h0] at hjk
        have hkp0 : (0 : Int) < (k : Int) := by omega
        have hk00 : 0 < k := by omega
        obtain ⟨Y, hY⟩ : ∃ Y, Y = X ++ [44, 32] := ⟨_, rfl⟩
        have e1 : str X ++ (⟨#[44, 32]⟩ : ByteArray) = str Y := by rw [hY]; exact str_add X [44, 32]
        have e2 : str Y ++ str x = str Z := by rw [hjk, hY]; exact str_add _ x
        have q1 : ¬ (9223372036854775807 : Nat) < (str X).size + 2 := by rw [str_size]; omega
        have q2 : ¬ (9223372036854775807 : Nat) < (str Y).size + (str x).size := by
          rw [str_size, str_size, hY, List.length_append]
          have := congrArg List.length hjk
          rw [List.length_append, List.length_append] at this
          omega
        have hk100 : k ≤ 1000 := Hkl.out
        clear hX hZ hjk hY h0 l1 l2
        go_wp2_with fail
        go_round
        case rel => exact ⟨k + 1, by omega, by go_num, by rw [← HZ.out]⟩
        case measure => simp [intOf]; omega
    · have hkS : ¬ (k : Int) < (S : Int) := by omega
      have hke : Hid (k = S) := by show _ = _; omega
      go_wp2_with fail
      go_ret2
      exact ⟨by rw [hke.out, HE.out]; rfl, HB1.out⟩
end Go.Proofs.YtmocjiilamcehaaDoor
