/-
  SafeMore walked. Condition: texts of at most 140737488351232 bytes.
-/
import Derived.Test.YtonchnmcklgpoaaDoorSn
import Derived.BigQuiet
namespace Go.Proofs.YtonchnmcklgpoaaDoor
open Go.RowKit Go.Maps
set_option linter.unusedVariables false

set_option maxHeartbeats 4000000 in
set_option maxRecDepth 100000 in
theorem unsafe_row (fs : List (List UInt8 × List UInt8)) (k na : Nat) (hk : fs.length = k) (hna : (uns fs).length = na) (h1 : k ≤ 1000) (hN : ∀ f ∈ fs, f.1.length ≤ 140737488351232 ∧ f.2.length ≤ 140737488351232) (A : Option Addr) (c : Nat) (w : World) (hf : Fs w w.heap.size A k fs) : Calls Tryd.prog 16 #[.slice A k c] w fun e w' => ∃ A' c', e = .returned (.slice A' na c') ∧ na ≤ c' ∧ Tw w' A' na (uns fs) ∧ Below w.heap.size w w' := by
  subst hk
  subst hna
  exact (unsafe_any fs A c w h1 hf fun f hm => ⟨Nat.le_trans (hN f hm).1 (by decide), Nat.le_trans (hN f hm).2 (by decide)⟩).mono fun e w2 ⟨A', c', e1, ho, hb⟩ => ⟨A', c', e1, (Tw.of ho).2, (Tw.of ho).1, hb⟩
set_option maxHeartbeats 4000000 in
set_option maxRecDepth 100000 in
theorem more_any (A0 : Option Addr) (n c : Nat) (fs : List (List UInt8 × List UInt8)) (nm v : List UInt8) (w : World) (hc : n ≤ c) (hc2 : c ≤ 9223372036854775807) (hf : Fs w w.heap.size A0 n fs) (hN : ∀ f ∈ fs, f.1.length ≤ 140737488351232 ∧ f.2.length ≤ 140737488351232) (hnm : nm.length ≤ 140737488351232) (hv : v.length ≤ 140737488351232) : Calls Tryd.prog 4 #[.slice A0 n c, .string (str nm), .string (str v)] w fun e w' => e = .returned (.bool true) ∧ Below w.heap.size w w' := by
  have HSh : Hid (∀ w', Calls Tryd.prog 9 #[] w' fun e w2 => e = .returned (.bool true) ∧ Below w'.heap.size w' w2) := fun w' => shown_any w'
  have hsv := str_size v
  obtain ⟨L, hL⟩ : ∃ L, L = fs.take 50 := ⟨_, rfl⟩
  obtain ⟨k, hk⟩ : ∃ k, k = L.length := ⟨_, rfl⟩
  have hk2 : k = (fs.take 50).length := by rw [hk, hL]
  have hkn : k ≤ n := by rw [hk2, List.length_take, hf.1]; omega
  have hmin : min (n : Int) 50 = (k : Int) := by rw [hk2, List.length_take, hf.1]; omega
  have hk1 : k ≤ 50 := by rw [hk2, List.length_take]; omega
  have HFk : Hid (Fs w w.heap.size A0 k L) := by
    have h := hf.take k hkn
    rw [hk2, List.length_take, ← List.take_take, List.take_length] at h
    rw [hk2, List.length_take, hL]
    exact h
  have hNL : ∀ f ∈ L, f.1.length ≤ 140737488351232 ∧ f.2.length ≤ 140737488351232 := fun f hm => hN f (by rw [hL] at hm; exact List.mem_of_mem_take hm)
  have hkc : (k : Int) ≤ (c : Int) := by omega
  have hNb : ∀ f ∈ L ++ [(nm, v)], f.1.length ≤ 140737488351232 ∧ f.2.length ≤ 140737488351232 := fun f hm => by
    rcases List.mem_append.1 hm with hm | hm
    · exact hNL f hm
    · rw [List.mem_singleton.1 hm]; exact ⟨hnm, hv⟩
  obtain ⟨na, hna⟩ : ∃ na, na = (uns L).length := ⟨_, rfl⟩
  obtain ⟨nb, hnb⟩ : ∃ na, na = (uns (L ++ [(nm, v)])).length := ⟨_, rfl⟩
  have hna1 : na ≤ k := by rw [hna, hk]; exact uns_len L
  have hnb1 : nb ≤ k + 1 := by have := uns_len (L ++ [(nm, v)]); rw [List.length_append, List.length_singleton] at this; omega
  have HU1 : Hid (∀ A c w', Fs w' w'.heap.size A k L → Calls Tryd.prog 16 #[.slice A k c] w' fun e w2 => ∃ A' c', e = .returned (.slice A' na c') ∧ na ≤ c' ∧ Tw w2 A' na (uns L) ∧ Below w'.heap.size w' w2) := fun A c w' h => unsafe_row L k na hk.symm hna.symm (by omega) hNL A c w' h
  have HU2 : Hid (∀ A c w', Fs w' w'.heap.size A (k + 1) (L ++ [(nm, v)]) → Calls Tryd.prog 16 #[.slice A (k + 1) c] w' fun e w2 => ∃ A' c', e = .returned (.slice A' nb c') ∧ nb ≤ c' ∧ Tw w2 A' nb (uns (L ++ [(nm, v)])) ∧ Below w'.heap.size w' w2) := fun A c w' h => unsafe_row (L ++ [(nm, v)]) (k + 1) nb (by rw [List.length_append, hk]; rfl) hnb.symm (by omega) hNb A c w' h
  have HIn : Hid (∀ (B : Option Addr) (d : Nat) (w' : World) (x : List UInt8), Tw w' B nb (uns (L ++ [(nm, v)])) → x ∈ uns (L ++ [(nm, v)]) → Calls Tryd.prog 17 #[.slice B nb d, .string (str x)] w' fun e w2 => e = .returned (.bool true) ∧ w2 = w') := fun B d w' x h hx => by
    have h2 := lin_any (uns (L ++ [(nm, v)])) x B nb d w' (by omega) h
    rw [show (uns (L ++ [(nm, v)])).contains x = true by simpa using hx] at h2
    exact h2
  have HMo : Hid (∀ (i : Nat) x, (uns L)[i]? = some x → x ∈ uns (L ++ [(nm, v)])) := fun i x h => uns_more (nm, v) (List.mem_of_getElem? h)
  have HLa : Hid (hdr nm v = false → low nm ∈ uns (L ++ [(nm, v)])) := fun h => uns_ask (fs := L ++ [(nm, v)]) (f := (nm, v)) (by simp) h
  have HSa : Hid (hdr nm v = true → tot L + v.length ≤ 1024 → nb = na) := fun h h2 => by rw [hnb, hna, uns_same (f := (nm, v)) h h2]
  have HLo : Hid (∀ w', Calls Tryd.prog 10 #[.string (str nm)] w' fun e w2 => e = .returned (.string (str (low nm))) ∧ Below w'.heap.size w' w2) := fun w' => lower_any nm w' (by omega)
  have HHd : Hid (∀ w', Calls Tryd.prog 12 #[.string (str nm), .string (str v)] w' fun e w2 => e = .returned (.bool (hdr nm v)) ∧ Below w'.heap.size w' w2) := fun w' => header_any nm v w' (by omega) (by omega)
  have HTt : Hid (∀ (j : Nat) f, L[j]? = some f → tot (L.take (j + 1)) = tot (L.take j) + f.2.length ∧ f.2.length ≤ 140737488351232) := fun j f h => ⟨tot_take L j f h, (hNL f (List.mem_of_getElem? h)).2⟩
  have HTb : Hid (∀ j, j ≤ k → tot (L.take j) ≤ 50 * 140737488351232) := fun j hj => Nat.le_trans (tot_le _ 140737488351232 fun f hm => (hNL f (List.mem_of_mem_take hm)).2) (Nat.mul_le_mul_right _ (by rw [List.length_take]; omega))
  have HTe : Hid (tot (L.take k) = tot L) := by show _ = _; rw [hk, List.take_length]
  have HAt : Hid (∀ i, i < na → ∃ x, (uns L)[i]? = some x) := fun i hi => ⟨(uns L)[i]'(by omega), List.getElem?_eq_getElem (by omega)⟩
  have HFo : Hid (∀ W : World, Fs (W.alloc (.cells #[.string (str nm), .string (str v)] 30)) (W.heap.size + 1) (some ⟨W.heap.size, 0, none⟩) 1 [(nm, v)]) := fun W => Fs.one W 30 nm v _ rfl
  obtain ⟨V, hV⟩ : ∃ V, V = v.length := ⟨_, rfl⟩
  rw [← hV] at hsv HSa hv
  obtain ⟨k1, hkk⟩ : ∃ q, q = k + 1 := ⟨_, rfl⟩
  have hw1 : IntKind.i64.wrap ((k : Int) + 1) = (k1 : Int) := by rw [IntKind.wrap_i64]; omega
  have hn1 : (nb : Int) ≤ (k1 : Int) := by omega
  have hn2 : nb ≤ k1 := by omega
  generalize uns (L ++ [(nm, v)]) = UB at *
  generalize uns L = UA at *
  clear hL hk hk2 hkn hf hNL hNb hna hnb hV hN hnm
  go_enter Tryd.func4, Tryd.ntmps4
  go_wp2_with (first
    | (go_at_call 9; (with_reducible refine (HSh.out _).mono ?_); (rintro e w1 ⟨rfl, hb⟩); have HB1 := Lib.hid hb; clear hb HSh)
    | ((with_reducible show wpList _ _ _ (⟨some 21, .call _, _, _, _, _⟩ :: _) _ _); refine wp_appF _ rfl _ _ 26 30 rfl Tryd.underlying26 fd_info w1.heap.size _ 0 [] rfl (ownF_made 30 w1 w1.heap.size (Nat.le_refl _)) w.heap.size A0 k c L rfl (HFk.out.below (HB1.out.alloc HB1.out.size _)) (by omega) (by simp) k (Nat.zero_add _) ?_; intro A7 c7 w7 hc7 hcm7 hown7 hb7 hgr7; simp only [Act.put, List.setIfInBounds_toArray, List.set_cons_zero, List.set_cons_succ]; have HO7 := Lib.hid hown7; have HB7 := Lib.hid (HB1.out.trans (((((Below.refl w1.heap.size w1).alloc (Nat.le_refl _) (.cells #[] 30)).trans hb7)).mono HB1.out.size)); (obtain ⟨A8, c8, he8, _, _, hfs8⟩ := hown7.form); (cases he8); have HF7 := Lib.hid hfs8; clear hfs8 hown7 hb7 hgr7 hcm7; have hc7k : k ≤ c7 := hc7; clear hc7)
    | (go_at_call 16; (with_reducible refine (HU1.out _ _ _ HF7.out).mono ?_); (rintro e w3 ⟨Aa, ca, rfl, hca, hta, hb⟩); have HTa := Lib.hid hta; have HB3 := Lib.hid (HB7.out.trans (hb.mono HB7.out.size)); have HF3 := Lib.hid (HF7.out.kept hb); clear hb hta hca HU1)
    | ((with_reducible show wpList _ _ _ (⟨some 26, .call _, _, _, _, _⟩ :: _) _ _); refine wp_appF _ rfl _ _ 26 30 rfl Tryd.underlying26 fd_info w3.heap.size _ 0 [] rfl (ownF_made 30 w3 w3.heap.size (Nat.le_refl _)) w3.heap.size A7 k c7 L rfl (HF3.out.below ((Below.refl w3.heap.size w3).alloc (Nat.le_refl _) _)) (by omega) (by simp) k (Nat.zero_add _) ?_; intro A9 c9 w9 hc9 hcm9 hown9 hb9 hgr9; simp only [Act.put, List.setIfInBounds_toArray, List.set_cons_zero, List.set_cons_succ]; have HO9 := Lib.hid hown9; have HB9 := Lib.hid (((Below.refl w3.heap.size w3).alloc (Nat.le_refl _) (.cells #[] 30)).trans hb9); clear hown9 hb9 hgr9 hc9 hcm9)
    | ((with_reducible show wpList _ _ _ (⟨some 31, .call _, _, _, _, _⟩ :: _) _ _); refine wp_appF _ rfl _ _ 26 30 rfl Tryd.underlying26 fd_info w3.heap.size _ k L rfl (HO9.out.alloc _) (w9.heap.size + 1) _ 1 1 [(nm, v)] rfl (HFo.out _) (by omega) (Nat.le_trans HB9.out.size (by simp)) (k + 1) rfl ?_; intro A10 c10 w10 hc10 hcm10 hown10 hb10 hgr10; simp only [Act.put, List.setIfInBounds_toArray, List.set_cons_zero, List.set_cons_succ]; have HB10 := Lib.hid ((HB9.out.alloc HB9.out.size (.cells #[.string (str nm), .string (str v)] 30)).trans hb10); (obtain ⟨A8, c8, he8, _, _, hfs8⟩ := hown10.form); (cases he8); have HF10 := Lib.hid hfs8; clear hfs8 hown10 hb10 hgr10 hc10 hcm10)
    | (go_at_call 16; (with_reducible refine (HU2.out _ _ _ HF10.out).mono ?_); (rintro e w4 ⟨Ab, cb, rfl, hcb, htb, hb⟩); have HTb2 := Lib.hid htb; have hb34 := HB10.out.trans (hb.mono HB10.out.size); have HB4 := Lib.hid (HB3.out.trans (hb34.mono HB3.out.size)); have HTa4 := Lib.hid (HTa.out.kept hb34); have HF4 := Lib.hid (HF3.out.kept hb34); clear hb htb hb34 HU2 HF10 hcb))
  go_loop [10] (fun i => ∃ j : Nat, j ≤ na ∧ i = .int .i64 (j : Int)) (fun i => na - (intOf i).toNat)
  case atStart => exact ⟨0, by omega, rfl⟩
  case round =>
    obtain ⟨j, hj, rfl⟩ := hrel
    by_cases hlt : j < na
    · have hjS : (j : Int) < (na : Int) := by omega
      obtain ⟨x, hx⟩ := HAt.out j hlt
      obtain ⟨ga, rfl, hcell⟩ := HTa4.out.2 j x hx
      have HCx : Hid (Calls Tryd.prog 17 #[.slice Ab nb cb, .string (str x)] w4 fun e w2 => e = .returned (.bool true) ∧ w2 = w4) := HIn.out Ab cb w4 x HTb2.out (HMo.out j x hx)
      unfold vstr at hcell
      clear hx
      go_wp2_with (first | (go_at_call 17; (with_reducible refine (HCx.out).mono ?_); (rintro e w5 ⟨rfl, hq⟩); subst w5))
      go_round
      case rel => exact ⟨j + 1, by omega, by go_num⟩
      case measure => simp [intOf]; omega
    · have hjS : ¬ (j : Int) < (na : Int) := by omega
      have hnn : (0 : Int) ≤ (na : Int) := by omega
      go_wp2_with (first | (go_at_call 12; (with_reducible refine (HHd.out _).mono ?_); (rintro e w5 ⟨rfl, hb⟩); have HB5 := Lib.hid (HB4.out.trans (hb.mono HB4.out.size)); have HF5 := Lib.hid (HF4.out.kept hb); have HTb5 := Lib.hid (HTb2.out.kept hb); clear hb HHd))
      go_loop [13, 12] (fun i t => ∃ (j T : Nat), j ≤ k ∧ i = .int .i64 (j : Int) ∧ t = .int .i64 (T : Int) ∧ T = tot (L.take j)) (fun i _ => k - (intOf i).toNat)
      case atStart => exact ⟨0, 0, by omega, rfl, rfl, rfl⟩
      case round =>
        obtain ⟨i, T, hi, rfl, rfl, hT⟩ := hrel
        have HT := Lib.hid hT
        have hTb : T ≤ 50 * 140737488351232 := by rw [hT]; exact HTb.out i hi
        clear hT
        by_cases hlt2 : i < k
        · have hiS : (i : Int) < (k : Int) := by omega
          obtain ⟨b, off, f, rfl, hbl, hfi, h0, h1⟩ := HF5.out.at_ hlt2
          obtain ⟨e1, e2⟩ := HTt.out i f hfi
          obtain ⟨p, q⟩ := f
          have hsq := str_size q
          obtain ⟨Q, hQ⟩ : ∃ Q, Q = q.length := ⟨_, rfl⟩
          have e1 : tot (L.take (i + 1)) = tot (L.take i) + q.length := e1
          have e2 : q.length ≤ 140737488351232 := e2
          rw [← hQ] at hsq e1 e2
          obtain ⟨T2, hT2⟩ : ∃ T2, T2 = T + Q := ⟨_, rfl⟩
          have hw2 : IntKind.i64.wrap ((T : Int) + (Q : Int)) = (T2 : Int) := by rw [IntKind.wrap_i64]; omega
          have HT2 : Hid (T2 = tot (L.take (i + 1))) := by show _ = _; rw [e1, ← HT.out, hT2]
          clear e1 hQ hT2 hfi h0 hbl
          have h1 : World.cell? _ ⟨b, off + i * 2 + 1, none⟩ = some (.string (str q)) := h1
          go_wp2_with fail
          go_round
          case rel => exact ⟨i + 1, T2, by omega, by go_num, rfl, HT2.out⟩
          case measure => simp [intOf]; omega
        · have hiS : ¬ (i : Int) < (k : Int) := by omega
          have hik : Hid (i = k) := by show _ = _; omega
          have HTt2 : Hid (T = tot L) := by show _ = _; rw [HT.out, hik.out, HTe.out]
          obtain ⟨T2, hT2⟩ : ∃ T2, T2 = T + V := ⟨_, rfl⟩
          have hw2 : IntKind.i64.wrap ((T : Int) + (V : Int)) = (T2 : Int) := by rw [IntKind.wrap_i64]; omega
          have hn3 : decide ((nb : Int) ≤ (k : Int) + 1) = true := by simp; omega
          obtain ⟨H, hH⟩ : ∃ H, H = hdr nm v := ⟨_, rfl⟩
          rw [← hH] at HLa HSa ⊢
          clear hH
          cases H
          · have HIn2 : Hid (∀ w', Tw w' Ab nb UB → Calls Tryd.prog 17 #[.slice Ab nb cb, .string (str (low nm))] w' fun e w2 => e = .returned (.bool true) ∧ w2 = w') := fun w' h => HIn.out Ab cb w' _ h (HLa.out rfl)
            go_wp2_with (first
              | (go_at_call 10; (with_reducible refine (HLo.out _).mono ?_); (rintro e w6 ⟨rfl, hb⟩); have HB6 := Lib.hid (HB5.out.trans (hb.mono HB5.out.size)); have HTb6 := Lib.hid (HTb5.out.kept hb); clear hb HLo)
              | (go_at_call 17; (with_reducible refine (HIn2.out _ HTb6.out).mono ?_); (rintro e w7x ⟨rfl, hq⟩); subst w7x))
            go_ret
            exact ⟨rfl, HB6.out⟩
          · by_cases h1024 : T2 ≤ 1024
            · have h1 : decide ((T2 : Int) ≤ 1024) = true := by simp; omega
              have h2 : (T2 : Int) ≤ 1024 := by omega
              have hnn2 := HSa.out rfl (by rw [← HTt2.out, ← hT2]; exact h1024)
              have h3 : ((nb : Int) != (na : Int)) = false := by simp; omega
              clear hnn2 h1024
              go_wp2_with fail
              go_ret
              exact ⟨rfl, HB5.out⟩
            · have h1 : decide ((T2 : Int) ≤ 1024) = false := by simp; omega
              have h2 : ¬ (T2 : Int) ≤ 1024 := by omega
              clear h1024
              go_wp2_with fail
              go_ret
              exact ⟨rfl, HB5.out⟩
end Go.Proofs.YtonchnmcklgpoaaDoor
