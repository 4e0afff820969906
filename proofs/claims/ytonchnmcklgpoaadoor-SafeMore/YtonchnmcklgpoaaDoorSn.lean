/-
  The laws' helper in; SafeLong walked. Condition: texts of at most 2^62 bytes.
-/
import Derived.Test.YtonchnmcklgpoaaDoorSk
import Derived.Test.YtonchnmcklgpoaaDoorSl
import Derived.BigQuiet
namespace Go.Proofs.YtonchnmcklgpoaaDoor
open Go.RowKit Go.Maps
set_option linter.unusedVariables false

/-- The slice '.slice A n c' holds the texts L, at its block's beginning. -/
def Tw (w : World) (A : Option Addr) (n : Nat) (L : List (List UInt8)) : Prop := L.length = n ∧ ∀ j x, L[j]? = some x → ∃ g, A = some ⟨g, 0, none⟩ ∧ w.cell? ⟨g, j, none⟩ = some (vstr x)
theorem Tw.of {w : World} {base n c : Nat} {A : Option Addr} {L : List (List UInt8)} (h : OwnT w base (.slice A n c) n L) : Tw w A n L ∧ n ≤ c := by
  obtain ⟨h1, h2⟩ := tv_own h
  rw [h.len] at h2
  exact ⟨⟨h.len, h1⟩, h2⟩
theorem Tw.kept {w w' : World} {n : Nat} {A : Option Addr} {L : List (List UInt8)} (h : Tw w A n L) (hb : Below w.heap.size w w') : Tw w' A n L :=
  ⟨h.1, fun j x hj => by
    obtain ⟨g, e, hc⟩ := h.2 j x hj
    exact ⟨g, e, (hb.cell (p := ⟨g, j, none⟩) (World.block_lt_of_cell? w _ hc)).trans hc⟩⟩
theorem has_drop (L : List (List UInt8)) (s x : List UInt8) (k : Nat) (h : L[k]? = some x) : (L.drop k).contains s = (decide (x = s) || (L.drop (k + 1)).contains s) := by
  have hk := (List.getElem?_eq_some_iff.1 h).1
  have e := (List.getElem?_eq_some_iff.1 h).2
  rw [List.drop_eq_getElem_cons hk, e, List.contains_cons]
  congr 1
  by_cases h2 : x = s
  · simp [h2]
  · have h3 : ¬ s = x := fun e => h2 e.symm
    simp [h2, h3]
set_option maxHeartbeats 4000000 in
set_option maxRecDepth 100000 in
theorem lin_any (L : List (List UInt8)) (s : List UInt8) (A : Option Addr) (n c : Nat) (w : World) (hn : n ≤ 1000000) (ht : Tw w A n L) : Calls Tryd.prog 17 #[.slice A n c, .string (str s)] w fun e w' => e = .returned (.bool (L.contains s)) ∧ w' = w := by
  have hL := ht.1
  have HT : Hid (∀ k, k < n → ∃ x, L[k]? = some x) := fun k hk => ⟨L[k]'(by omega), List.getElem?_eq_getElem (by omega)⟩
  have HC := Lib.hid ht.2
  have HD : Hid (∀ k x, L[k]? = some x → (L.drop k).contains s = (decide (x = s) || (L.drop (k + 1)).contains s)) := fun k x h => has_drop L s x k h
  have HE : Hid ((L.drop n).contains s = false) := by show _ = _; rw [← hL, List.drop_length]; rfl
  have H0 : Hid (L.drop 0 = L) := rfl
  obtain ⟨R, hR⟩ : ∃ R, R = L.contains s := ⟨_, rfl⟩
  have HR := Lib.hid hR
  rw [← hR]
  clear hL ht hR
  go_enter Tryd.func17, Tryd.ntmps17
  go_wp2_with fail
  go_loop [5] (fun i => ∃ k : Nat, k ≤ n ∧ i = .int .i64 (k : Int) ∧ (L.drop k).contains s = R) (fun i => n - (intOf i).toNat)
  case atStart => exact ⟨0, by omega, rfl, by rw [H0.out, HR.out]⟩
  case round =>
    obtain ⟨k, hk, rfl, hA⟩ := hrel
    have HA := Lib.hid hA
    clear hA
    by_cases hlt : k < n
    · have hkS : (k : Int) < (n : Int) := by omega
      obtain ⟨x, hx⟩ := HT.out k hlt
      obtain ⟨g, rfl, hcell⟩ := HC.out k x hx
      have HDk := Lib.hid (HD.out k x hx)
      unfold vstr at hcell
      clear hx
      by_cases hxs : x = s
      · have heq : ((str x).toList == (str s).toList) = true := by rw [eq_str]; exact decide_eq_true hxs
        have HF : Hid (R = true) := by show _ = _; rw [← HA.out, HDk.out, decide_eq_true hxs, Bool.true_or]
        clear hxs
        go_wp2_with fail
        go_ret
        rw [HF.out]
        exact ⟨rfl, rfl⟩
      · have heq : ((str x).toList == (str s).toList) = false := by rw [eq_str]; exact decide_eq_false hxs
        have HF : Hid ((L.drop (k + 1)).contains s = R) := by show _ = _; rw [← HA.out, HDk.out, decide_eq_false hxs, Bool.false_or]
        clear hxs
        go_wp2_with fail
        go_round
        case rel => exact ⟨k + 1, by omega, by go_num, HF.out⟩
        case measure => simp [intOf]; omega
    · have hkS : ¬ (k : Int) < (n : Int) := by omega
      have hke : Hid (k = n) := by show _ = _; omega
      have HF : Hid (R = false) := by show _ = _; rw [← HA.out, hke.out, HE.out]
      go_wp2_with fail
      go_ret
      rw [HF.out]
      exact ⟨rfl, rfl⟩
theorem i64_and15 (n : Int) : bits .and .i64 n 15 = n % 16 := by
  have h1 : (BitVec.ofInt 64 15).toNat = 2 ^ 4 - 1 := by decide
  have key : (BitVec.ofInt 64 n &&& BitVec.ofInt 64 15).toNat = (n % ((2 ^ 64 : Nat) : Int)).toNat % 2 ^ 4 := by
    rw [BitVec.toNat_and, BitVec.toNat_ofInt, h1, Nat.and_two_pow_sub_one_eq_mod]
  show IntKind.i64.wrap ((BitVec.ofInt 64 n &&& BitVec.ofInt 64 15).toNat : Nat) = _
  rw [key, IntKind.wrap_i64]
  omega
theorem rep_snoc {α : Type} (a : α) (k : Nat) : List.replicate k a ++ [a] = List.replicate (k + 1) a := by rw [List.replicate_succ']
set_option maxHeartbeats 4000000 in
set_option maxRecDepth 100000 in
theorem long_any (nm v : List UInt8) (n0 : Int) (w : World) (hnm : nm.length ≤ 4611686018427387904) (hv : v.length ≤ 4611686018427387904) : Calls Tryd.prog 8 #[.string (str nm), .string (str v), .int .i64 n0] w fun e w' => e = .returned (.bool true) ∧ Below w.heap.size w w' := by
  have HSh : Hid (∀ w', Calls Tryd.prog 9 #[] w' fun e w2 => e = .returned (.bool true) ∧ Below w'.heap.size w' w2) := fun w' => shown_any w'
  have hsv := str_size v
  obtain ⟨n, hn, hn15⟩ : ∃ q : Nat, bits .and .i64 n0 15 = (q : Int) ∧ q < 16 := ⟨(n0 % 16).toNat, by rw [i64_and15]; omega, by omega⟩
  obtain ⟨j, hj, hj1, hj2⟩ : ∃ j : Nat, min (v.length : Int) 200 = (j : Int) ∧ j ≤ v.length ∧ j ≤ 200 := ⟨min v.length 200, by omega, by omega, by omega⟩
  obtain ⟨S, hS⟩ : ∃ S, S = v.length := ⟨_, rfl⟩
  rw [← hS] at hsv hv hj hj1
  have hx0 := str_take v j
  have hvl : (v.take j).length ≤ 200 := by rw [List.length_take]; omega
  generalize v.take j = V at *
  have HU1 : Hid (∀ A c w', Fs w' w'.heap.size A n (List.replicate n (acp, lng128)) → Calls Tryd.prog 16 #[.slice A n c] w' fun e w2 => ∃ A' c', e = .returned (.slice A' (if n ≤ 8 then 0 else 1) c') ∧ Below w'.heap.size w' w2) := fun A c w' h => by
    have h2 := unsafe_any (List.replicate n (acp, lng128)) A c w' (by rw [List.length_replicate]; omega) (by rw [List.length_replicate]; exact h) (fun f hf => by rw [List.eq_of_mem_replicate hf]; exact ⟨by decide, by decide⟩)
    rw [long_a n hn15, List.length_replicate] at h2
    exact h2.mono fun e w2 ⟨A', c', e1, _, hb⟩ => ⟨A', c', e1, hb⟩
  have HU2 : Hid (∀ A c w', Fs w' w'.heap.size A (n + 1) (List.replicate n (acp, lng128) ++ [(kAcc, [98])]) → Calls Tryd.prog 16 #[.slice A (n + 1) c] w' fun e w2 => ∃ A' c', e = .returned (.slice A' (if n < 8 then 0 else 1) c') ∧ Below w'.heap.size w' w2) := fun A c w' h => by
    have h2 := unsafe_any (List.replicate n (acp, lng128) ++ [(kAcc, [98])]) A c w' (by rw [List.length_append, List.length_replicate]; simp; omega) (by rw [List.length_append, List.length_replicate]; exact h) (fun f hf => by
      rcases List.mem_append.1 hf with hf | hf
      · rw [List.eq_of_mem_replicate hf]; exact ⟨by decide, by decide⟩
      · rw [List.mem_singleton.1 hf]; exact ⟨by decide, by decide⟩)
    rw [long_b n hn15, List.length_append, List.length_replicate, List.length_singleton] at h2
    exact h2.mono fun e w2 ⟨A', c', e1, _, hb⟩ => ⟨A', c', e1, hb⟩
  have HH1 : Hid (∀ w', Calls Tryd.prog 12 #[.string (str nm), .string (str (lng128 ++ [98] ++ V))] w' fun e w2 => e = .returned (.bool false) ∧ Below w'.heap.size w' w2) := fun w' => by
    have h := header_any nm (lng128 ++ [98] ++ V) w' (by omega) (by rw [List.length_append, List.length_append, show lng128.length = 128 from List.length_replicate, List.length_singleton]; omega)
    rw [long_no] at h
    exact h
  have HH2 : Hid (∀ w', Calls Tryd.prog 12 #[.string ⟨#[97, 99, 99, 101, 112, 116]⟩, .string (str lng128)] w' fun e w2 => e = .returned (.bool true) ∧ Below w'.heap.size w' w2) := fun w' => by
    have h := header_any kAcc lng128 w' (by decide) (by decide)
    rw [long_ok] at h
    exact h
  have HRp : Hid (∀ k, str (List.replicate k 97) ++ ⟨#[97]⟩ = str (List.replicate (k + 1) 97)) := fun k => by rw [← rep_snoc]; exact str_add _ [97]
  have HRz : Hid (∀ k, (str (List.replicate k (97 : UInt8))).size = k) := fun k => by rw [str_size, List.length_replicate]
  have HRs : Hid (∀ k, List.replicate k (acp, lng128) ++ [(acp, lng128)] = List.replicate (k + 1) (acp, lng128)) := fun k => rep_snoc _ k
  have HL : Hid (List.replicate 128 97 = lng128) := rfl
  have z1 : (str lng128).size = 128 := by rw [str_size]; rfl
  have z2 : str lng128 ++ ⟨#[98]⟩ = str (lng128 ++ [98]) := str_add _ [98]
  have z3 : str (lng128 ++ [98]) ++ str V = str (lng128 ++ [98] ++ V) := str_add _ V
  have z4 : ¬ 9223372036854775807 < (str (lng128 ++ [98])).size + (str V).size := by rw [str_size, str_size, List.length_append, show lng128.length = 128 from List.length_replicate, List.length_singleton]; omega
  have hj3 : (j : Int) ≤ (S : Int) := by omega
  have HFo : Hid (∀ W : World, Fs (W.alloc (.cells #[.string ⟨#[65, 99, 99, 101, 112, 116]⟩, .string (str lng128)] 30)) (W.heap.size + 1) (some ⟨W.heap.size, 0, none⟩) 1 [(acp, lng128)]) := fun W => Fs.one W 30 acp lng128 _ rfl
  have HFp : Hid (∀ W : World, Fs (W.alloc (.cells #[.string ⟨#[97, 99, 99, 101, 112, 116]⟩, .string ⟨#[98]⟩] 30)) (W.heap.size + 1) (some ⟨W.heap.size, 0, none⟩) 1 [(kAcc, [98])]) := fun W => Fs.one W 30 kAcc [98] _ rfl
  clear hS hnm hv hvl
  generalize lng128 ++ [98] ++ V = X3 at *
  generalize lng128 ++ [98] = X2 at *
  go_enter Tryd.func8, Tryd.ntmps8
  go_wp2_with (first | (go_at_call 9; (with_reducible refine (HSh.out _).mono ?_); (rintro e w1 ⟨rfl, hb⟩); have HB1 := Lib.hid hb; clear hb))
  go_loop [8] (fun i => ∃ k : Nat, k ≤ 128 ∧ i = .string (str (List.replicate k 97))) (fun i => match i with | .string b => 128 - b.size | _ => 0)
  case atStart => exact ⟨0, by omega, rfl⟩
  case round =>
    obtain ⟨k, hk, rfl⟩ := hrel
    by_cases hlt : k < 128
    · have hkS : (k : Int) < 128 := by omega
      have hz := HRz.out k
      have hr := HRp.out k
      have hq : ¬ 9223372036854775807 < (str (List.replicate k (97 : UInt8))).size + 1 := by rw [hz]; omega
      have hz2 := Lib.hid (HRz.out (k + 1))
      obtain ⟨B2, hB2⟩ : ∃ B, B = str (List.replicate (k + 1) (97 : UInt8)) := ⟨_, rfl⟩
      rw [← hB2] at hr hz2
      have HB2 : Hid (Value.string B2 = .string (str (List.replicate (k + 1) (97 : UInt8)))) := by show _ = _; rw [hB2]
      clear hB2
      go_wp2_with fail
      go_round
      case rel => exact ⟨k + 1, by omega, HB2.out⟩
      case measure => have := hz2.out; simp [hz, this]; omega
    · have hke : k = 128 := by omega
      have hkS : ¬ (128 : Int) < 128 := by omega
      subst hke
      rw [HL.out]
      go_wp2_with fail
      go_loopw [10, 9] (fun i o wr => ∃ (k : Nat) (A1 : Option Addr) (c1 : Nat), k ≤ n ∧ i = .int .i64 (k : Int) ∧ o = .slice A1 k c1 ∧ OwnF 30 wr w.heap.size (.slice A1 k c1) k (List.replicate k (acp, lng128)) ∧ Kept w wr) (fun i _ _ => n - (intOf i).toNat)
      case atStart => exact ⟨0, _, _, by omega, rfl, rfl, ownF_nil _ _ _, HB1.out⟩
      case round =>
        obtain ⟨k, A1, c1, hk, rfl, rfl, hof, hkp⟩ := hrel
        have HO := Lib.hid hof
        have HK := Lib.hid hkp
        clear hof hkp
        by_cases hlt : k < n
        · have hkS : (k : Int) < (n : Int) := by omega
          have HRk := Lib.hid (HRs.out k)
          have hk9 : k ≤ 16 := by omega
          go_wp2_with (first | ((with_reducible show wpList _ _ _ (⟨some 35, .call _, _, _, _, _⟩ :: _) _ _); refine wp_appF _ rfl _ _ 26 30 rfl Tryd.underlying26 fd_info w.heap.size _ k (List.replicate k (acp, lng128)) rfl (HO.out.alloc _) (wr.heap.size + 1) _ 1 1 [(acp, lng128)] rfl (HFo.out _) (by omega) (Nat.le_trans HK.out.size (by simp)) (k + 1) rfl ?_; intro A7 c7 w7 hc7 hcm7 hown7 hb7 hgr7; simp only [Act.put, List.setIfInBounds_toArray, List.set_cons_zero, List.set_cons_succ]))
          go_roundw
          case rel => exact ⟨k + 1, A7, c7, by omega, by go_num, rfl, by rw [← HRk.out]; exact hown7, (HK.out.alloc _).base hb7⟩
          case measure => simp [intOf]; omega
        · have hkS : ¬ (k : Int) < (n : Int) := by omega
          have hke : k = n := by omega
          subst hke
          obtain ⟨A8, c8, he8, _, _, hfs8⟩ := HO.out.form
          cases he8
          have HF8 := Lib.hid hfs8
          clear hfs8
          rcases (by omega : k < 8 ∨ k = 8 ∨ 8 < k) with hcs | hcs | hcs
          · have g1 : decide ((k : Int) ≤ 8) = true := by simp; omega
            have g2 : decide ((k : Int) < 8) = true := by simp; omega
            rw [if_pos (by omega)] at HU1
            rw [if_pos (by omega)] at HU2
            clear hcs
            go_wp2_with (first
              | (go_at_call 16; (with_reducible refine (HU1.out _ _ _ HF8.out).mono ?_); (rintro e w3 ⟨A3, c3, rfl, hb⟩); have HO3 := Lib.hid (HO.out.kept hb); have HK3 := Lib.hid (HK.out.step hb); clear hb HU1 HF8)
              | ((with_reducible show wpList _ _ _ (⟨some 41, .call _, _, _, _, _⟩ :: _) _ _); refine wp_appF _ rfl _ _ 26 30 rfl Tryd.underlying26 fd_info w.heap.size _ k (List.replicate k (acp, lng128)) rfl (HO3.out.alloc _) (w3.heap.size + 1) _ 1 1 [(kAcc, [98])] rfl (HFp.out _) (by omega) (Nat.le_trans HK3.out.size (by simp)) (k + 1) rfl ?_; intro A7 c7 w7 hc7 hcm7 hown7 hb7 hgr7; simp only [Act.put, List.setIfInBounds_toArray, List.set_cons_zero, List.set_cons_succ]; have HK7 := Lib.hid ((HK3.out.alloc _).base hb7); (obtain ⟨A9, c9, he9, _, _, hfs9⟩ := hown7.form); (cases he9); have HF9 := Lib.hid hfs9; clear hfs9 hown7 hb7 hgr7 hc7 hcm7)
              | (go_at_call 16; (with_reducible refine (HU2.out _ _ _ HF9.out).mono ?_); (rintro e w4 ⟨A4, c4, rfl, hb⟩); have HK8 := Lib.hid (HK7.out.step hb); clear hb HU2 HF9)
              | (go_at_call 12; (with_reducible refine (HH1.out _).mono ?_); (rintro e w5 ⟨rfl, hb⟩); have HK9 := Lib.hid (HK8.out.step hb); clear hb HH1)
              | (go_at_call 12; (with_reducible refine (HH2.out _).mono ?_); (rintro e w6 ⟨rfl, hb⟩); have HK10 := Lib.hid (HK9.out.step hb); clear hb HH2))
            go_ret
            exact ⟨rfl, HK10.out⟩
          · have g1 : decide ((k : Int) ≤ 8) = true := by simp; omega
            have g2 : decide ((k : Int) < 8) = false := by simp; omega
            rw [if_pos (by omega)] at HU1
            rw [if_neg (by omega)] at HU2
            clear hcs
            go_wp2_with (first
              | (go_at_call 16; (with_reducible refine (HU1.out _ _ _ HF8.out).mono ?_); (rintro e w3 ⟨A3, c3, rfl, hb⟩); have HO3 := Lib.hid (HO.out.kept hb); have HK3 := Lib.hid (HK.out.step hb); clear hb HU1 HF8)
              | ((with_reducible show wpList _ _ _ (⟨some 41, .call _, _, _, _, _⟩ :: _) _ _); refine wp_appF _ rfl _ _ 26 30 rfl Tryd.underlying26 fd_info w.heap.size _ k (List.replicate k (acp, lng128)) rfl (HO3.out.alloc _) (w3.heap.size + 1) _ 1 1 [(kAcc, [98])] rfl (HFp.out _) (by omega) (Nat.le_trans HK3.out.size (by simp)) (k + 1) rfl ?_; intro A7 c7 w7 hc7 hcm7 hown7 hb7 hgr7; simp only [Act.put, List.setIfInBounds_toArray, List.set_cons_zero, List.set_cons_succ]; have HK7 := Lib.hid ((HK3.out.alloc _).base hb7); (obtain ⟨A9, c9, he9, _, _, hfs9⟩ := hown7.form); (cases he9); have HF9 := Lib.hid hfs9; clear hfs9 hown7 hb7 hgr7 hc7 hcm7)
              | (go_at_call 16; (with_reducible refine (HU2.out _ _ _ HF9.out).mono ?_); (rintro e w4 ⟨A4, c4, rfl, hb⟩); have HK8 := Lib.hid (HK7.out.step hb); clear hb HU2 HF9)
              | (go_at_call 12; (with_reducible refine (HH1.out _).mono ?_); (rintro e w5 ⟨rfl, hb⟩); have HK9 := Lib.hid (HK8.out.step hb); clear hb HH1)
              | (go_at_call 12; (with_reducible refine (HH2.out _).mono ?_); (rintro e w6 ⟨rfl, hb⟩); have HK10 := Lib.hid (HK9.out.step hb); clear hb HH2))
            go_ret
            exact ⟨rfl, HK10.out⟩
          · have g1 : decide ((k : Int) ≤ 8) = false := by simp; omega
            have g2 : decide ((k : Int) < 8) = false := by simp; omega
            rw [if_neg (by omega)] at HU1
            rw [if_neg (by omega)] at HU2
            clear hcs
            go_wp2_with (first
              | (go_at_call 16; (with_reducible refine (HU1.out _ _ _ HF8.out).mono ?_); (rintro e w3 ⟨A3, c3, rfl, hb⟩); have HO3 := Lib.hid (HO.out.kept hb); have HK3 := Lib.hid (HK.out.step hb); clear hb HU1 HF8)
              | ((with_reducible show wpList _ _ _ (⟨some 41, .call _, _, _, _, _⟩ :: _) _ _); refine wp_appF _ rfl _ _ 26 30 rfl Tryd.underlying26 fd_info w.heap.size _ k (List.replicate k (acp, lng128)) rfl (HO3.out.alloc _) (w3.heap.size + 1) _ 1 1 [(kAcc, [98])] rfl (HFp.out _) (by omega) (Nat.le_trans HK3.out.size (by simp)) (k + 1) rfl ?_; intro A7 c7 w7 hc7 hcm7 hown7 hb7 hgr7; simp only [Act.put, List.setIfInBounds_toArray, List.set_cons_zero, List.set_cons_succ]; have HK7 := Lib.hid ((HK3.out.alloc _).base hb7); (obtain ⟨A9, c9, he9, _, _, hfs9⟩ := hown7.form); (cases he9); have HF9 := Lib.hid hfs9; clear hfs9 hown7 hb7 hgr7 hc7 hcm7)
              | (go_at_call 16; (with_reducible refine (HU2.out _ _ _ HF9.out).mono ?_); (rintro e w4 ⟨A4, c4, rfl, hb⟩); have HK8 := Lib.hid (HK7.out.step hb); clear hb HU2 HF9)
              | (go_at_call 12; (with_reducible refine (HH1.out _).mono ?_); (rintro e w5 ⟨rfl, hb⟩); have HK9 := Lib.hid (HK8.out.step hb); clear hb HH1)
              | (go_at_call 12; (with_reducible refine (HH2.out _).mono ?_); (rintro e w6 ⟨rfl, hb⟩); have HK10 := Lib.hid (HK9.out.step hb); clear hb HH2))
            go_ret
            exact ⟨rfl, HK10.out⟩
end Go.Proofs.YtonchnmcklgpoaaDoor
