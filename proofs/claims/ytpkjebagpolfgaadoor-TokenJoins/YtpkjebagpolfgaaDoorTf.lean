/-
  What transeptref09.Value, turned, Lower, Method, Never and token.Lower, Fold, Method, Never answer; nothing that was there turns. No condition.
-/
import Derived.Test.YtpkjebagpolfgaaDoorTe
namespace Go.Proofs.YtpkjebagpolfgaaDoor
open Go.RowKit
set_option linter.unusedVariables false

section
variable {ops : Array Oper} {rest : List Oper} {o : Oper} {a : Act} {Q : Exit → Act → World → Prop}
theorem wp_neS (w : World) (hgd : Region.wanted o (yielded ops a.tmps) = true) (x y : Operand) (ho : o.op = .binOp .neq 9 x y 9) (l m : List UInt8)
    (hx : a.eval x = .string (str l)) (hy : a.eval y = .string (str m)) (b : Bool) (hb : b = true ↔ l ≠ m)
    (h : wpList Tryd.prog ops Q rest (a.put o.dst (.bool b)) w) : wpList Tryd.prog ops Q (o :: rest) a w :=
  wpList_step fun K hK => by
    rw [if_pos hgd]
    have h3 : ((str l).toList == (str m).toList) = !b := by
      rw [toList_str, toList_str, Bool.eq_iff_iff, beq_iff_eq]
      cases b
      · simp at hb ⊢; exact hb
      · simp at hb ⊢; exact hb
    have h1 : (binOp .neq 9 (.string (str l)) (.string (str m))).run Tryd.prog w = .ok (.bool b) w := by
      simp only [binOp, Op.stringOp]
      simp [h3]
    have h2 : (eqGuard .neq 9 x y (.string (str l)) (.string (str m))).run Tryd.prog w = .ok () w := by simp [eqGuard]
    unfold Oper.wp execOp
    simp only [ho, hx, hy, Sem.run_bind, h1, h2, Result.andThen_ok, Sem.run_pure]
    exact hK _ _ h
end
theorem bar_at (c : UInt8) (m : Nat) (hm : m = c.toNat) : bar c = (decide (m = 0) || decide (m = 10) || decide (m = 13)) := by
  rw [hm]
  refine u8_all (P := fun c => bar c = (decide (c.toNat = 0) || decide (c.toNat = 10) || decide (c.toNat = 13))) ?_ c
  decide +kernel
set_option maxHeartbeats 4000000 in
set_option maxRecDepth 100000 in
theorem rvalue_any (l : List UInt8) (w : World) (hl : l.length ≤ 9223372036854775807) : Calls Tryd.prog 14 #[.string (str l)] w fun e w' => e = .returned (.bool (vlu l)) ∧ w' = w := by
  have H : Hid (∀ w', Calls Tryd.prog 16 #[.string (str l)] w' fun e w2 => e = .returned (.string (str (tr l))) ∧ w2 = w') := fun w' => rtrim_any l w' hl
  by_cases h : tr l = l
  · have hv := vlu_yes l h
    rw [h] at H
    clear h
    have hsz := str_size l
    have hgb : Hid (∀ k, k < l.length → ∀ h, ((str l)[k]'h).toNat = (l.getD k 0).toNat) := fun k hk h => str_at l k hk h
    have hdr : Hid (∀ k, k < l.length → (l.drop k).any bar = (bar (l.getD k 0) || (l.drop (k + 1)).any bar)) := fun k hk => by rw [drop_at l k hk, List.any_cons]
    have hend : Hid ((l.drop l.length).any bar = false) := by show _ = _; rw [List.drop_length]; rfl
    obtain ⟨R, hR⟩ : ∃ R, R = l.any bar := ⟨_, rfl⟩
    have HR := Lib.hid hR
    rw [← hR] at hv
    rw [hv]
    obtain ⟨S, hS⟩ : ∃ S, S = l.length := ⟨_, rfl⟩
    rw [← hS] at hsz hl hgb hdr hend
    clear hS hR hv
    go_enter Tryd.func14, Tryd.ntmps14
    go_wp2_with (first
      | (go_at_call 16; (with_reducible refine (H.out _).mono ?_); (rintro e w1 ⟨rfl, hw⟩; subst w1))
      | ((with_reducible show wpList _ _ _ (⟨some 7, .binOp _ _ _ _ _, _, _, _, _⟩ :: _) _ _); refine wp_neS _ rfl (.tmp 5) (.tmp 6) rfl l l rfl rfl false (by simp) ?_; simp only [Act.put, List.setIfInBounds_toArray, List.set_cons_zero, List.set_cons_succ]))
    go_loop [3] (fun i => ∃ k : Nat, k ≤ S ∧ i = .int .i64 (k : Int) ∧ (l.drop k).any bar = R) (fun i => S - (intOf i).toNat)
    case atStart => exact ⟨0, by omega, rfl, by rw [List.drop_zero]; exact HR.out.symm⟩
    case round =>
      obtain ⟨k, hk, rfl, hA⟩ := hrel
      have HA := Lib.hid hA
      clear hA
      by_cases hlt : k < S
      · have hkS : (k : Int) < (S : Int) := by omega
        have HG := hgb.out k hlt
        have HD := hdr.out k hlt
        obtain ⟨x, hx⟩ : ∃ x, x = l.getD k 0 := ⟨_, rfl⟩
        rw [← hx] at HG HD
        obtain ⟨b, hbb⟩ : ∃ b, b = x.toNat := ⟨_, rfl⟩
        rw [bar_at x b hbb] at HD
        rw [← hbb] at HG
        clear hx hbb
        rcases (by omega : b = 0 ∨ b = 10 ∨ b = 13 ∨ (b ≠ 0 ∧ b ≠ 10 ∧ b ≠ 13)) with h | h | h | h
        · have c0 : ((b : Int) == 0) = true := by simp; omega
          have c1 : ((b : Int) == 10) = false := by simp; omega
          have c2 : ((b : Int) == 13) = false := by simp; omega
          have HX : Hid ((l.drop k).any bar = true) := by show _ = _; rw [HD]; simp [h]
          clear h HD
          go_wp2_with fail
          go_ret
          refine ⟨?_, rfl⟩
          rw [← HA.out, HX.out]
          rfl
        · have c0 : ((b : Int) == 0) = false := by simp; omega
          have c1 : ((b : Int) == 10) = true := by simp; omega
          have c2 : ((b : Int) == 13) = false := by simp; omega
          have HX : Hid ((l.drop k).any bar = true) := by show _ = _; rw [HD]; simp [h]
          clear h HD
          go_wp2_with fail
          go_ret
          refine ⟨?_, rfl⟩
          rw [← HA.out, HX.out]
          rfl
        · have c0 : ((b : Int) == 0) = false := by simp; omega
          have c1 : ((b : Int) == 10) = false := by simp; omega
          have c2 : ((b : Int) == 13) = true := by simp; omega
          have HX : Hid ((l.drop k).any bar = true) := by show _ = _; rw [HD]; simp [h]
          clear h HD
          go_wp2_with fail
          go_ret
          refine ⟨?_, rfl⟩
          rw [← HA.out, HX.out]
          rfl
        · have c0 : ((b : Int) == 0) = false := by simp; omega
          have c1 : ((b : Int) == 10) = false := by simp; omega
          have c2 : ((b : Int) == 13) = false := by simp; omega
          have HX : Hid ((l.drop k).any bar = (l.drop (k + 1)).any bar) := by show _ = _; rw [HD]; simp [h]
          clear h HD
          go_wp2_with fail
          go_round
          case rel => exact ⟨k + 1, by omega, by go_num, by rw [← HA.out, HX.out]⟩
          case measure => simp [intOf]; omega
      · have hkS : ¬ (k : Int) < (S : Int) := by omega
        have hke : Hid (k = S) := by show _ = _; omega
        go_wp2_with fail
        go_ret
        refine ⟨?_, rfl⟩
        rw [← HA.out, hke.out, hend.out]
        rfl
  · rw [vlu_not l h]
    obtain ⟨X, hX⟩ : ∃ X, X = tr l := ⟨_, rfl⟩
    rw [← hX] at H h
    have HN := Lib.hid h
    clear hX h
    go_enter Tryd.func14, Tryd.ntmps14
    go_wp2_with (first
      | (go_at_call 16; (with_reducible refine (H.out _).mono ?_); (rintro e w1 ⟨rfl, hw⟩; subst w1))
      | ((with_reducible show wpList _ _ _ (⟨some 7, .binOp _ _ _ _ _, _, _, _, _⟩ :: _) _ _); refine wp_neS _ rfl (.tmp 5) (.tmp 6) rfl X l rfl rfl true (by have := HN.out; simp [this]) ?_; simp only [Act.put, List.setIfInBounds_toArray, List.set_cons_zero, List.set_cons_succ]))
    go_ret
    exact ⟨rfl, rfl⟩
theorem mk_len (f : UInt8 → UInt8) (l : List UInt8) : ∀ k, ((fun k => (l.take k).map f ++ l.drop k) k).length = l.length := fun k => by
  show (List.map f (l.take k) ++ l.drop k).length = _
  rw [List.length_append, List.length_map, ← List.length_append, List.take_append_drop]
theorem mk_at (f : UInt8 → UInt8) (l : List UInt8) : ∀ k, k < l.length → ((fun k => (l.take k).map f ++ l.drop k) k).getD k 0 = l.getD k 0 := fun k hk => by
  have h1 : ((l.take k).map f).length = k := by rw [List.length_map, List.length_take]; omega
  show (List.map f (l.take k) ++ l.drop k).getD k 0 = _
  rw [List.getD_eq_getElem?_getD, List.getElem?_append_right (by omega), h1, Nat.sub_self, List.getElem?_drop, Nat.add_zero, List.getD_eq_getElem?_getD]
theorem mk_set (f : UInt8 → UInt8) (l : List UInt8) : ∀ k, k < l.length → ((fun k => (l.take k).map f ++ l.drop k) k).set k (f (l.getD k 0)) = (fun k => (l.take k).map f ++ l.drop k) (k + 1) := fun k hk => by
  have h1 : ((l.take k).map f).length = k := by rw [List.length_map, List.length_take]; omega
  show (List.map f (l.take k) ++ l.drop k).set k _ = List.map f (l.take (k + 1)) ++ l.drop (k + 1)
  rw [List.set_append_right _ _ (by omega), h1, Nat.sub_self, drop_at l k hk, List.set_cons_zero, List.take_succ_eq_append_getElem hk, List.map_append, List.append_assoc]
  simp [List.getD, List.getElem?_eq_getElem hk]
theorem lwc_x (c : UInt8) : lwc c = if 65 ≤ c.toNat ∧ c.toNat ≤ 90 then UInt8.ofNat (c.toNat + 32) else c := by
  refine u8_all (P := fun c => lwc c = if 65 ≤ c.toNat ∧ c.toNat ≤ 90 then UInt8.ofNat (c.toNat + 32) else c) ?_ c
  decide +kernel
theorem xor32 : ∀ c : UInt8, bits .xor .u8 (c.toNat : Int) 32 = ((c ^^^ 32).toNat : Int) := by
  refine fun c => u8_all (P := fun c => bits .xor .u8 (c.toNat : Int) 32 = ((c ^^^ 32).toNat : Int)) ?_ c
  decide +kernel
theorem lwc_xor : ∀ c : UInt8, 65 ≤ c.toNat ∧ c.toNat ≤ 90 → lwc c = c ^^^ 32 := by
  refine fun c => u8_all (P := fun c => 65 ≤ c.toNat ∧ c.toNat ≤ 90 → lwc c = c ^^^ 32) ?_ c
  decide +kernel
theorem upc_xor : ∀ c : UInt8, 97 ≤ c.toNat ∧ c.toNat ≤ 122 → upc c = c ^^^ 32 := by
  refine fun c => u8_all (P := fun c => 97 ≤ c.toNat ∧ c.toNat ≤ 122 → upc c = c ^^^ 32) ?_ c
  decide +kernel
set_option maxHeartbeats 4000000 in
set_option maxRecDepth 100000 in
theorem lower_any (l : List UInt8) (w : World) (hl : l.length ≤ 9223372036854775807) : Calls Tryd.prog 17 #[.string (str l)] w fun e w' => e = .returned (.string (str (l.map lwc))) ∧ Below w.heap.size w w' := by
  obtain ⟨cap, w1, hcv, hcap, hcap2, hwb, hb1⟩ := conv_bytes w l (by omega)
  obtain ⟨S, hS⟩ : ∃ S, S = l.length := ⟨_, rfl⟩
  obtain ⟨g, hg⟩ : ∃ g, g = w.heap.size := ⟨_, rfl⟩
  rw [← hg] at hcv hwb
  have HG : Hid (w.heap.size ≤ g) := by show _ ≤ _; omega
  obtain ⟨M, hM⟩ : ∃ M : Nat → List UInt8, M = fun k => (l.take k).map lwc ++ l.drop k := ⟨_, rfl⟩
  have HL : Hid (∀ k, (M k).length = S) := by rw [hM, hS]; exact mk_len lwc l
  have HA : Hid (∀ k, k < S → (M k).getD k 0 = l.getD k 0) := by rw [hM, hS]; exact mk_at lwc l
  have HN : Hid (∀ k, k < S → (M k).set k (lwc (l.getD k 0)) = M (k + 1)) := by rw [hM, hS]; exact mk_set lwc l
  have H0 : Hid (M 0 = l) := by show _ = _; rw [hM]; simp
  have HE : Hid (M S = l.map lwc) := by show _ = _; rw [hM, hS]; simp
  rw [← hS] at hcv hcap hl
  have hwb' := Lib.hid hwb
  have hb1' := Lib.hid hb1
  clear hM hS hg hwb hb1
  go_enter Tryd.func17, Tryd.ntmps17
  go_wp2_with fail
  go_loopw [10] (fun i wr => ∃ k : Nat, k ≤ S ∧ i = .int .i64 (k : Int) ∧ Wb wr g (M k) ∧ Kept w wr) (fun i _ => S - (intOf i).toNat)
  case atStart => exact ⟨0, by omega, rfl, by rw [H0.out]; exact hwb'.out, hb1'.out⟩
  case round =>
    obtain ⟨k, hk, rfl, hW, hkp⟩ := hrel
    by_cases hlt : k < S
    · have hkS : (k : Int) < (S : Int) := by omega
      have hkc : k < (M k).length := by rw [HL.out]; exact hlt
      have hcell := hW.cell hkc
      have hfz := hW.frozen hkc
      have hst := hW.set hkc (lwc (l.getD k 0))
      rw [HN.out k hlt] at hst
      rw [HA.out k hlt] at hcell
      obtain ⟨c, hc⟩ : ∃ c, c = l.getD k 0 := ⟨_, rfl⟩
      rw [← hc] at hcell hst
      have hsame : (M k).set k (lwc c) = M (k + 1) := by rw [hc]; exact HN.out k hlt
      have hid : (M k).set k c = M k := by
        have h1 := HA.out k hlt
        rw [← hc] at h1
        rw [← h1, List.getD_eq_getElem?_getD, List.getElem?_eq_getElem hkc]
        simp
      have hc256 : c.toNat < 256 := c.toNat_lt
      obtain ⟨m, hm⟩ : ∃ m, m = c.toNat := ⟨_, rfl⟩
      unfold vb at hcell
      rw [← hm] at hcell hc256
      by_cases h1 : 65 ≤ m ∧ m ≤ 90
      · have b1 : (65 : Int) ≤ (m : Int) := by omega
        have b2 : (m : Int) ≤ 90 := by omega
        have hv : vb (lwc c) = .int .u8 ((m + 32 : Nat) : Int) := by
          have e : (UInt8.ofNat (m + 32)).toNat = m + 32 := by rw [UInt8.toNat_ofNat']; omega
          rw [lwc_x, ← hm, if_pos h1, vb, e]
        obtain ⟨b, hbv⟩ : ∃ b, b = m + 32 := ⟨_, rfl⟩
        obtain ⟨a, ha⟩ : ∃ a, a = m - 65 := ⟨_, rfl⟩
        have hw1 : IntKind.u8.wrap ((m : Int) - 65) = (a : Int) := by rw [ha]; simp [IntKind.wrap, IntKind.signed, IntKind.bits]; omega
        have hw2 : IntKind.u8.wrap ((a : Int) + 97) = (b : Int) := by rw [ha, hbv]; simp [IntKind.wrap, IntKind.signed, IntKind.bits]; omega
        rw [← hbv] at hv
        clear ha
        rw [hv] at hst
        have hst' := Lib.hid hst
        have hkp2 := Lib.hid (below_setCell hkp g k (.int .u8 (b : Int)) HG.out)
        clear hv hW hkp hsame hid hc hm hbv h1 hkc hc256 hst
        go_wp2_with fail
        go_roundw
        case rel => exact ⟨k + 1, by omega, by go_num, hst'.out, hkp2.out⟩
        case measure => simp [intOf]; omega
      · have hv : lwc c = c := by unfold lwc; rw [if_neg (by rw [← hm]; exact h1)]
        have hW2 : Hid (Wb wr g (M (k + 1))) := by
          show Wb _ _ _
          rw [← hsame, hv, hid]
          exact hW
        have hkp2 := Lib.hid hkp
        by_cases h2 : 65 ≤ m
        · have b1 : (65 : Int) ≤ (m : Int) := by omega
          have b2 : ¬ (m : Int) ≤ 90 := by omega
          clear hv hW hkp hsame hid hc hm h1 hkc hc256 hst hfz
          go_wp2_with fail
          go_roundw
          case rel => exact ⟨k + 1, by omega, by go_num, hW2.out, hkp2.out⟩
          case measure => simp [intOf]; omega
        · have b1 : ¬ (65 : Int) ≤ (m : Int) := by omega
          clear hv hW hkp hsame hid hc hm h1 hkc hc256 hst hfz
          go_wp2_with fail
          go_roundw
          case rel => exact ⟨k + 1, by omega, by go_num, hW2.out, hkp2.out⟩
          case measure => simp [intOf]; omega
    · have hkS : ¬ (k : Int) < (S : Int) := by omega
      have hk' : k = S := by omega
      have hbs := hW.bs
      rw [HL.out, hk', HE.out] at hbs
      have hkp2 := Lib.hid hkp
      have hbs' := Lib.hid hbs
      clear hW hkp hk' hlt hbs
      go_wp2_with ((with_reducible show wpList _ _ _ (⟨some 29, .convert _ _ _, _, _, _, _⟩ :: _) _ _); refine wp_str _ rfl (.tmp 28) rfl _ (some ⟨g, 0, none⟩) _ cap _ rfl hbs'.out ?_; simp only [Act.put, List.setIfInBounds_toArray, List.set_cons_zero, List.set_cons_succ])
      go_ret
      exact ⟨rfl, hkp2.out⟩
set_option maxHeartbeats 4000000 in
set_option maxRecDepth 100000 in
theorem turned65 (l : List UInt8) (w : World) (hl : l.length ≤ 9223372036854775807) : Calls Tryd.prog 33 #[.string (str l), .int .u8 65, .int .u8 32] w fun e w' => e = .returned (.string (str (l.map lwc))) ∧ Below w.heap.size w w' := by
  obtain ⟨cap, w1, hcv, hcap, hcap2, hwb, hb1⟩ := conv_bytes w l (by omega)
  obtain ⟨S, hS⟩ : ∃ S, S = l.length := ⟨_, rfl⟩
  obtain ⟨g, hg⟩ : ∃ g, g = w.heap.size := ⟨_, rfl⟩
  rw [← hg] at hcv hwb
  have HG : Hid (w.heap.size ≤ g) := by show _ ≤ _; omega
  obtain ⟨M, hM⟩ : ∃ M : Nat → List UInt8, M = fun k => (l.take k).map lwc ++ l.drop k := ⟨_, rfl⟩
  have HL : Hid (∀ k, (M k).length = S) := by rw [hM, hS]; exact mk_len lwc l
  have HA : Hid (∀ k, k < S → (M k).getD k 0 = l.getD k 0) := by rw [hM, hS]; exact mk_at lwc l
  have HN : Hid (∀ k, k < S → (M k).set k (lwc (l.getD k 0)) = M (k + 1)) := by rw [hM, hS]; exact mk_set lwc l
  have H0 : Hid (M 0 = l) := by show _ = _; rw [hM]; simp
  have HE : Hid (M S = l.map lwc) := by show _ = _; rw [hM, hS]; simp
  rw [← hS] at hcv hcap hl
  have hwb' := Lib.hid hwb
  have hb1' := Lib.hid hb1
  clear hM hS hg hwb hb1
  go_enter Tryd.func33, Tryd.ntmps33
  go_wp2_with fail
  go_loopw [8] (fun i wr => ∃ k : Nat, k ≤ S ∧ i = .int .i64 (k : Int) ∧ Wb wr g (M k) ∧ Kept w wr) (fun i _ => S - (intOf i).toNat)
  case atStart => exact ⟨0, by omega, rfl, by rw [H0.out]; exact hwb'.out, hb1'.out⟩
  case round =>
    obtain ⟨k, hk, rfl, hW, hkp⟩ := hrel
    by_cases hlt : k < S
    · have hkS : (k : Int) < (S : Int) := by omega
      have hkc : k < (M k).length := by rw [HL.out]; exact hlt
      have hcell := hW.cell hkc
      have hfz := hW.frozen hkc
      have hst := hW.set hkc (lwc (l.getD k 0))
      rw [HN.out k hlt] at hst
      rw [HA.out k hlt] at hcell
      obtain ⟨c, hc⟩ : ∃ c, c = l.getD k 0 := ⟨_, rfl⟩
      rw [← hc] at hcell hst
      have hsame : (M k).set k (lwc c) = M (k + 1) := by rw [hc]; exact HN.out k hlt
      have hid : (M k).set k c = M k := by
        have h1 := HA.out k hlt
        rw [← hc] at h1
        rw [← h1, List.getD_eq_getElem?_getD, List.getElem?_eq_getElem hkc]
        simp
      have hc256 : c.toNat < 256 := c.toNat_lt
      obtain ⟨m, hm⟩ : ∃ m, m = c.toNat := ⟨_, rfl⟩
      unfold vb at hcell
      rw [← hm] at hcell hc256
      have hwr : IntKind.u8.wrap 90 = 90 := by rfl
      by_cases h1 : 65 ≤ m ∧ m ≤ 90
      · have b1 : (65 : Int) ≤ (m : Int) := by omega
        have b2 : (m : Int) ≤ 90 := by omega
        obtain ⟨b, hbv⟩ : ∃ b, b = (c ^^^ 32).toNat := ⟨_, rfl⟩
        have hv : vb (lwc c) = .int .u8 (b : Int) := by rw [lwc_xor c (by rw [← hm]; exact h1), vb, hbv]
        have hx := xor32 c
        rw [← hm, ← hbv] at hx
        rw [hv] at hst
        have hst' := Lib.hid hst
        have hkp2 := Lib.hid (below_setCell hkp g k (.int .u8 (b : Int)) HG.out)
        clear hv hW hkp hsame hid hc hm hbv h1 hkc hc256 hst
        go_wp2_with fail
        go_roundw
        case rel => exact ⟨k + 1, by omega, by go_num, hst'.out, hkp2.out⟩
        case measure => simp [intOf]; omega
      · have hv : lwc c = c := by unfold lwc; rw [if_neg (by rw [← hm]; exact h1)]
        have hW2 : Hid (Wb wr g (M (k + 1))) := by
          show Wb _ _ _
          rw [← hsame, hv, hid]
          exact hW
        have hkp2 := Lib.hid hkp
        by_cases h2 : 65 ≤ m
        · have b1 : (65 : Int) ≤ (m : Int) := by omega
          have b2 : ¬ (m : Int) ≤ 90 := by omega
          clear hv hW hkp hsame hid hc hm h1 hkc hc256 hst hfz
          go_wp2_with fail
          go_roundw
          case rel => exact ⟨k + 1, by omega, by go_num, hW2.out, hkp2.out⟩
          case measure => simp [intOf]; omega
        · have b1 : ¬ (65 : Int) ≤ (m : Int) := by omega
          clear hv hW hkp hsame hid hc hm h1 hkc hc256 hst hfz
          go_wp2_with fail
          go_roundw
          case rel => exact ⟨k + 1, by omega, by go_num, hW2.out, hkp2.out⟩
          case measure => simp [intOf]; omega
    · have hkS : ¬ (k : Int) < (S : Int) := by omega
      have hk' : k = S := by omega
      have hbs := hW.bs
      rw [HL.out, hk', HE.out] at hbs
      have hkp2 := Lib.hid hkp
      have hbs' := Lib.hid hbs
      clear hW hkp hk' hlt hbs
      go_wp2_with ((with_reducible show wpList _ _ _ (⟨some 42, .convert _ _ _, _, _, _, _⟩ :: _) _ _); refine wp_str _ rfl (.tmp 41) rfl _ (some ⟨g, 0, none⟩) _ cap _ rfl hbs'.out ?_; simp only [Act.put, List.setIfInBounds_toArray, List.set_cons_zero, List.set_cons_succ])
      go_ret
      exact ⟨rfl, hkp2.out⟩
set_option maxHeartbeats 4000000 in
set_option maxRecDepth 100000 in
theorem turned97 (l : List UInt8) (w : World) (hl : l.length ≤ 9223372036854775807) : Calls Tryd.prog 33 #[.string (str l), .int .u8 97, .int .u8 32] w fun e w' => e = .returned (.string (str (l.map upc))) ∧ Below w.heap.size w w' := by
  obtain ⟨cap, w1, hcv, hcap, hcap2, hwb, hb1⟩ := conv_bytes w l (by omega)
  obtain ⟨S, hS⟩ : ∃ S, S = l.length := ⟨_, rfl⟩
  obtain ⟨g, hg⟩ : ∃ g, g = w.heap.size := ⟨_, rfl⟩
  rw [← hg] at hcv hwb
  have HG : Hid (w.heap.size ≤ g) := by show _ ≤ _; omega
  obtain ⟨M, hM⟩ : ∃ M : Nat → List UInt8, M = fun k => (l.take k).map upc ++ l.drop k := ⟨_, rfl⟩
  have HL : Hid (∀ k, (M k).length = S) := by rw [hM, hS]; exact mk_len upc l
  have HA : Hid (∀ k, k < S → (M k).getD k 0 = l.getD k 0) := by rw [hM, hS]; exact mk_at upc l
  have HN : Hid (∀ k, k < S → (M k).set k (upc (l.getD k 0)) = M (k + 1)) := by rw [hM, hS]; exact mk_set upc l
  have H0 : Hid (M 0 = l) := by show _ = _; rw [hM]; simp
  have HE : Hid (M S = l.map upc) := by show _ = _; rw [hM, hS]; simp
  rw [← hS] at hcv hcap hl
  have hwb' := Lib.hid hwb
  have hb1' := Lib.hid hb1
  clear hM hS hg hwb hb1
  go_enter Tryd.func33, Tryd.ntmps33
  go_wp2_with fail
  go_loopw [8] (fun i wr => ∃ k : Nat, k ≤ S ∧ i = .int .i64 (k : Int) ∧ Wb wr g (M k) ∧ Kept w wr) (fun i _ => S - (intOf i).toNat)
  case atStart => exact ⟨0, by omega, rfl, by rw [H0.out]; exact hwb'.out, hb1'.out⟩
  case round =>
    obtain ⟨k, hk, rfl, hW, hkp⟩ := hrel
    by_cases hlt : k < S
    · have hkS : (k : Int) < (S : Int) := by omega
      have hkc : k < (M k).length := by rw [HL.out]; exact hlt
      have hcell := hW.cell hkc
      have hfz := hW.frozen hkc
      have hst := hW.set hkc (upc (l.getD k 0))
      rw [HN.out k hlt] at hst
      rw [HA.out k hlt] at hcell
      obtain ⟨c, hc⟩ : ∃ c, c = l.getD k 0 := ⟨_, rfl⟩
      rw [← hc] at hcell hst
      have hsame : (M k).set k (upc c) = M (k + 1) := by rw [hc]; exact HN.out k hlt
      have hid : (M k).set k c = M k := by
        have h1 := HA.out k hlt
        rw [← hc] at h1
        rw [← h1, List.getD_eq_getElem?_getD, List.getElem?_eq_getElem hkc]
        simp
      have hc256 : c.toNat < 256 := c.toNat_lt
      obtain ⟨m, hm⟩ : ∃ m, m = c.toNat := ⟨_, rfl⟩
      unfold vb at hcell
      rw [← hm] at hcell hc256
      have hwr : IntKind.u8.wrap 122 = 122 := by rfl
      by_cases h1 : 97 ≤ m ∧ m ≤ 122
      · have b1 : (97 : Int) ≤ (m : Int) := by omega
        have b2 : (m : Int) ≤ 122 := by omega
        obtain ⟨b, hbv⟩ : ∃ b, b = (c ^^^ 32).toNat := ⟨_, rfl⟩
        have hv : vb (upc c) = .int .u8 (b : Int) := by rw [upc_xor c (by rw [← hm]; exact h1), vb, hbv]
        have hx := xor32 c
        rw [← hm, ← hbv] at hx
        rw [hv] at hst
        have hst' := Lib.hid hst
        have hkp2 := Lib.hid (below_setCell hkp g k (.int .u8 (b : Int)) HG.out)
        clear hv hW hkp hsame hid hc hm hbv h1 hkc hc256 hst
        go_wp2_with fail
        go_roundw
        case rel => exact ⟨k + 1, by omega, by go_num, hst'.out, hkp2.out⟩
        case measure => simp [intOf]; omega
      · have hv : upc c = c := by unfold upc; rw [if_neg (by rw [← hm]; exact h1)]
        have hW2 : Hid (Wb wr g (M (k + 1))) := by
          show Wb _ _ _
          rw [← hsame, hv, hid]
          exact hW
        have hkp2 := Lib.hid hkp
        by_cases h2 : 97 ≤ m
        · have b1 : (97 : Int) ≤ (m : Int) := by omega
          have b2 : ¬ (m : Int) ≤ 122 := by omega
          clear hv hW hkp hsame hid hc hm h1 hkc hc256 hst hfz
          go_wp2_with fail
          go_roundw
          case rel => exact ⟨k + 1, by omega, by go_num, hW2.out, hkp2.out⟩
          case measure => simp [intOf]; omega
        · have b1 : ¬ (97 : Int) ≤ (m : Int) := by omega
          clear hv hW hkp hsame hid hc hm h1 hkc hc256 hst hfz
          go_wp2_with fail
          go_roundw
          case rel => exact ⟨k + 1, by omega, by go_num, hW2.out, hkp2.out⟩
          case measure => simp [intOf]; omega
    · have hkS : ¬ (k : Int) < (S : Int) := by omega
      have hk' : k = S := by omega
      have hbs := hW.bs
      rw [HL.out, hk', HE.out] at hbs
      have hkp2 := Lib.hid hkp
      have hbs' := Lib.hid hbs
      clear hW hkp hk' hlt hbs
      go_wp2_with ((with_reducible show wpList _ _ _ (⟨some 42, .convert _ _ _, _, _, _, _⟩ :: _) _ _); refine wp_str _ rfl (.tmp 41) rfl _ (some ⟨g, 0, none⟩) _ cap _ rfl hbs'.out ?_; simp only [Act.put, List.setIfInBounds_toArray, List.set_cons_zero, List.set_cons_succ])
      go_ret
      exact ⟨rfl, hkp2.out⟩
theorem rlower_any (l : List UInt8) (w : World) (hl : l.length ≤ 9223372036854775807) : Calls Tryd.prog 18 #[.string (str l)] w fun e w' => e = .returned (.string (str (low l))) ∧ Below w.heap.size w w' := by
  have H : Hid (∀ w', Calls Tryd.prog 33 #[.string (str l), .int .u8 65, .int .u8 32] w' fun e w2 => e = .returned (.string (str (low l))) ∧ Below w'.heap.size w' w2) := fun w' => turned65 l w' hl
  go_enter Tryd.func18, Tryd.ntmps18
  go_wp2_with (go_at_call 33; (with_reducible refine (H.out _).mono ?_); (rintro e w1 ⟨rfl, hb⟩))
  go_ret
  exact ⟨rfl, hb⟩
set_option maxHeartbeats 4000000 in
set_option maxRecDepth 100000 in
theorem fold_any (a b : List UInt8) (w : World) (ha : a.length ≤ 9223372036854775807) (hb : b.length ≤ 9223372036854775807) : Calls Tryd.prog 19 #[.string (str a), .string (str b)] w fun e w' => e = .returned (.bool (decide (low a = low b))) ∧ Below w.heap.size w w' := by
  have HA : Hid (∀ w', Calls Tryd.prog 17 #[.string (str a)] w' fun e w2 => e = .returned (.string (str (low a))) ∧ Below w'.heap.size w' w2) := fun w' => lower_any a w' ha
  have HB : Hid (∀ w', Calls Tryd.prog 17 #[.string (str b)] w' fun e w2 => e = .returned (.string (str (low b))) ∧ Below w'.heap.size w' w2) := fun w' => lower_any b w' hb
  obtain ⟨R, hR⟩ : ∃ R, R = decide (low a = low b) := ⟨_, rfl⟩
  have HR : Hid (R = true ↔ low a = low b) := by show _ ↔ _; rw [hR]; simp
  rw [← hR]
  clear hR
  generalize low a = x at *
  generalize low b = y at *
  go_enter Tryd.func19, Tryd.ntmps19
  go_wp2_with (first
    | (go_at_call 17; (with_reducible refine (HA.out _).mono ?_); (rintro e w1 ⟨rfl, hb1⟩; have HW := Lib.hid hb1; clear hb1))
    | (go_at_call 17; (with_reducible refine (HB.out _).mono ?_); (rintro e w2 ⟨rfl, hb2⟩))
    | ((with_reducible show wpList _ _ _ (⟨some 9, .binOp _ _ _ _ _, _, _, _, _⟩ :: _) _ _); refine wp_eqS _ rfl (.tmp 6) (.tmp 8) rfl x y rfl rfl R (HR.out) ?_; simp only [Act.put, List.setIfInBounds_toArray, List.set_cons_zero, List.set_cons_succ]))
  go_ret
  exact ⟨rfl, HW.out.trans (hb2.mono HW.out.size)⟩
end Go.Proofs.YtpkjebagpolfgaaDoor
