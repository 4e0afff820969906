/-
  token.Method, transeptref09.Method. No condition but sizes.
-/
import Derived.Test.YtonchnmcklgpoaaGreatDoorNa
namespace Go.Proofs.YtonchnmcklgpoaaGreatDoor
open Go.RowKit
set_option linter.unusedVariables false

set_option maxHeartbeats 4000000 in
set_option maxRecDepth 100000 in
theorem turned97 (l : List UInt8) (w : World) (hl : l.length ≤ 9223372036854775807) : Calls Tryz.prog 35 #[.string (str l), .int .u8 97, .int .u8 32] w fun e w' => e = .returned (.string (str (l.map upc))) ∧ Below w.heap.size w w' := by
  obtain ⟨cap, w1, hcv, hcap, hcap2, hwb, hb1⟩ := conv_bytes w l (by omega)
  obtain ⟨S, hS⟩ : ∃ S, S = l.length := ⟨_, rfl⟩
  obtain ⟨g, hg⟩ : ∃ g, g = w.heap.size := ⟨_, rfl⟩
  rw [← hg] at hcv hwb
  have HG : Hid (w.heap.size ≤ g) := by show _ ≤ _; omega
  obtain ⟨M, hM⟩ : ∃ M : Nat → List UInt8, M = fun k => (l.take k).map upc ++ l.drop k := ⟨_, rfl⟩
  have HL : Hid (∀ k, (M k).length = S) := by rw [hM, hS]; exact mk_len upc l
  have HA : Hid (∀ k, k < S → (M k).getD k 0 = l.getD k 0) := by rw [hM, hS]; exact mk_at upc l
  have HN : Hid (∀ k, k < S → (M k).set k (upc (l.getD k 0)) = M (k + 1)) := by rw [hM, hS]; exact mk_set upc l
  have H0 : Hid (M 0 = l) := by show _ = _; rw [hM]; simp
  have HE : Hid (M S = l.map upc) := by show _ = _; rw [hM, hS]; simp
  rw [← hS] at hcv hcap hl
  have hwb' := Lib.hid hwb
  have hb1' := Lib.hid hb1
  clear hM hS hg hwb hb1
  go_enter Tryz.func35, Tryz.ntmps35
  go_wp2_with fail
  go_loopw [8] (fun i wr => ∃ k : Nat, k ≤ S ∧ i = .int .i64 (k : Int) ∧ Wb wr g (M k) ∧ Kept w wr) (fun i _ => S - (intOf i).toNat)
  case atStart => exact ⟨0, by omega, rfl, by rw [H0.out]; exact hwb'.out, hb1'.out⟩
  case round =>
    obtain ⟨k, hk, rfl, hW, hkp⟩ := hrel
    by_cases hlt : k < S
    · have hkS : (k : Int) < (S : Int) := by omega
      have hkc : k < (M k).length := by rw [HL.out]; exact hlt
      have hcell := hW.cell hkc
      have hfz := hW.frozen hkc
      have hst := hW.set hkc (upc (l.getD k 0))
      rw [HN.out k hlt] at hst
      rw [HA.out k hlt] at hcell
      obtain ⟨c, hc⟩ : ∃ c, c = l.getD k 0 := ⟨_, rfl⟩
      rw [← hc] at hcell hst
      have hsame : (M k).set k (upc c) = M (k + 1) := by rw [hc]; exact HN.out k hlt
      have hid : (M k).set k c = M k := by
        have h1 := HA.out k hlt
        rw [← hc] at h1
        rw [← h1, List.getD_eq_getElem?_getD, List.getElem?_eq_getElem hkc]
        simp
      have hc256 : c.toNat < 256 := c.toNat_lt
      obtain ⟨m, hm⟩ : ∃ m, m = c.toNat := ⟨_, rfl⟩
      unfold vb at hcell
      rw [← hm] at hcell hc256
      have hwr : IntKind.u8.wrap 122 = 122 := by rfl
      by_cases h1 : 97 ≤ m ∧ m ≤ 122
      · have b1 : (97 : Int) ≤ (m : Int) := by omega
        have b2 : (m : Int) ≤ 122 := by omega
        obtain ⟨b, hbv⟩ : ∃ b, b = (c ^^^ 32).toNat := ⟨_, rfl⟩
        have hv : vb (upc c) = .int .u8 (b : Int) := by rw [upc_xor c (by rw [← hm]; exact h1), vb, hbv]
        have hx := xor32 c
        rw [← hm, ← hbv] at hx
        rw [hv] at hst
        have hst' := Lib.hid hst
        have hkp2 := Lib.hid (below_setCell hkp g k (.int .u8 (b : Int)) HG.out)
        clear hv hW hkp hsame hid hc hm hbv h1 hkc hc256 hst
        go_wp2_with fail
        go_roundw
        case rel => exact ⟨k + 1, by omega, by go_num, hst'.out, hkp2.out⟩
        case measure => simp [intOf]; omega
      · have hv : upc c = c := by unfold upc; rw [if_neg (by rw [← hm]; exact h1)]
        have hW2 : Hid (Wb wr g (M (k + 1))) := by
          show Wb _ _ _
          rw [← hsame, hv, hid]
          exact hW
        have hkp2 := Lib.hid hkp
        by_cases h2 : 97 ≤ m
        · have b1 : (97 : Int) ≤ (m : Int) := by omega
          have b2 : ¬ (m : Int) ≤ 122 := by omega
          clear hv hW hkp hsame hid hc hm h1 hkc hc256 hst hfz
          go_wp2_with fail
          go_roundw
          case rel => exact ⟨k + 1, by omega, by go_num, hW2.out, hkp2.out⟩
          case measure => simp [intOf]; omega
        · have b1 : ¬ (97 : Int) ≤ (m : Int) := by omega
          clear hv hW hkp hsame hid hc hm h1 hkc hc256 hst hfz
          go_wp2_with fail
          go_roundw
          case rel => exact ⟨k + 1, by omega, by go_num, hW2.out, hkp2.out⟩
          case measure => simp [intOf]; omega
    · have hkS : ¬ (k : Int) < (S : Int) := by omega
      have hk' : k = S := by omega
      have hbs := hW.bs
      rw [HL.out, hk', HE.out] at hbs
      have hkp2 := Lib.hid hkp
      have hbs' := Lib.hid hbs
      clear hW hkp hk' hlt hbs
      go_wp2_with ((with_reducible show wpList _ _ _ (⟨some 42, .convert _ _ _, _, _, _, _⟩ :: _) _ _); refine wp_str _ rfl (.tmp 41) rfl _ (some ⟨g, 0, none⟩) _ cap _ rfl hbs'.out ?_; simp only [Act.put, List.setIfInBounds_toArray, List.set_cons_zero, List.set_cons_succ])
      go_ret
      exact ⟨rfl, hkp2.out⟩
theorem mth_cons (m : List UInt8) (r : List (List UInt8)) (s : List UInt8) : mth (m :: r) s = if low m = low s then m else mth r s := rfl
set_option maxHeartbeats 4000000 in
set_option maxRecDepth 100000 in
theorem method_any (s : List UInt8) (w : World) (hl : s.length ≤ 9223372036854775807) : Calls Tryz.prog 19 #[.string (str s)] w fun e w' => e = .returned (.string (str (mth mths s))) ∧ Below w.heap.size w w' := by
  obtain ⟨R, hR⟩ : ∃ R, R = mth mths s := ⟨_, rfl⟩
  have HR := Lib.hid hR
  have hrow : Hid (∀ k, k < 6 → mths[k]? = some (mths.getD k []) ∧ (mths.getD k []).length ≤ 10 ∧ upp (mths.getD k []) = mths.getD k [] ∧ (low (mths.getD k []) = low s → mth (mths.drop k) s = mths.getD k []) ∧ (¬ low (mths.getD k []) = low s → mth (mths.drop k) s = mth (mths.drop (k + 1)) s)) := fun k hk => by
    have h1 := row_at mths k hk
    refine ⟨h1, (by decide : ∀ m ∈ mths, m.length ≤ 10) _ (List.mem_of_getElem? h1), mths_upp _ (List.mem_of_getElem? h1), fun h => ?_, fun h => ?_⟩
    · rw [drop_row mths k hk, mth_cons, if_pos h]
    · rw [drop_row mths k hk, mth_cons, if_neg h]
  have hend : Hid (mth (mths.drop 6) s = s) := by show _ = _; rfl
  have HF : Hid (∀ m w', m.length ≤ 10 → Calls Tryz.prog 34 #[.string (str m), .string (str s)] w' fun e w2 => e = .returned (.bool (decide (low m = low s))) ∧ Below w'.heap.size w' w2) := fun m w' h => fold_any m s w' (by omega) hl
  obtain ⟨L, hL⟩ : ∃ L, L = mths := ⟨_, rfl⟩
  have hLv : Hid ((L.map vstr).toArray = #[.string ⟨#[68, 69, 76, 69, 84, 69]⟩, .string ⟨#[71, 69, 84]⟩, .string ⟨#[72, 69, 65, 68]⟩, .string ⟨#[79, 80, 84, 73, 79, 78, 83]⟩, .string ⟨#[80, 79, 83, 84]⟩, .string ⟨#[80, 85, 84]⟩]) := by show _ = _; rw [hL]; rfl
  rw [← hR]
  rw [← hL] at hrow hend HR
  clear hR hL
  go_enter Tryz.func19, Tryz.ntmps19
  go_wp2_with fail
  have HK0 : Hid (Kept w w) := Kept.refl w
  have hps0 : Hid (Ps (w.alloc (.cells #[.string ⟨#[68, 69, 76, 69, 84, 69]⟩, .string ⟨#[71, 69, 84]⟩, .string ⟨#[72, 69, 65, 68]⟩, .string ⟨#[79, 80, 84, 73, 79, 78, 83]⟩, .string ⟨#[80, 79, 83, 84]⟩, .string ⟨#[80, 85, 84]⟩] 9)) w.heap.size L) := Ps.new w L _ hLv.out.symm
  obtain ⟨g, hg⟩ : ∃ g, g = w.heap.size := ⟨_, rfl⟩
  rw [← hg] at hps0 ⊢
  go_loopw [7] (fun i wr => ∃ k : Nat, k ≤ 6 ∧ i = .int .i64 (k : Int) ∧ Ps wr g L ∧ Kept w wr ∧ mth (L.drop k) s = R) (fun i _ => 6 - (intOf i).toNat)
  case atStart => exact ⟨0, by omega, rfl, hps0.out, HK0.out.alloc _, by rw [List.drop_zero]; exact HR.out.symm⟩
  case round =>
    obtain ⟨k, hk, rfl, hps, hkp, hA⟩ := hrel
    clear hps0 hg
    have HP := Lib.hid hps
    have HK := Lib.hid hkp
    have HA := Lib.hid hA
    clear hkp hA
    by_cases hlt : k < 6
    · have hkS : (k : Int) < 6 := by omega
      obtain ⟨h1, h2, h3, hy, hn⟩ := hrow.out k hlt
      have hcell := hps.at_ h1
      obtain ⟨m, hm⟩ : ∃ m, m = L.getD k [] := ⟨_, rfl⟩
      rw [← hm] at hcell h2 h3 hy hn
      clear hps hm h1
      have HC := HF.out m wr h2
      by_cases hlo : low m = low s
      · have HY := Lib.hid (hy hlo)
        rw [decide_eq_true hlo] at HC
        have HC' := Lib.hid HC
        clear hy hn hlo HC
        go_wp2_with (go_at_call 34; (with_reducible refine HC'.out.mono ?_); (rintro e w1 ⟨rfl, hb⟩))
        go_ret
        exact ⟨by rw [← HA.out, HY.out]; rfl, HK.out.step hb⟩
      · have HY := Lib.hid (hn hlo)
        rw [decide_eq_false hlo] at HC
        have HC' := Lib.hid HC
        clear hy hn hlo HC
        go_wp2_with (go_at_call 34; (with_reducible refine HC'.out.mono ?_); (rintro e w1 ⟨rfl, hb⟩))
        go_roundw
        case rel => exact ⟨k + 1, by omega, by go_num, HP.out.kept hb, HK.out.step hb, by rw [← HY.out]; exact HA.out⟩
        case measure => simp [intOf]; omega
    · have hkS : ¬ (k : Int) < 6 := by omega
      have hke : Hid (k = 6) := by show _ = _; omega
      clear hps
      go_wp2_with fail
      go_ret
      exact ⟨by rw [← HA.out, hke.out, hend.out]; rfl, HK.out⟩
set_option maxHeartbeats 4000000 in
set_option maxRecDepth 100000 in
theorem rmethod_any (s : List UInt8) (w : World) (hl : s.length ≤ 9223372036854775807) : Calls Tryz.prog 21 #[.string (str s)] w fun e w' => e = .returned (.string (str (mth mths s))) ∧ Below w.heap.size w w' := by
  obtain ⟨R, hR⟩ : ∃ R, R = mth mths s := ⟨_, rfl⟩
  have HR := Lib.hid hR
  have hrow : Hid (∀ k, k < 6 → mths[k]? = some (mths.getD k []) ∧ (mths.getD k []).length ≤ 10 ∧ upp (mths.getD k []) = mths.getD k [] ∧ (low (mths.getD k []) = low s → mth (mths.drop k) s = mths.getD k []) ∧ (¬ low (mths.getD k []) = low s → mth (mths.drop k) s = mth (mths.drop (k + 1)) s)) := fun k hk => by
    have h1 := row_at mths k hk
    refine ⟨h1, (by decide : ∀ m ∈ mths, m.length ≤ 10) _ (List.mem_of_getElem? h1), mths_upp _ (List.mem_of_getElem? h1), fun h => ?_, fun h => ?_⟩
    · rw [drop_row mths k hk, mth_cons, if_pos h]
    · rw [drop_row mths k hk, mth_cons, if_neg h]
  have hend : Hid (mth (mths.drop 6) s = s) := by show _ = _; rfl
  have HU : Hid (∀ w', Calls Tryz.prog 35 #[.string (str s), .int .u8 97, .int .u8 32] w' fun e w2 => e = .returned (.string (str (upp s))) ∧ Below w'.heap.size w' w2) := fun w' => turned97 s w' hl
  have hls : Hid (∀ m, upp m = m → (low m = low s ↔ upp s = m)) := fun m h => low_is m s h
  generalize upp s = up at HU hls
  obtain ⟨L, hL⟩ : ∃ L, L = mths := ⟨_, rfl⟩
  have hLv : Hid ((L.map vstr).toArray = #[.string ⟨#[68, 69, 76, 69, 84, 69]⟩, .string ⟨#[71, 69, 84]⟩, .string ⟨#[72, 69, 65, 68]⟩, .string ⟨#[79, 80, 84, 73, 79, 78, 83]⟩, .string ⟨#[80, 79, 83, 84]⟩, .string ⟨#[80, 85, 84]⟩]) := by show _ = _; rw [hL]; rfl
  rw [← hR]
  rw [← hL] at hrow hend HR
  clear hR hL
  go_enter Tryz.func21, Tryz.ntmps21
  go_wp2_with (go_at_call 35; (with_reducible refine (HU.out _).mono ?_); (rintro e w1 ⟨rfl, hb⟩))
  have HK0 : Hid (Kept w w1) := hb
  have hps0 : Hid (Ps (w1.alloc (.cells #[.string ⟨#[68, 69, 76, 69, 84, 69]⟩, .string ⟨#[71, 69, 84]⟩, .string ⟨#[72, 69, 65, 68]⟩, .string ⟨#[79, 80, 84, 73, 79, 78, 83]⟩, .string ⟨#[80, 79, 83, 84]⟩, .string ⟨#[80, 85, 84]⟩] 9)) w1.heap.size L) := Ps.new w1 L _ hLv.out.symm
  obtain ⟨g, hg⟩ : ∃ g, g = w1.heap.size := ⟨_, rfl⟩
  rw [← hg] at hps0 ⊢
  go_loopw [10] (fun i wr => ∃ k : Nat, k ≤ 6 ∧ i = .int .i64 (k : Int) ∧ Ps wr g L ∧ Kept w wr ∧ mth (L.drop k) s = R) (fun i _ => 6 - (intOf i).toNat)
  case atStart => exact ⟨0, by omega, rfl, hps0.out, HK0.out.alloc _, by rw [List.drop_zero]; exact HR.out.symm⟩
  case round =>
    obtain ⟨k, hk, rfl, hps, hkp, hA⟩ := hrel
    clear hps0 hg
    have HP := Lib.hid hps
    have HK := Lib.hid hkp
    have HA := Lib.hid hA
    clear hkp hA
    by_cases hlt : k < 6
    · have hkS : (k : Int) < 6 := by omega
      obtain ⟨h1, h2, h3, hy, hn⟩ := hrow.out k hlt
      have hcell := hps.at_ h1
      obtain ⟨m, hm⟩ : ∃ m, m = L.getD k [] := ⟨_, rfl⟩
      rw [← hm] at hcell h2 h3 hy hn
      clear hps hm h1
      have hq := hls.out m h3
      by_cases hlo : low m = low s
      · have HY := Lib.hid (hy hlo)
        have HQ := Lib.hid (hq.1 hlo)
        clear hy hn hlo hq
        go_wp2_with ((with_reducible show wpList _ _ _ (⟨some 16, .binOp _ _ _ _ _, _, _, _, _⟩ :: _) _ _); refine wp_eqS _ (by first | rfl | kernel_rfl) (.tmp 14) (.tmp 15) rfl up m rfl rfl true (by simp [HQ.out]) ?_; simp only [Act.put, List.setIfInBounds_toArray, List.set_cons_zero, List.set_cons_succ])
        go_ret
        exact ⟨by rw [← HA.out, HY.out]; rfl, HK.out⟩
      · have HY := Lib.hid (hn hlo)
        have HQ : Hid (¬ up = m) := fun h => hlo (hq.2 h)
        clear hy hn hlo hq
        go_wp2_with ((with_reducible show wpList _ _ _ (⟨some 16, .binOp _ _ _ _ _, _, _, _, _⟩ :: _) _ _); refine wp_eqS _ (by first | rfl | kernel_rfl) (.tmp 14) (.tmp 15) rfl up m rfl rfl false (by have := HQ.out; simp [this]) ?_; simp only [Act.put, List.setIfInBounds_toArray, List.set_cons_zero, List.set_cons_succ])
        go_roundw
        case rel => exact ⟨k + 1, by omega, by go_num, HP.out, HK.out, by rw [← HY.out]; exact HA.out⟩
        case measure => simp [intOf]; omega
    · have hkS : ¬ (k : Int) < 6 := by omega
      have hke : Hid (k = 6) := by show _ = _; omega
      clear hps
      go_wp2_with fail
      go_ret
      exact ⟨by rw [← HA.out, hke.out, hend.out]; rfl, HK.out⟩
end Go.Proofs.YtonchnmcklgpoaaGreatDoor
