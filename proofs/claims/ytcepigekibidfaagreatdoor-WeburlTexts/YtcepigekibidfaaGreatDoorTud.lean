/-
  What transeptref08.special answers; nothing that was there turns. Condition: texts of at most 5000 bytes.
-/
import Derived.Test.YtcepigekibidfaaGreatDoorTuc
import Derived.Test.YtcepigekibidfaaGreatDoorTrb
import Derived.Test.YtcepigekibidfaaGreatDoorWsp
import Derived.Test.YtcepigekibidfaaGreatDoorWpo
import Derived.Test.YtcepigekibidfaaGreatDoorWfp
import Derived.Test.YtcepigekibidfaaGreatDoorRhq
namespace Go.Proofs.YtcepigekibidfaaGreatDoor
open Go.RowKit

theorem dfl_of (sch : List UInt8) (p : Int) (h : dp sch = some p) (h2 : p ≠ -1) : dfl sch = p := by
  unfold dfl
  rw [h]
  simp [h2]
theorem sub1_take (l : List UInt8) (k : Nat) (hk : k < l.length) : (sub1 92 47 l).take (k + 1) = (sub1 92 47 l).take k ++ [if l.getD k 0 = 92 then 47 else l.getD k 0] := by
  have hl : (sub1 92 47 l).length = l.length := by simp [sub1]
  rw [List.take_add_one, List.getElem?_eq_getElem (by rw [hl]; exact hk)]
  congr 1
  simp [sub1, List.getD, List.getElem?_eq_getElem hk]
theorem sc_next (a : List UInt8) (k : Nat) (hk : k < a.length) (w : Bool) (h : ¬ (w = false ∧ a.getD k 0 = 58)) : sc w (a.drop k) = ((sc (w && a.getD k 0 != 93) (a.drop (k + 1))).1 + 1, (sc (w && a.getD k 0 != 93) (a.drop (k + 1))).2) := by
  have e : a.drop k = a.getD k 0 :: a.drop (k + 1) := by
    rw [List.drop_eq_getElem_cons hk, List.getD_eq_getElem?_getD, List.getElem?_eq_getElem hk]
    rfl
  rw [e, sc, if_neg h]
theorem sc_stop (a : List UInt8) (k : Nat) (hk : k < a.length) (h : a.getD k 0 = 58) : sc false (a.drop k) = (0, false) := by
  have e : a.drop k = a.getD k 0 :: a.drop (k + 1) := by
    rw [List.drop_eq_getElem_cons hk, List.getD_eq_getElem?_getD, List.getElem?_eq_getElem hk]
    rfl
  rw [e, sc, if_pos ⟨rfl, h⟩]
theorem pre2_iff (t : List UInt8) : ([47, 47] : List UInt8).isPrefixOf t = true ↔ 2 ≤ t.length ∧ t.getD 0 0 = 47 ∧ t.getD 1 0 = 47 := by
  match t with
  | [] => simp [List.isPrefixOf]
  | [a] => simp [List.isPrefixOf]
  | a :: b :: r =>
    show ((47 == a) && ((47 == b) && true)) = true ↔ 2 ≤ (a :: b :: r).length ∧ a = 47 ∧ b = 47
    simp only [Bool.and_true, Bool.and_eq_true, beq_iff_eq, List.length_cons]
    exact ⟨fun ⟨h1, h2⟩ => ⟨by omega, h1.symm, h2.symm⟩, fun ⟨_, h1, h2⟩ => ⟨h1.symm, h2.symm⟩⟩
/-- What special answers: a URL, and whether it counts. -/
def SpR (R : Option U) (w : World) (e : Ending) (w' : World) : Prop := ∃ x : U, e = .returned (.tuple #[uV x, .bool R.isSome]) ∧ (∀ u, R = some u → x = u) ∧ Below w.heap.size w w'
set_option maxHeartbeats 6000000 in
set_option maxRecDepth 100000 in
theorem rspec_any (sch q f s : List UInt8) (p : Int) (hp : dp sch = some p) (hp2 : p ≠ -1) (w : World) (hl : s.length ≤ 5000) : Calls Tryz.prog 44 #[uV ⟨sch, [], -1, [], q, f⟩, .string (str s)] w fun e w' => SpR (if ([47, 47] : List UInt8).isPrefixOf (sub1 92 47 s) then psp sch p ((sub1 92 47 s).drop 2) q f else none) w e w' := by
  have hdfl := Lib.hid (dfl_of sch p hp hp2)
  have hsz := str_size s
  have hgb : Hid (∀ k, k < s.length → ∀ h, ((str s)[k]'h).toNat = (s.getD k 0).toNat) := fun k hk h => str_at s k hk h
  have hone : Hid (∀ k, k < s.length → (str s).extract k (k + 1) = str [s.getD k 0]) := fun k hk => str_one s k hk
  obtain ⟨t, ht⟩ : ∃ t, t = sub1 92 47 s := ⟨_, rfl⟩
  have htl : t.length = s.length := by rw [ht]; simp [sub1]
  have htk : Hid (∀ k, k < s.length → t.take (k + 1) = t.take k ++ [if s.getD k 0 = 92 then 47 else s.getD k 0]) := fun k hk => by rw [ht]; exact sub1_take s k hk
  have hfull : Hid (t.take s.length = t) := by show _ = _; rw [← htl, List.take_length]
  have htl2 : Hid (∀ k, (t.take k).length ≤ 5000) := fun k => by rw [List.length_take]; omega
  rw [← ht]
  have hpre := pre2_iff t
  have htz := str_size t
  have hgt : ∀ k, k < t.length → ∀ h, ((str t)[k]'h).toNat = (t.getD k 0).toNat := fun k hk h => str_at t k hk h
  obtain ⟨R, hR⟩ : ∃ R, R = (if ([47, 47] : List UInt8).isPrefixOf t then psp sch p (t.drop 2) q f else none) := ⟨_, rfl⟩
  rw [← hR]
  obtain ⟨S, hS⟩ : ∃ S, S = s.length := ⟨_, rfl⟩
  rw [← hS] at hsz hgb hl htk hfull hone htl
  rw [htl] at htz
  clear hS ht
  go_enter Tryz.func44, Tryz.ntmps44
  go_wp2_with (first
    | ((with_reducible show wpList _ _ _ (⟨some 2, .box _ _, _, _, _, _⟩ :: _) _ _); refine wp_box _ rfl 24 _ rfl (uC sch [] (-1) [] q f) rfl ?_; intro w1 g1 B1 F1; simp only [Act.put, List.setIfInBounds_toArray, List.set_cons_zero, List.set_cons_succ])
    | ((with_reducible show wpList _ _ _ (⟨some 4, .alloc _, _, _, _, _⟩ :: _) _ _); refine wp_new _ rfl 24 rfl _ z24 ?_; intro w2 g2 B2 F2; simp only [Act.put, List.setIfInBounds_toArray, List.set_cons_zero, List.set_cons_succ]; have S2 := Lib.hid (Sp.new B1 F1 B2 F2); clear B1 F1 B2 F2))
  go_loop [7, 6] (fun i v => ∃ k : Nat, k ≤ S ∧ i = .int .i64 (k : Int) ∧ v = .string (str (t.take k))) (fun i _ => S - (intOf i).toNat)
  case atStart => exact ⟨0, by omega, rfl, rfl⟩
  case round =>
    obtain ⟨k, hk, rfl, rfl⟩ := hrel
    by_cases hlt : k < S
    · have hkS : (k : Int) < (S : Int) := by omega
      have HG := hgb.out k hlt
      have HO := hone.out k hlt
      have HT := htk.out k hlt
      have HL := htl2.out k
      obtain ⟨c, hc⟩ : ∃ c, c = s.getD k 0 := ⟨_, rfl⟩
      rw [← hc] at HG HO HT
      have i92 : c.toNat = 92 ↔ c = 92 := ⟨fun h => UInt8.toNat.inj h, fun h => by rw [h]; rfl⟩
      obtain ⟨b, hb⟩ : ∃ b, b = c.toNat := ⟨_, rfl⟩
      rw [← hb] at HG i92
      obtain ⟨J, hJ⟩ : ∃ J, J = t.take k := ⟨_, rfl⟩
      rw [← hJ] at HT HL ⊢
      have hk1 : (k : Int) + 1 = ((k + 1 : Nat) : Int) := by omega
      have hkw : IntKind.i64.wrap ((k + 1 : Nat) : Int) = ((k + 1 : Nat) : Int) := by rw [IntKind.wrap_i64]; omega
      obtain ⟨k1, hk1e⟩ : ∃ k1, k1 = k + 1 := ⟨_, rfl⟩
      rw [← hk1e] at hk1 hkw HO HT
      have hkk : (k : Int) ≤ (k1 : Int) := by omega
      have hkk2 : (k1 : Int) ≤ (S : Int) := by omega
      have q1 : ¬ (9223372036854775807 : Nat) < (str J).size + 1 := by rw [str_size]; omega
      have HK1 := Lib.hid hk1e
      clear hb hc hJ hk1e
      by_cases h : b = 92
      · have c0 : ((b : Int) == 92) = true := by simp; omega
        rw [if_pos (i92.1 h)] at HT
        obtain ⟨Y, hY⟩ : ∃ Y, Y = J ++ [47] := ⟨_, rfl⟩
        have e1 : str J ++ (⟨#[47]⟩ : ByteArray) = str Y := by rw [hY]; exact str_add _ [47]
        have HY : Hid (t.take k1 = Y) := by show _ = _; rw [HT, hY]
        clear h i92 HT hY HL
        go_wp2_with fail
        go_round
        case rel => exact ⟨k1, by have := HK1.out; omega, by first | rfl | go_num, by rw [HY.out]⟩
        case measure => simp [intOf]; have := HK1.out; omega
      · have c0 : ((b : Int) == 92) = false := by simp; omega
        rw [if_neg (fun e => h (i92.2 e))] at HT
        obtain ⟨Y, hY⟩ : ∃ Y, Y = J ++ [c] := ⟨_, rfl⟩
        have e1 : str J ++ str [c] = str Y := by rw [hY]; exact str_add _ [c]
        have HY : Hid (t.take k1 = Y) := by show _ = _; rw [HT, hY]
        have q2 : ¬ (9223372036854775807 : Nat) < (str J).size + (str [c]).size := by rw [str_size, str_size]; simp; omega
        clear h i92 HT hY HL
        go_wp2_with fail
        go_round
        case rel => exact ⟨k1, by have := HK1.out; omega, by first | rfl | go_num, by rw [HY.out]⟩
        case measure => simp [intOf]; have := HK1.out; omega
    · have hkS : ¬ (k : Int) < (S : Int) := by omega
      have hke : k = S := by omega
      rw [hke, hfull.out]
      have hSS : ¬ (S : Int) < (S : Int) := by omega
      clear hlt hk hkS hke hgb hone htk hfull htl2
      by_cases h2 : S < 2
      · have c2 : (S : Int) < 2 := by omega
        have HR : Hid (R = none) := by show _ = _; rw [hR, if_neg (fun e => by have := (hpre.1 e).1; omega)]
        clear hpre hgt hR h2
        go_wp2_with (first
          | ((with_reducible show wpList _ _ _ (⟨some 48, .load 24 (.tmp 2), _, _, _, _⟩ :: _) _ _); refine wp_get _ rfl 24 (.tmp 2) rfl g1 0 (uC sch [] (-1) [] q f) _ rfl S2.out.b1.whole Tryz.underlying24 rfl n24 ?_; simp only [Act.put, List.setIfInBounds_toArray, List.set_cons_zero, List.set_cons_succ])
          | ((with_reducible show wpList _ _ _ (⟨none, .store 24 (.tmp 4) (.tmp 48), _, _, _, _⟩ :: _) _ _); refine wp_putAll _ rfl 24 (.tmp 4) (.tmp 48) rfl g2 24 _ (uC sch [] (-1) [] q f) rfl rfl S2.out.b2 rfl n24 (uC_one _ _ _ _ _ _) ?_; intro wz BZ UZ; simp only [Act.put]; have SZ := Lib.hid (S2.out.set2 BZ UZ); clear BZ UZ))
        refine ret_cell2 4 5 24 rfl g2 (uC sch [] (-1) [] q f) _ rfl SZ.out.b2.whole Tryz.underlying24 rfl n24 rfl (.bool false) rfl ?_
        exact ⟨⟨sch, [], -1, [], q, f⟩, by rw [HR.out]; rfl, fun u hu => (by rw [HR.out] at hu; cases hu), SZ.out.kp⟩
      · have c2 : ¬ (S : Int) < 2 := by omega
        have hS0 : (0 : Int) < (S : Int) := by omega
        have hS1 : (1 : Int) < (S : Int) := by omega
        have G0 := hgt 0 (by omega)
        have G1 := hgt 1 (by omega)
        have i47 : ∀ c : UInt8, c.toNat = 47 ↔ c = 47 := fun c => ⟨fun h => UInt8.toNat.inj h, fun h => by rw [h]; rfl⟩
        have j0 := i47 (t.getD 0 0)
        have j1 := i47 (t.getD 1 0)
        obtain ⟨b0, hb0⟩ : ∃ b, b = (t.getD 0 0).toNat := ⟨_, rfl⟩
        obtain ⟨b1, hb1⟩ : ∃ b, b = (t.getD 1 0).toNat := ⟨_, rfl⟩
        rw [← hb0] at G0 j0
        rw [← hb1] at G1 j1
        clear i47 hb0 hb1 hgt
        by_cases h0 : b0 = 47
        · by_cases h1 : b1 = 47
          · have d0 : ((b0 : Int) != 47) = false := by simp; omega
            have d1 : ((b1 : Int) != 47) = false := by simp; omega
            have hpt := hpre.2 ⟨by omega, j0.1 h0, j1.1 h1⟩
            have hRb : R = psp sch p (t.drop 2) q f := by rw [hR, if_pos hpt]
            have hx2 : (str t).extract 2 S = str (t.drop 2) := str_drop t 2 S htl.symm (by omega)
            have h2i : (2 : Int) ≤ (S : Int) := by omega
            obtain ⟨b, hbd⟩ : ∃ b, b = t.drop 2 := ⟨_, rfl⟩
            have hbl : b.length ≤ 5000 := by rw [hbd, List.length_drop]; omega
            rw [← hbd] at hRb hx2
            clear hbd hpt hpre j0 j1 h0 h1 hR htl
            have HF47 : Hid (∀ w', Calls Tryz.prog 26 #[.string (str b), .int .u8 47] w' fun e w2 => e = .returned (.int .i64 ((bef 47 b).length : Int)) ∧ w2 = w') := fun w' => rfind_any b 47 w' (by omega)
            have hbz := str_size b
            have hbe := bef_len 47 b
            have hxa : (str b).extract 0 (bef 47 b).length = str (bef 47 b) := by rw [str_take, bef_take]
            have HPz : Hid (∀ w', Calls Tryz.prog 71 #[.string (str (b.drop (bef 47 b).length))] w' fun e w2 => e = .returned (.string (str (pth (aft 47 b)))) ∧ Below w'.heap.size w' w2) := fun w' => by
              have h := rpath_any (b.drop (bef 47 b).length) w' (by rw [List.length_drop]; omega)
              rw [List.drop_drop, aft_drop] at h
              exact h
            have hxp : (str b).extract (bef 47 b).length b.length = str (b.drop (bef 47 b).length) := str_drop b _ _ rfl hbe
            have hRd := psp_doc sch p b q f
            rw [← hRb] at hRd
            have HF64 : Hid (∀ w', Calls Tryz.prog 26 #[.string (str (bef 47 b)), .int .u8 64] w' fun e w2 => e = .returned (.int .i64 ((bef 64 (bef 47 b)).length : Int)) ∧ w2 = w') := fun w' => rfind_any _ 64 w' (by omega)
            have HF58 : Hid (∀ w', Calls Tryz.prog 26 #[.string (str (bef 47 b)), .int .u8 58] w' fun e w2 => e = .returned (.int .i64 ((bef 58 (bef 47 b)).length : Int)) ∧ w2 = w') := fun w' => rfind_any _ 58 w' (by omega)
            obtain ⟨A, hA⟩ : ∃ A, A = bef 47 b := ⟨_, rfl⟩
            rw [← hA] at HF47 hbe hxa HPz hxp hRd HF64 HF58
            obtain ⟨Pa, hPa⟩ : ∃ P, P = pth (aft 47 b) := ⟨_, rfl⟩
            rw [← hPa] at HPz hRd
            obtain ⟨PZ, hPZ⟩ : ∃ P, P = b.drop A.length := ⟨_, rfl⟩
            rw [← hPZ] at HPz hxp
            have hAz := str_size A
            obtain ⟨n, hn⟩ : ∃ n, n = A.length := ⟨_, rfl⟩
            have hAn := Lib.hid hn
            have hgA : Hid (∀ k, k < n → ∀ h, ((str A)[k]'h).toNat = (A.getD k 0).toNat) := fun k hk h => str_at A k (by omega) h
            rw [← hn] at hAz HF47 hbe hxa hxp
            obtain ⟨m, hm⟩ : ∃ m, m = b.length := ⟨_, rfl⟩
            rw [← hm] at hbz hbe hxp
            have hnm : (n : Int) ≤ (m : Int) := by omega
            have hAl : Hid (n ≤ 5000) := by show _ ≤ _; omega
            clear hA hPa hPZ hm hRb
            cases h64 : A.contains 64
            · have e64 : (bef 64 A).length = n := by rw [bef_none 64 A (by simpa using h64), ← hn]
              rw [e64] at HF64
              rw [h64] at hRd
              simp only [Bool.false_eq_true, if_false] at hRd
              have hnn : ¬ (n : Int) < (n : Int) := by omega
              obtain ⟨D, hD⟩ : ∃ D, D = atd A := ⟨_, rfl⟩
              have hDle : Hid (D ≤ n) := by show _ ≤ _; rw [hD, hn]; exact atd_le A
              have HHh : Hid (∀ w', Calls Tryz.prog 30 #[.string (str (A.take D))] w' fun e w2 => e = .returned (prsV (prs (A.take D))) ∧ Below w'.heap.size w' w2) := fun w' => rparse_any (A.take D) w' (by rw [List.length_take]; have := hAl.out; omega)
              have hxd : (str A).extract 0 D = str (A.take D) := str_take A D
              rw [← hD] at hRd
              obtain ⟨AD, hAD⟩ : ∃ X, X = A.take D := ⟨_, rfl⟩
              rw [← hAD] at HHh hxd hRd
              obtain ⟨Hs, hHs⟩ : ∃ X, X = (prs AD).1 := ⟨_, rfl⟩
              obtain ⟨HsE, hHsE⟩ : ∃ X, X = (prs AD).2 := ⟨_, rfl⟩
              unfold prsV errV at HHh
              rw [← hHs, ← hHsE] at HHh hRd
              have HH : Hid (∀ w', Calls Tryz.prog 30 #[.string (str AD)] w' fun e w2 => e = .returned (.tuple #[.string (str Hs), .int .i64 (if HsE then 7 else 0)]) ∧ Below w'.heap.size w' w2) := HHh
              have hRq : Hid (R = match prtN (A.drop (D + 1)) p with
                | none => none
                | some n => if HsE then none else some ⟨sch, Hs, n, Pa, q, f⟩) := hRd
              have HPa : Hid (∀ w', Calls Tryz.prog 71 #[.string (str PZ)] w' fun e w2 => e = .returned (.string (str Pa)) ∧ Below w'.heap.size w' w2) := HPz
              have hex : Hid (∀ k, k ≤ n → (str A).extract k n = str (A.drop k)) := fun k hk => str_drop A k n hn hk
              have hdr : Hid (∀ k, k < n → ∀ wi, ¬ (wi = false ∧ A.getD k 0 = 58) → sc wi (A.drop k) = ((sc (wi && A.getD k 0 != 93) (A.drop (k + 1))).1 + 1, (sc (wi && A.getD k 0 != 93) (A.drop (k + 1))).2)) := fun k hk wi h => sc_next A k (by omega) wi h
              have hstp : Hid (∀ k, k < n → A.getD k 0 = 58 → sc false (A.drop k) = (0, false)) := fun k hk h => sc_stop A k (by omega) h
              have hnil : Hid (∀ wi, sc wi (A.drop n) = (0, wi)) := fun wi => by rw [hn, List.drop_length]; rfl
              have hAt : Hid (D = if (sc (decide (A.head? = some 91)) A).2 then (bef 58 A).length else (sc (decide (A.head? = some 91)) A).1) := hD
              have hAe : (str A).toList.isEmpty = decide (n = 0) := by rw [toList_str, hn]; cases A <;> simp
              have hAh : ∀ h : 0 < (str A).size, decide (A.head? = some 91) = (((((str A)[0]'h).toNat : Nat) : Int) == 91) := fun h => by
                have h0 : 0 < A.length := by rw [← str_size]; exact h
                rw [str_at A 0 h0 h]
                cases A with
                | nil => simp at h0
                | cons a r =>
                  show decide (some a = some 91) = (((a.toNat : Nat) : Int) == 91)
                  rw [Bool.eq_iff_iff]
                  simp
                  exact ⟨fun e => by rw [e]; rfl, fun e => UInt8.toNat.inj (by have : a.toNat = 91 := by omega
                                                                               rw [this]; rfl)⟩
              have hAhe : n = 0 → decide (A.head? = some 91) = false := fun h => by
                have : A = [] := List.eq_nil_of_length_eq_zero (by omega)
                rw [this]; rfl
              clear hRd HHh HPz h64 e64 hD hHs hHsE hAD hn
              obtain ⟨W0, hW0⟩ : ∃ W0, W0 = decide (A.head? = some 91) := ⟨_, rfl⟩
              rw [← hW0] at hAt hAh hAhe
              clear hW0
              have hstart : ∃ (e0 : Bool), (str A).toList.isEmpty = e0 ∧ (e0 = true → W0 = false ∧ n = 0) ∧ (e0 = false → 0 < n) := ⟨_, rfl, fun h => by rw [hAe] at h; have := of_decide_eq_true h; exact ⟨hAhe this, this⟩, fun h => by rw [hAe] at h; have := of_decide_eq_false h; omega⟩
              obtain ⟨e0, he0, hy0, hn0⟩ := hstart
              clear hAe hAhe
              cases e0
              · have hnp := hn0 rfl
                have hnpi : (0 : Int) < (n : Int) := by omega
                have hG0 := hgA.out 0 hnp
                have hh0 := hAh (by omega)
                rw [hG0] at hh0
                obtain ⟨a0, ha0⟩ : ∃ a, a = (A.getD 0 0).toNat := ⟨_, rfl⟩
                rw [← ha0] at hG0 hh0
                have hh1 : (((a0 : Nat) : Int) == 91) = W0 := hh0.symm
                clear hh0 ha0 hAh hy0 hn0
                go_wp2_with (first
                  | (go_at_call 26; (with_reducible refine (HF47.out _).mono ?_); (rintro e wf ⟨rfl, hw⟩; subst wf))
                  | (go_at_call 26; (with_reducible refine (HF64.out _).mono ?_); (rintro e wg ⟨rfl, hw⟩; subst wg)))
                go_loop [11, 10] (fun wv i => ∃ (k : Nat) (wi : Bool), k ≤ n ∧ i = .int .i64 (k : Int) ∧ wv = .bool wi ∧ sc W0 A = ((sc wi (A.drop k)).1 + k, (sc wi (A.drop k)).2)) (fun _ i => n - (intOf i).toNat)
                case atStart => exact ⟨0, W0, by omega, rfl, rfl, by rw [List.drop_zero]; rfl⟩
                case round =>
                  obtain ⟨k, wi, hk, rfl, rfl, hA9⟩ := hrel
                  have HA := Lib.hid hA9
                  clear hA9
                  by_cases hlt : k < n
                  · have hkS : (k : Int) < (n : Int) := by omega
                    have HG := hgA.out k hlt
                    have HD := hdr.out k hlt
                    have HS := hstp.out k hlt
                    obtain ⟨c, hc⟩ : ∃ c, c = A.getD k 0 := ⟨_, rfl⟩
                    rw [← hc] at HG HD HS
                    have i58 : c.toNat = 58 ↔ c = 58 := ⟨fun h => UInt8.toNat.inj h, fun h => by rw [h]; rfl⟩
                    have i93 : c.toNat = 93 ↔ c = 93 := ⟨fun h => UInt8.toNat.inj h, fun h => by rw [h]; rfl⟩
                    obtain ⟨b9, hb9⟩ : ∃ b, b = c.toNat := ⟨_, rfl⟩
                    rw [← hb9] at HG i58 i93
                    clear hb9 hc
                    cases wi
                    · by_cases h58 : b9 = 58
                      · have c58 : ((b9 : Int) != 58) = false := by simp; omega
                        have HDk : Hid (D = k) := by
                          show _ = _
                          have h1 := HA.out
                          rw [HS (i58.1 h58)] at h1
                          rw [hAt.out, h1]
                          simp
                        clear h58 i58 i93 HD HS
                        have hDk := HDk.out
                        subst hDk
                        have hDn := hDle.out
                        have hDni : (D : Int) ≤ (n : Int) := by omega
                        by_cases hrest : D + 1 < n
                        · have hr1 : (D : Int) < (n : Int) := by omega
                          have hr2 : (D : Int) + 1 < (n : Int) := by omega
                          obtain ⟨D1, hD1⟩ : ∃ D1, D1 = D + 1 := ⟨_, rfl⟩
                          have hd1 : (D : Int) + 1 = (D1 : Int) := by omega
                          have hd2 : IntKind.i64.wrap (D1 : Int) = (D1 : Int) := by rw [IntKind.wrap_i64]; have := hAl.out; omega
                          have hd3 : (D1 : Int) < (n : Int) := by omega
                          have hd4 : (D1 : Int) ≤ (n : Int) := by omega
                          have hxr := hex.out D1 (by omega)
                          rw [hD1] at hxr
                          obtain ⟨RS, hRS⟩ : ∃ R, R = A.drop (D + 1) := ⟨_, rfl⟩
                          rw [← hRS] at hxr
                          have hRne : RS ≠ [] := by rw [hRS]; intro e; have := congrArg List.length e; rw [List.length_drop, List.length_nil, ← hAn.out] at this; omega
                          have HPo : Hid (∀ w', Calls Tryz.prog 70 #[.string (str RS)] w' fun e w2 => e = .returned (rptV (rpt 0 RS)) ∧ w2 = w') := fun w' => rport_any RS w' (by rw [hRS, List.length_drop]; have := hAl.out; have := hAn.out; omega)
                          have HRp : Hid (R = match (match rpt 0 RS with
                            | none => none
                            | some n => if n ≤ 65535 then some (if (n : Int) = p then -1 else (n : Int)) else none : Option Int) with
                            | none => none
                            | some n => if HsE then none else some ⟨sch, Hs, n, Pa, q, f⟩) := by
                            show _ = _
                            rw [hRq.out, ← hRS, prtN_rpt RS p hRne]
                            rfl
                          rw [← hD1] at hxr
                          clear hRS hD1 hRne hrest hDn
                          unfold rptV at HPo
                          cases hr : rpt 0 RS with
                          | none =>
                            rw [hr] at HPo HRp
                            dsimp only at HPo HRp
                            have HR : Hid (R = none) := HRp.out
                            clear hr HRp
                            go_wp2_with (first
                              | (go_at_call 70; (with_reducible refine (HPo.out _).mono ?_); (rintro e wp ⟨rfl, hw⟩; subst wp))
                              | ((with_reducible show wpList _ _ _ (⟨some 112, .load 24 (.tmp 2), _, _, _, _⟩ :: _) _ _); refine wp_get _ rfl 24 (.tmp 2) rfl g1 0 (uC sch [] (-1) [] q f) _ rfl S2.out.b1.whole Tryz.underlying24 rfl n24 ?_; simp only [Act.put, List.setIfInBounds_toArray, List.set_cons_zero, List.set_cons_succ])
                              | ((with_reducible show wpList _ _ _ (⟨none, .store 24 (.tmp 4) (.tmp 112), _, _, _, _⟩ :: _) _ _); refine wp_putAll _ rfl 24 (.tmp 4) (.tmp 112) rfl g2 24 _ (uC sch [] (-1) [] q f) rfl rfl S2.out.b2 rfl n24 (uC_one _ _ _ _ _ _) ?_; intro wz BZ UZ; simp only [Act.put]; have SZ := Lib.hid (S2.out.set2 BZ UZ); clear BZ UZ))
                            refine ret_cell2 4 5 24 rfl g2 (uC sch [] (-1) [] q f) _ rfl SZ.out.b2.whole Tryz.underlying24 rfl n24 rfl (.bool false) rfl ?_
                            exact ⟨⟨sch, [], -1, [], q, f⟩, by rw [HR.out]; rfl, fun u hu => (by rw [HR.out] at hu; cases hu), SZ.out.kp⟩
                          | some n0 =>
                            rw [hr] at HPo HRp
                            dsimp only at HPo HRp
                            have hn0 := rpt_le RS 0 n0 (by omega) hr
                            have HDf : Hid (∀ w', Calls Tryz.prog 28 #[.string (str sch)] w' fun e w2 => e = .returned (.int .i64 p) ∧ w2 = w') := fun w' => by rw [← hdfl.out]; exact default_any sch w'
                            by_cases hok : n0 ≤ 65535
                            · have HPo' : Hid (∀ w', Calls Tryz.prog 70 #[.string (str RS)] w' fun e w2 => e = .returned (.tuple #[.int .i64 (n0 : Int), .bool true]) ∧ w2 = w') := by rw [decide_eq_true hok] at HPo; exact HPo
                              have hcs := S2.out.b1.cell (i := 0) rfl
                              by_cases hdf : (n0 : Int) = p
                              · have hdn : ((n0 : Int) != p) = false := by simp [hdf]
                                have HRe : Hid (R = if HsE then none else some ⟨sch, Hs, -1, Pa, q, f⟩) := by
                                  show _ = _
                                  rw [HRp.out]
                                  simp only [if_pos hok, if_pos hdf]
                                clear hr HPo HRp hok hdf
                                obtain ⟨ec, nb, hcmp, HHe, HRs⟩ : ∃ (ec : Int) (nb : Bool), (ec == 0) = nb ∧ Hid (∀ w', Calls Tryz.prog 30 #[.string (str AD)] w' fun e w2 => e = .returned (.tuple #[.string (str Hs), .int .i64 ec]) ∧ Below w'.heap.size w' w2) ∧ Hid (R = if nb then some ⟨sch, Hs, -1, Pa, q, f⟩ else none) := by
                                  cases he : HsE
                                  · rw [he] at HH HRe; exact ⟨0, true, rfl, HH, HRe⟩
                                  · rw [he] at HH HRe; exact ⟨7, false, rfl, HH, HRe⟩
                                clear HH HRe
                                go_wp2_with (first
                                  | (go_at_call 70; (with_reducible refine (HPo'.out _).mono ?_); (rintro e wp ⟨rfl, hw⟩; subst wp))
                                  | (go_at_call 28; (with_reducible refine (HDf.out _).mono ?_); (rintro e wq ⟨rfl, hw⟩; subst wq))
                                  | (go_at_call 30; (with_reducible refine (HHe.out _).mono ?_); (rintro e w5 ⟨rfl, hb⟩; have S5 := Lib.hid (S2.out.step hb); clear hb))
                                  | ((with_reducible show wpList _ _ _ (⟨none, .store 9 (.tmp 128) (.tmp 127), _, _, _, _⟩ :: _) _ _); refine wp_set _ rfl 9 (.tmp 128) (.tmp 127) rfl g1 1 24 _ (.string (str Hs)) rfl rfl rfl rfl S5.out.b1 (by simp [uC]) n9 ?_; intro w6 B U; simp only [Act.put]; have S6 := Lib.hid (S5.out.set1 B U); clear B U)
                                  | (go_at_call 71; (with_reducible refine (HPa.out _).mono ?_); (rintro e w7 ⟨rfl, hb⟩; have S7 := Lib.hid (S6.out.step hb); clear hb))
                                  | ((with_reducible show wpList _ _ _ (⟨none, .store 9 (.tmp 133) (.tmp 132), _, _, _, _⟩ :: _) _ _); refine wp_set _ rfl 9 (.tmp 133) (.tmp 132) rfl g1 3 24 _ (.string (str Pa)) rfl rfl rfl rfl S7.out.b1 (by simp [uC]) n9 ?_; intro w8 B U; simp only [Act.put]; have S8 := Lib.hid (S7.out.set1 B U); clear B U)
                                  | ((with_reducible show wpList _ _ _ (⟨some 134, .load 24 (.tmp 2), _, _, _, _⟩ :: _) _ _); refine wp_get _ rfl 24 (.tmp 2) rfl g1 0 (uC sch Hs (-1) Pa q f) _ rfl S8.out.b1.whole Tryz.underlying24 rfl n24 ?_; simp only [Act.put, List.setIfInBounds_toArray, List.set_cons_zero, List.set_cons_succ])
                                  | ((with_reducible show wpList _ _ _ (⟨none, .store 24 (.tmp 4) (.tmp 134), _, _, _, _⟩ :: _) _ _); refine wp_putAll _ rfl 24 (.tmp 4) (.tmp 134) rfl g2 24 _ (uC sch Hs (-1) Pa q f) rfl rfl S8.out.b2 rfl n24 (uC_one _ _ _ _ _ _) ?_; intro wz BZ UZ; simp only [Act.put]; have SZ := Lib.hid (S8.out.set2 BZ UZ); clear BZ UZ))
                                refine ret_cell2 4 5 24 rfl g2 (uC sch Hs (-1) Pa q f) _ rfl SZ.out.b2.whole Tryz.underlying24 rfl n24 rfl (.bool nb) rfl ?_
                                exact ⟨⟨sch, Hs, -1, Pa, q, f⟩, by rw [HRs.out]; cases nb <;> rfl, fun u hu => (by rw [HRs.out] at hu; cases nb <;> first | (cases hu; done) | (cases hu; rfl)), SZ.out.kp⟩
                              · have hdn : ((n0 : Int) != p) = true := by simpa using hdf
                                have HRe : Hid (R = if HsE then none else some ⟨sch, Hs, (n0 : Int), Pa, q, f⟩) := by
                                  show _ = _
                                  rw [HRp.out]
                                  simp only [if_pos hok, if_neg hdf]
                                clear hr HPo HRp hok hdf
                                obtain ⟨ec, nb, hcmp, HHe, HRs⟩ : ∃ (ec : Int) (nb : Bool), (ec == 0) = nb ∧ Hid (∀ w', Calls Tryz.prog 30 #[.string (str AD)] w' fun e w2 => e = .returned (.tuple #[.string (str Hs), .int .i64 ec]) ∧ Below w'.heap.size w' w2) ∧ Hid (R = if nb then some ⟨sch, Hs, (n0 : Int), Pa, q, f⟩ else none) := by
                                  cases he : HsE
                                  · rw [he] at HH HRe; exact ⟨0, true, rfl, HH, HRe⟩
                                  · rw [he] at HH HRe; exact ⟨7, false, rfl, HH, HRe⟩
                                clear HH HRe
                                go_wp2_with (first
                                  | (go_at_call 70; (with_reducible refine (HPo'.out _).mono ?_); (rintro e wp ⟨rfl, hw⟩; subst wp))
                                  | (go_at_call 28; (with_reducible refine (HDf.out _).mono ?_); (rintro e wq ⟨rfl, hw⟩; subst wq))
                                  | ((with_reducible show wpList _ _ _ (⟨none, .store 3 (.tmp 119) (.tmp 118), _, _, _, _⟩ :: _) _ _); refine wp_set _ rfl 3 (.tmp 119) (.tmp 118) rfl g1 2 24 _ (.int .i64 (n0 : Int)) rfl rfl rfl rfl S2.out.b1 (by simp [uC]) n3 ?_; intro wo B U; simp only [Act.put]; have SP := Lib.hid (S2.out.set1 B U); clear B U)
                                  | (go_at_call 30; (with_reducible refine (HHe.out _).mono ?_); (rintro e w5 ⟨rfl, hb⟩; have S5 := Lib.hid (SP.out.step hb); clear hb))
                                  | ((with_reducible show wpList _ _ _ (⟨none, .store 9 (.tmp 128) (.tmp 127), _, _, _, _⟩ :: _) _ _); refine wp_set _ rfl 9 (.tmp 128) (.tmp 127) rfl g1 1 24 _ (.string (str Hs)) rfl rfl rfl rfl S5.out.b1 (by simp [uC]) n9 ?_; intro w6 B U; simp only [Act.put]; have S6 := Lib.hid (S5.out.set1 B U); clear B U)
                                  | (go_at_call 71; (with_reducible refine (HPa.out _).mono ?_); (rintro e w7 ⟨rfl, hb⟩; have S7 := Lib.hid (S6.out.step hb); clear hb))
                                  | ((with_reducible show wpList _ _ _ (⟨none, .store 9 (.tmp 133) (.tmp 132), _, _, _, _⟩ :: _) _ _); refine wp_set _ rfl 9 (.tmp 133) (.tmp 132) rfl g1 3 24 _ (.string (str Pa)) rfl rfl rfl rfl S7.out.b1 (by simp [uC]) n9 ?_; intro w8 B U; simp only [Act.put]; have S8 := Lib.hid (S7.out.set1 B U); clear B U)
                                  | ((with_reducible show wpList _ _ _ (⟨some 134, .load 24 (.tmp 2), _, _, _, _⟩ :: _) _ _); refine wp_get _ rfl 24 (.tmp 2) rfl g1 0 (uC sch Hs (n0 : Int) Pa q f) _ rfl S8.out.b1.whole Tryz.underlying24 rfl n24 ?_; simp only [Act.put, List.setIfInBounds_toArray, List.set_cons_zero, List.set_cons_succ])
                                  | ((with_reducible show wpList _ _ _ (⟨none, .store 24 (.tmp 4) (.tmp 134), _, _, _, _⟩ :: _) _ _); refine wp_putAll _ rfl 24 (.tmp 4) (.tmp 134) rfl g2 24 _ (uC sch Hs (n0 : Int) Pa q f) rfl rfl S8.out.b2 rfl n24 (uC_one _ _ _ _ _ _) ?_; intro wz BZ UZ; simp only [Act.put]; have SZ := Lib.hid (S8.out.set2 BZ UZ); clear BZ UZ))
                                refine ret_cell2 4 5 24 rfl g2 (uC sch Hs (n0 : Int) Pa q f) _ rfl SZ.out.b2.whole Tryz.underlying24 rfl n24 rfl (.bool nb) rfl ?_
                                exact ⟨⟨sch, Hs, (n0 : Int), Pa, q, f⟩, by rw [HRs.out]; cases nb <;> rfl, fun u hu => (by rw [HRs.out] at hu; cases nb <;> first | (cases hu; done) | (cases hu; rfl)), SZ.out.kp⟩
                            · have HPo' : Hid (∀ w', Calls Tryz.prog 70 #[.string (str RS)] w' fun e w2 => e = .returned (.tuple #[.int .i64 (n0 : Int), .bool false]) ∧ w2 = w') := by rw [decide_eq_false hok] at HPo; exact HPo
                              have HR : Hid (R = none) := by show _ = _; rw [HRp.out]; simp only [if_neg hok]
                              clear hr HPo HRp hok
                              go_wp2_with (first
                                | (go_at_call 70; (with_reducible refine (HPo'.out _).mono ?_); (rintro e wp ⟨rfl, hw⟩; subst wp))
                                | ((with_reducible show wpList _ _ _ (⟨some 112, .load 24 (.tmp 2), _, _, _, _⟩ :: _) _ _); refine wp_get _ rfl 24 (.tmp 2) rfl g1 0 (uC sch [] (-1) [] q f) _ rfl S2.out.b1.whole Tryz.underlying24 rfl n24 ?_; simp only [Act.put, List.setIfInBounds_toArray, List.set_cons_zero, List.set_cons_succ])
                                | ((with_reducible show wpList _ _ _ (⟨none, .store 24 (.tmp 4) (.tmp 112), _, _, _, _⟩ :: _) _ _); refine wp_putAll _ rfl 24 (.tmp 4) (.tmp 112) rfl g2 24 _ (uC sch [] (-1) [] q f) rfl rfl S2.out.b2 rfl n24 (uC_one _ _ _ _ _ _) ?_; intro wz BZ UZ; simp only [Act.put]; have SZ := Lib.hid (S2.out.set2 BZ UZ); clear BZ UZ))
                              refine ret_cell2 4 5 24 rfl g2 (uC sch [] (-1) [] q f) _ rfl SZ.out.b2.whole Tryz.underlying24 rfl n24 rfl (.bool false) rfl ?_
                              exact ⟨⟨sch, [], -1, [], q, f⟩, by rw [HR.out]; rfl, fun u hu => (by rw [HR.out] at hu; cases hu), SZ.out.kp⟩
                        · have hr2 : ¬ (D : Int) + 1 < (n : Int) := by omega
                          have hd2 : IntKind.i64.wrap ((D : Int) + 1) = (D : Int) + 1 := by rw [IntKind.wrap_i64]; have := hAl.out; omega
                          have HRe : Hid (R = if HsE then none else some ⟨sch, Hs, -1, Pa, q, f⟩) := by
                            show _ = _
                            rw [hRq.out, List.drop_eq_nil_of_le (by rw [← hAn.out]; omega)]
                            rfl
                          have hr1 : (D : Int) < (n : Int) := by omega
                          clear hrest hDn
                          obtain ⟨ec, nb, hcmp, HHe, HRs⟩ : ∃ (ec : Int) (nb : Bool), (ec == 0) = nb ∧ Hid (∀ w', Calls Tryz.prog 30 #[.string (str AD)] w' fun e w2 => e = .returned (.tuple #[.string (str Hs), .int .i64 ec]) ∧ Below w'.heap.size w' w2) ∧ Hid (R = if nb then some ⟨sch, Hs, -1, Pa, q, f⟩ else none) := by
                            cases he : HsE
                            · rw [he] at HH HRe; exact ⟨0, true, rfl, HH, HRe⟩
                            · rw [he] at HH HRe; exact ⟨7, false, rfl, HH, HRe⟩
                          clear HH HRe
                          go_wp2_with (first
                            | (go_at_call 30; (with_reducible refine (HHe.out _).mono ?_); (rintro e w5 ⟨rfl, hb⟩; have S5 := Lib.hid (S2.out.step hb); clear hb))
                            | ((with_reducible show wpList _ _ _ (⟨none, .store 9 (.tmp 128) (.tmp 127), _, _, _, _⟩ :: _) _ _); refine wp_set _ rfl 9 (.tmp 128) (.tmp 127) rfl g1 1 24 _ (.string (str Hs)) rfl rfl rfl rfl S5.out.b1 (by simp [uC]) n9 ?_; intro w6 B U; simp only [Act.put]; have S6 := Lib.hid (S5.out.set1 B U); clear B U)
                            | (go_at_call 71; (with_reducible refine (HPa.out _).mono ?_); (rintro e w7 ⟨rfl, hb⟩; have S7 := Lib.hid (S6.out.step hb); clear hb))
                            | ((with_reducible show wpList _ _ _ (⟨none, .store 9 (.tmp 133) (.tmp 132), _, _, _, _⟩ :: _) _ _); refine wp_set _ rfl 9 (.tmp 133) (.tmp 132) rfl g1 3 24 _ (.string (str Pa)) rfl rfl rfl rfl S7.out.b1 (by simp [uC]) n9 ?_; intro w8 B U; simp only [Act.put]; have S8 := Lib.hid (S7.out.set1 B U); clear B U)
                            | ((with_reducible show wpList _ _ _ (⟨some 134, .load 24 (.tmp 2), _, _, _, _⟩ :: _) _ _); refine wp_get _ rfl 24 (.tmp 2) rfl g1 0 (uC sch Hs (-1) Pa q f) _ rfl S8.out.b1.whole Tryz.underlying24 rfl n24 ?_; simp only [Act.put, List.setIfInBounds_toArray, List.set_cons_zero, List.set_cons_succ])
                            | ((with_reducible show wpList _ _ _ (⟨none, .store 24 (.tmp 4) (.tmp 134), _, _, _, _⟩ :: _) _ _); refine wp_putAll _ rfl 24 (.tmp 4) (.tmp 134) rfl g2 24 _ (uC sch Hs (-1) Pa q f) rfl rfl S8.out.b2 rfl n24 (uC_one _ _ _ _ _ _) ?_; intro wz BZ UZ; simp only [Act.put]; have SZ := Lib.hid (S8.out.set2 BZ UZ); clear BZ UZ))
                          refine ret_cell2 4 5 24 rfl g2 (uC sch Hs (-1) Pa q f) _ rfl SZ.out.b2.whole Tryz.underlying24 rfl n24 rfl (.bool nb) rfl ?_
                          exact ⟨⟨sch, Hs, -1, Pa, q, f⟩, by rw [HRs.out]; cases nb <;> rfl, fun u hu => (by rw [HRs.out] at hu; cases nb <;> first | (cases hu; done) | (cases hu; rfl)), SZ.out.kp⟩
                      · have c58 : ((b9 : Int) != 58) = true := by simp; omega
                        have hk1 : (k : Int) + 1 = ((k + 1 : Nat) : Int) := by omega
                        have hkw : IntKind.i64.wrap ((k + 1 : Nat) : Int) = ((k + 1 : Nat) : Int) := by rw [IntKind.wrap_i64]; have := hAl.out; omega
                        obtain ⟨k1, hk1e⟩ : ∃ k1, k1 = k + 1 := ⟨_, rfl⟩
                        rw [← hk1e] at hk1 hkw
                        have HK1 := Lib.hid hk1e
                        have HKn : Hid (k1 ≤ n) := by show _ ≤ _; omega
                        clear hk1e
                        have HN := HD false (fun e => h58 (i58.2 e.2))
                        have HN' : Hid (sc false (A.drop k) = ((sc false (A.drop (k + 1))).1 + 1, (sc false (A.drop (k + 1))).2)) := HN
                        have hc93 : ∃ e93 : Bool, ((b9 : Int) == 93) = e93 := ⟨_, rfl⟩
                        obtain ⟨e93, h93⟩ := hc93
                        clear h58 i58 i93 HD HS HN
                        cases e93
                        · go_wp2_with fail
                          go_round
                          case rel => exact ⟨k1, false, HKn.out, by first | rfl | go_num, rfl, by rw [HA.out, HN'.out, HK1.out]; exact Prod.ext (by show _ + 1 + k = _ + (k + 1); omega) rfl⟩
                          case measure => simp [intOf]; have := HK1.out; omega
                        · go_wp2_with fail
                          go_round
                          case rel => exact ⟨k1, false, HKn.out, by first | rfl | go_num, rfl, by rw [HA.out, HN'.out, HK1.out]; exact Prod.ext (by show _ + 1 + k = _ + (k + 1); omega) rfl⟩
                          case measure => simp [intOf]; have := HK1.out; omega
                    · have hk1 : (k : Int) + 1 = ((k + 1 : Nat) : Int) := by omega
                      have hkw : IntKind.i64.wrap ((k + 1 : Nat) : Int) = ((k + 1 : Nat) : Int) := by rw [IntKind.wrap_i64]; have := hAl.out; omega
                      obtain ⟨k1, hk1e⟩ : ∃ k1, k1 = k + 1 := ⟨_, rfl⟩
                      rw [← hk1e] at hk1 hkw
                      have HK1 := Lib.hid hk1e
                      have HKn : Hid (k1 ≤ n) := by show _ ≤ _; omega
                      clear hk1e
                      have HN := HD true (fun e => by cases e.1)
                      by_cases h93 : b9 = 93
                      · have c93 : ((b9 : Int) == 93) = true := by simp; omega
                        have HN' : Hid (sc true (A.drop k) = ((sc false (A.drop (k + 1))).1 + 1, (sc false (A.drop (k + 1))).2)) := by rw [i93.1 h93] at HN; exact HN
                        clear h93 i58 i93 HD HS HN
                        go_wp2_with fail
                        go_round
                        case rel => exact ⟨k1, false, HKn.out, by first | rfl | go_num, rfl, by rw [HA.out, HN'.out, HK1.out]; exact Prod.ext (by show _ + 1 + k = _ + (k + 1); omega) rfl⟩
                        case measure => simp [intOf]; have := HK1.out; omega
                      · have c93 : ((b9 : Int) == 93) = false := by simp; omega
                        have HN' : Hid (sc true (A.drop k) = ((sc true (A.drop (k + 1))).1 + 1, (sc true (A.drop (k + 1))).2)) := by
                          have e : (c != 93) = true := by simpa using fun e : c = 93 => h93 (i93.2 e)
                          rw [e] at HN
                          exact HN
                        clear h93 i58 i93 HD HS HN
                        go_wp2_with fail
                        go_round
                        case rel => exact ⟨k1, true, HKn.out, by first | rfl | go_num, rfl, by rw [HA.out, HN'.out, HK1.out]; exact Prod.ext (by show _ + 1 + k = _ + (k + 1); omega) rfl⟩
                        case measure => simp [intOf]; have := HK1.out; omega
                  · have hkS : ¬ (k : Int) < (n : Int) := by omega
                    have hke : n = k := by omega
                    subst hke
                    have h1 := HA.out
                    rw [hnil.out wi] at h1
                    clear hlt hk HA
                    cases wi
                    · have HDk : Hid (n = D) := by show _ = _; rw [hAt.out, h1]; simp
                      clear h1
                      have hDk := HDk.out
                      subst hDk
                      have hDn := hDle.out
                      have hDni : (n : Int) ≤ (n : Int) := by omega
                      have hrest : ¬ n + 1 < n := by omega
                      have hr2 : ¬ (n : Int) + 1 < (n : Int) := by omega
                      have hd2 : IntKind.i64.wrap ((n : Int) + 1) = (n : Int) + 1 := by rw [IntKind.wrap_i64]; have := hAl.out; omega
                      have HRe : Hid (R = if HsE then none else some ⟨sch, Hs, -1, Pa, q, f⟩) := by
                        show _ = _
                        rw [hRq.out, List.drop_eq_nil_of_le (by rw [← hAn.out]; omega)]
                        rfl
                      have hr1 : ¬ (n : Int) < (n : Int) := by omega
                      clear hrest hDn
                      obtain ⟨ec, nb, hcmp, HHe, HRs⟩ : ∃ (ec : Int) (nb : Bool), (ec == 0) = nb ∧ Hid (∀ w', Calls Tryz.prog 30 #[.string (str AD)] w' fun e w2 => e = .returned (.tuple #[.string (str Hs), .int .i64 ec]) ∧ Below w'.heap.size w' w2) ∧ Hid (R = if nb then some ⟨sch, Hs, -1, Pa, q, f⟩ else none) := by
                        cases he : HsE
                        · rw [he] at HH HRe; exact ⟨0, true, rfl, HH, HRe⟩
                        · rw [he] at HH HRe; exact ⟨7, false, rfl, HH, HRe⟩
                      clear HH HRe
                      go_wp2_with (first
                        | (go_at_call 30; (with_reducible refine (HHe.out _).mono ?_); (rintro e w5 ⟨rfl, hb⟩; have S5 := Lib.hid (S2.out.step hb); clear hb))
                        | ((with_reducible show wpList _ _ _ (⟨none, .store 9 (.tmp 128) (.tmp 127), _, _, _, _⟩ :: _) _ _); refine wp_set _ rfl 9 (.tmp 128) (.tmp 127) rfl g1 1 24 _ (.string (str Hs)) rfl rfl rfl rfl S5.out.b1 (by simp [uC]) n9 ?_; intro w6 B U; simp only [Act.put]; have S6 := Lib.hid (S5.out.set1 B U); clear B U)
                        | (go_at_call 71; (with_reducible refine (HPa.out _).mono ?_); (rintro e w7 ⟨rfl, hb⟩; have S7 := Lib.hid (S6.out.step hb); clear hb))
                        | ((with_reducible show wpList _ _ _ (⟨none, .store 9 (.tmp 133) (.tmp 132), _, _, _, _⟩ :: _) _ _); refine wp_set _ rfl 9 (.tmp 133) (.tmp 132) rfl g1 3 24 _ (.string (str Pa)) rfl rfl rfl rfl S7.out.b1 (by simp [uC]) n9 ?_; intro w8 B U; simp only [Act.put]; have S8 := Lib.hid (S7.out.set1 B U); clear B U)
                        | ((with_reducible show wpList _ _ _ (⟨some 134, .load 24 (.tmp 2), _, _, _, _⟩ :: _) _ _); refine wp_get _ rfl 24 (.tmp 2) rfl g1 0 (uC sch Hs (-1) Pa q f) _ rfl S8.out.b1.whole Tryz.underlying24 rfl n24 ?_; simp only [Act.put, List.setIfInBounds_toArray, List.set_cons_zero, List.set_cons_succ])
                        | ((with_reducible show wpList _ _ _ (⟨none, .store 24 (.tmp 4) (.tmp 134), _, _, _, _⟩ :: _) _ _); refine wp_putAll _ rfl 24 (.tmp 4) (.tmp 134) rfl g2 24 _ (uC sch Hs (-1) Pa q f) rfl rfl S8.out.b2 rfl n24 (uC_one _ _ _ _ _ _) ?_; intro wz BZ UZ; simp only [Act.put]; have SZ := Lib.hid (S8.out.set2 BZ UZ); clear BZ UZ))
                      refine ret_cell2 4 5 24 rfl g2 (uC sch Hs (-1) Pa q f) _ rfl SZ.out.b2.whole Tryz.underlying24 rfl n24 rfl (.bool nb) rfl ?_
                      exact ⟨⟨sch, Hs, -1, Pa, q, f⟩, by rw [HRs.out]; cases nb <;> rfl, fun u hu => (by rw [HRs.out] at hu; cases nb <;> first | (cases hu; done) | (cases hu; rfl)), SZ.out.kp⟩
                    · have HDk : Hid ((bef 58 A).length = D) := by show _ = _; rw [hAt.out, h1]; simp
                      rw [HDk.out] at HF58
                      clear h1
                      have hDn := hDle.out
                      have hDni : (D : Int) ≤ (n : Int) := by omega
                      by_cases hrest : D + 1 < n
                      · have hr1 : (D : Int) < (n : Int) := by omega
                        have hr2 : (D : Int) + 1 < (n : Int) := by omega
                        obtain ⟨D1, hD1⟩ : ∃ D1, D1 = D + 1 := ⟨_, rfl⟩
                        have hd1 : (D : Int) + 1 = (D1 : Int) := by omega
                        have hd2 : IntKind.i64.wrap (D1 : Int) = (D1 : Int) := by rw [IntKind.wrap_i64]; have := hAl.out; omega
                        have hd3 : (D1 : Int) < (n : Int) := by omega
                        have hd4 : (D1 : Int) ≤ (n : Int) := by omega
                        have hxr := hex.out D1 (by omega)
                        rw [hD1] at hxr
                        obtain ⟨RS, hRS⟩ : ∃ R, R = A.drop (D + 1) := ⟨_, rfl⟩
                        rw [← hRS] at hxr
                        have hRne : RS ≠ [] := by rw [hRS]; intro e; have := congrArg List.length e; rw [List.length_drop, List.length_nil, ← hAn.out] at this; omega
                        have HPo : Hid (∀ w', Calls Tryz.prog 70 #[.string (str RS)] w' fun e w2 => e = .returned (rptV (rpt 0 RS)) ∧ w2 = w') := fun w' => rport_any RS w' (by rw [hRS, List.length_drop]; have := hAl.out; have := hAn.out; omega)
                        have HRp : Hid (R = match (match rpt 0 RS with
                          | none => none
                          | some n => if n ≤ 65535 then some (if (n : Int) = p then -1 else (n : Int)) else none : Option Int) with
                          | none => none
                          | some n => if HsE then none else some ⟨sch, Hs, n, Pa, q, f⟩) := by
                          show _ = _
                          rw [hRq.out, ← hRS, prtN_rpt RS p hRne]
                          rfl
                        rw [← hD1] at hxr
                        clear hRS hD1 hRne hrest hDn
                        unfold rptV at HPo
                        cases hr : rpt 0 RS with
                        | none =>
                          rw [hr] at HPo HRp
                          dsimp only at HPo HRp
                          have HR : Hid (R = none) := HRp.out
                          clear hr HRp
                          go_wp2_with (first
                            | (go_at_call 26; (with_reducible refine (HF58.out _).mono ?_); (rintro e wf ⟨rfl, hw⟩; subst wf))
                            | (go_at_call 70; (with_reducible refine (HPo.out _).mono ?_); (rintro e wp ⟨rfl, hw⟩; subst wp))
                            | ((with_reducible show wpList _ _ _ (⟨some 112, .load 24 (.tmp 2), _, _, _, _⟩ :: _) _ _); refine wp_get _ rfl 24 (.tmp 2) rfl g1 0 (uC sch [] (-1) [] q f) _ rfl S2.out.b1.whole Tryz.underlying24 rfl n24 ?_; simp only [Act.put, List.setIfInBounds_toArray, List.set_cons_zero, List.set_cons_succ])
                            | ((with_reducible show wpList _ _ _ (⟨none, .store 24 (.tmp 4) (.tmp 112), _, _, _, _⟩ :: _) _ _); refine wp_putAll _ rfl 24 (.tmp 4) (.tmp 112) rfl g2 24 _ (uC sch [] (-1) [] q f) rfl rfl S2.out.b2 rfl n24 (uC_one _ _ _ _ _ _) ?_; intro wz BZ UZ; simp only [Act.put]; have SZ := Lib.hid (S2.out.set2 BZ UZ); clear BZ UZ))
                          refine ret_cell2 4 5 24 rfl g2 (uC sch [] (-1) [] q f) _ rfl SZ.out.b2.whole Tryz.underlying24 rfl n24 rfl (.bool false) rfl ?_
                          exact ⟨⟨sch, [], -1, [], q, f⟩, by rw [HR.out]; rfl, fun u hu => (by rw [HR.out] at hu; cases hu), SZ.out.kp⟩
                        | some n0 =>
                          rw [hr] at HPo HRp
                          dsimp only at HPo HRp
                          have hn0 := rpt_le RS 0 n0 (by omega) hr
                          have HDf : Hid (∀ w', Calls Tryz.prog 28 #[.string (str sch)] w' fun e w2 => e = .returned (.int .i64 p) ∧ w2 = w') := fun w' => by rw [← hdfl.out]; exact default_any sch w'
                          by_cases hok : n0 ≤ 65535
                          · have HPo' : Hid (∀ w', Calls Tryz.prog 70 #[.string (str RS)] w' fun e w2 => e = .returned (.tuple #[.int .i64 (n0 : Int), .bool true]) ∧ w2 = w') := by rw [decide_eq_true hok] at HPo; exact HPo
                            have hcs := S2.out.b1.cell (i := 0) rfl
                            by_cases hdf : (n0 : Int) = p
                            · have hdn : ((n0 : Int) != p) = false := by simp [hdf]
                              have HRe : Hid (R = if HsE then none else some ⟨sch, Hs, -1, Pa, q, f⟩) := by
                                show _ = _
                                rw [HRp.out]
                                simp only [if_pos hok, if_pos hdf]
                              clear hr HPo HRp hok hdf
                              obtain ⟨ec, nb, hcmp, HHe, HRs⟩ : ∃ (ec : Int) (nb : Bool), (ec == 0) = nb ∧ Hid (∀ w', Calls Tryz.prog 30 #[.string (str AD)] w' fun e w2 => e = .returned (.tuple #[.string (str Hs), .int .i64 ec]) ∧ Below w'.heap.size w' w2) ∧ Hid (R = if nb then some ⟨sch, Hs, -1, Pa, q, f⟩ else none) := by
                                cases he : HsE
                                · rw [he] at HH HRe; exact ⟨0, true, rfl, HH, HRe⟩
                                · rw [he] at HH HRe; exact ⟨7, false, rfl, HH, HRe⟩
                              clear HH HRe
                              go_wp2_with (first
                                | (go_at_call 26; (with_reducible refine (HF58.out _).mono ?_); (rintro e wf ⟨rfl, hw⟩; subst wf))
                                | (go_at_call 70; (with_reducible refine (HPo'.out _).mono ?_); (rintro e wp ⟨rfl, hw⟩; subst wp))
                                | (go_at_call 28; (with_reducible refine (HDf.out _).mono ?_); (rintro e wq ⟨rfl, hw⟩; subst wq))
                                | (go_at_call 30; (with_reducible refine (HHe.out _).mono ?_); (rintro e w5 ⟨rfl, hb⟩; have S5 := Lib.hid (S2.out.step hb); clear hb))
                                | ((with_reducible show wpList _ _ _ (⟨none, .store 9 (.tmp 128) (.tmp 127), _, _, _, _⟩ :: _) _ _); refine wp_set _ rfl 9 (.tmp 128) (.tmp 127) rfl g1 1 24 _ (.string (str Hs)) rfl rfl rfl rfl S5.out.b1 (by simp [uC]) n9 ?_; intro w6 B U; simp only [Act.put]; have S6 := Lib.hid (S5.out.set1 B U); clear B U)
                                | (go_at_call 71; (with_reducible refine (HPa.out _).mono ?_); (rintro e w7 ⟨rfl, hb⟩; have S7 := Lib.hid (S6.out.step hb); clear hb))
                                | ((with_reducible show wpList _ _ _ (⟨none, .store 9 (.tmp 133) (.tmp 132), _, _, _, _⟩ :: _) _ _); refine wp_set _ rfl 9 (.tmp 133) (.tmp 132) rfl g1 3 24 _ (.string (str Pa)) rfl rfl rfl rfl S7.out.b1 (by simp [uC]) n9 ?_; intro w8 B U; simp only [Act.put]; have S8 := Lib.hid (S7.out.set1 B U); clear B U)
                                | ((with_reducible show wpList _ _ _ (⟨some 134, .load 24 (.tmp 2), _, _, _, _⟩ :: _) _ _); refine wp_get _ rfl 24 (.tmp 2) rfl g1 0 (uC sch Hs (-1) Pa q f) _ rfl S8.out.b1.whole Tryz.underlying24 rfl n24 ?_; simp only [Act.put, List.setIfInBounds_toArray, List.set_cons_zero, List.set_cons_succ])
                                | ((with_reducible show wpList _ _ _ (⟨none, .store 24 (.tmp 4) (.tmp 134), _, _, _, _⟩ :: _) _ _); refine wp_putAll _ rfl 24 (.tmp 4) (.tmp 134) rfl g2 24 _ (uC sch Hs (-1) Pa q f) rfl rfl S8.out.b2 rfl n24 (uC_one _ _ _ _ _ _) ?_; intro wz BZ UZ; simp only [Act.put]; have SZ := Lib.hid (S8.out.set2 BZ UZ); clear BZ UZ))
                              refine ret_cell2 4 5 24 rfl g2 (uC sch Hs (-1) Pa q f) _ rfl SZ.out.b2.whole Tryz.underlying24 rfl n24 rfl (.bool nb) rfl ?_
                              exact ⟨⟨sch, Hs, -1, Pa, q, f⟩, by rw [HRs.out]; cases nb <;> rfl, fun u hu => (by rw [HRs.out] at hu; cases nb <;> first | (cases hu; done) | (cases hu; rfl)), SZ.out.kp⟩
                            · have hdn : ((n0 : Int) != p) = true := by simpa using hdf
                              have HRe : Hid (R = if HsE then none else some ⟨sch, Hs, (n0 : Int), Pa, q, f⟩) := by
                                show _ = _
                                rw [HRp.out]
                                simp only [if_pos hok, if_neg hdf]
                              clear hr HPo HRp hok hdf
                              obtain ⟨ec, nb, hcmp, HHe, HRs⟩ : ∃ (ec : Int) (nb : Bool), (ec == 0) = nb ∧ Hid (∀ w', Calls Tryz.prog 30 #[.string (str AD)] w' fun e w2 => e = .returned (.tuple #[.string (str Hs), .int .i64 ec]) ∧ Below w'.heap.size w' w2) ∧ Hid (R = if nb then some ⟨sch, Hs, (n0 : Int), Pa, q, f⟩ else none) := by
                                cases he : HsE
                                · rw [he] at HH HRe; exact ⟨0, true, rfl, HH, HRe⟩
                                · rw [he] at HH HRe; exact ⟨7, false, rfl, HH, HRe⟩
                              clear HH HRe
                              go_wp2_with (first
                                | (go_at_call 26; (with_reducible refine (HF58.out _).mono ?_); (rintro e wf ⟨rfl, hw⟩; subst wf))
                                | (go_at_call 70; (with_reducible refine (HPo'.out _).mono ?_); (rintro e wp ⟨rfl, hw⟩; subst wp))
                                | (go_at_call 28; (with_reducible refine (HDf.out _).mono ?_); (rintro e wq ⟨rfl, hw⟩; subst wq))
                                | ((with_reducible show wpList _ _ _ (⟨none, .store 3 (.tmp 119) (.tmp 118), _, _, _, _⟩ :: _) _ _); refine wp_set _ rfl 3 (.tmp 119) (.tmp 118) rfl g1 2 24 _ (.int .i64 (n0 : Int)) rfl rfl rfl rfl S2.out.b1 (by simp [uC]) n3 ?_; intro wo B U; simp only [Act.put]; have SP := Lib.hid (S2.out.set1 B U); clear B U)
                                | (go_at_call 30; (with_reducible refine (HHe.out _).mono ?_); (rintro e w5 ⟨rfl, hb⟩; have S5 := Lib.hid (SP.out.step hb); clear hb))
                                | ((with_reducible show wpList _ _ _ (⟨none, .store 9 (.tmp 128) (.tmp 127), _, _, _, _⟩ :: _) _ _); refine wp_set _ rfl 9 (.tmp 128) (.tmp 127) rfl g1 1 24 _ (.string (str Hs)) rfl rfl rfl rfl S5.out.b1 (by simp [uC]) n9 ?_; intro w6 B U; simp only [Act.put]; have S6 := Lib.hid (S5.out.set1 B U); clear B U)
                                | (go_at_call 71; (with_reducible refine (HPa.out _).mono ?_); (rintro e w7 ⟨rfl, hb⟩; have S7 := Lib.hid (S6.out.step hb); clear hb))
                                | ((with_reducible show wpList _ _ _ (⟨none, .store 9 (.tmp 133) (.tmp 132), _, _, _, _⟩ :: _) _ _); refine wp_set _ rfl 9 (.tmp 133) (.tmp 132) rfl g1 3 24 _ (.string (str Pa)) rfl rfl rfl rfl S7.out.b1 (by simp [uC]) n9 ?_; intro w8 B U; simp only [Act.put]; have S8 := Lib.hid (S7.out.set1 B U); clear B U)
                                | ((with_reducible show wpList _ _ _ (⟨some 134, .load 24 (.tmp 2), _, _, _, _⟩ :: _) _ _); refine wp_get _ rfl 24 (.tmp 2) rfl g1 0 (uC sch Hs (n0 : Int) Pa q f) _ rfl S8.out.b1.whole Tryz.underlying24 rfl n24 ?_; simp only [Act.put, List.setIfInBounds_toArray, List.set_cons_zero, List.set_cons_succ])
                                | ((with_reducible show wpList _ _ _ (⟨none, .store 24 (.tmp 4) (.tmp 134), _, _, _, _⟩ :: _) _ _); refine wp_putAll _ rfl 24 (.tmp 4) (.tmp 134) rfl g2 24 _ (uC sch Hs (n0 : Int) Pa q f) rfl rfl S8.out.b2 rfl n24 (uC_one _ _ _ _ _ _) ?_; intro wz BZ UZ; simp only [Act.put]; have SZ := Lib.hid (S8.out.set2 BZ UZ); clear BZ UZ))
                              refine ret_cell2 4 5 24 rfl g2 (uC sch Hs (n0 : Int) Pa q f) _ rfl SZ.out.b2.whole Tryz.underlying24 rfl n24 rfl (.bool nb) rfl ?_
                              exact ⟨⟨sch, Hs, (n0 : Int), Pa, q, f⟩, by rw [HRs.out]; cases nb <;> rfl, fun u hu => (by rw [HRs.out] at hu; cases nb <;> first | (cases hu; done) | (cases hu; rfl)), SZ.out.kp⟩
                          · have HPo' : Hid (∀ w', Calls Tryz.prog 70 #[.string (str RS)] w' fun e w2 => e = .returned (.tuple #[.int .i64 (n0 : Int), .bool false]) ∧ w2 = w') := by rw [decide_eq_false hok] at HPo; exact HPo
                            have HR : Hid (R = none) := by show _ = _; rw [HRp.out]; simp only [if_neg hok]
                            clear hr HPo HRp hok
                            go_wp2_with (first
                              | (go_at_call 26; (with_reducible refine (HF58.out _).mono ?_); (rintro e wf ⟨rfl, hw⟩; subst wf))
                              | (go_at_call 70; (with_reducible refine (HPo'.out _).mono ?_); (rintro e wp ⟨rfl, hw⟩; subst wp))
                              | ((with_reducible show wpList _ _ _ (⟨some 112, .load 24 (.tmp 2), _, _, _, _⟩ :: _) _ _); refine wp_get _ rfl 24 (.tmp 2) rfl g1 0 (uC sch [] (-1) [] q f) _ rfl S2.out.b1.whole Tryz.underlying24 rfl n24 ?_; simp only [Act.put, List.setIfInBounds_toArray, List.set_cons_zero, List.set_cons_succ])
                              | ((with_reducible show wpList _ _ _ (⟨none, .store 24 (.tmp 4) (.tmp 112), _, _, _, _⟩ :: _) _ _); refine wp_putAll _ rfl 24 (.tmp 4) (.tmp 112) rfl g2 24 _ (uC sch [] (-1) [] q f) rfl rfl S2.out.b2 rfl n24 (uC_one _ _ _ _ _ _) ?_; intro wz BZ UZ; simp only [Act.put]; have SZ := Lib.hid (S2.out.set2 BZ UZ); clear BZ UZ))
                            refine ret_cell2 4 5 24 rfl g2 (uC sch [] (-1) [] q f) _ rfl SZ.out.b2.whole Tryz.underlying24 rfl n24 rfl (.bool false) rfl ?_
                            exact ⟨⟨sch, [], -1, [], q, f⟩, by rw [HR.out]; rfl, fun u hu => (by rw [HR.out] at hu; cases hu), SZ.out.kp⟩
                      · have hr2 : ¬ (D : Int) + 1 < (n : Int) := by omega
                        have hd2 : IntKind.i64.wrap ((D : Int) + 1) = (D : Int) + 1 := by rw [IntKind.wrap_i64]; have := hAl.out; omega
                        have HRe : Hid (R = if HsE then none else some ⟨sch, Hs, -1, Pa, q, f⟩) := by
                          show _ = _
                          rw [hRq.out, List.drop_eq_nil_of_le (by rw [← hAn.out]; omega)]
                          rfl
                        by_cases hr0 : D < n
                        · have hr1 : (D : Int) < (n : Int) := by omega
                          clear hrest hDn
                          clear hr0
                          obtain ⟨ec, nb, hcmp, HHe, HRs⟩ : ∃ (ec : Int) (nb : Bool), (ec == 0) = nb ∧ Hid (∀ w', Calls Tryz.prog 30 #[.string (str AD)] w' fun e w2 => e = .returned (.tuple #[.string (str Hs), .int .i64 ec]) ∧ Below w'.heap.size w' w2) ∧ Hid (R = if nb then some ⟨sch, Hs, -1, Pa, q, f⟩ else none) := by
                            cases he : HsE
                            · rw [he] at HH HRe; exact ⟨0, true, rfl, HH, HRe⟩
                            · rw [he] at HH HRe; exact ⟨7, false, rfl, HH, HRe⟩
                          clear HH HRe
                          go_wp2_with (first
                            | (go_at_call 26; (with_reducible refine (HF58.out _).mono ?_); (rintro e wf ⟨rfl, hw⟩; subst wf))
                            | (go_at_call 30; (with_reducible refine (HHe.out _).mono ?_); (rintro e w5 ⟨rfl, hb⟩; have S5 := Lib.hid (S2.out.step hb); clear hb))
                            | ((with_reducible show wpList _ _ _ (⟨none, .store 9 (.tmp 128) (.tmp 127), _, _, _, _⟩ :: _) _ _); refine wp_set _ rfl 9 (.tmp 128) (.tmp 127) rfl g1 1 24 _ (.string (str Hs)) rfl rfl rfl rfl S5.out.b1 (by simp [uC]) n9 ?_; intro w6 B U; simp only [Act.put]; have S6 := Lib.hid (S5.out.set1 B U); clear B U)
                            | (go_at_call 71; (with_reducible refine (HPa.out _).mono ?_); (rintro e w7 ⟨rfl, hb⟩; have S7 := Lib.hid (S6.out.step hb); clear hb))
                            | ((with_reducible show wpList _ _ _ (⟨none, .store 9 (.tmp 133) (.tmp 132), _, _, _, _⟩ :: _) _ _); refine wp_set _ rfl 9 (.tmp 133) (.tmp 132) rfl g1 3 24 _ (.string (str Pa)) rfl rfl rfl rfl S7.out.b1 (by simp [uC]) n9 ?_; intro w8 B U; simp only [Act.put]; have S8 := Lib.hid (S7.out.set1 B U); clear B U)
                            | ((with_reducible show wpList _ _ _ (⟨some 134, .load 24 (.tmp 2), _, _, _, _⟩ :: _) _ _); refine wp_get _ rfl 24 (.tmp 2) rfl g1 0 (uC sch Hs (-1) Pa q f) _ rfl S8.out.b1.whole Tryz.underlying24 rfl n24 ?_; simp only [Act.put, List.setIfInBounds_toArray, List.set_cons_zero, List.set_cons_succ])
                            | ((with_reducible show wpList _ _ _ (⟨none, .store 24 (.tmp 4) (.tmp 134), _, _, _, _⟩ :: _) _ _); refine wp_putAll _ rfl 24 (.tmp 4) (.tmp 134) rfl g2 24 _ (uC sch Hs (-1) Pa q f) rfl rfl S8.out.b2 rfl n24 (uC_one _ _ _ _ _ _) ?_; intro wz BZ UZ; simp only [Act.put]; have SZ := Lib.hid (S8.out.set2 BZ UZ); clear BZ UZ))
                          refine ret_cell2 4 5 24 rfl g2 (uC sch Hs (-1) Pa q f) _ rfl SZ.out.b2.whole Tryz.underlying24 rfl n24 rfl (.bool nb) rfl ?_
                          exact ⟨⟨sch, Hs, -1, Pa, q, f⟩, by rw [HRs.out]; cases nb <;> rfl, fun u hu => (by rw [HRs.out] at hu; cases nb <;> first | (cases hu; done) | (cases hu; rfl)), SZ.out.kp⟩
                        · have hr1 : ¬ (D : Int) < (n : Int) := by omega
                          clear hrest hDn
                          clear hr0
                          obtain ⟨ec, nb, hcmp, HHe, HRs⟩ : ∃ (ec : Int) (nb : Bool), (ec == 0) = nb ∧ Hid (∀ w', Calls Tryz.prog 30 #[.string (str AD)] w' fun e w2 => e = .returned (.tuple #[.string (str Hs), .int .i64 ec]) ∧ Below w'.heap.size w' w2) ∧ Hid (R = if nb then some ⟨sch, Hs, -1, Pa, q, f⟩ else none) := by
                            cases he : HsE
                            · rw [he] at HH HRe; exact ⟨0, true, rfl, HH, HRe⟩
                            · rw [he] at HH HRe; exact ⟨7, false, rfl, HH, HRe⟩
                          clear HH HRe
                          go_wp2_with (first
                            | (go_at_call 26; (with_reducible refine (HF58.out _).mono ?_); (rintro e wf ⟨rfl, hw⟩; subst wf))
                            | (go_at_call 30; (with_reducible refine (HHe.out _).mono ?_); (rintro e w5 ⟨rfl, hb⟩; have S5 := Lib.hid (S2.out.step hb); clear hb))
                            | ((with_reducible show wpList _ _ _ (⟨none, .store 9 (.tmp 128) (.tmp 127), _, _, _, _⟩ :: _) _ _); refine wp_set _ rfl 9 (.tmp 128) (.tmp 127) rfl g1 1 24 _ (.string (str Hs)) rfl rfl rfl rfl S5.out.b1 (by simp [uC]) n9 ?_; intro w6 B U; simp only [Act.put]; have S6 := Lib.hid (S5.out.set1 B U); clear B U)
                            | (go_at_call 71; (with_reducible refine (HPa.out _).mono ?_); (rintro e w7 ⟨rfl, hb⟩; have S7 := Lib.hid (S6.out.step hb); clear hb))
                            | ((with_reducible show wpList _ _ _ (⟨none, .store 9 (.tmp 133) (.tmp 132), _, _, _, _⟩ :: _) _ _); refine wp_set _ rfl 9 (.tmp 133) (.tmp 132) rfl g1 3 24 _ (.string (str Pa)) rfl rfl rfl rfl S7.out.b1 (by simp [uC]) n9 ?_; intro w8 B U; simp only [Act.put]; have S8 := Lib.hid (S7.out.set1 B U); clear B U)
                            | ((with_reducible show wpList _ _ _ (⟨some 134, .load 24 (.tmp 2), _, _, _, _⟩ :: _) _ _); refine wp_get _ rfl 24 (.tmp 2) rfl g1 0 (uC sch Hs (-1) Pa q f) _ rfl S8.out.b1.whole Tryz.underlying24 rfl n24 ?_; simp only [Act.put, List.setIfInBounds_toArray, List.set_cons_zero, List.set_cons_succ])
                            | ((with_reducible show wpList _ _ _ (⟨none, .store 24 (.tmp 4) (.tmp 134), _, _, _, _⟩ :: _) _ _); refine wp_putAll _ rfl 24 (.tmp 4) (.tmp 134) rfl g2 24 _ (uC sch Hs (-1) Pa q f) rfl rfl S8.out.b2 rfl n24 (uC_one _ _ _ _ _ _) ?_; intro wz BZ UZ; simp only [Act.put]; have SZ := Lib.hid (S8.out.set2 BZ UZ); clear BZ UZ))
                          refine ret_cell2 4 5 24 rfl g2 (uC sch Hs (-1) Pa q f) _ rfl SZ.out.b2.whole Tryz.underlying24 rfl n24 rfl (.bool nb) rfl ?_
                          exact ⟨⟨sch, Hs, -1, Pa, q, f⟩, by rw [HRs.out]; cases nb <;> rfl, fun u hu => (by rw [HRs.out] at hu; cases nb <;> first | (cases hu; done) | (cases hu; rfl)), SZ.out.kp⟩
              · obtain ⟨hw0, hnz⟩ := hy0 rfl
                have HZ := Lib.hid hnz
                clear hAh hy0 hn0 hnz
                subst hw0
                go_wp2_with (first
                  | (go_at_call 26; (with_reducible refine (HF47.out _).mono ?_); (rintro e wf ⟨rfl, hw⟩; subst wf))
                  | (go_at_call 26; (with_reducible refine (HF64.out _).mono ?_); (rintro e wg ⟨rfl, hw⟩; subst wg)))
                go_loop [11, 10] (fun wv i => i = .int .i64 (n : Int) ∧ wv = .bool false) (fun _ _ => 0)
                case atStart => exact ⟨by rw [HZ.out]; rfl, rfl⟩
                case round =>
                  obtain ⟨rfl, rfl⟩ := hrel
                  have hkS : ¬ (n : Int) < (n : Int) := by omega
                  have h1 : sc false A = (0, false) := by have h2 := hnil.out false; rw [HZ.out, List.drop_zero] at h2; exact h2
                  have HDk : Hid (n = D) := by show _ = _; rw [hAt.out, h1, HZ.out]; simp
                  clear h1
                  have hDk := HDk.out
                  subst hDk
                  have hDn := hDle.out
                  have hDni : (n : Int) ≤ (n : Int) := by omega
                  have hrest : ¬ n + 1 < n := by omega
                  have hr2 : ¬ (n : Int) + 1 < (n : Int) := by omega
                  have hd2 : IntKind.i64.wrap ((n : Int) + 1) = (n : Int) + 1 := by rw [IntKind.wrap_i64]; have := hAl.out; omega
                  have HRe : Hid (R = if HsE then none else some ⟨sch, Hs, -1, Pa, q, f⟩) := by
                    show _ = _
                    rw [hRq.out, List.drop_eq_nil_of_le (by rw [← hAn.out]; omega)]
                    rfl
                  have hr1 : ¬ (n : Int) < (n : Int) := by omega
                  clear hrest hDn
                  obtain ⟨ec, nb, hcmp, HHe, HRs⟩ : ∃ (ec : Int) (nb : Bool), (ec == 0) = nb ∧ Hid (∀ w', Calls Tryz.prog 30 #[.string (str AD)] w' fun e w2 => e = .returned (.tuple #[.string (str Hs), .int .i64 ec]) ∧ Below w'.heap.size w' w2) ∧ Hid (R = if nb then some ⟨sch, Hs, -1, Pa, q, f⟩ else none) := by
                    cases he : HsE
                    · rw [he] at HH HRe; exact ⟨0, true, rfl, HH, HRe⟩
                    · rw [he] at HH HRe; exact ⟨7, false, rfl, HH, HRe⟩
                  clear HH HRe
                  go_wp2_with (first
                    | (go_at_call 30; (with_reducible refine (HHe.out _).mono ?_); (rintro e w5 ⟨rfl, hb⟩; have S5 := Lib.hid (S2.out.step hb); clear hb))
                    | ((with_reducible show wpList _ _ _ (⟨none, .store 9 (.tmp 128) (.tmp 127), _, _, _, _⟩ :: _) _ _); refine wp_set _ rfl 9 (.tmp 128) (.tmp 127) rfl g1 1 24 _ (.string (str Hs)) rfl rfl rfl rfl S5.out.b1 (by simp [uC]) n9 ?_; intro w6 B U; simp only [Act.put]; have S6 := Lib.hid (S5.out.set1 B U); clear B U)
                    | (go_at_call 71; (with_reducible refine (HPa.out _).mono ?_); (rintro e w7 ⟨rfl, hb⟩; have S7 := Lib.hid (S6.out.step hb); clear hb))
                    | ((with_reducible show wpList _ _ _ (⟨none, .store 9 (.tmp 133) (.tmp 132), _, _, _, _⟩ :: _) _ _); refine wp_set _ rfl 9 (.tmp 133) (.tmp 132) rfl g1 3 24 _ (.string (str Pa)) rfl rfl rfl rfl S7.out.b1 (by simp [uC]) n9 ?_; intro w8 B U; simp only [Act.put]; have S8 := Lib.hid (S7.out.set1 B U); clear B U)
                    | ((with_reducible show wpList _ _ _ (⟨some 134, .load 24 (.tmp 2), _, _, _, _⟩ :: _) _ _); refine wp_get _ rfl 24 (.tmp 2) rfl g1 0 (uC sch Hs (-1) Pa q f) _ rfl S8.out.b1.whole Tryz.underlying24 rfl n24 ?_; simp only [Act.put, List.setIfInBounds_toArray, List.set_cons_zero, List.set_cons_succ])
                    | ((with_reducible show wpList _ _ _ (⟨none, .store 24 (.tmp 4) (.tmp 134), _, _, _, _⟩ :: _) _ _); refine wp_putAll _ rfl 24 (.tmp 4) (.tmp 134) rfl g2 24 _ (uC sch Hs (-1) Pa q f) rfl rfl S8.out.b2 rfl n24 (uC_one _ _ _ _ _ _) ?_; intro wz BZ UZ; simp only [Act.put]; have SZ := Lib.hid (S8.out.set2 BZ UZ); clear BZ UZ))
                  refine ret_cell2 4 5 24 rfl g2 (uC sch Hs (-1) Pa q f) _ rfl SZ.out.b2.whole Tryz.underlying24 rfl n24 rfl (.bool nb) rfl ?_
                  exact ⟨⟨sch, Hs, -1, Pa, q, f⟩, by rw [HRs.out]; cases nb <;> rfl, fun u hu => (by rw [HRs.out] at hu; cases nb <;> first | (cases hu; done) | (cases hu; rfl)), SZ.out.kp⟩
            · have HR : Hid (R = none) := by show _ = _; rw [hRd, h64]; rfl
              have e64 : (bef 64 A).length < n := by
                have := bef_aft 64 A (by simpa using h64)
                have := congrArg List.length this
                rw [List.length_append, List.length_cons, ← hn] at this
                omega
              obtain ⟨e6, he6⟩ : ∃ e, e = (bef 64 A).length := ⟨_, rfl⟩
              rw [← he6] at HF64 e64
              have e6i : (e6 : Int) < (n : Int) := by omega
              clear he6 h64 hRd hn
              go_wp2_with (first
                | (go_at_call 26; (with_reducible refine (HF47.out _).mono ?_); (rintro e wf ⟨rfl, hw⟩; subst wf))
                | (go_at_call 26; (with_reducible refine (HF64.out _).mono ?_); (rintro e wg ⟨rfl, hw⟩; subst wg))
                | ((with_reducible show wpList _ _ _ (⟨some 61, .load 24 (.tmp 2), _, _, _, _⟩ :: _) _ _); refine wp_get _ rfl 24 (.tmp 2) rfl g1 0 (uC sch [] (-1) [] q f) _ rfl S2.out.b1.whole Tryz.underlying24 rfl n24 ?_; simp only [Act.put, List.setIfInBounds_toArray, List.set_cons_zero, List.set_cons_succ])
                | ((with_reducible show wpList _ _ _ (⟨none, .store 24 (.tmp 4) (.tmp 61), _, _, _, _⟩ :: _) _ _); refine wp_putAll _ rfl 24 (.tmp 4) (.tmp 61) rfl g2 24 _ (uC sch [] (-1) [] q f) rfl rfl S2.out.b2 rfl n24 (uC_one _ _ _ _ _ _) ?_; intro wz BZ UZ; simp only [Act.put]; have SZ := Lib.hid (S2.out.set2 BZ UZ); clear BZ UZ))
              refine ret_cell2 4 5 24 rfl g2 (uC sch [] (-1) [] q f) _ rfl SZ.out.b2.whole Tryz.underlying24 rfl n24 rfl (.bool false) rfl ?_
              exact ⟨⟨sch, [], -1, [], q, f⟩, by rw [HR.out]; rfl, fun u hu => (by rw [HR.out] at hu; cases hu), SZ.out.kp⟩
          · have d0 : ((b0 : Int) != 47) = false := by simp; omega
            have d1 : ((b1 : Int) != 47) = true := by simp; omega
            have HR : Hid (R = none) := by show _ = _; rw [hR, if_neg (fun e => h1 (j1.2 (hpre.1 e).2.2))]
            clear hpre hR h0 h1 j0 j1
            go_wp2_with (first
          | ((with_reducible show wpList _ _ _ (⟨some 48, .load 24 (.tmp 2), _, _, _, _⟩ :: _) _ _); refine wp_get _ rfl 24 (.tmp 2) rfl g1 0 (uC sch [] (-1) [] q f) _ rfl S2.out.b1.whole Tryz.underlying24 rfl n24 ?_; simp only [Act.put, List.setIfInBounds_toArray, List.set_cons_zero, List.set_cons_succ])
          | ((with_reducible show wpList _ _ _ (⟨none, .store 24 (.tmp 4) (.tmp 48), _, _, _, _⟩ :: _) _ _); refine wp_putAll _ rfl 24 (.tmp 4) (.tmp 48) rfl g2 24 _ (uC sch [] (-1) [] q f) rfl rfl S2.out.b2 rfl n24 (uC_one _ _ _ _ _ _) ?_; intro wz BZ UZ; simp only [Act.put]; have SZ := Lib.hid (S2.out.set2 BZ UZ); clear BZ UZ))
            refine ret_cell2 4 5 24 rfl g2 (uC sch [] (-1) [] q f) _ rfl SZ.out.b2.whole Tryz.underlying24 rfl n24 rfl (.bool false) rfl ?_
            exact ⟨⟨sch, [], -1, [], q, f⟩, by rw [HR.out]; rfl, fun u hu => (by rw [HR.out] at hu; cases hu), SZ.out.kp⟩
        · have d0 : ((b0 : Int) != 47) = true := by simp; omega
          have HR : Hid (R = none) := by show _ = _; rw [hR, if_neg (fun e => h0 (j0.2 (hpre.1 e).2.1))]
          clear hpre hR h0 j0 j1
          go_wp2_with (first
          | ((with_reducible show wpList _ _ _ (⟨some 48, .load 24 (.tmp 2), _, _, _, _⟩ :: _) _ _); refine wp_get _ rfl 24 (.tmp 2) rfl g1 0 (uC sch [] (-1) [] q f) _ rfl S2.out.b1.whole Tryz.underlying24 rfl n24 ?_; simp only [Act.put, List.setIfInBounds_toArray, List.set_cons_zero, List.set_cons_succ])
          | ((with_reducible show wpList _ _ _ (⟨none, .store 24 (.tmp 4) (.tmp 48), _, _, _, _⟩ :: _) _ _); refine wp_putAll _ rfl 24 (.tmp 4) (.tmp 48) rfl g2 24 _ (uC sch [] (-1) [] q f) rfl rfl S2.out.b2 rfl n24 (uC_one _ _ _ _ _ _) ?_; intro wz BZ UZ; simp only [Act.put]; have SZ := Lib.hid (S2.out.set2 BZ UZ); clear BZ UZ))
          refine ret_cell2 4 5 24 rfl g2 (uC sch [] (-1) [] q f) _ rfl SZ.out.b2.whole Tryz.underlying24 rfl n24 rfl (.bool false) rfl ?_
          exact ⟨⟨sch, [], -1, [], q, f⟩, by rw [HR.out]; rfl, fun u hu => (by rw [HR.out] at hu; cases hu), SZ.out.kp⟩
end Go.Proofs.YtcepigekibidfaaGreatDoor
