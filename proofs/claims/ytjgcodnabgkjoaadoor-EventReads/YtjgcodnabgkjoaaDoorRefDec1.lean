/-
  What the document's own Decode (transeptref05) answers of bytes whose kind is 1: the same as the program's; nothing that was there turns. Condition: at most a million bytes.
-/
import Derived.Test.YtjgcodnabgkjoaaDoorRefDecA
namespace Go.Proofs.YtjgcodnabgkjoaaDoor
open Go.RowKit

set_option maxHeartbeats 8000000 in
set_option maxRecDepth 100000 in
theorem refDecode_in1 (c : UInt8) (r : List UInt8) (hl : (c :: r).length ≤ 1000000) (hkk : c.toNat = 1) (w : World) : Calls Tryd.prog 18 #[.string (str (c :: r))] w fun r' w' => r' = .returned (gotE (c :: r)) ∧ Below w.heap.size w w' := by
  have y24 := zero24
  have z24z : (Tryd.prog.info? 24).map (·.size) = some (evc ev0).length := size24
  have hsz := str_size (c :: r)
  have h0 := byte_at (c :: r) 0 (by simp)
  have hne : (false = true) ↔ c :: r = [] := ⟨fun h => (by cases h), fun h => (by cases h)⟩
  have hdk : dK (c :: r) = c.toNat := (dec_cons c r (by omega) (by omega)).1
  have hck : ckE (c :: r) 0 0 1 14 = 0 := by rw [ck_cons, if_neg (by omega)]
  have htk : tkA (c :: r) 0 0 1 14 = 1 := by rw [tkA, hck, if_pos rfl]
  obtain ⟨k, hk⟩ : ∃ k, c.toNat = k := ⟨_, rfl⟩
  rw [hk] at hdk hkk
  have k1 : ((k : Int) == 1) = true := by simp; omega
  have h0' : ∀ h, ((str (c :: r))[0]'h).toNat = k := fun h => by rw [h0 h]; simpa using hk
  have hk15 : k < 15 := by omega
  have hk0 : 0 < k := by omega
  obtain ⟨q1, q2, q3, q4, q5⟩ := shape_split k hk15 hk0
  have SH := fun W => shape_in k (by omega) (by omega) W
  have SP := fun W => split_any (shapeS k) (hav k).texts (lettersS k) q1 q2 q3 W
  have LO := letters_ok k hk15 hk0
  have hff : (hav k).fetch = false := by rw [alone_fetch k hk15 hk0]; simp; omega
  have ht4 := (hav_ok k).1
  have hne45 : (false = true) ↔ shapeS k = [45] := ⟨fun h => (by cases h), fun h => absurd h q4⟩
  obtain ⟨l, hle⟩ : ∃ l, l = c :: r := ⟨_, rfl⟩
  have hlp : 0 < l.length := by rw [hle]; simp
  rw [← hle] at hsz h0' hne hdk hck htk hl ⊢
  have d4l := d4_letters l (by omega) (by omega)
  rw [← hdk] at hff
  rw [hdk] at d4l
  clear h0 hle hk q1 q2 q3 q4
  have ev : ∀ a e : Nat, dA l = a → dE l = e → e ≠ 0 → gotE l = .tuple #[.agg (evc ev0).toArray, .int .i64 (a : Int), .int .i64 (e : Int)] := fun a e ha he h => gotE_bad ha he h
  have D1 : d1 l = ((getS (l.drop 1)).1, 1 + (getS (l.drop 1)).2.1, (getS (l.drop 1)).2.2) := by rw [d1, htk, hck, nuR, if_neg (by simp)]
  have GA := fun W => refGet_any (l.drop 1) W (by rw [List.length_drop]; omega)
  have a1le := d1_le l
  obtain ⟨T, n1, e1, hG⟩ : ∃ T n1 e1, getS (l.drop 1) = (T, n1, e1) := ⟨_, _, _, rfl⟩
  rw [hG] at D1 GA
  simp only [got] at GA
  obtain ⟨N, hN⟩ : ∃ N, l.length = N := ⟨_, rfl⟩
  have x1 := str_from l 1 N hN (by omega)
  obtain ⟨a1, ha1⟩ : ∃ a, 1 + n1 = a := ⟨_, rfl⟩
  have ha1' : (1 : Int) + (n1 : Int) = (a1 : Int) := by omega
  rw [ha1] at D1
  rw [D1] at a1le
  simp only at a1le
  have x2 := str_from l a1 N hN (by omega)
  have GB := fun W => refGet_any (l.drop a1) W (by rw [List.length_drop]; omega)
  obtain ⟨I, n2, e2, hG2⟩ : ∃ T n1 e1, getS (l.drop a1) = (T, n1, e1) := ⟨_, _, _, rfl⟩
  have n2le := (getS_place (l.drop a1)).1
  rw [List.length_drop, hN] at n2le
  have hnil : a1 = N → I = 0 ∧ n2 = 0 ∧ e2 = 2 := fun h => by
    rw [List.drop_of_length_le (by omega), getS_nil] at hG2
    cases hG2
    exact ⟨rfl, rfl, rfl⟩
  rw [hG2] at GB n2le
  simp only [got] at GB
  simp only at n2le
  rw [hN] at hsz hl hlp a1le
  obtain ⟨a2, ha2⟩ : ∃ a, a1 + n2 = a := ⟨_, rfl⟩
  have ha2' : (a1 : Int) + (n2 : Int) = (a2 : Int) := by omega
  have a2le : a2 ≤ N := by omega
  have hgood : e1 = 0 → a1 < N → false = !decide ((l.getD a1 0).toNat = 0) → d2 l = (I, a2, e2) := fun h1 h2 h3 => by
    rw [d2_good (by rw [D1, h1]) (by rw [hN]; omega) (by rw [hff]; exact h3), hG2, ha2]
  have hbad : e1 = 0 → a1 < N → false = decide ((l.getD a1 0).toNat = 0) → dA l = a1 ∧ dE l = 3 := fun h1 h2 h3 => by
    have h4 := d2_bad (by rw [D1, h1]) (by rw [hN]; omega) (by rw [hff]; exact h3)
    have h5 := d2_stk l (by rw [h4]; exact (by decide : (3 : Nat) ≠ 0))
    rw [h4] at h5
    exact h5
  have hend : e1 = 0 → a1 = N → d2 l = (I, a2, e2) := fun h1 h2 => by
    obtain ⟨i1, i2, i3⟩ := hnil h2
    rw [d2_end (by rw [D1, h1]) (by rw [hN]; exact h2), i1, i3, ← ha2, i2]
    rfl
  have hstk : d2 l = (I, a2, e2) → e2 ≠ 0 → gotE l = .tuple #[.agg (evc ev0).toArray, .int .i64 (a2 : Int), .int .i64 (e2 : Int)] := fun h1 h2 => by
    have h3 := d2_stk l (by rw [h1]; exact h2)
    rw [h1] at h3
    exact ev _ _ h3.1 h3.2 h2
  obtain ⟨X1, hX1⟩ : ∃ X, l.drop 1 = X := ⟨_, rfl⟩
  obtain ⟨X2, hX2⟩ : ∃ X, l.drop a1 = X := ⟨_, rfl⟩
  rw [hX1] at x1 GA
  rw [hX2] at x2 GB
  obtain ⟨S, hS⟩ : ∃ S, shapeS k = S := ⟨_, rfl⟩
  obtain ⟨t, ht⟩ : ∃ S, (hav k).texts = S := ⟨_, rfl⟩
  obtain ⟨Lt, hLt⟩ : ∃ S, lettersS k = S := ⟨_, rfl⟩
  rw [hS] at hne45 SH SP
  rw [ht] at SP ht4
  rw [hLt] at SP LO q5 d4l
  have zL := str_size Lt
  have HD := Lib.hid (And.intro D1 (And.intro hdk (And.intro ht (And.intro hN hl))))
  have HNE := Lib.hid hne
  have HNE2 := Lib.hid hne45
  have HSH := Lib.hid SH
  have HSP := Lib.hid SP
  have HGA := Lib.hid GA
  have HGB := Lib.hid GB
  have HEV := Lib.hid ev
  have HLO := Lib.hid (And.intro LO d4l)
  have HC := Lib.hid (And.intro hgood (And.intro hbad (And.intro hend (And.intro hstk hnil))))
  clear D1 hdk hN hG ha1 hne hne45 SH SP GA GB ev LO hck htk hff hX1 hX2 hS ht hLt hnil hgood hbad hend hstk hG2 ha2 d4l n2le hkk
  go_enter Tryd.func18, Tryd.ntmps18
  go_wp2_with (first
    | ((with_reducible show wpList _ _ _ (⟨some 2, _, _, _, _, _⟩ :: _) _ _); refine wp_new _ rfl 24 rfl _ y24 ?_; intro w1 g2 hB2 hf1; simp only [Act.put, List.setIfInBounds_toArray, List.set_cons_zero, List.set_cons_succ])
    | ((with_reducible show wpList _ _ _ (⟨some 29, _, _, _, _, _⟩ :: _) _ _); refine wp_build0 _ rfl 24 rfl _ (build24z _) ?_; simp only [Act.put, List.setIfInBounds_toArray, List.set_cons_zero, List.set_cons_succ])
    | ((with_reducible show wpList _ _ _ (⟨some 5, _, _, _, _, _⟩ :: _) _ _); refine wp_new _ rfl 24 rfl _ y24 ?_; intro w2 g5 hB5 hf2; simp only [Act.put, List.setIfInBounds_toArray, List.set_cons_zero, List.set_cons_succ])
    | ((with_reducible show wpList _ _ _ (⟨none, .store 24 _ _, _, _, _, _⟩ :: _) _ _); refine wp_putAll _ rfl 24 (.tmp 5) (.tmp 29) rfl g5 24 _ (evc ev0) rfl rfl hB5 rfl z24z (evc_one _) ?_; intro w3 E3 hU3; have Z3 : Blk w3 g2 24 (evc ev0) := (hf2.blk hB2).upd hU3 (by have q1 := hf2.is; have q2 := hB2.lt; omega); simp only [Act.put])
    | ((with_reducible show wpList _ _ _ (⟨some 31, _, _, _, _, _⟩ :: _) _ _); refine wp_eqS _ (by rfl) (.tmp 30) _ rfl l [] rfl rfl false HNE.out ?_; simp only [Act.put, List.setIfInBounds_toArray, List.set_cons_zero, List.set_cons_succ]))
  have hi1 := hf1.is
  have hi2 := hf2.is
  have hs1 := hf1.size
  have hs2 := hf2.size
  have b3 : Below w.heap.size w w3 := (hf1.below.trans (hf2.below.mono (by omega))).trans (hU3.below (by omega))
  have hg : w.heap.size ≤ g2 ∧ g2 < g5 := ⟨by omega, by omega⟩
  clear hi1 hi2 hs1 hs2 hf1 hf2 hB2 hB5 hU3
  with_reducible refine (HSH.out w3).mono ?_
  rintro r' w3' ⟨rfl, rfl⟩
  go_wp2_with (first
    | ((with_reducible show wpList _ _ _ (⟨some 38, _, _, _, _, _⟩ :: _) _ _); refine wp_eqS _ (by rfl) (.tmp 37) _ rfl S [45] rfl rfl false HNE2.out ?_; simp only [Act.put, List.setIfInBounds_toArray, List.set_cons_zero, List.set_cons_succ])
    | ((with_reducible show wpList _ _ _ (⟨some 43, _, _, _, _, _⟩ :: _) _ _); refine wp_build1 _ rfl 24 0 (.tmp 42) rfl _ rfl _ (build24 _ (k : Int)) ?_; simp only [Act.put, List.setIfInBounds_toArray, List.set_cons_zero, List.set_cons_succ])
    | ((with_reducible show wpList _ _ _ (⟨some 7, _, _, _, _, _⟩ :: _) _ _); refine wp_new _ rfl 24 rfl _ y24 ?_; intro w4 g7 hB7 hf4; simp only [Act.put, List.setIfInBounds_toArray, List.set_cons_zero, List.set_cons_succ])
    | ((with_reducible show wpList _ _ _ (⟨none, .store 24 _ _, _, _, _, _⟩ :: _) _ _); refine wp_putAll _ rfl 24 (.tmp 7) (.tmp 43) rfl g7 24 _ (evc ⟨(k : Int), 0, 0, [[], [], [], []], [0, 0, 0]⟩) rfl rfl hB7 rfl size24 (evc_one _) ?_; intro w5 V5 hU5; simp only [Act.put]))
  have hi4 := hf4.is
  have hs4 := hf4.size
  have hq := Z3.lt
  have hq5 := E3.lt
  have b5 : Below w.heap.size w w5 := (b3.trans (hf4.below.mono b3.size)).trans (hU5.below (by have := b3.size; omega))
  have Z5 := (hf4.blk Z3).upd hU5 (by omega)
  have E5 := (hf4.blk E3).upd hU5 (by omega)
  have hg7 : g5 < g7 := by omega
  clear hi4 hs4 hq hq5 hf4 hU5 hB7 b3 Z3 E3 HNE HNE2 HSH
  with_reducible refine (HGA.out w5).mono ?_
  rintro r' w5' ⟨rfl, rfl⟩
  clear HGA
  by_cases he1 : e1 = 0
  · have f0 : ((e1 : Int) != 0) = false := by simp; omega
    by_cases hA : a1 < N
    · have hA' : (a1 : Int) < (N : Int) := by omega
      obtain ⟨mb, hmb⟩ : ∃ mb, (l.getD a1 0).toNat = mb := ⟨_, rfl⟩
      have hget : ∀ h, ((str l)[a1]'h).toNat = mb := fun h => by rw [byte_at l a1 (by rw [HD.out.2.2.2.1]; exact hA) h]; exact hmb
      have hm8 : mb < 256 := by rw [← hmb]; exact UInt8.toNat_lt _
      have HMB := Lib.hid hmb
      clear hmb
      by_cases hm0 : mb = 0
      · have fm : ((mb : Int) == 0) = true := by simp; omega
        go_wp2_with (first
          | ((with_reducible show wpList _ _ _ (⟨none, .store 22 (.tmp 59) _, _, _, _, _⟩ :: _) _ _); refine wp_set _ rfl 22 (.tmp 59) (.tmp 58) rfl g7 1 24 _ _ rfl rfl rfl rfl V5 (by simp [evc]) size22 ?_; intro w6 V6 hU6; have k6 : w6.cell? ⟨g7, 0, none⟩ = some (.int .i64 (k : Int)) := V6.cell rfl; have Z6 := Z5.upd hU6 (by omega); have E6 := E5.upd hU6 (by omega); simp only [Act.put]))
        have b6 := b5.trans (hU6.below (by omega))
        clear b5 Z5 E5 hU6 k6 V5
        have V6' : Blk w6 g7 24 (evc ⟨(k : Int), T, 0, [[], [], [], []], [0, 0, 0]⟩) := V6
        clear V6
        with_reducible refine (HGB.out w6).mono ?_
        rintro r' w6' ⟨rfl, rfl⟩
        have D2 := Lib.hid (HC.out.1 he1 hA (by rw [HMB.out]; simp; try omega))
        clear HGB
        by_cases he2 : e2 = 0
        · skip
          have f2 : ((e2 : Int) != 0) = false := by simp; omega
          go_wp2_with (first
            | ((with_reducible show wpList _ _ _ (⟨none, .store 22 (.tmp 99) _, _, _, _, _⟩ :: _) _ _); refine wp_set _ rfl 22 (.tmp 99) (.tmp 98) rfl g7 2 24 _ _ rfl rfl rfl rfl V6' (by simp [evc]) size22 ?_; intro w7 V7 hU7; simp only [Act.put]))
          have b7 := b6.trans (hU7.below (by omega))
          have Z7 := Z6.upd hU7 (by omega)
          have E7 := E6.upd hU7 (by omega)
          have V7' : Blk w7 g7 24 (evc ⟨(k : Int), T, I, [[], [], [], []], [0, 0, 0]⟩) := V7
          clear b6 Z6 E6 V6' hU7 V7
          with_reducible refine (HSP.out w7).mono ?_
          rintro r' w8 ⟨rfl, e8⟩
          have K8 : Keep w g2 g5 g7 ⟨(k : Int), T, I, [[], [], [], []], [0, 0, 0]⟩ w8 := ⟨b7.trans (e8.mono b7.size), Z7.kept e8, E7.kept e8, V7'.kept e8⟩
          clear b7 Z7 E7 V7' e8 HSP
          go_wp2_with fail
          have BT : Blk (w8.alloc (.cells #[.string ⟨#[]⟩, .string ⟨#[]⟩, .string ⟨#[]⟩, .string ⟨#[]⟩] 9)) w8.heap.size 9 (rowT [[], [], [], []]) := Blk.new w8 9 (rowT [[], [], [], []])
          have hgt : g7 < w8.heap.size := K8.2.2.2.lt
          have K9 : Keep w g2 g5 g7 ⟨(k : Int), T, I, [[], [], [], []], [0, 0, 0]⟩ (w8.alloc (.cells #[.string ⟨#[]⟩, .string ⟨#[]⟩, .string ⟨#[]⟩, .string ⟨#[]⟩] 9)) := ⟨K8.1.alloc K8.1.size _, K8.2.1.alloc _, K8.2.2.1.alloc _, K8.2.2.2.alloc _⟩
          generalize hW9 : w8.alloc (.cells #[.string ⟨#[]⟩, .string ⟨#[]⟩, .string ⟨#[]⟩, .string ⟨#[]⟩] 9) = w9 at BT K9 ⊢
          generalize w8.heap.size = gt at BT hgt ⊢
          clear hW9 K8
          have HB0 : Hid (d3 l 0 = ([[], [], [], []], a2, 0)) := by
            show _ = _
            show txS l [[], [], [], []] (d2 l).2.1 (d2 l).2.2 0 = _
            rw [D2.out, txS, he2]
          go_loopw [11, 17] (fun va vi wr => ∃ j : Nat, j ≤ t ∧ vi = .int .i64 (j : Int) ∧ va = .int .i64 ((d3 l j).2.1 : Int) ∧ Hid ((d3 l j).2.2 = 0) ∧ Keep w g2 g5 g7 ⟨(k : Int), T, I, [[], [], [], []], [0, 0, 0]⟩ wr ∧ Blk wr gt 9 (rowT (d3 l j).1)) (fun _ v _ => t - (intOf v).toNat)
          case atStart => exact ⟨0, by omega, rfl, by rw [HB0.out], by show _ = _; rw [HB0.out], K9, by rw [HB0.out]; exact BT⟩
          case round =>
            obtain ⟨j, hj, rfl, rfl, HE, KR, BR⟩ := hrel
            clear BT K9 HB0
            obtain ⟨a, ha⟩ : ∃ a, (d3 l j).2.1 = a := ⟨_, rfl⟩
            rw [ha]
            have hale : a ≤ N := by have := d3_le l j; rw [ha, HD.out.2.2.2.1] at this; exact this
            by_cases hlt : j < t
            · have hlt' : (j : Int) < (t : Int) := by omega
              have hj4 : (j : Int) < 4 := by omega
              have xj := str_from l a N HD.out.2.2.2.1 hale
              have TA := fun W => refText_any (l.drop a) 4096 W (by have h1 := HD.out.2.2.2.2; have h2 := HD.out.2.2.2.1; rw [List.length_drop]; omega) (by omega) (by omega)
              obtain ⟨tx, sz, er, hT⟩ : ∃ tx sz er, textS (l.drop a) 4096 = (tx, sz, er) := ⟨_, _, _, rfl⟩
              rw [hT] at TA
              simp only [gotText] at TA
              have D3 := d3_succ l j HE.out
              rw [ha, hT] at D3
              simp only at D3
              have a'le := d3_le l (j + 1)
              rw [D3, HD.out.2.2.2.1] at a'le
              simp only at a'le
              obtain ⟨X3, hX3⟩ : ∃ X, l.drop a = X := ⟨_, rfl⟩
              rw [hX3] at xj TA
              obtain ⟨a', ha'⟩ : ∃ a', a + sz = a' := ⟨_, rfl⟩
              have ha2 : (a : Int) + (sz : Int) = (a' : Int) := by omega
              rw [ha'] at D3 a'le
              have HTA := Lib.hid TA
              have HD3 := Lib.hid D3
              clear TA D3 hX3 hT ha ha'
              go_wp2_with fail
              with_reducible refine (HTA.out wr).mono ?_
              rintro r' wr' ⟨rfl, rfl⟩
              by_cases her : er = 0
              · have fr : ((er : Int) != 0) = false := by simp; omega
                go_wp2_with (first
                  | ((with_reducible show wpList _ _ _ (⟨none, .store 9 (.tmp 130) _, _, _, _, _⟩ :: _) _ _); refine wp_set _ rfl 9 (.tmp 130) (.tmp 129) rfl gt j 9 _ (.string (str tx)) rfl rfl rfl rfl BR (by rw [rowT_len]; omega) size9 ?_; intro wn BN UN; simp only [Act.put]))
                go_roundw
                case rel => exact ⟨j + 1, by omega, by go_num, by rw [HD3.out], by show _ = _; rw [HD3.out]; exact her, KR.upd UN (by omega) (by omega) (by omega) (by omega), by rw [HD3.out]; simpa only [rowT_set] using BN⟩
                case measure => simp [intOf]; omega
              · have fr : ((er : Int) != 0) = true := by simp; omega
                have hv := d3_stk l (j + 1) (by rw [HD.out.2.1, HD.out.2.2.1]; omega) (by rw [HD3.out]; exact her)
                rw [HD3.out] at hv
                have HV := Lib.hid (HEV.out a' er hv.1 hv.2 her)
                clear hv
                obtain ⟨bR, ZR, ER, VR⟩ := KR
                go_wp2_with (first
                  | ((with_reducible show wpList _ _ _ (⟨some 124, _, _, _, _, _⟩ :: _) _ _); refine wp_get _ rfl 24 (.tmp 5) rfl g5 0 (evc ev0) _ rfl ER.whole Tryd.underlying24 rfl z24z ?_; simp only [Act.put, List.setIfInBounds_toArray, List.set_cons_zero, List.set_cons_succ])
                  | ((with_reducible show wpList _ _ _ (⟨none, .store 24 (.tmp 2) _, _, _, _, _⟩ :: _) _ _); refine wp_putAll _ rfl 24 (.tmp 2) (.tmp 124) rfl g2 24 _ (evc ev0) rfl rfl ZR rfl z24z (evc_one _) ?_; intro wz Bz Uz; simp only [Act.put]))
                refine ret_cell3 2 3 4 24 rfl g2 (evc ev0) _ rfl Bz.whole Tryd.underlying24 rfl z24z rfl (.int .i64 (a' : Int)) (.int .i64 (er : Int)) rfl rfl ⟨?_, (bR).trans (Uz.below (by omega))⟩
                rw [HV.out]
            · obtain rfl : j = t := by omega
              have hjj : ¬ (j : Int) < (j : Int) := by omega
              obtain ⟨A0, A1, A2, A3, hA4⟩ := four _ (d3_ok l j)
              have HX : Hid (d3 l j = ([A0, A1, A2, A3], a, 0)) := by
                show _ = _
                rw [← hA4, ← ha, ← HE.out]
              rw [hA4] at BR
              obtain ⟨bR, ZR, ER, VR⟩ := KR
              have r0 : wr.cell? ⟨gt, 0, none⟩ = some (.string (str A0)) := BR.cell rfl
              clear hA4 ha HE
              go_wp2_with (first
                | ((with_reducible show wpList _ _ _ (⟨none, .store 9 (.tmp 134) _, _, _, _, _⟩ :: _) _ _); refine wp_set _ rfl 9 (.tmp 134) (.tmp 133) rfl g7 3 24 _ _ rfl rfl rfl rfl VR (by simp [evc]) size9 ?_; intro v1 V1 U1; have R1 := BR.upd U1 (by omega); have r1 : v1.cell? ⟨gt, 1, none⟩ = some (.string (str A1)) := R1.cell rfl; simp only [Act.put])
                | ((with_reducible show wpList _ _ _ (⟨none, .store 9 (.tmp 138) _, _, _, _, _⟩ :: _) _ _); refine wp_set _ rfl 9 (.tmp 138) (.tmp 137) rfl g7 4 24 _ _ rfl rfl rfl rfl V1 (by simp [evc]) size9 ?_; intro v2 V2 U2; have R2 := R1.upd U2 (by omega); have r2 : v2.cell? ⟨gt, 2, none⟩ = some (.string (str A2)) := R2.cell rfl; simp only [Act.put])
                | ((with_reducible show wpList _ _ _ (⟨none, .store 9 (.tmp 142) _, _, _, _, _⟩ :: _) _ _); refine wp_set _ rfl 9 (.tmp 142) (.tmp 141) rfl g7 5 24 _ _ rfl rfl rfl rfl V2 (by simp [evc]) size9 ?_; intro v3 V3 U3; have R3 := R2.upd U3 (by omega); have r3 : v3.cell? ⟨gt, 3, none⟩ = some (.string (str A3)) := R3.cell rfl; simp only [Act.put])
                | ((with_reducible show wpList _ _ _ (⟨none, .store 9 (.tmp 146) _, _, _, _, _⟩ :: _) _ _); refine wp_set _ rfl 9 (.tmp 146) (.tmp 145) rfl g7 6 24 _ _ rfl rfl rfl rfl V3 (by simp [evc]) size9 ?_; intro v4 V4 U4; simp only [Act.put]))
              have U := ((U1.trans U2).trans U3).trans U4
              have K4 : Keep w g2 g5 g7 ⟨(k : Int), T, I, [A0, A1, A2, A3], [0, 0, 0]⟩ v4 := ⟨bR.trans (U.below (by omega)), ZR.upd U (by omega), ER.upd U (by omega), V4⟩
              clear bR ZR ER VR BR r0 r1 r2 r3 R1 R2 R3 V1 V2 V3 V4 U1 U2 U3 U4 U
              have BN : Blk (v4.alloc (.cells #[.int .i64 0, .int .i64 0, .int .i64 0] 3)) v4.heap.size 3 (rowN [0, 0, 0]) := Blk.new v4 3 (rowN [0, 0, 0])
              have hgn : g7 < v4.heap.size := K4.2.2.2.lt
              have K5 : Keep w g2 g5 g7 ⟨(k : Int), T, I, [A0, A1, A2, A3], [0, 0, 0]⟩ (v4.alloc (.cells #[.int .i64 0, .int .i64 0, .int .i64 0] 3)) := ⟨K4.1.alloc K4.1.size _, K4.2.1.alloc _, K4.2.2.1.alloc _, K4.2.2.2.alloc _⟩
              generalize hW5 : v4.alloc (.cells #[.int .i64 0, .int .i64 0, .int .i64 0] 3) = v5 at BN K5 ⊢
              generalize v4.heap.size = gn at BN hgn ⊢
              clear hW5 K4
              have HB0 : Hid (d4 l 0 = ([0, 0, 0], a, 0)) := by
                show _ = _
                rw [d4_zero, HD.out.2.1, HD.out.2.2.1, HX.out]
              go_loopw [11, 22] (fun va vi wr => ∃ y : Nat, y ≤ Lt.length ∧ vi = .int .i64 (y : Int) ∧ va = .int .i64 ((d4 l y).2.1 : Int) ∧ Hid ((d4 l y).2.2 = 0) ∧ Keep w g2 g5 g7 ⟨(k : Int), T, I, [A0, A1, A2, A3], [0, 0, 0]⟩ wr ∧ Blk wr gn 3 (rowN (d4 l y).1)) (fun _ v _ => Lt.length - (intOf v).toNat)
              case atStart => exact ⟨0, by omega, rfl, by rw [HB0.out], by show _ = _; rw [HB0.out], K5, by rw [HB0.out]; exact BN⟩
              case round =>
                obtain ⟨y, hy, rfl, rfl, HE, KR, BR⟩ := hrel
                clear BN K5 HB0
                obtain ⟨b, hb⟩ : ∃ b, (d4 l y).2.1 = b := ⟨_, rfl⟩
                rw [hb]
                have hble : b ≤ N := by have := d4_le l y; rw [hb, HD.out.2.2.2.1] at this; exact this
                by_cases hlt : y < Lt.length
                · have hlt' : (y : Int) < (Lt.length : Int) := by omega
                  have hy3 : (y : Int) < 3 := by omega
                  obtain ⟨mb, hmb⟩ : ∃ mb, mb = (Lt.getD y 0).toNat := ⟨_, rfl⟩
                  have hgt2 : ∀ h, ((str Lt)[y]'h).toNat = mb := fun h => by rw [byte_at Lt y hlt h, hmb]
                  have hm8 : mb < 256 := by rw [hmb]; exact UInt8.toNat_lt _
                  obtain ⟨l3, l4⟩ := (HLO.out.1 y (by omega)).1 hlt
                  rw [← hmb] at l3 l4
                  have MO := fun W => most_any mb l3 hm8 W
                  have mw := moN_wide mb hm8 l3
                  have hb0 : 0 < (hav (dK l)).bl.getD y 0 := by rw [HD.out.2.1]; omega
                  have D4 := d4_succ l y hb0
                  rw [HD.out.2.1, hb, HE.out, ← l4] at D4
                  obtain ⟨g, hg'⟩ : ∃ g, g = moN mb := ⟨_, rfl⟩
                  rw [← hg'] at MO mw D4
                  have HMO := Lib.hid MO
                  have bled := d4_le l (y + 1)
                  rw [HD.out.2.2.2.1] at bled
                  have hv0 : (d4 l (y + 1)).2.2 ≠ 0 → gotE l = .tuple #[.agg (evc ev0).toArray, .int .i64 ((d4 l (y + 1)).2.1 : Int), .int .i64 ((d4 l (y + 1)).2.2 : Int)] := fun h =>
                    HEV.out _ _ (d4_stk l (y + 1) (by omega) h).1 (d4_stk l (y + 1) (by omega) h).2 h
                  by_cases hw : mb = 115
                  · have hw' : ((mb : Int) == 115) = true := by simp; omega
                    have hg9 := mw.1 hw
                    rw [hg9] at D4
                    have BO := fun W => bounded_any l b 3 (by rw [HD.out.2.2.2.1]; exact hble) (by rw [HD.out.2.2.2.1]; exact HD.out.2.2.2.2) (by omega) W
                    simp only [show ((3 : Nat) : Int) = 3 from rfl] at BO
                    obtain ⟨c1, hc1⟩ : ∃ c, ckE l b 0 0 3 = c := ⟨_, rfl⟩
                    obtain ⟨v1, hv1⟩ : ∃ c, tkV l b 0 0 3 = c := ⟨_, rfl⟩
                    have hv3 : v1 ≤ 3 := by rw [← hv1]; exact tkV_le _ _ _ _ _
                    rw [hc1, hv1] at BO
                    have HBO := Lib.hid BO
                    clear BO MO hmb hg' l3 l4 mw hb hw
                    by_cases hc : c1 = 0
                    · have fc : ((c1 : Int) != 0) = false := by simp; omega
                      obtain ⟨g2', hg2⟩ : ∃ g2 : Nat, g2 = min 255 (999 - v1 * 256) := ⟨_, rfl⟩
                      have hsm := smR_w2 l b v1 g2' (by rw [hc1]; exact hc) hv1 hg2
                      rw [hsm] at D4
                      have hb1 : b < N := by
                        have := (ckE_zero (l := l) (a := b) (e := 0) (least := 0) (most := 3) (by rw [hc1]; exact hc)).2.1
                        rw [HD.out.2.2.2.1] at this
                        omega
                      obtain ⟨b', hb'⟩ : ∃ b', b + 1 = b' := ⟨_, rfl⟩
                      have hb2 : (b : Int) + 1 = (b' : Int) := by omega
                      rw [hb'] at D4
                      have BP := fun W => bounded_any l b' g2' (by rw [HD.out.2.2.2.1]; omega) (by rw [HD.out.2.2.2.1]; exact HD.out.2.2.2.2) (by omega) W
                      obtain ⟨c2, hc2⟩ : ∃ c, ckE l b' 0 0 g2' = c := ⟨_, rfl⟩
                      obtain ⟨v2, hv2⟩ : ∃ c, tkV l b' 0 0 g2' = c := ⟨_, rfl⟩
                      have hv4 : v2 ≤ g2' := by rw [← hv2]; exact tkV_le _ _ _ _ _
                      rw [hc2, hv2] at BP
                      rw [tkA, hc2, hv2] at D4
                      have HBP := Lib.hid BP
                      obtain ⟨p, hp⟩ : ∃ p : Nat, p = v1 * 256 := ⟨_, rfl⟩
                      have hp1 : (v1 : Int) * 256 = (p : Int) := by omega
                      obtain ⟨d, hd⟩ : ∃ d : Nat, d = 999 - p := ⟨_, rfl⟩
                      have hd1 : (999 : Int) - (p : Int) = (d : Int) := by omega
                      have hmin : min 255 (d : Int) = (g2' : Int) := by omega
                      obtain ⟨q, hq⟩ : ∃ q : Nat, q = p + v2 := ⟨_, rfl⟩
                      have hq1 : (p : Int) + (v2 : Int) = (q : Int) := by omega
                      have hqb : q ≤ 1100 := by omega
                      rw [← hp, ← hq] at D4
                      clear BP hsm hp hd hq hc1 hv1 hc2 hv2 hb' hg2 hb1
                      by_cases hcc : c2 = 0
                      · have fcc : ((c2 : Int) != 0) = false := by simp; omega
                        rw [if_pos hcc] at D4
                        have HD4 := Lib.hid D4
                        obtain ⟨b'', hb3⟩ : ∃ b3, b' + 1 = b3 := ⟨_, rfl⟩
                        have hb4 : (b' : Int) + 1 = (b'' : Int) := by omega
                        rw [hb3] at HD4
                        rw [D4] at bled
                        simp only at bled
                        clear D4 hb3 hv0
                        go_wp2_with fail
                        with_reducible refine (HMO.out wr).mono ?_
                        rintro r' wr1 ⟨rfl, rfl⟩
                        go_wp2_with fail
                        with_reducible refine (HBO.out wr).mono ?_
                        rintro r' wr1 ⟨rfl, rfl⟩
                        go_wp2_with fail
                        with_reducible refine (HBP.out wr).mono ?_
                        rintro r' wr1 ⟨rfl, rfl⟩
                        go_wp2_with (first
                          | ((with_reducible show wpList _ _ _ (⟨none, .store 3 (.tmp 199) _, _, _, _, _⟩ :: _) _ _); refine wp_set _ rfl 3 (.tmp 199) (.tmp 198) rfl gn y 3 _ (.int .i64 (q : Int)) rfl rfl rfl rfl BR (by rw [rowN_len]; omega) size3r ?_; intro wn BN UN; simp only [Act.put]))
                        go_roundw
                        case rel => exact ⟨y + 1, by omega, by go_num, by rw [HD4.out], by show _ = _; rw [HD4.out]; exact hcc, KR.upd UN (by omega) (by omega) (by omega) (by omega), by rw [HD4.out]; simpa only [rowN_set] using BN⟩
                        case measure => simp [intOf]; omega
                      · have fcc : ((c2 : Int) != 0) = true := by simp; omega
                        rw [if_neg hcc] at D4
                        have hv := hv0 (by rw [D4]; exact hcc)
                        rw [D4] at hv
                        have HV := Lib.hid hv
                        clear D4 hv hv0 bled
                        go_wp2_with fail
                        with_reducible refine (HMO.out wr).mono ?_
                        rintro r' wr1 ⟨rfl, rfl⟩
                        go_wp2_with fail
                        with_reducible refine (HBO.out wr).mono ?_
                        rintro r' wr1 ⟨rfl, rfl⟩
                        go_wp2_with fail
                        with_reducible refine (HBP.out wr).mono ?_
                        rintro r' wr1 ⟨rfl, rfl⟩
                        obtain ⟨bR, ZR, ER, VR⟩ := KR
                        go_wp2_with (first
                          | ((with_reducible show wpList _ _ _ (⟨some 189, _, _, _, _, _⟩ :: _) _ _); refine wp_get _ rfl 24 (.tmp 5) rfl g5 0 (evc ev0) _ rfl ER.whole Tryd.underlying24 rfl z24z ?_; simp only [Act.put, List.setIfInBounds_toArray, List.set_cons_zero, List.set_cons_succ])
                          | ((with_reducible show wpList _ _ _ (⟨none, .store 24 (.tmp 2) _, _, _, _, _⟩ :: _) _ _); refine wp_putAll _ rfl 24 (.tmp 2) (.tmp 189) rfl g2 24 _ (evc ev0) rfl rfl ZR rfl z24z (evc_one _) ?_; intro wz Bz Uz; simp only [Act.put]))
                        refine ret_cell3 2 3 4 24 rfl g2 (evc ev0) _ rfl Bz.whole Tryd.underlying24 rfl z24z rfl (.int .i64 (b' : Int)) (.int .i64 (c2 : Int)) rfl rfl ⟨?_, (bR).trans (Uz.below (by omega))⟩
                        rw [HV.out]
                    · have fc : ((c1 : Int) != 0) = true := by simp; omega
                      have hsm := smR_w1 l b (by rw [hc1]; exact hc)
                      rw [hc1] at hsm
                      rw [hsm] at D4
                      have hv := hv0 (by rw [D4]; exact hc)
                      rw [D4] at hv
                      have HV := Lib.hid hv
                      clear D4 hv hv0 bled hsm hc1 hv1
                      go_wp2_with fail
                      with_reducible refine (HMO.out wr).mono ?_
                      rintro r' wr1 ⟨rfl, rfl⟩
                      go_wp2_with fail
                      with_reducible refine (HBO.out wr).mono ?_
                      rintro r' wr1 ⟨rfl, rfl⟩
                      obtain ⟨bR, ZR, ER, VR⟩ := KR
                      go_wp2_with (first
                        | ((with_reducible show wpList _ _ _ (⟨some 170, _, _, _, _, _⟩ :: _) _ _); refine wp_get _ rfl 24 (.tmp 5) rfl g5 0 (evc ev0) _ rfl ER.whole Tryd.underlying24 rfl z24z ?_; simp only [Act.put, List.setIfInBounds_toArray, List.set_cons_zero, List.set_cons_succ])
                        | ((with_reducible show wpList _ _ _ (⟨none, .store 24 (.tmp 2) _, _, _, _, _⟩ :: _) _ _); refine wp_putAll _ rfl 24 (.tmp 2) (.tmp 170) rfl g2 24 _ (evc ev0) rfl rfl ZR rfl z24z (evc_one _) ?_; intro wz Bz Uz; simp only [Act.put]))
                      refine ret_cell3 2 3 4 24 rfl g2 (evc ev0) _ rfl Bz.whole Tryd.underlying24 rfl z24z rfl (.int .i64 (b : Int)) (.int .i64 (c1 : Int)) rfl rfl ⟨?_, (bR).trans (Uz.below (by omega))⟩
                      rw [HV.out]
                  · have hw' : ((mb : Int) == 115) = false := by simp; omega
                    have hg9 := mw.2 hw
                    have hsm := smR_n (b := g + 1) (by omega) l b
                    rw [Nat.add_sub_cancel] at hsm
                    rw [hsm] at D4
                    have BO := fun W => bounded_any l b g (by rw [HD.out.2.2.2.1]; exact hble) (by rw [HD.out.2.2.2.1]; exact HD.out.2.2.2.2) (by omega) W
                    obtain ⟨c1, hc1⟩ : ∃ c, ckE l b 0 0 g = c := ⟨_, rfl⟩
                    obtain ⟨v1, hv1⟩ : ∃ c, tkV l b 0 0 g = c := ⟨_, rfl⟩
                    have hv3 : v1 ≤ g := by rw [← hv1]; exact tkV_le _ _ _ _ _
                    rw [hc1, hv1] at BO
                    rw [tkA, hc1, hv1] at D4
                    have HBO := Lib.hid BO
                    clear BO MO hmb hg' l3 l4 mw hb hsm hc1 hv1
                    by_cases hc : c1 = 0
                    · have fc : ((c1 : Int) != 0) = false := by simp; omega
                      rw [if_pos hc] at D4
                      obtain ⟨b', hb'⟩ : ∃ b', b + 1 = b' := ⟨_, rfl⟩
                      have hb2 : (b : Int) + 1 = (b' : Int) := by omega
                      rw [hb'] at D4
                      rw [D4] at bled
                      simp only at bled
                      have HD4 := Lib.hid D4
                      clear D4 hv0 hb'
                      go_wp2_with fail
                      with_reducible refine (HMO.out wr).mono ?_
                      rintro r' wr1 ⟨rfl, rfl⟩
                      go_wp2_with fail
                      with_reducible refine (HBO.out wr).mono ?_
                      rintro r' wr1 ⟨rfl, rfl⟩
                      go_wp2_with (first
                        | ((with_reducible show wpList _ _ _ (⟨none, .store 3 (.tmp 199) _, _, _, _, _⟩ :: _) _ _); refine wp_set _ rfl 3 (.tmp 199) (.tmp 198) rfl gn y 3 _ (.int .i64 (v1 : Int)) rfl rfl rfl rfl BR (by rw [rowN_len]; omega) size3r ?_; intro wn BN UN; simp only [Act.put]))
                      go_roundw
                      case rel => exact ⟨y + 1, by omega, by go_num, by rw [HD4.out], by show _ = _; rw [HD4.out]; exact hc, KR.upd UN (by omega) (by omega) (by omega) (by omega), by rw [HD4.out]; simpa only [rowN_set] using BN⟩
                      case measure => simp [intOf]; omega
                    · have fc : ((c1 : Int) != 0) = true := by simp; omega
                      rw [if_neg hc] at D4
                      have hv := hv0 (by rw [D4]; exact hc)
                      rw [D4] at hv
                      have HV := Lib.hid hv
                      clear D4 hv hv0 bled
                      go_wp2_with fail
                      with_reducible refine (HMO.out wr).mono ?_
                      rintro r' wr1 ⟨rfl, rfl⟩
                      go_wp2_with fail
                      with_reducible refine (HBO.out wr).mono ?_
                      rintro r' wr1 ⟨rfl, rfl⟩
                      obtain ⟨bR, ZR, ER, VR⟩ := KR
                      go_wp2_with (first
                        | ((with_reducible show wpList _ _ _ (⟨some 189, _, _, _, _, _⟩ :: _) _ _); refine wp_get _ rfl 24 (.tmp 5) rfl g5 0 (evc ev0) _ rfl ER.whole Tryd.underlying24 rfl z24z ?_; simp only [Act.put, List.setIfInBounds_toArray, List.set_cons_zero, List.set_cons_succ])
                        | ((with_reducible show wpList _ _ _ (⟨none, .store 24 (.tmp 2) _, _, _, _, _⟩ :: _) _ _); refine wp_putAll _ rfl 24 (.tmp 2) (.tmp 189) rfl g2 24 _ (evc ev0) rfl rfl ZR rfl z24z (evc_one _) ?_; intro wz Bz Uz; simp only [Act.put]))
                      refine ret_cell3 2 3 4 24 rfl g2 (evc ev0) _ rfl Bz.whole Tryd.underlying24 rfl z24z rfl (.int .i64 (b : Int)) (.int .i64 (c1 : Int)) rfl rfl ⟨?_, (bR).trans (Uz.below (by omega))⟩
                      rw [HV.out]
                · obtain rfl : y = Lt.length := by omega
                  obtain ⟨N0, N1, N2, hN3⟩ := three _ (d4_ok l Lt.length)
                  have hD4 : d4 l 3 = ([N0, N1, N2], b, 0) := by
                    rw [← HLO.out.2, ← hN3, ← hb, ← HE.out]
                  have hdA : dA l = b := by rw [dA, hD4]
                  rw [hN3] at BR
                  obtain ⟨bR, ZR, ER, VR⟩ := KR
                  have r0 : wr.cell? ⟨gn, 0, none⟩ = some (.int .i64 N0) := BR.cell rfl
                  have HDA := Lib.hid (And.intro hD4 hdA)
                  clear hN3 hb HE hD4 hdA
                  by_cases hfin : b < N
                  · have hfin' : (b : Int) < (N : Int) := by omega
                    have hdE : dE l = 8 := by rw [dE, HDA.out.1, enE, if_pos ⟨rfl, by rw [HD.out.2.2.2.1]; exact hfin⟩]
                    have HV := Lib.hid (HEV.out b 8 HDA.out.2 hdE (by decide))
                    clear hdE
                    go_wp2_with (first
                      | ((with_reducible show wpList _ _ _ (⟨none, .store 3 (.tmp 203) _, _, _, _, _⟩ :: _) _ _); refine wp_set _ rfl 3 (.tmp 203) (.tmp 202) rfl g7 7 24 _ _ rfl rfl rfl rfl VR (by simp [evc]) size3r ?_; intro v1 V1 U1; have R1 := BR.upd U1 (by omega); have r1 : v1.cell? ⟨gn, 1, none⟩ = some (.int .i64 N1) := R1.cell rfl; simp only [Act.put])
                      | ((with_reducible show wpList _ _ _ (⟨none, .store 3 (.tmp 207) _, _, _, _, _⟩ :: _) _ _); refine wp_set _ rfl 3 (.tmp 207) (.tmp 206) rfl g7 8 24 _ _ rfl rfl rfl rfl V1 (by simp [evc]) size3r ?_; intro v2 V2 U2; have R2 := R1.upd U2 (by omega); have r2 : v2.cell? ⟨gn, 2, none⟩ = some (.int .i64 N2) := R2.cell rfl; simp only [Act.put])
                      | ((with_reducible show wpList _ _ _ (⟨none, .store 3 (.tmp 211) _, _, _, _, _⟩ :: _) _ _); refine wp_set _ rfl 3 (.tmp 211) (.tmp 210) rfl g7 9 24 _ _ rfl rfl rfl rfl V2 (by simp [evc]) size3r ?_; intro v3 V3 U3; have UU := (U1.trans U2).trans U3; have E3' := ER.upd UU (by omega); have Z3' := ZR.upd UU (by omega); have V3' : Blk v3 g7 24 (evc ⟨(k : Int), T, I, [A0, A1, A2, A3], [N0, N1, N2]⟩) := V3; simp only [Act.put])
                      | ((with_reducible show wpList _ _ _ (⟨some 216, _, _, _, _, _⟩ :: _) _ _); refine wp_get _ rfl 24 (.tmp 5) rfl g5 0 (evc ev0) _ rfl E3'.whole Tryd.underlying24 rfl z24z ?_; simp only [Act.put, List.setIfInBounds_toArray, List.set_cons_zero, List.set_cons_succ])
                      | ((with_reducible show wpList _ _ _ (⟨none, .store 24 (.tmp 2) _, _, _, _, _⟩ :: _) _ _); refine wp_putAll _ rfl 24 (.tmp 2) (.tmp 216) rfl g2 24 _ (evc ev0) rfl rfl Z3' rfl z24z (evc_one _) ?_; intro wz Bz Uz; simp only [Act.put]))
                    refine ret_cell3 2 3 4 24 rfl g2 (evc ev0) _ rfl Bz.whole Tryd.underlying24 rfl z24z rfl (.int .i64 (b : Int)) (.int .i64 8) rfl rfl ⟨?_, (bR.trans (UU.below (by omega))).trans (Uz.below (by omega))⟩
                    rw [HV.out]
                    rfl
                  · have hfin' : ¬ (b : Int) < (N : Int) := by omega
                    have hdE : dE l = 0 := by rw [dE, HDA.out.1, enE, if_neg (fun h => hfin (by have := h.2; rw [HD.out.2.2.2.1] at this; exact this))]
                    have HV := Lib.hid (gotE_ok (E := ⟨(k : Int), T, I, [A0, A1, A2, A3], [N0, N1, N2]⟩) hdE HDA.out.2 (by rw [HDA.out.1, HD.out.2.1, HD.out.1, D2.out, HD.out.2.2.1, HX.out]))
                    clear hdE
                    go_wp2_with (first
                      | ((with_reducible show wpList _ _ _ (⟨none, .store 3 (.tmp 203) _, _, _, _, _⟩ :: _) _ _); refine wp_set _ rfl 3 (.tmp 203) (.tmp 202) rfl g7 7 24 _ _ rfl rfl rfl rfl VR (by simp [evc]) size3r ?_; intro v1 V1 U1; have R1 := BR.upd U1 (by omega); have r1 : v1.cell? ⟨gn, 1, none⟩ = some (.int .i64 N1) := R1.cell rfl; simp only [Act.put])
                      | ((with_reducible show wpList _ _ _ (⟨none, .store 3 (.tmp 207) _, _, _, _, _⟩ :: _) _ _); refine wp_set _ rfl 3 (.tmp 207) (.tmp 206) rfl g7 8 24 _ _ rfl rfl rfl rfl V1 (by simp [evc]) size3r ?_; intro v2 V2 U2; have R2 := R1.upd U2 (by omega); have r2 : v2.cell? ⟨gn, 2, none⟩ = some (.int .i64 N2) := R2.cell rfl; simp only [Act.put])
                      | ((with_reducible show wpList _ _ _ (⟨none, .store 3 (.tmp 211) _, _, _, _, _⟩ :: _) _ _); refine wp_set _ rfl 3 (.tmp 211) (.tmp 210) rfl g7 9 24 _ _ rfl rfl rfl rfl V2 (by simp [evc]) size3r ?_; intro v3 V3 U3; have UU := (U1.trans U2).trans U3; have E3' := ER.upd UU (by omega); have Z3' := ZR.upd UU (by omega); have V3' : Blk v3 g7 24 (evc ⟨(k : Int), T, I, [A0, A1, A2, A3], [N0, N1, N2]⟩) := V3; simp only [Act.put])
                      | ((with_reducible show wpList _ _ _ (⟨some 218, _, _, _, _, _⟩ :: _) _ _); refine wp_get _ rfl 24 (.tmp 7) rfl g7 0 (evc ⟨(k : Int), T, I, [A0, A1, A2, A3], [N0, N1, N2]⟩) _ rfl V3'.whole Tryd.underlying24 rfl size24 ?_; simp only [Act.put, List.setIfInBounds_toArray, List.set_cons_zero, List.set_cons_succ])
                      | ((with_reducible show wpList _ _ _ (⟨none, .store 24 (.tmp 2) _, _, _, _, _⟩ :: _) _ _); refine wp_putAll _ rfl 24 (.tmp 2) (.tmp 218) rfl g2 24 _ (evc ⟨(k : Int), T, I, [A0, A1, A2, A3], [N0, N1, N2]⟩) rfl rfl Z3' rfl size24 (evc_one _) ?_; intro wz Bz Uz; simp only [Act.put]))
                    refine ret_cell3 2 3 4 24 rfl g2 (evc ⟨(k : Int), T, I, [A0, A1, A2, A3], [N0, N1, N2]⟩) _ rfl Bz.whole Tryd.underlying24 rfl size24 rfl (.int .i64 (b : Int)) (.int .i64 0) rfl rfl ⟨?_, (bR.trans (UU.below (by omega))).trans (Uz.below (by omega))⟩
                    rw [HV.out]
        · skip
          have f2 : ((e2 : Int) != 0) = true := by simp; omega
          have HV := Lib.hid (HC.out.2.2.2.1 D2.out he2)
          clear HEV HC
          go_wp2_with (first
            | ((with_reducible show wpList _ _ _ (⟨some 95, _, _, _, _, _⟩ :: _) _ _); refine wp_get _ rfl 24 (.tmp 5) rfl g5 0 (evc ev0) _ rfl E6.whole Tryd.underlying24 rfl z24z ?_; simp only [Act.put, List.setIfInBounds_toArray, List.set_cons_zero, List.set_cons_succ])
            | ((with_reducible show wpList _ _ _ (⟨none, .store 24 (.tmp 2) _, _, _, _, _⟩ :: _) _ _); refine wp_putAll _ rfl 24 (.tmp 2) (.tmp 95) rfl g2 24 _ (evc ev0) rfl rfl Z6 rfl z24z (evc_one _) ?_; intro wz Bz Uz; simp only [Act.put]))
          refine ret_cell3 2 3 4 24 rfl g2 (evc ev0) _ rfl Bz.whole Tryd.underlying24 rfl z24z rfl (.int .i64 (a2 : Int)) (.int .i64 (e2 : Int)) rfl rfl ⟨?_, (b6).trans (Uz.below (by omega))⟩
          rw [HV.out]
      · have fm : ((mb : Int) == 0) = false := by simp; omega
        have HV := Lib.hid (HEV.out a1 3 (HC.out.2.1 he1 hA (by rw [HMB.out]; simp; try omega)).1 (HC.out.2.1 he1 hA (by rw [HMB.out]; simp; try omega)).2 (by decide))
        clear HEV HC
        go_wp2_with (first
          | ((with_reducible show wpList _ _ _ (⟨none, .store 22 (.tmp 59) _, _, _, _, _⟩ :: _) _ _); refine wp_set _ rfl 22 (.tmp 59) (.tmp 58) rfl g7 1 24 _ _ rfl rfl rfl rfl V5 (by simp [evc]) size22 ?_; intro w6 V6 hU6; have k6 : w6.cell? ⟨g7, 0, none⟩ = some (.int .i64 (k : Int)) := V6.cell rfl; have Z6 := Z5.upd hU6 (by omega); have E6 := E5.upd hU6 (by omega); simp only [Act.put])
          | ((with_reducible show wpList _ _ _ (⟨some 80, _, _, _, _, _⟩ :: _) _ _); refine wp_get _ rfl 24 (.tmp 5) rfl g5 0 (evc ev0) _ rfl E6.whole Tryd.underlying24 rfl z24z ?_; simp only [Act.put, List.setIfInBounds_toArray, List.set_cons_zero, List.set_cons_succ])
          | ((with_reducible show wpList _ _ _ (⟨none, .store 24 (.tmp 2) _, _, _, _, _⟩ :: _) _ _); refine wp_putAll _ rfl 24 (.tmp 2) (.tmp 80) rfl g2 24 _ (evc ev0) rfl rfl Z6 rfl z24z (evc_one _) ?_; intro wz Bz Uz; simp only [Act.put]))
        refine ret_cell3 2 3 4 24 rfl g2 (evc ev0) _ rfl Bz.whole Tryd.underlying24 rfl z24z rfl (.int .i64 (a1 : Int)) (.int .i64 3) rfl rfl ⟨?_, ((b5).trans (hU6.below (by omega))).trans (Uz.below (by omega))⟩
        rw [HV.out]
        rfl
    · have hA' : ¬ (a1 : Int) < (N : Int) := by omega
      have HAE : Hid (a1 = N) := by show _ = _; omega
      have he2 : e2 ≠ 0 := by rw [(HC.out.2.2.2.2 HAE.out).2.2]; decide
      go_wp2_with (first
        | ((with_reducible show wpList _ _ _ (⟨none, .store 22 (.tmp 59) _, _, _, _, _⟩ :: _) _ _); refine wp_set _ rfl 22 (.tmp 59) (.tmp 58) rfl g7 1 24 _ _ rfl rfl rfl rfl V5 (by simp [evc]) size22 ?_; intro w6 V6 hU6; have k6 : w6.cell? ⟨g7, 0, none⟩ = some (.int .i64 (k : Int)) := V6.cell rfl; have Z6 := Z5.upd hU6 (by omega); have E6 := E5.upd hU6 (by omega); simp only [Act.put]))
      have b6 := b5.trans (hU6.below (by omega))
      clear b5 Z5 E5 hU6 k6 V5
      have V6' : Blk w6 g7 24 (evc ⟨(k : Int), T, 0, [[], [], [], []], [0, 0, 0]⟩) := V6
      clear V6
      with_reducible refine (HGB.out w6).mono ?_
      rintro r' w6' ⟨rfl, rfl⟩
      have D2 := Lib.hid (HC.out.2.2.1 he1 HAE.out)
      clear HGB
      have f2 : ((e2 : Int) != 0) = true := by simp; omega
      have HV := Lib.hid (HC.out.2.2.2.1 D2.out he2)
      clear HEV HC
      go_wp2_with (first
        | ((with_reducible show wpList _ _ _ (⟨some 95, _, _, _, _, _⟩ :: _) _ _); refine wp_get _ rfl 24 (.tmp 5) rfl g5 0 (evc ev0) _ rfl E6.whole Tryd.underlying24 rfl z24z ?_; simp only [Act.put, List.setIfInBounds_toArray, List.set_cons_zero, List.set_cons_succ])
        | ((with_reducible show wpList _ _ _ (⟨none, .store 24 (.tmp 2) _, _, _, _, _⟩ :: _) _ _); refine wp_putAll _ rfl 24 (.tmp 2) (.tmp 95) rfl g2 24 _ (evc ev0) rfl rfl Z6 rfl z24z (evc_one _) ?_; intro wz Bz Uz; simp only [Act.put]))
      refine ret_cell3 2 3 4 24 rfl g2 (evc ev0) _ rfl Bz.whole Tryd.underlying24 rfl z24z rfl (.int .i64 (a2 : Int)) (.int .i64 (e2 : Int)) rfl rfl ⟨?_, (b6).trans (Uz.below (by omega))⟩
      rw [HV.out]
  · have f1 : ((e1 : Int) != 0) = true := by simp; omega
    have hv := HEV.out a1 e1 (by have h := (d1_stk l (by rw [HD.out.1]; exact he1)).1; rw [HD.out.1] at h; exact h) (by have h := (d1_stk l (by rw [HD.out.1]; exact he1)).2; rw [HD.out.1] at h; exact h) he1
    have HV := Lib.hid hv
    clear hv
    go_wp2_with (first
      | ((with_reducible show wpList _ _ _ (⟨some 55, _, _, _, _, _⟩ :: _) _ _); refine wp_get _ rfl 24 (.tmp 5) rfl g5 0 (evc ev0) _ rfl E5.whole Tryd.underlying24 rfl z24z ?_; simp only [Act.put, List.setIfInBounds_toArray, List.set_cons_zero, List.set_cons_succ])
      | ((with_reducible show wpList _ _ _ (⟨none, .store 24 (.tmp 2) _, _, _, _, _⟩ :: _) _ _); refine wp_putAll _ rfl 24 (.tmp 2) (.tmp 55) rfl g2 24 _ (evc ev0) rfl rfl Z5 rfl z24z (evc_one _) ?_; intro wz Bz Uz; simp only [Act.put]))
    refine ret_cell3 2 3 4 24 rfl g2 (evc ev0) _ rfl Bz.whole Tryd.underlying24 rfl z24z rfl (.int .i64 (a1 : Int)) (.int .i64 (e1 : Int)) rfl rfl ⟨?_, (b5).trans (Uz.below (by omega))⟩
    rw [HV.out]
end Go.Proofs.YtjgcodnabgkjoaaDoor
