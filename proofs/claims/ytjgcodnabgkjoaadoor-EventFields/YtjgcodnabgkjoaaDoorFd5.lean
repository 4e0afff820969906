/-
  The walk of transeptlaw05.EventFields at field 5: true; nothing that was there turns. Condition: the table of kinds holds what the program's text lays.
-/
import Derived.Test.YtjgcodnabgkjoaaDoorFldPlain
namespace Go.Proofs.YtjgcodnabgkjoaaDoor
open Go.RowKit

set_option maxHeartbeats 4000000 in
set_option maxRecDepth 100000 in
theorem fields_5 (e : Ev) (he : EvOk e) (hs : Small e) (hsz : ∀ t ∈ e.ts, t.length ≤ 9223372036854775807) (x : Int) (Q : Nat) (hQ : bits .and .i64 x 65535 = (Q : Int)) (hQ7 : (Q : Int) % 7 = 5) (hQ2 : Q ≤ 65535) (sx : List UInt8) (hsx : sx.length ≤ 9223372036854775807) (n : Int) (w : World) (ht : Tab w) :
    Calls Tryd.prog 8 #[.agg (evc e).toArray, .int .i64 x, .string (str sx), .int .i64 n] w fun r w' => r = .returned (.bool true) ∧ Below w.heap.size w w' := by
  have CU := fun W => cut_any e he hsz W
  have hok := cutE_ok he
  have hsm := cutE_small hs
  have RF := fun W (hW : Tab W) => right_any (cutE e) hok (fun t h => by have := cutE_texts e t h; omega) W hW
  have hct := cutE_texts e
  have z24 := size24' he
  have y24 := zero24
  obtain ⟨F, hF⟩ : ∃ F, F = cutE e := ⟨_, rfl⟩
  rw [← hF] at CU RF hok hsm hct
  have zF := size24' hok
  have hlF : (evc F).length = (evc e).length := by rw [evc_length hok, evc_length he]
  have hlF0 : (evc F).length = (evc ev0).length := by rw [evc_length hok, evc_length ev0_ok]
  have oF := evc_one F
  have zs : (str sx).size = sx.length := str_size sx
  obtain ⟨m, hm⟩ : ∃ m : Nat, m = min sx.length 100 := ⟨_, rfl⟩
  have km : min (sx.length : Int) 100 = (m : Int) := by omega
  have jm : (m : Int) ≤ (sx.length : Int) := by omega
  obtain ⟨S, hS⟩ : ∃ S, S = sx.take m := ⟨_, rfl⟩
  have xs : (str sx).extract 0 m = str S := by rw [str_take, hS]
  have lS : S.length ≤ 100 := by rw [hS, List.length_take]; omega
  clear hS hm
  have HCU := Lib.hid CU
  clear CU hF hs hsz he
  by_cases hr : rightE F = true
  · rw [hr] at RF
    have HRF := Lib.hid RF
    clear RF
    obtain ⟨⟨hk1, hk2⟩, _⟩ := right_has hr hok
    obtain ⟨k, hk⟩ : ∃ k : Nat, F.kind = (k : Int) := ⟨F.kind.toNat, by omega⟩
    have hkn : F.kind.toNat = k := by omega
    have hk0 : 0 < k := by omega
    have hk15 : k < 15 := by omega
    have hk15' : (k : Int) < 15 := by omega
    have hX := right_setNum hok hr (j := 1) (by omega) n
    have hmo := most_num k hk15 hk0 1 (by omega)
    have hth := there_num k hk15 hk0 1 (by omega)
    rw [hkn] at hX
    generalize (hav k).bl.getD 1 0 = bl at hX hmo hth
    obtain ⟨X, hXe⟩ : ∃ X : Ev, X = { F with ns := F.ns.set 1 n } := ⟨_, rfl⟩
    have hXok : EvOk X := by rw [hXe]; exact hok.setNum 1 n
    have hXt : ∀ t ∈ X.ts, t.length ≤ 1000000 := by
      rw [hXe]
      intro t ht
      have := hct t ht
      omega
    have hset := evc_setNum hok (i := 1) (by omega) n
    rw [← hXe] at hX hset
    have RX := fun W (hW : Tab W) => right_any X hXok hXt W hW
    have zX := size24' hXok
    have kc : (evc F)[0]? = some (.int .i64 (k : Int)) := by rw [evc_kind, hk]
    obtain ⟨H, hH⟩ : ∃ H, H = hasS k := ⟨_, rfl⟩
    have hHl : H.length ≤ 7 := by rw [hH]; exact hasS_len k
    have hcell : ∀ W : World, (W.alloc (.cells #[.string ⟨#[]⟩, .string ⟨#[65]⟩, .string ⟨#[65]⟩, .string ⟨#[65, 66, 67, 68, 88, 89, 90]⟩, .string ⟨#[65, 66]⟩, .string ⟨#[]⟩, .string ⟨#[65, 66]⟩, .string ⟨#[88]⟩, .string ⟨#[]⟩, .string ⟨#[65, 66]⟩, .string ⟨#[88]⟩, .string ⟨#[65]⟩, .string ⟨#[65]⟩, .string ⟨#[]⟩, .string ⟨#[88]⟩] 9)).cell? ⟨W.heap.size, k, none⟩ = some (.string (str H)) := fun W => by
      have h1 := Blk.new W 9 hasAll
      rw [hH]
      exact h1.cell (hasAll_at hk15)
    have zH : (str H).size = H.length := str_size H
    have hlet : ∀ h, (((⟨#[65, 66, 67, 68, 88, 89, 90]⟩ : ByteArray))[5]'h).toNat = 89 := fun _ => rfl
    rw [← hH] at hth
    have HX := Lib.hid hX
    have HH := Lib.hid (And.intro hH (And.intro hk hkn))
    have HRX := Lib.hid RX
    have HSET := Lib.hid hset
    clear hX hH hk hkn hXe RX hset hr
    have HMO := Lib.hid (And.intro hmo hth)
    clear hmo hth
    by_cases h7 : k = 7
    · subst h7
      go_enter Tryd.func8, Tryd.ntmps8
      go_wp2_with (first
        | ((with_reducible show wpList _ _ _ (⟨some 4, _, _, _, _, _⟩ :: _) _ _); refine wp_box _ rfl 24 (.tmp 0) rfl (evc e) rfl ?_; intro w1 g4 hB1 hf1; simp only [Act.put, List.setIfInBounds_toArray, List.set_cons_zero, List.set_cons_succ]))
      have t1 := ht.kept hf1.below
      refine (shown_any w1 t1).mono ?_
      rintro r w3 ⟨rfl, e3⟩
      have B3 := hB1.kept e3
      have b3 := hf1.below.trans (e3.mono hf1.below.size)
      have t3 := t1.kept e3
      have hg4 : w.heap.size ≤ g4 := Nat.le_of_eq hf1.is.symm
      clear hB1 hf1 e3 t1
      go_wp2_with (first
        | ((with_reducible show wpList _ _ _ (⟨some 18, _, _, _, _, _⟩ :: _) _ _); refine wp_getG _ (by rfl) 24 (.tmp 4) rfl g4 0 (evc e) _ rfl B3.whole Tryd.underlying24 rfl z24 ?_; simp only [Act.put, List.setIfInBounds_toArray, List.set_cons_zero, List.set_cons_succ]))
      refine (HCU.out w3).mono ?_
      rintro r w4 ⟨rfl, e4⟩
      have B4 := B3.kept e4
      have b4 := b3.trans (e4.mono b3.size)
      have t4 := t3.kept e4
      clear B3 e4 b3 t3
      go_wp2_with (first
        | ((with_reducible show wpList _ _ _ (⟨none, .store 24 (.tmp 4) _, _, _, _, _⟩ :: _) _ _); refine wp_putAll _ rfl 24 (.tmp 4) (.tmp 19) rfl g4 24 _ (evc F) rfl rfl B4 hlF zF oF ?_; intro w5 B5 U5; simp only [Act.put])
        | ((with_reducible show wpList _ _ _ (⟨some 20, _, _, _, _, _⟩ :: _) _ _); refine wp_getG _ (by rfl) 24 (.tmp 4) rfl g4 0 (evc F) _ rfl B5.whole Tryd.underlying24 rfl zF ?_; simp only [Act.put, List.setIfInBounds_toArray, List.set_cons_zero, List.set_cons_succ]))
      have t5 : Tab w5 := t4.below (U5.below (B := 1) (by have := ht.1; omega)) (by omega)
      have b5 := b4.trans (U5.below hg4)
      clear B4 U5 t4 b4
      refine (HRF.out w5 t5).mono ?_
      rintro r w6 ⟨rfl, e6⟩
      have b6 := b5.trans (e6.mono b5.size)
      have t6 := t5.kept e6
      have B6 := B5.kept e6
      clear B5 e6 b5 t5
      have lX : 8 < (evc F).length := by rw [evc_length hok]; omega
      have ckind : ∀ o, (w6.alloc o).cell? ⟨g4, 0, none⟩ = some (.int .i64 ((7 : Nat) : Int)) := fun o => (B6.alloc o).cell kc
      have B7 := B6.alloc (.cells #[.string ⟨#[]⟩, .string ⟨#[65]⟩, .string ⟨#[65]⟩, .string ⟨#[65, 66, 67, 68, 88, 89, 90]⟩, .string ⟨#[65, 66]⟩, .string ⟨#[]⟩, .string ⟨#[65, 66]⟩, .string ⟨#[88]⟩, .string ⟨#[]⟩, .string ⟨#[65, 66]⟩, .string ⟨#[88]⟩, .string ⟨#[65]⟩, .string ⟨#[65]⟩, .string ⟨#[]⟩, .string ⟨#[88]⟩] 9)
      go_wp2_with (first
        | ((with_reducible show wpList _ _ _ (⟨some 45, _, _, _, _, _⟩ :: _) _ _); refine wp_getG _ (by rfl) 24 (.tmp 4) rfl g4 0 (evc F) _ rfl B7.whole Tryd.underlying24 rfl zF ?_; simp only [Act.put, List.setIfInBounds_toArray, List.set_cons_zero, List.set_cons_succ])
        | ((with_reducible show wpList _ _ _ (⟨some 14, _, _, _, _, _⟩ :: _) _ _); refine wp_new _ rfl 24 rfl _ y24 ?_; intro w8 g14 hB8 hf8; simp only [Act.put, List.setIfInBounds_toArray, List.set_cons_zero, List.set_cons_succ])
        | ((with_reducible show wpList _ _ _ (⟨none, .store 24 (.tmp 14) _, _, _, _, _⟩ :: _) _ _); refine wp_putAll _ rfl 24 (.tmp 14) (.tmp 45) rfl g14 24 _ (evc F) rfl rfl hB8 hlF0 zF oF ?_; intro w9 V9 U9; simp only [Act.put])
        | ((with_reducible show wpList _ _ _ (⟨none, .store 3 (.tmp 70) _, _, _, _, _⟩ :: _) _ _); refine wp_set _ rfl 3 (.tmp 70) (.tmp 69) rfl g14 8 24 _ (.int .i64 n) rfl rfl rfl rfl V9 lX sizeI ?_; intro w10 V10 U10; rw [HSET.out] at V10; simp only [Act.put]))
      have a8 := hf8.is
      have a9 : w6.heap.size + 1 = g14 := by rw [a8]; simp
      have ab := b6.size
      have b7 : Below w.heap.size w (w6.alloc (.cells #[.string ⟨#[]⟩, .string ⟨#[65]⟩, .string ⟨#[65]⟩, .string ⟨#[65, 66, 67, 68, 88, 89, 90]⟩, .string ⟨#[65, 66]⟩, .string ⟨#[]⟩, .string ⟨#[65, 66]⟩, .string ⟨#[88]⟩, .string ⟨#[]⟩, .string ⟨#[65, 66]⟩, .string ⟨#[88]⟩, .string ⟨#[65]⟩, .string ⟨#[65]⟩, .string ⟨#[]⟩, .string ⟨#[88]⟩] 9)) := b6.alloc b6.size _
      have b10 : Below w.heap.size w w10 := ((b7.trans (hf8.below.mono b7.size)).trans (U9.below (by omega))).trans (U10.below (by omega))
      have t10 : Tab w10 := ht.kept b10
      clear hf8 U9 U10 hB8 V9 b7 B6 B7 ckind hcell kc t6 b6 a8 a9 ab
      go_loopw [15, 16] (fun th i wr => ∃ j : Nat, j ≤ H.length ∧ i = .int .i64 (j : Int) ∧ th = .bool ((H.take j).any (· == 89)) ∧ Blk wr g14 24 (evc X) ∧ Below w.heap.size w wr) (fun _ i _ => H.length - (intOf i).toNat)
      case atStart => exact ⟨0, by omega, rfl, rfl, V10, b10⟩
      case round =>
        obtain ⟨j, hj, rfl, rfl, VR, bR⟩ := hrel
        by_cases hlt : j < H.length
        · obtain ⟨mb, hmb⟩ : ∃ mb, mb = (H.getD j 0).toNat := ⟨_, rfl⟩
          have hget : ∀ h, ((str H)[j]'h).toNat = mb := fun h => by
            rw [hmb]
            simp [str, List.getD, List.getElem?_eq_getElem hlt, ByteArray.getElem_eq_getElem_data]
          have hstep := any_step H 89 j hlt
          have heq : (H.getD j 0 == (89 : UInt8)) = decide (mb = 89) := by
            rw [hmb, Bool.eq_iff_iff, beq_iff_eq, decide_eq_true_eq]
            constructor
            · intro h; rw [h]; rfl
            · intro h; exact UInt8.toNat_inj.1 h
          rw [heq] at hstep
          have HST := Lib.hid hstep
          have hmb8 : mb < 256 := by rw [hmb]; exact UInt8.toNat_lt _
          clear hstep heq hmb V10 b10 t10
          have hlt' : (j : Int) < (H.length : Int) := by omega
          generalize hTB : (H.take j).any (· == 89) = tb at HST ⊢
          cases tb
          · by_cases hme : mb = 89
            · have hne : ((mb : Int) == 89) = true := by simp; omega
              have hde : decide (mb = 89) = true := by simpa using hme
              rw [hde] at HST
              clear hme hde
              go_wp2_with fail
              go_quiet (fail)
              go_wp2_with fail
              go_roundw
              case rel => exact ⟨j + 1, by omega, by go_num, by rw [HST.out]; rfl, VR.drewN _, bR.trans (below_drewN _ _ _)⟩
              case measure => simp [intOf]; omega
            · have hne : ((mb : Int) == 89) = false := by simp; omega
              have hde : decide (mb = 89) = false := by simpa using hme
              rw [hde] at HST
              clear hme hde
              go_wp2_with fail
              go_quiet (fail)
              go_wp2_with fail
              go_roundw
              case rel => exact ⟨j + 1, by omega, by go_num, by rw [HST.out]; rfl, VR.drewN _, bR.trans (below_drewN _ _ _)⟩
              case measure => simp [intOf]; omega
          · go_wp2_with fail
            go_quiet (fail)
            go_wp2_with fail
            go_roundw
            case rel => exact ⟨j + 1, by omega, by go_num, by rw [HST.out]; simp, VR.drewN _, bR.trans (below_drewN _ _ _)⟩
            case measure => simp [intOf]; omega
        · obtain rfl : j = H.length := by omega
          rw [List.take_length]
          have tR : Tab wr := ht.kept bR
          have hX2 := HX.out
          obtain ⟨hmo, hth⟩ := HMO.out
          rw [show (([88, 89, 90] : List UInt8).getD 1 0) = 89 from rfl] at hth
          generalize H.any (· == 89) = TH at hth ⊢
          by_cases hn0 : n = 0
          · have HXv : Hid (rightE X = true) := by show _ = _; rw [hX2, hn0]; simp
            have q0 : (n == 0) = true := by simpa using hn0
            clear hX2 hmo hth hn0
            cases TH
            · go_wp2_with (first
                | ((with_reducible show wpList _ _ _ (⟨some 106, _, _, _, _, _⟩ :: _) _ _); refine wp_getG _ (by rfl) 24 (.tmp 14) rfl g14 0 (evc X) _ rfl VR.whole Tryd.underlying24 rfl zX ?_; simp only [Act.put, List.setIfInBounds_toArray, List.set_cons_zero, List.set_cons_succ]))
              refine (HRX.out wr tR).mono ?_
              rintro r wz ⟨rfl, ez⟩
              rw [HXv.out]
              go_wp2_with fail
              go_ret
              exact ⟨rfl, bR.trans (ez.mono bR.size)⟩
            · go_wp2_with (first
                | ((with_reducible show wpList _ _ _ (⟨some 106, _, _, _, _, _⟩ :: _) _ _); refine wp_getG _ (by rfl) 24 (.tmp 14) rfl g14 0 (evc X) _ rfl VR.whole Tryd.underlying24 rfl zX ?_; simp only [Act.put, List.setIfInBounds_toArray, List.set_cons_zero, List.set_cons_succ]))
              refine (HRX.out wr tR).mono ?_
              rintro r wz ⟨rfl, ez⟩
              rw [HXv.out]
              go_wp2_with fail
              go_ret
              exact ⟨rfl, bR.trans (ez.mono bR.size)⟩
          · have q0 : (n == 0) = false := by simpa using hn0
            cases TH
            · have hbl : bl = 0 := by
                have : ¬ 0 < bl := by simpa using hth.symm
                omega
              have HXv : Hid (rightE X = false) := by
                show _ = _
                rw [hX2, hbl]
                simp
                omega
              clear hX2 hmo hth hn0 hbl
              go_wp2_with (first
                | ((with_reducible show wpList _ _ _ (⟨some 106, _, _, _, _, _⟩ :: _) _ _); refine wp_getG _ (by rfl) 24 (.tmp 14) rfl g14 0 (evc X) _ rfl VR.whole Tryd.underlying24 rfl zX ?_; simp only [Act.put, List.setIfInBounds_toArray, List.set_cons_zero, List.set_cons_succ]))
              refine (HRX.out wr tR).mono ?_
              rintro r wz ⟨rfl, ez⟩
              rw [HXv.out]
              go_wp2_with fail
              go_ret
              exact ⟨rfl, bR.trans (ez.mono bR.size)⟩
            · have hbl : bl = 3 := by
                have h1 : 0 < bl := by simpa using hth.symm
                have h2 := hmo
                simp [] at h2
                omega
              by_cases hp : 0 < n
              · have q1 : decide (0 < n) = true := by simpa using hp
                by_cases hl : n ≤ 2
                · have q2 : decide (n ≤ 2) = true := by simpa using hl
                  have HXv : Hid (rightE X = true) := by
                    show _ = _
                    rw [hX2, hbl]
                    simp
                    omega
                  clear hX2 hmo hth hn0 hbl
                  go_wp2_with (first
                    | ((with_reducible show wpList _ _ _ (⟨some 106, _, _, _, _, _⟩ :: _) _ _); refine wp_getG _ (by rfl) 24 (.tmp 14) rfl g14 0 (evc X) _ rfl VR.whole Tryd.underlying24 rfl zX ?_; simp only [Act.put, List.setIfInBounds_toArray, List.set_cons_zero, List.set_cons_succ]))
                  refine (HRX.out wr tR).mono ?_
                  rintro r wz ⟨rfl, ez⟩
                  rw [HXv.out]
                  go_wp2_with fail
                  go_ret
                  exact ⟨rfl, bR.trans (ez.mono bR.size)⟩
                · have q2 : decide (n ≤ 2) = false := by simpa using hl
                  have HXv : Hid (rightE X = false) := by
                    show _ = _
                    rw [hX2, hbl]
                    simp
                    omega
                  clear hX2 hmo hth hn0 hbl
                  go_wp2_with (first
                    | ((with_reducible show wpList _ _ _ (⟨some 106, _, _, _, _, _⟩ :: _) _ _); refine wp_getG _ (by rfl) 24 (.tmp 14) rfl g14 0 (evc X) _ rfl VR.whole Tryd.underlying24 rfl zX ?_; simp only [Act.put, List.setIfInBounds_toArray, List.set_cons_zero, List.set_cons_succ]))
                  refine (HRX.out wr tR).mono ?_
                  rintro r wz ⟨rfl, ez⟩
                  rw [HXv.out]
                  go_wp2_with fail
                  go_ret
                  exact ⟨rfl, bR.trans (ez.mono bR.size)⟩
              · have q1 : decide (0 < n) = false := by simpa using hp
                have HXv : Hid (rightE X = false) := by
                  show _ = _
                  rw [hX2, hbl]
                  simp
                  omega
                clear hX2 hmo hth hn0 hbl
                go_wp2_with (first
                  | ((with_reducible show wpList _ _ _ (⟨some 106, _, _, _, _, _⟩ :: _) _ _); refine wp_getG _ (by rfl) 24 (.tmp 14) rfl g14 0 (evc X) _ rfl VR.whole Tryd.underlying24 rfl zX ?_; simp only [Act.put, List.setIfInBounds_toArray, List.set_cons_zero, List.set_cons_succ]))
                refine (HRX.out wr tR).mono ?_
                rintro r wz ⟨rfl, ez⟩
                rw [HXv.out]
                go_wp2_with fail
                go_ret
                exact ⟨rfl, bR.trans (ez.mono bR.size)⟩
    · by_cases h10 : k = 10
      · subst h10
        go_enter Tryd.func8, Tryd.ntmps8
        go_wp2_with (first
          | ((with_reducible show wpList _ _ _ (⟨some 4, _, _, _, _, _⟩ :: _) _ _); refine wp_box _ rfl 24 (.tmp 0) rfl (evc e) rfl ?_; intro w1 g4 hB1 hf1; simp only [Act.put, List.setIfInBounds_toArray, List.set_cons_zero, List.set_cons_succ]))
        have t1 := ht.kept hf1.below
        refine (shown_any w1 t1).mono ?_
        rintro r w3 ⟨rfl, e3⟩
        have B3 := hB1.kept e3
        have b3 := hf1.below.trans (e3.mono hf1.below.size)
        have t3 := t1.kept e3
        have hg4 : w.heap.size ≤ g4 := Nat.le_of_eq hf1.is.symm
        clear hB1 hf1 e3 t1
        go_wp2_with (first
          | ((with_reducible show wpList _ _ _ (⟨some 18, _, _, _, _, _⟩ :: _) _ _); refine wp_getG _ (by rfl) 24 (.tmp 4) rfl g4 0 (evc e) _ rfl B3.whole Tryd.underlying24 rfl z24 ?_; simp only [Act.put, List.setIfInBounds_toArray, List.set_cons_zero, List.set_cons_succ]))
        refine (HCU.out w3).mono ?_
        rintro r w4 ⟨rfl, e4⟩
        have B4 := B3.kept e4
        have b4 := b3.trans (e4.mono b3.size)
        have t4 := t3.kept e4
        clear B3 e4 b3 t3
        go_wp2_with (first
          | ((with_reducible show wpList _ _ _ (⟨none, .store 24 (.tmp 4) _, _, _, _, _⟩ :: _) _ _); refine wp_putAll _ rfl 24 (.tmp 4) (.tmp 19) rfl g4 24 _ (evc F) rfl rfl B4 hlF zF oF ?_; intro w5 B5 U5; simp only [Act.put])
          | ((with_reducible show wpList _ _ _ (⟨some 20, _, _, _, _, _⟩ :: _) _ _); refine wp_getG _ (by rfl) 24 (.tmp 4) rfl g4 0 (evc F) _ rfl B5.whole Tryd.underlying24 rfl zF ?_; simp only [Act.put, List.setIfInBounds_toArray, List.set_cons_zero, List.set_cons_succ]))
        have t5 : Tab w5 := t4.below (U5.below (B := 1) (by have := ht.1; omega)) (by omega)
        have b5 := b4.trans (U5.below hg4)
        clear B4 U5 t4 b4
        refine (HRF.out w5 t5).mono ?_
        rintro r w6 ⟨rfl, e6⟩
        have b6 := b5.trans (e6.mono b5.size)
        have t6 := t5.kept e6
        have B6 := B5.kept e6
        clear B5 e6 b5 t5
        have lX : 8 < (evc F).length := by rw [evc_length hok]; omega
        have ckind : ∀ o, (w6.alloc o).cell? ⟨g4, 0, none⟩ = some (.int .i64 ((10 : Nat) : Int)) := fun o => (B6.alloc o).cell kc
        have B7 := B6.alloc (.cells #[.string ⟨#[]⟩, .string ⟨#[65]⟩, .string ⟨#[65]⟩, .string ⟨#[65, 66, 67, 68, 88, 89, 90]⟩, .string ⟨#[65, 66]⟩, .string ⟨#[]⟩, .string ⟨#[65, 66]⟩, .string ⟨#[88]⟩, .string ⟨#[]⟩, .string ⟨#[65, 66]⟩, .string ⟨#[88]⟩, .string ⟨#[65]⟩, .string ⟨#[65]⟩, .string ⟨#[]⟩, .string ⟨#[88]⟩] 9)
        go_wp2_with (first
          | ((with_reducible show wpList _ _ _ (⟨some 45, _, _, _, _, _⟩ :: _) _ _); refine wp_getG _ (by rfl) 24 (.tmp 4) rfl g4 0 (evc F) _ rfl B7.whole Tryd.underlying24 rfl zF ?_; simp only [Act.put, List.setIfInBounds_toArray, List.set_cons_zero, List.set_cons_succ])
          | ((with_reducible show wpList _ _ _ (⟨some 14, _, _, _, _, _⟩ :: _) _ _); refine wp_new _ rfl 24 rfl _ y24 ?_; intro w8 g14 hB8 hf8; simp only [Act.put, List.setIfInBounds_toArray, List.set_cons_zero, List.set_cons_succ])
          | ((with_reducible show wpList _ _ _ (⟨none, .store 24 (.tmp 14) _, _, _, _, _⟩ :: _) _ _); refine wp_putAll _ rfl 24 (.tmp 14) (.tmp 45) rfl g14 24 _ (evc F) rfl rfl hB8 hlF0 zF oF ?_; intro w9 V9 U9; simp only [Act.put])
          | ((with_reducible show wpList _ _ _ (⟨none, .store 3 (.tmp 70) _, _, _, _, _⟩ :: _) _ _); refine wp_set _ rfl 3 (.tmp 70) (.tmp 69) rfl g14 8 24 _ (.int .i64 n) rfl rfl rfl rfl V9 lX sizeI ?_; intro w10 V10 U10; rw [HSET.out] at V10; simp only [Act.put]))
        have a8 := hf8.is
        have a9 : w6.heap.size + 1 = g14 := by rw [a8]; simp
        have ab := b6.size
        have b7 : Below w.heap.size w (w6.alloc (.cells #[.string ⟨#[]⟩, .string ⟨#[65]⟩, .string ⟨#[65]⟩, .string ⟨#[65, 66, 67, 68, 88, 89, 90]⟩, .string ⟨#[65, 66]⟩, .string ⟨#[]⟩, .string ⟨#[65, 66]⟩, .string ⟨#[88]⟩, .string ⟨#[]⟩, .string ⟨#[65, 66]⟩, .string ⟨#[88]⟩, .string ⟨#[65]⟩, .string ⟨#[65]⟩, .string ⟨#[]⟩, .string ⟨#[88]⟩] 9)) := b6.alloc b6.size _
        have b10 : Below w.heap.size w w10 := ((b7.trans (hf8.below.mono b7.size)).trans (U9.below (by omega))).trans (U10.below (by omega))
        have t10 : Tab w10 := ht.kept b10
        clear hf8 U9 U10 hB8 V9 b7 B6 B7 ckind hcell kc t6 b6 a8 a9 ab
        go_loopw [15, 16] (fun th i wr => ∃ j : Nat, j ≤ H.length ∧ i = .int .i64 (j : Int) ∧ th = .bool ((H.take j).any (· == 89)) ∧ Blk wr g14 24 (evc X) ∧ Below w.heap.size w wr) (fun _ i _ => H.length - (intOf i).toNat)
        case atStart => exact ⟨0, by omega, rfl, rfl, V10, b10⟩
        case round =>
          obtain ⟨j, hj, rfl, rfl, VR, bR⟩ := hrel
          by_cases hlt : j < H.length
          · obtain ⟨mb, hmb⟩ : ∃ mb, mb = (H.getD j 0).toNat := ⟨_, rfl⟩
            have hget : ∀ h, ((str H)[j]'h).toNat = mb := fun h => by
              rw [hmb]
              simp [str, List.getD, List.getElem?_eq_getElem hlt, ByteArray.getElem_eq_getElem_data]
            have hstep := any_step H 89 j hlt
            have heq : (H.getD j 0 == (89 : UInt8)) = decide (mb = 89) := by
              rw [hmb, Bool.eq_iff_iff, beq_iff_eq, decide_eq_true_eq]
              constructor
              · intro h; rw [h]; rfl
              · intro h; exact UInt8.toNat_inj.1 h
            rw [heq] at hstep
            have HST := Lib.hid hstep
            have hmb8 : mb < 256 := by rw [hmb]; exact UInt8.toNat_lt _
            clear hstep heq hmb V10 b10 t10
            have hlt' : (j : Int) < (H.length : Int) := by omega
            generalize hTB : (H.take j).any (· == 89) = tb at HST ⊢
            cases tb
            · by_cases hme : mb = 89
              · have hne : ((mb : Int) == 89) = true := by simp; omega
                have hde : decide (mb = 89) = true := by simpa using hme
                rw [hde] at HST
                clear hme hde
                go_wp2_with fail
                go_quiet (fail)
                go_wp2_with fail
                go_roundw
                case rel => exact ⟨j + 1, by omega, by go_num, by rw [HST.out]; rfl, VR.drewN _, bR.trans (below_drewN _ _ _)⟩
                case measure => simp [intOf]; omega
              · have hne : ((mb : Int) == 89) = false := by simp; omega
                have hde : decide (mb = 89) = false := by simpa using hme
                rw [hde] at HST
                clear hme hde
                go_wp2_with fail
                go_quiet (fail)
                go_wp2_with fail
                go_roundw
                case rel => exact ⟨j + 1, by omega, by go_num, by rw [HST.out]; rfl, VR.drewN _, bR.trans (below_drewN _ _ _)⟩
                case measure => simp [intOf]; omega
            · go_wp2_with fail
              go_quiet (fail)
              go_wp2_with fail
              go_roundw
              case rel => exact ⟨j + 1, by omega, by go_num, by rw [HST.out]; simp, VR.drewN _, bR.trans (below_drewN _ _ _)⟩
              case measure => simp [intOf]; omega
          · obtain rfl : j = H.length := by omega
            rw [List.take_length]
            have tR : Tab wr := ht.kept bR
            have hX2 := HX.out
            obtain ⟨hmo, hth⟩ := HMO.out
            rw [show (([88, 89, 90] : List UInt8).getD 1 0) = 89 from rfl] at hth
            generalize H.any (· == 89) = TH at hth ⊢
            by_cases hn0 : n = 0
            · have HXv : Hid (rightE X = true) := by show _ = _; rw [hX2, hn0]; simp
              have q0 : (n == 0) = true := by simpa using hn0
              clear hX2 hmo hth hn0
              cases TH
              · go_wp2_with (first
                  | ((with_reducible show wpList _ _ _ (⟨some 106, _, _, _, _, _⟩ :: _) _ _); refine wp_getG _ (by rfl) 24 (.tmp 14) rfl g14 0 (evc X) _ rfl VR.whole Tryd.underlying24 rfl zX ?_; simp only [Act.put, List.setIfInBounds_toArray, List.set_cons_zero, List.set_cons_succ]))
                refine (HRX.out wr tR).mono ?_
                rintro r wz ⟨rfl, ez⟩
                rw [HXv.out]
                go_wp2_with fail
                go_ret
                exact ⟨rfl, bR.trans (ez.mono bR.size)⟩
              · go_wp2_with (first
                  | ((with_reducible show wpList _ _ _ (⟨some 106, _, _, _, _, _⟩ :: _) _ _); refine wp_getG _ (by rfl) 24 (.tmp 14) rfl g14 0 (evc X) _ rfl VR.whole Tryd.underlying24 rfl zX ?_; simp only [Act.put, List.setIfInBounds_toArray, List.set_cons_zero, List.set_cons_succ]))
                refine (HRX.out wr tR).mono ?_
                rintro r wz ⟨rfl, ez⟩
                rw [HXv.out]
                go_wp2_with fail
                go_ret
                exact ⟨rfl, bR.trans (ez.mono bR.size)⟩
            · have q0 : (n == 0) = false := by simpa using hn0
              cases TH
              · have hbl : bl = 0 := by
                  have : ¬ 0 < bl := by simpa using hth.symm
                  omega
                have HXv : Hid (rightE X = false) := by
                  show _ = _
                  rw [hX2, hbl]
                  simp
                  omega
                clear hX2 hmo hth hn0 hbl
                go_wp2_with (first
                  | ((with_reducible show wpList _ _ _ (⟨some 106, _, _, _, _, _⟩ :: _) _ _); refine wp_getG _ (by rfl) 24 (.tmp 14) rfl g14 0 (evc X) _ rfl VR.whole Tryd.underlying24 rfl zX ?_; simp only [Act.put, List.setIfInBounds_toArray, List.set_cons_zero, List.set_cons_succ]))
                refine (HRX.out wr tR).mono ?_
                rintro r wz ⟨rfl, ez⟩
                rw [HXv.out]
                go_wp2_with fail
                go_ret
                exact ⟨rfl, bR.trans (ez.mono bR.size)⟩
              · have hbl : bl = 3 := by
                  have h1 : 0 < bl := by simpa using hth.symm
                  have h2 := hmo
                  simp [] at h2
                  omega
                by_cases hp : 0 < n
                · have q1 : decide (0 < n) = true := by simpa using hp
                  by_cases hl : n ≤ 2
                  · have q2 : decide (n ≤ 2) = true := by simpa using hl
                    have HXv : Hid (rightE X = true) := by
                      show _ = _
                      rw [hX2, hbl]
                      simp
                      omega
                    clear hX2 hmo hth hn0 hbl
                    go_wp2_with (first
                      | ((with_reducible show wpList _ _ _ (⟨some 106, _, _, _, _, _⟩ :: _) _ _); refine wp_getG _ (by rfl) 24 (.tmp 14) rfl g14 0 (evc X) _ rfl VR.whole Tryd.underlying24 rfl zX ?_; simp only [Act.put, List.setIfInBounds_toArray, List.set_cons_zero, List.set_cons_succ]))
                    refine (HRX.out wr tR).mono ?_
                    rintro r wz ⟨rfl, ez⟩
                    rw [HXv.out]
                    go_wp2_with fail
                    go_ret
                    exact ⟨rfl, bR.trans (ez.mono bR.size)⟩
                  · have q2 : decide (n ≤ 2) = false := by simpa using hl
                    have HXv : Hid (rightE X = false) := by
                      show _ = _
                      rw [hX2, hbl]
                      simp
                      omega
                    clear hX2 hmo hth hn0 hbl
                    go_wp2_with (first
                      | ((with_reducible show wpList _ _ _ (⟨some 106, _, _, _, _, _⟩ :: _) _ _); refine wp_getG _ (by rfl) 24 (.tmp 14) rfl g14 0 (evc X) _ rfl VR.whole Tryd.underlying24 rfl zX ?_; simp only [Act.put, List.setIfInBounds_toArray, List.set_cons_zero, List.set_cons_succ]))
                    refine (HRX.out wr tR).mono ?_
                    rintro r wz ⟨rfl, ez⟩
                    rw [HXv.out]
                    go_wp2_with fail
                    go_ret
                    exact ⟨rfl, bR.trans (ez.mono bR.size)⟩
                · have q1 : decide (0 < n) = false := by simpa using hp
                  have HXv : Hid (rightE X = false) := by
                    show _ = _
                    rw [hX2, hbl]
                    simp
                    omega
                  clear hX2 hmo hth hn0 hbl
                  go_wp2_with (first
                    | ((with_reducible show wpList _ _ _ (⟨some 106, _, _, _, _, _⟩ :: _) _ _); refine wp_getG _ (by rfl) 24 (.tmp 14) rfl g14 0 (evc X) _ rfl VR.whole Tryd.underlying24 rfl zX ?_; simp only [Act.put, List.setIfInBounds_toArray, List.set_cons_zero, List.set_cons_succ]))
                  refine (HRX.out wr tR).mono ?_
                  rintro r wz ⟨rfl, ez⟩
                  rw [HXv.out]
                  go_wp2_with fail
                  go_ret
                  exact ⟨rfl, bR.trans (ez.mono bR.size)⟩
      · have k7 : ((k : Int) == 7) = false := by simp; omega
        have k10 : ((k : Int) == 10) = false := by simp; omega
        go_enter Tryd.func8, Tryd.ntmps8
        go_wp2_with (first
          | ((with_reducible show wpList _ _ _ (⟨some 4, _, _, _, _, _⟩ :: _) _ _); refine wp_box _ rfl 24 (.tmp 0) rfl (evc e) rfl ?_; intro w1 g4 hB1 hf1; simp only [Act.put, List.setIfInBounds_toArray, List.set_cons_zero, List.set_cons_succ]))
        have t1 := ht.kept hf1.below
        refine (shown_any w1 t1).mono ?_
        rintro r w3 ⟨rfl, e3⟩
        have B3 := hB1.kept e3
        have b3 := hf1.below.trans (e3.mono hf1.below.size)
        have t3 := t1.kept e3
        have hg4 : w.heap.size ≤ g4 := Nat.le_of_eq hf1.is.symm
        clear hB1 hf1 e3 t1
        go_wp2_with (first
          | ((with_reducible show wpList _ _ _ (⟨some 18, _, _, _, _, _⟩ :: _) _ _); refine wp_getG _ (by rfl) 24 (.tmp 4) rfl g4 0 (evc e) _ rfl B3.whole Tryd.underlying24 rfl z24 ?_; simp only [Act.put, List.setIfInBounds_toArray, List.set_cons_zero, List.set_cons_succ]))
        refine (HCU.out w3).mono ?_
        rintro r w4 ⟨rfl, e4⟩
        have B4 := B3.kept e4
        have b4 := b3.trans (e4.mono b3.size)
        have t4 := t3.kept e4
        clear B3 e4 b3 t3
        go_wp2_with (first
          | ((with_reducible show wpList _ _ _ (⟨none, .store 24 (.tmp 4) _, _, _, _, _⟩ :: _) _ _); refine wp_putAll _ rfl 24 (.tmp 4) (.tmp 19) rfl g4 24 _ (evc F) rfl rfl B4 hlF zF oF ?_; intro w5 B5 U5; simp only [Act.put])
          | ((with_reducible show wpList _ _ _ (⟨some 20, _, _, _, _, _⟩ :: _) _ _); refine wp_getG _ (by rfl) 24 (.tmp 4) rfl g4 0 (evc F) _ rfl B5.whole Tryd.underlying24 rfl zF ?_; simp only [Act.put, List.setIfInBounds_toArray, List.set_cons_zero, List.set_cons_succ]))
        have t5 : Tab w5 := t4.below (U5.below (B := 1) (by have := ht.1; omega)) (by omega)
        have b5 := b4.trans (U5.below hg4)
        clear B4 U5 t4 b4
        refine (HRF.out w5 t5).mono ?_
        rintro r w6 ⟨rfl, e6⟩
        have b6 := b5.trans (e6.mono b5.size)
        have t6 := t5.kept e6
        have B6 := B5.kept e6
        clear B5 e6 b5 t5
        have lX : 8 < (evc F).length := by rw [evc_length hok]; omega
        have ckind : ∀ o, (w6.alloc o).cell? ⟨g4, 0, none⟩ = some (.int .i64 (k : Int)) := fun o => (B6.alloc o).cell kc
        have B7 := B6.alloc (.cells #[.string ⟨#[]⟩, .string ⟨#[65]⟩, .string ⟨#[65]⟩, .string ⟨#[65, 66, 67, 68, 88, 89, 90]⟩, .string ⟨#[65, 66]⟩, .string ⟨#[]⟩, .string ⟨#[65, 66]⟩, .string ⟨#[88]⟩, .string ⟨#[]⟩, .string ⟨#[65, 66]⟩, .string ⟨#[88]⟩, .string ⟨#[65]⟩, .string ⟨#[65]⟩, .string ⟨#[]⟩, .string ⟨#[88]⟩] 9)
        go_wp2_with (first
          | ((with_reducible show wpList _ _ _ (⟨some 45, _, _, _, _, _⟩ :: _) _ _); refine wp_getG _ (by rfl) 24 (.tmp 4) rfl g4 0 (evc F) _ rfl B7.whole Tryd.underlying24 rfl zF ?_; simp only [Act.put, List.setIfInBounds_toArray, List.set_cons_zero, List.set_cons_succ])
          | ((with_reducible show wpList _ _ _ (⟨some 14, _, _, _, _, _⟩ :: _) _ _); refine wp_new _ rfl 24 rfl _ y24 ?_; intro w8 g14 hB8 hf8; simp only [Act.put, List.setIfInBounds_toArray, List.set_cons_zero, List.set_cons_succ])
          | ((with_reducible show wpList _ _ _ (⟨none, .store 24 (.tmp 14) _, _, _, _, _⟩ :: _) _ _); refine wp_putAll _ rfl 24 (.tmp 14) (.tmp 45) rfl g14 24 _ (evc F) rfl rfl hB8 hlF0 zF oF ?_; intro w9 V9 U9; simp only [Act.put])
          | ((with_reducible show wpList _ _ _ (⟨none, .store 3 (.tmp 70) _, _, _, _, _⟩ :: _) _ _); refine wp_set _ rfl 3 (.tmp 70) (.tmp 69) rfl g14 8 24 _ (.int .i64 n) rfl rfl rfl rfl V9 lX sizeI ?_; intro w10 V10 U10; rw [HSET.out] at V10; simp only [Act.put]))
        have a8 := hf8.is
        have a9 : w6.heap.size + 1 = g14 := by rw [a8]; simp
        have ab := b6.size
        have b7 : Below w.heap.size w (w6.alloc (.cells #[.string ⟨#[]⟩, .string ⟨#[65]⟩, .string ⟨#[65]⟩, .string ⟨#[65, 66, 67, 68, 88, 89, 90]⟩, .string ⟨#[65, 66]⟩, .string ⟨#[]⟩, .string ⟨#[65, 66]⟩, .string ⟨#[88]⟩, .string ⟨#[]⟩, .string ⟨#[65, 66]⟩, .string ⟨#[88]⟩, .string ⟨#[65]⟩, .string ⟨#[65]⟩, .string ⟨#[]⟩, .string ⟨#[88]⟩] 9)) := b6.alloc b6.size _
        have b10 : Below w.heap.size w w10 := ((b7.trans (hf8.below.mono b7.size)).trans (U9.below (by omega))).trans (U10.below (by omega))
        have t10 : Tab w10 := ht.kept b10
        clear hf8 U9 U10 hB8 V9 b7 B6 B7 ckind hcell kc t6 b6 a8 a9 ab
        go_loopw [15, 16] (fun th i wr => ∃ j : Nat, j ≤ H.length ∧ i = .int .i64 (j : Int) ∧ th = .bool ((H.take j).any (· == 89)) ∧ Blk wr g14 24 (evc X) ∧ Below w.heap.size w wr) (fun _ i _ => H.length - (intOf i).toNat)
        case atStart => exact ⟨0, by omega, rfl, rfl, V10, b10⟩
        case round =>
          obtain ⟨j, hj, rfl, rfl, VR, bR⟩ := hrel
          by_cases hlt : j < H.length
          · obtain ⟨mb, hmb⟩ : ∃ mb, mb = (H.getD j 0).toNat := ⟨_, rfl⟩
            have hget : ∀ h, ((str H)[j]'h).toNat = mb := fun h => by
              rw [hmb]
              simp [str, List.getD, List.getElem?_eq_getElem hlt, ByteArray.getElem_eq_getElem_data]
            have hstep := any_step H 89 j hlt
            have heq : (H.getD j 0 == (89 : UInt8)) = decide (mb = 89) := by
              rw [hmb, Bool.eq_iff_iff, beq_iff_eq, decide_eq_true_eq]
              constructor
              · intro h; rw [h]; rfl
              · intro h; exact UInt8.toNat_inj.1 h
            rw [heq] at hstep
            have HST := Lib.hid hstep
            have hmb8 : mb < 256 := by rw [hmb]; exact UInt8.toNat_lt _
            clear hstep heq hmb V10 b10 t10
            have hlt' : (j : Int) < (H.length : Int) := by omega
            generalize hTB : (H.take j).any (· == 89) = tb at HST ⊢
            cases tb
            · by_cases hme : mb = 89
              · have hne : ((mb : Int) == 89) = true := by simp; omega
                have hde : decide (mb = 89) = true := by simpa using hme
                rw [hde] at HST
                clear hme hde
                go_wp2_with fail
                go_quiet (fail)
                go_wp2_with fail
                go_roundw
                case rel => exact ⟨j + 1, by omega, by go_num, by rw [HST.out]; rfl, VR.drewN _, bR.trans (below_drewN _ _ _)⟩
                case measure => simp [intOf]; omega
              · have hne : ((mb : Int) == 89) = false := by simp; omega
                have hde : decide (mb = 89) = false := by simpa using hme
                rw [hde] at HST
                clear hme hde
                go_wp2_with fail
                go_quiet (fail)
                go_wp2_with fail
                go_roundw
                case rel => exact ⟨j + 1, by omega, by go_num, by rw [HST.out]; rfl, VR.drewN _, bR.trans (below_drewN _ _ _)⟩
                case measure => simp [intOf]; omega
            · go_wp2_with fail
              go_quiet (fail)
              go_wp2_with fail
              go_roundw
              case rel => exact ⟨j + 1, by omega, by go_num, by rw [HST.out]; simp, VR.drewN _, bR.trans (below_drewN _ _ _)⟩
              case measure => simp [intOf]; omega
          · obtain rfl : j = H.length := by omega
            rw [List.take_length]
            have tR : Tab wr := ht.kept bR
            have hX2 := HX.out
            obtain ⟨hmo, hth⟩ := HMO.out
            rw [show (([88, 89, 90] : List UInt8).getD 1 0) = 89 from rfl] at hth
            generalize H.any (· == 89) = TH at hth ⊢
            by_cases hn0 : n = 0
            · have HXv : Hid (rightE X = true) := by show _ = _; rw [hX2, hn0]; simp
              have q0 : (n == 0) = true := by simpa using hn0
              clear hX2 hmo hth hn0
              cases TH
              · go_wp2_with (first
                  | ((with_reducible show wpList _ _ _ (⟨some 106, _, _, _, _, _⟩ :: _) _ _); refine wp_getG _ (by rfl) 24 (.tmp 14) rfl g14 0 (evc X) _ rfl VR.whole Tryd.underlying24 rfl zX ?_; simp only [Act.put, List.setIfInBounds_toArray, List.set_cons_zero, List.set_cons_succ]))
                refine (HRX.out wr tR).mono ?_
                rintro r wz ⟨rfl, ez⟩
                rw [HXv.out]
                go_wp2_with fail
                go_ret
                exact ⟨rfl, bR.trans (ez.mono bR.size)⟩
              · go_wp2_with (first
                  | ((with_reducible show wpList _ _ _ (⟨some 106, _, _, _, _, _⟩ :: _) _ _); refine wp_getG _ (by rfl) 24 (.tmp 14) rfl g14 0 (evc X) _ rfl VR.whole Tryd.underlying24 rfl zX ?_; simp only [Act.put, List.setIfInBounds_toArray, List.set_cons_zero, List.set_cons_succ]))
                refine (HRX.out wr tR).mono ?_
                rintro r wz ⟨rfl, ez⟩
                rw [HXv.out]
                go_wp2_with fail
                go_ret
                exact ⟨rfl, bR.trans (ez.mono bR.size)⟩
            · have q0 : (n == 0) = false := by simpa using hn0
              cases TH
              · have hbl : bl = 0 := by
                  have : ¬ 0 < bl := by simpa using hth.symm
                  omega
                have HXv : Hid (rightE X = false) := by
                  show _ = _
                  rw [hX2, hbl]
                  simp
                  omega
                clear hX2 hmo hth hn0 hbl
                go_wp2_with (first
                  | ((with_reducible show wpList _ _ _ (⟨some 106, _, _, _, _, _⟩ :: _) _ _); refine wp_getG _ (by rfl) 24 (.tmp 14) rfl g14 0 (evc X) _ rfl VR.whole Tryd.underlying24 rfl zX ?_; simp only [Act.put, List.setIfInBounds_toArray, List.set_cons_zero, List.set_cons_succ]))
                refine (HRX.out wr tR).mono ?_
                rintro r wz ⟨rfl, ez⟩
                rw [HXv.out]
                go_wp2_with fail
                go_ret
                exact ⟨rfl, bR.trans (ez.mono bR.size)⟩
              · have hbl : bl = 3 := by
                  have h1 : 0 < bl := by simpa using hth.symm
                  have h2 := hmo
                  simp at h2
                  omega
                by_cases hp : 0 < n
                · have q1 : decide (0 < n) = true := by simpa using hp
                  by_cases hl : n ≤ 2
                  · have q2 : decide (n ≤ 2) = true := by simpa using hl
                    have HXv : Hid (rightE X = true) := by
                      show _ = _
                      rw [hX2, hbl]
                      simp
                      omega
                    clear hX2 hmo hth hn0 hbl
                    go_wp2_with (first
                      | ((with_reducible show wpList _ _ _ (⟨some 106, _, _, _, _, _⟩ :: _) _ _); refine wp_getG _ (by rfl) 24 (.tmp 14) rfl g14 0 (evc X) _ rfl VR.whole Tryd.underlying24 rfl zX ?_; simp only [Act.put, List.setIfInBounds_toArray, List.set_cons_zero, List.set_cons_succ]))
                    refine (HRX.out wr tR).mono ?_
                    rintro r wz ⟨rfl, ez⟩
                    rw [HXv.out]
                    go_wp2_with fail
                    go_ret
                    exact ⟨rfl, bR.trans (ez.mono bR.size)⟩
                  · have q2 : decide (n ≤ 2) = false := by simpa using hl
                    have HXv : Hid (rightE X = false) := by
                      show _ = _
                      rw [hX2, hbl]
                      simp
                      omega
                    clear hX2 hmo hth hn0 hbl
                    go_wp2_with (first
                      | ((with_reducible show wpList _ _ _ (⟨some 106, _, _, _, _, _⟩ :: _) _ _); refine wp_getG _ (by rfl) 24 (.tmp 14) rfl g14 0 (evc X) _ rfl VR.whole Tryd.underlying24 rfl zX ?_; simp only [Act.put, List.setIfInBounds_toArray, List.set_cons_zero, List.set_cons_succ]))
                    refine (HRX.out wr tR).mono ?_
                    rintro r wz ⟨rfl, ez⟩
                    rw [HXv.out]
                    go_wp2_with fail
                    go_ret
                    exact ⟨rfl, bR.trans (ez.mono bR.size)⟩
                · have q1 : decide (0 < n) = false := by simpa using hp
                  have HXv : Hid (rightE X = false) := by
                    show _ = _
                    rw [hX2, hbl]
                    simp
                    omega
                  clear hX2 hmo hth hn0 hbl
                  go_wp2_with (first
                    | ((with_reducible show wpList _ _ _ (⟨some 106, _, _, _, _, _⟩ :: _) _ _); refine wp_getG _ (by rfl) 24 (.tmp 14) rfl g14 0 (evc X) _ rfl VR.whole Tryd.underlying24 rfl zX ?_; simp only [Act.put, List.setIfInBounds_toArray, List.set_cons_zero, List.set_cons_succ]))
                  refine (HRX.out wr tR).mono ?_
                  rintro r wz ⟨rfl, ez⟩
                  rw [HXv.out]
                  go_wp2_with fail
                  go_ret
                  exact ⟨rfl, bR.trans (ez.mono bR.size)⟩
  · have hrf : rightE F = false := by simpa using hr
    rw [hrf] at RF
    have HRF := Lib.hid RF
    clear RF
    go_enter Tryd.func8, Tryd.ntmps8
    go_wp2_with (first
      | ((with_reducible show wpList _ _ _ (⟨some 4, _, _, _, _, _⟩ :: _) _ _); refine wp_box _ rfl 24 (.tmp 0) rfl (evc e) rfl ?_; intro w1 g4 hB1 hf1; simp only [Act.put, List.setIfInBounds_toArray, List.set_cons_zero, List.set_cons_succ]))
    have t1 := ht.kept hf1.below
    refine (shown_any w1 t1).mono ?_
    rintro r w3 ⟨rfl, e3⟩
    have B3 := hB1.kept e3
    have b3 := hf1.below.trans (e3.mono hf1.below.size)
    have t3 := t1.kept e3
    have hg4 : w.heap.size ≤ g4 := Nat.le_of_eq hf1.is.symm
    clear hB1 hf1 e3 t1
    go_wp2_with (first
      | ((with_reducible show wpList _ _ _ (⟨some 18, _, _, _, _, _⟩ :: _) _ _); refine wp_getG _ (by rfl) 24 (.tmp 4) rfl g4 0 (evc e) _ rfl B3.whole Tryd.underlying24 rfl z24 ?_; simp only [Act.put, List.setIfInBounds_toArray, List.set_cons_zero, List.set_cons_succ]))
    refine (HCU.out w3).mono ?_
    rintro r w4 ⟨rfl, e4⟩
    have B4 := B3.kept e4
    have b4 := b3.trans (e4.mono b3.size)
    have t4 := t3.kept e4
    clear B3 e4 b3 t3
    go_wp2_with (first
      | ((with_reducible show wpList _ _ _ (⟨none, .store 24 (.tmp 4) _, _, _, _, _⟩ :: _) _ _); refine wp_putAll _ rfl 24 (.tmp 4) (.tmp 19) rfl g4 24 _ (evc F) rfl rfl B4 hlF zF oF ?_; intro w5 B5 U5; simp only [Act.put])
      | ((with_reducible show wpList _ _ _ (⟨some 20, _, _, _, _, _⟩ :: _) _ _); refine wp_getG _ (by rfl) 24 (.tmp 4) rfl g4 0 (evc F) _ rfl B5.whole Tryd.underlying24 rfl zF ?_; simp only [Act.put, List.setIfInBounds_toArray, List.set_cons_zero, List.set_cons_succ]))
    have t5 : Tab w5 := t4.below (U5.below (B := 1) (by have := ht.1; omega)) (by omega)
    have b5 := b4.trans (U5.below hg4)
    clear B4 U5 t4 b4
    refine (HRF.out w5 t5).mono ?_
    rintro r w6 ⟨rfl, e6⟩
    have b6 := b5.trans (e6.mono b5.size)
    have t6 := t5.kept e6
    have B6 := B5.kept e6
    clear B5 e6 b5 t5
    go_wp2_with fail
    go_ret
    exact ⟨rfl, b6⟩
end Go.Proofs.YtjgcodnabgkjoaaDoor
