/-
  transeptlaw04.FrameLimits returns true, whatever it is called with, and turns nothing that was there. Condition: the table's cells hold what the program's text lays.
-/
import Derived.Test.YtknnncdmpfmgkaaDoorEdges
namespace Go.Proofs.YtknnncdmpfmgkaaDoor
open Go.RowKit

/-- What Join tells, but for the log. -/
def jerr (bs : List (List UInt8)) : Nat := if over bs = true then 5 else 0
theorem join_err (A : Option Addr) (n c : Nat) (bs : List (List UInt8)) (w : World) (ht : Tab w) (h : Rv w A n bs) (hf : Fine bs) :
    Calls Tryd.prog 18 #[.slice A n c] w fun e w' => ∃ v, e = .returned (.tuple #[v, .int .i64 (jerr bs)]) ∧ Below w.heap.size w w' := by
  refine (join_any A n c bs w ht h hf).mono ?_
  intro e w' h1
  unfold JoinEnd at h1
  unfold jerr
  split at h1
  · rename_i ho
    rw [if_pos ho]
    exact ⟨_, h1.1, h1.2⟩
  · rename_i ho
    rw [if_neg ho]
    obtain ⟨A', c', e1, _, e2⟩ := h1
    exact ⟨_, e1, e2⟩

set_option maxHeartbeats 800000 in
set_option maxRecDepth 100000 in
theorem limits_walk (a b : Int) (w : World) (ht : Tab w) :
    Calls Tryd.prog 8 #[.int .i64 a, .int .i64 b] w fun e w' => e = .returned (.bool true) ∧ Below w.heap.size w w' := by
  obtain ⟨x, hx, hx1⟩ : ∃ q : Nat, bits .and .i64 a 7 = (q : Int) ∧ q ≤ 7 := ⟨(a % 8).toNat, by rw [i64_and7]; omega, by omega⟩
  obtain ⟨y, hy, hy1⟩ : ∃ q : Nat, bits .and .i64 b 7 = (q : Int) ∧ q ≤ 7 := ⟨(b % 8).toNat, by rw [i64_and7]; omega, by omega⟩
  obtain ⟨N, hN⟩ : ∃ N, 4093 + x = N := ⟨_, rfl⟩
  obtain ⟨Z, hZ⟩ : ∃ N, 19997 + y = N := ⟨_, rfl⟩
  have eN : (4093 : Int) + (x : Int) = (N : Int) := by omega
  have eZ : (19997 : Int) + (y : Int) = (Z : Int) := by omega
  have hN1 : 4093 ≤ N := by omega
  have hN2 : N ≤ 4100 := by omega
  have hZ1 : 19997 ≤ Z := by omega
  have hZ2 : Z ≤ 20004 := by omega
  obtain ⟨M, hM⟩ : ∃ M, 5 * N = M := ⟨_, rfl⟩
  have eM : (5 : Int) * (N : Int) = (M : Int) := by omega
  have hMN := Lib.hid hM
  have hM2 : M ≤ 20500 := by omega
  clear hN hZ hM
  obtain ⟨i0, hi, hz, hi1, hi2⟩ := info_parts byte_info
  go_enter Tryd.func8, Tryd.ntmps8
  go_wp2_with fail
  refine (shown_any w ht).mono ?_
  rintro e w1 ⟨rfl, g1⟩
  go_wp2_with fail
  go_loopw [6, 8] (fun v i wr => ∃ k : Nat, k ≤ N ∧ i = .int .i64 k ∧ Rs wr w1.heap.size v (List.replicate k []) ∧ Below w1.heap.size w1 wr) (fun _ i _ => N - (intOf i).toNat)
  case atStart => exact ⟨0, by omega, rfl, Rs.nil _ _, Below.refl _ _⟩
  case round =>
    obtain ⟨k, hk, rfl, hR, hB⟩ := hrel
    obtain ⟨Ar, cr, rfl⟩ := hR.form
    rw [List.length_replicate]
    by_cases hlt : k < N
    · have hB' := hB.alloc hB.size (.cells #[.slice none 0 0] 22)
      have hR' := hR.below ((Below.refl _ _).alloc (Nat.le_refl _) (.cells #[.slice none 0 0] 22))
      have hc' := (Boxed.new wr 22 (.slice none 0 0)).cell
      have HR : Hid (List.replicate k ([] : List UInt8) ++ [[]] = List.replicate (k + 1) []) := by show _ = _; rw [List.replicate_succ']
      have hle : (List.replicate k ([] : List UInt8)).length = k := List.length_replicate
      rw [hle] at hR'
      go_wp2_with (at_builtin; refine wp_appR _ rfl (.tmp 32) (.tmp 33) rfl w1.heap.size _ (List.replicate k []) rfl hR' _ 1 none 0 [] rfl hc' (World.ownsRow_nil _ _ _ _) (by omega) (by have := hB.size; simp; omega) ?_; intro A5 c5 w5 r5 k5 b5; rw [hle])
      go_roundw
      case rel =>
        refine ⟨k + 1, by omega, by go_num, ?_, hB'.trans b5⟩
        rw [HR.out, hle] at r5
        exact r5
      case measure => simp [intOf]; omega
    · obtain rfl : k = N := by omega
      have GB : Below w.heap.size w wr := g1.trans (hB.mono g1.size)
      have hR0 := hR
      rw [List.length_replicate] at hR0
      clear hR hB
      obtain ⟨Ae, ce, e6, h6a, h6b, hv⟩ := hR0.view
      injection e6 with e6a e6b e6c
      subst e6a e6c
      rw [List.length_replicate] at hv
      clear e6b h6a h6b hR0
      go_wp2_with (at_make; refine wpList_make_full _ rfl _ _ 22 rfl wr.heap.size 5 i0 _ 1 Tryd.underlying22 hi hz hi1 .i64 .i64 _ _ M rfl rfl (by omega) (by omega) (by rw [hi2]; omega) (by unfold maxLen; omega) (Nat.le_refl _) ?_; intro w2 hown2 hgr2; rw [made_nought] at hown2)
      have g2 : Below wr.heap.size wr w2 := (Below.refl _ _).grown hgr2 (Nat.le_refl _) (fun k e => by cases e)
      have G2 : Below w.heap.size w w2 := GB.trans (g2.mono GB.size)
      have o2 : Own w2 wr.heap.size (.slice (some ⟨wr.heap.size, 0, none⟩) M M) M (nought M) := hown2
      have cv := run_str w2 _ _ M M (nought M) o2.view.2.2
      have hv2 := hv.below g2
      have hsM : (str (nought M)).size = M := by rw [str_size, nought_len]
      have hs4 : (ByteArray.mk #[84, 82, 78, 49]).size = 4 := rfl
      obtain ⟨LG, hLG⟩ : ∃ LG, join (List.replicate k []) = LG := ⟨_, rfl⟩
      have eS : ByteArray.mk #[84, 82, 78, 49] ++ str (nought M) = str LG := by
        rw [← hLG, join_empties, hMN.out, ← str_append]
        rfl
      have hLl : LG.length = 4 + M := by rw [← hLG, join_empties_len, hMN.out]
      have hsL : (str LG).size = 4 + M := by rw [str_size, hLl]
      have JE := join_err Ar k cr (List.replicate k []) w2 (ht.below G2) hv2 ⟨by rw [List.length_replicate]; omega, fun l hl => by rw [empty_mem hl]; omega⟩
      have HOV : Hid (over (List.replicate k []) = decide (4096 < k)) := over_empties k (by omega)
      have HL2 := Lib.hid hLG
      clear hown2 hgr2 o2 hv hv2 g2 GB hLG
      generalize str (nought M) = SM at *
      obtain ⟨RK, hRK⟩ : ∃ RK, List.replicate k ([] : List UInt8) = RK := ⟨_, rfl⟩
      rw [hRK] at JE HOV HL2
      have HRK := Lib.hid hRK
      clear hRK
      rw [cv]
      clear cv
      go_wp2_with fail
      refine JE.mono ?_
      rintro e w3 ⟨v3, rfl, g3⟩
      have G3 : Below w.heap.size w w3 := G2.trans (g3.mono G2.size)
      obtain ⟨c4, w4, hrun4, c4a, c4b, c4c, g4⟩ := conv_bytes w3 LG (by omega)
      have G4 : Below w.heap.size w w4 := G3.trans (g4.mono G3.size)
      have SP := splitL_any _ _ c4 LG w4 (ht.below G4) c4c c4a c4b (by omega)
      rw [hLl] at hrun4 SP
      clear JE g3 g4 G2 G3 c4a c4b c4c
      by_cases hbig : 4096 < k
      · have HJ5 : Hid (jerr RK = 5) := by show jerr RK = 5; unfold jerr; rw [HOV.out]; simp [hbig]
        have HSP : Hid (splitL LG = (List.replicate 4096 [], 20484, 5)) := by
          show splitL LG = _
          rw [← HL2.out, ← HRK.out, split_empties_many 4096 k rfl hbig (by omega)]
        rw [HSP.out] at SP
        rw [HJ5.out]
        have db : decide ((4096 : Int) < (k : Int)) = true := by simp; omega
        go_wp2_with fail
        with_reducible refine SP.mono ?_
        rintro e w5 ⟨v5, rfl, r5, g5⟩
        obtain ⟨A5, c5, rfl⟩ := r5.form
        have G5 : Below w.heap.size w w5 := G4.trans (g5.mono G4.size)
        rw [List.length_replicate]
        clear SP r5 g5 G4 hbig
        go_wp2_with (at_make; refine wpList_make_full _ rfl _ _ 22 rfl w5.heap.size 5 i0 _ 1 Tryd.underlying22 hi hz hi1 .i64 .i64 _ _ Z rfl rfl (by omega) (by omega) (by rw [hi2]; omega) (by unfold maxLen; omega) (Nat.le_refl _) ?_; intro w6 hown6 hgr6; rw [made_nought] at hown6)
        have g6 : Below w5.heap.size w5 w6 := (Below.refl _ _).grown hgr6 (Nat.le_refl _) (fun k e => by cases e)
        have G6 : Below w.heap.size w w6 := G5.trans (g6.mono G5.size)
        have o6 : Own w6 w5.heap.size (.slice (some ⟨w5.heap.size, 0, none⟩) Z Z) Z (nought Z) := hown6
        obtain ⟨o6a, o6b, o6c⟩ := o6.view
        clear hown6 hgr6 g6
        have hnZ := nought_len Z
        have JZ := join_err _ 1 1 [nought Z] _ ((ht.below G6).alloc _) (rv_one w6 _ (nought Z) Z Z hnZ o6a o6b o6c) ⟨by simp, fun l hl => by simp at hl; subst hl; omega⟩
        with_reducible refine JZ.mono ?_
        rintro e w7 ⟨v7, rfl, g7⟩
        have g7' : Below w6.heap.size w6 w7 := ((Below.refl _ _).alloc (Nat.le_refl _) _).trans (g7.mono (by simp))
        have G7 : Below w.heap.size w w7 := G6.trans (g7'.mono G6.size)
        have cz := run_str w7 _ _ Z Z (nought Z) (o6c.below g7')
        have RJ := refJoin_any _ 1 1 [nought Z] _ (sv_one w7 (nought Z)) ⟨by simp, fun l hl => by simp at hl; subst hl; omega⟩
        clear JZ g7 g7' o6 o6c G6
        go_wp2_with fail
        with_reducible refine RJ.mono ?_
        rintro e w8 ⟨rfl, g8⟩
        have G8 : Below w.heap.size w w8 := (G7.alloc G7.size _).trans (g8.mono (by have := G7.size; simp; omega))
        have hjZ : (join [nought Z]).length ≤ 20020 := by rw [join_one (nought Z) (by omega) (by omega)]; omega
        obtain ⟨c9, w9, hrun9, c9a, c9b, c9c, g9⟩ := conv_bytes w8 (join [nought Z]) (by omega)
        have G9 : Below w.heap.size w w9 := G8.trans (g9.mono G8.size)
        have SZ := splitL_any _ _ c9 (join [nought Z]) w9 (ht.below G9) c9c c9a c9b (by omega)
        clear RJ g8 g9 G7 cz c9a c9b c9c
        obtain ⟨ZJ, hZJ⟩ : ∃ z, (join [nought Z]).length = z := ⟨_, rfl⟩
        rw [hZJ] at hrun9 SZ hjZ
        by_cases hbz : 20000 < Z
        · have hoz := over_big (nought Z) (by omega)
          have HJE : Hid (jerr [nought Z] = 5) := by show jerr _ = 5; unfold jerr; rw [if_pos hoz]
          rw [split_big (nought Z) (by omega) (by omega)] at SZ
          rw [HJE.out]
          clear hZJ
          have dz : decide ((20000 : Int) < (Z : Int)) = true := by simp; omega
          clear hoz
          go_wp2_with fail
          with_reducible refine SZ.mono ?_
          rintro e w10 ⟨v10, rfl, r10, g10⟩
          obtain ⟨A10, c10, rfl⟩ := r10.form
          have G10 : Below w.heap.size w w10 := G9.trans (g10.mono G9.size)
          clear SZ r10 g10
          go_wp2_with fail
          go_ret
          exact ⟨rfl, G10⟩
        · have hoz : over [nought Z] = false := over_false (by simp) (fun l hl => by simp at hl; subst hl; omega) (by omega)
          have HJE : Hid (jerr [nought Z] = 0) := by show jerr _ = 0; unfold jerr; rw [if_neg (by simp [hoz])]
          rw [splitL_join (by simp) (fun l hl => by simp at hl; subst hl; omega) (by omega), hZJ] at SZ
          rw [HJE.out]
          clear hZJ
          have dz : decide ((20000 : Int) < (Z : Int)) = false := by simp; omega
          clear hoz
          go_wp2_with fail
          with_reducible refine SZ.mono ?_
          rintro e w10 ⟨v10, rfl, r10, g10⟩
          obtain ⟨A10, c10, rfl, r10a, r10b, r10c⟩ := r10.view
          have G10 : Below w.heap.size w w10 := G9.trans (g10.mono G9.size)
          obtain ⟨l0, bl, off, B0, cB0, hl0, rfl, hbl, hcell0, h4, h5, h6⟩ := r10c.at_ (i := 0) (by simp)
          have hl0' : l0 = nought Z := by simpa using hl0.symm
          subst hl0'
          rw [hnZ] at hcell0
          rw [show ([nought Z] : List (List UInt8)).length = 1 from rfl] at *
          simp only [Nat.add_zero] at hcell0
          have hix := index24 w10 bl off 1 c10 0 (by omega)
          simp only [Nat.add_zero] at hix
          clear SZ r10 r10c g10 h6
          go_wp2_with fail
          go_ret
          exact ⟨rfl, G10⟩
      · have HJ5 : Hid (jerr RK = 0) := by show jerr RK = 0; unfold jerr; rw [HOV.out]; simp [hbig]
        have HSP : Hid (splitL LG = (List.replicate k [], 4 + M, 0)) := by
          show splitL LG = _
          rw [← HL2.out, ← HRK.out, split_empties k (by omega), hMN.out]
        rw [HSP.out] at SP
        rw [HJ5.out]
        have db : decide ((4096 : Int) < (k : Int)) = false := by simp; omega
        go_wp2_with fail
        with_reducible refine SP.mono ?_
        rintro e w5 ⟨v5, rfl, r5, g5⟩
        obtain ⟨A5, c5, rfl⟩ := r5.form
        have G5 : Below w.heap.size w w5 := G4.trans (g5.mono G4.size)
        rw [List.length_replicate]
        clear SP r5 g5 G4 hbig
        go_wp2_with (at_make; refine wpList_make_full _ rfl _ _ 22 rfl w5.heap.size 5 i0 _ 1 Tryd.underlying22 hi hz hi1 .i64 .i64 _ _ Z rfl rfl (by omega) (by omega) (by rw [hi2]; omega) (by unfold maxLen; omega) (Nat.le_refl _) ?_; intro w6 hown6 hgr6; rw [made_nought] at hown6)
        have g6 : Below w5.heap.size w5 w6 := (Below.refl _ _).grown hgr6 (Nat.le_refl _) (fun k e => by cases e)
        have G6 : Below w.heap.size w w6 := G5.trans (g6.mono G5.size)
        have o6 : Own w6 w5.heap.size (.slice (some ⟨w5.heap.size, 0, none⟩) Z Z) Z (nought Z) := hown6
        obtain ⟨o6a, o6b, o6c⟩ := o6.view
        clear hown6 hgr6 g6
        have hnZ := nought_len Z
        have JZ := join_err _ 1 1 [nought Z] _ ((ht.below G6).alloc _) (rv_one w6 _ (nought Z) Z Z hnZ o6a o6b o6c) ⟨by simp, fun l hl => by simp at hl; subst hl; omega⟩
        with_reducible refine JZ.mono ?_
        rintro e w7 ⟨v7, rfl, g7⟩
        have g7' : Below w6.heap.size w6 w7 := ((Below.refl _ _).alloc (Nat.le_refl _) _).trans (g7.mono (by simp))
        have G7 : Below w.heap.size w w7 := G6.trans (g7'.mono G6.size)
        have cz := run_str w7 _ _ Z Z (nought Z) (o6c.below g7')
        have RJ := refJoin_any _ 1 1 [nought Z] _ (sv_one w7 (nought Z)) ⟨by simp, fun l hl => by simp at hl; subst hl; omega⟩
        clear JZ g7 g7' o6 o6c G6
        go_wp2_with fail
        with_reducible refine RJ.mono ?_
        rintro e w8 ⟨rfl, g8⟩
        have G8 : Below w.heap.size w w8 := (G7.alloc G7.size _).trans (g8.mono (by have := G7.size; simp; omega))
        have hjZ : (join [nought Z]).length ≤ 20020 := by rw [join_one (nought Z) (by omega) (by omega)]; omega
        obtain ⟨c9, w9, hrun9, c9a, c9b, c9c, g9⟩ := conv_bytes w8 (join [nought Z]) (by omega)
        have G9 : Below w.heap.size w w9 := G8.trans (g9.mono G8.size)
        have SZ := splitL_any _ _ c9 (join [nought Z]) w9 (ht.below G9) c9c c9a c9b (by omega)
        clear RJ g8 g9 G7 cz c9a c9b c9c
        obtain ⟨ZJ, hZJ⟩ : ∃ z, (join [nought Z]).length = z := ⟨_, rfl⟩
        rw [hZJ] at hrun9 SZ hjZ
        by_cases hbz : 20000 < Z
        · have hoz := over_big (nought Z) (by omega)
          have HJE : Hid (jerr [nought Z] = 5) := by show jerr _ = 5; unfold jerr; rw [if_pos hoz]
          rw [split_big (nought Z) (by omega) (by omega)] at SZ
          rw [HJE.out]
          clear hZJ
          have dz : decide ((20000 : Int) < (Z : Int)) = true := by simp; omega
          clear hoz
          go_wp2_with fail
          with_reducible refine SZ.mono ?_
          rintro e w10 ⟨v10, rfl, r10, g10⟩
          obtain ⟨A10, c10, rfl⟩ := r10.form
          have G10 : Below w.heap.size w w10 := G9.trans (g10.mono G9.size)
          clear SZ r10 g10
          go_wp2_with fail
          go_ret
          exact ⟨rfl, G10⟩
        · have hoz : over [nought Z] = false := over_false (by simp) (fun l hl => by simp at hl; subst hl; omega) (by omega)
          have HJE : Hid (jerr [nought Z] = 0) := by show jerr _ = 0; unfold jerr; rw [if_neg (by simp [hoz])]
          rw [splitL_join (by simp) (fun l hl => by simp at hl; subst hl; omega) (by omega), hZJ] at SZ
          rw [HJE.out]
          clear hZJ
          have dz : decide ((20000 : Int) < (Z : Int)) = false := by simp; omega
          clear hoz
          go_wp2_with fail
          with_reducible refine SZ.mono ?_
          rintro e w10 ⟨v10, rfl, r10, g10⟩
          obtain ⟨A10, c10, rfl, r10a, r10b, r10c⟩ := r10.view
          have G10 : Below w.heap.size w w10 := G9.trans (g10.mono G9.size)
          obtain ⟨l0, bl, off, B0, cB0, hl0, rfl, hbl, hcell0, h4, h5, h6⟩ := r10c.at_ (i := 0) (by simp)
          have hl0' : l0 = nought Z := by simpa using hl0.symm
          subst hl0'
          rw [hnZ] at hcell0
          rw [show ([nought Z] : List (List UInt8)).length = 1 from rfl] at *
          simp only [Nat.add_zero] at hcell0
          have hix := index24 w10 bl off 1 c10 0 (by omega)
          simp only [Nat.add_zero] at hix
          clear SZ r10 r10c g10 h6
          go_wp2_with fail
          go_ret
          exact ⟨rfl, G10⟩
end Go.Proofs.YtknnncdmpfmgkaaDoor
