/-
  transeptlaw04.FrameLong returns true, whatever it is called with, and turns nothing that was there. Condition: the table's cells hold what the program's text lays.
-/
import Derived.Test.YtknnncdmpfmgkaaDoorSteps
namespace Go.Proofs.YtknnncdmpfmgkaaDoor
open Go.RowKit

set_option maxHeartbeats 2000000 in
set_option maxRecDepth 100000 in
theorem long_walk (a b : Int) (w : World) (ht : Tab w) :
    Calls Tryd.prog 9 #[.int .i64 a, .int .i64 b] w fun e w' => e = .returned (.bool true) ∧ Below w.heap.size w w' := by
  obtain ⟨x, hx, hx1⟩ : ∃ q : Nat, bits .and .i64 a 7 = (q : Int) ∧ q ≤ 7 := ⟨(a % 8).toNat, by rw [i64_and7]; omega, by omega⟩
  obtain ⟨k3, hk3, hk31⟩ : ∃ q : Nat, bits .and .i64 b 3 = (q : Int) ∧ q ≤ 3 := ⟨(b % 4).toNat, by rw [i64_and3]; omega, by omega⟩
  obtain ⟨L, hL⟩ : ∃ L, 8198 + x = L := ⟨_, rfl⟩
  have eL : (8198 : Int) + (x : Int) = (L : Int) := by omega
  have hL1 : 8198 ≤ L := by omega
  have hL2 : L ≤ 8205 := by omega
  clear hL
  obtain ⟨Zb, hZb⟩ : ∃ Z, nought 20000 = Z := ⟨_, rfl⟩
  have hz : Zb.length = 20000 := by rw [← hZb, nought_len]
  have hnL := nought_len L
  obtain ⟨i0, hi, hz0, hi1, hi2⟩ := info_parts byte_info
  go_enter Tryd.func9, Tryd.ntmps9
  go_wp2_with fail
  refine (shown_any w ht).mono ?_
  rintro e w1 ⟨rfl, g1⟩
  go_wp2_with (at_make; refine wpList_make_full _ rfl _ _ 22 rfl w1.heap.size 5 i0 _ 1 Tryd.underlying22 hi hz0 hi1 .i64 .i64 _ _ 20000 rfl rfl rfl rfl (by rw [hi2]; omega) (by unfold maxLen; omega) (Nat.le_refl _) ?_; intro w2 hown2 hgr2; rw [made_nought 20000, hZb] at hown2)
  have o2 : Own w2 w1.heap.size (.slice (some ⟨w1.heap.size, 0, none⟩) 20000 20000) 20000 Zb := hown2
  have g2 : Below w1.heap.size w1 w2 := Below.of_none hgr2
  clear hown2 hgr2 hZb
  go_loopw [6, 8] (fun v i wr => ∃ k : Nat, k ≤ 52 ∧ i = .int .i64 k ∧ Rs wr w1.heap.size v (bodies Zb k) ∧ Own wr w1.heap.size (.slice (some ⟨w1.heap.size, 0, none⟩) 20000 20000) 20000 Zb ∧ Below w1.heap.size w1 wr) (fun _ i _ => 52 - (intOf i).toNat)
  case atStart => exact ⟨0, by omega, rfl, Rs.nil _ _, o2, g2⟩
  case round =>
    obtain ⟨k, hk, rfl, hR, hO, hB⟩ := hrel
    clear o2 g2
    obtain ⟨Ar, cr, rfl⟩ := hR.form
    have hle : (bodies Zb k).length = k := by rw [bodies, List.length_replicate]
    rw [hle] at hR ⊢
    by_cases hlt : k < 52
    · have hlt' : (k : Int) < 52 := by omega
      have hB' := hB.alloc hB.size (.cells #[.slice (some ⟨w1.heap.size, 0, none⟩) 20000 20000] 22)
      have hR' := hR.below ((Below.refl _ _).alloc (Nat.le_refl _) (.cells #[.slice (some ⟨w1.heap.size, 0, none⟩) 20000 20000] 22))
      have hO' : Own (wr.alloc (.cells #[.slice (some ⟨w1.heap.size, 0, none⟩) 20000 20000] 22)) w1.heap.size (.slice (some ⟨w1.heap.size, 0, none⟩) Zb.length 20000) Zb.length Zb := by rw [hz]; exact hO.alloc _
      have hc' : (wr.alloc (.cells #[.slice (some ⟨w1.heap.size, 0, none⟩) 20000 20000] 22)).cell? ⟨wr.heap.size, 0, none⟩ = some (.slice (some ⟨w1.heap.size, 0, none⟩) Zb.length 20000) := by rw [hz]; exact (Boxed.new wr 22 _).cell
      have HR : Hid (bodies Zb k ++ [Zb] = bodies Zb (k + 1)) := by show _ = _; unfold bodies; rw [List.replicate_succ']
      go_wp2_with (at_builtin; refine wp_appR _ rfl (.tmp 27) (.tmp 29) rfl w1.heap.size _ (bodies Zb k) rfl hR' _ 1 _ 20000 Zb rfl hc' hO' (by omega) (by have := hB.size; simp; omega) ?_; intro A5 c5 w5 r5 k5 b5; rw [hle])
      go_roundw
      case rel =>
        refine ⟨k + 1, by omega, by go_num, ?_, ?_, hB'.trans b5⟩
        · rw [HR.out, hle] at r5
          exact r5
        · have := hO'.but k5 (by decide)
          rwa [hz] at this
      case measure => simp [intOf]; omega
    · obtain rfl : k = 52 := by omega
      have GB : Below w.heap.size w wr := g1.trans (hB.mono g1.size)
      obtain ⟨vs, hrow, h2⟩ := hR
      rw [hle] at hrow
      have hvs : vs.length = 52 := by have := hrow.1; omega
      obtain ⟨gl, rfl⟩ : ∃ g, Ar = some ⟨g, 0, none⟩ := by
        rcases hrow.2 with ⟨_, e2⟩ | ⟨g, cap, cur, e, _⟩
        · omega
        · injection e with e1
          exact ⟨g, e1⟩
      have hone : ∀ u ∈ vs, u.oneCell' = true := fun u hu => by
        obtain ⟨i, hi', rfl⟩ := List.mem_iff_getElem.1 hu
        obtain ⟨A, c, h3, _⟩ := h2 i Zb (by rw [bodies, List.getElem?_replicate]; rw [if_pos (by omega)])
        rw [List.getElem?_eq_getElem hi'] at h3
        injection h3 with h3
        rw [h3]
        rfl
      have HO := Lib.hid hone
      have H2 := Lib.hid h2
      clear hone h2 hO hlt hk
      have JX : Hid (jerr (bodies Zb 52 ++ [nought L]) = if 8202 < L then 5 else 0) := by
        show jerr _ = _
        unfold jerr
        rw [bodies_over hz (by omega) (by omega), hnL]
        simp
      obtain ⟨je, hje⟩ : ∃ j, (if 8202 < L then 5 else 0) = j := ⟨_, rfl⟩
      rw [hje] at JX
      have HJE := Lib.hid hje
      clear hje
      go_wp2_with fail
      refine Code.wp_mono (Q := fun e a' W => e = .normal ∧ (∃ y y37 y39 y41 y42 y43 : Value, a' = { tmps := #[.int .i64 L, .int .i64 b, undef, undef, .bool false, .bool true, .slice (some ⟨gl, 0, none⟩) 52 cr, .slice (some ⟨w1.heap.size, 0, none⟩) 20000 20000, .int .i64 ((52 : Nat) : Int), .int .i64 8202, y, .int .i64 je, undef, undef, undef, undef, undef, undef, undef, undef, undef, .bool true, .slice (some ⟨w1.heap.size, 0, none⟩) 20000 20000, .int .i64 ((52 : Nat) : Int), .bool false, u25, u26, u27, u28, u29, u30, .int .i64 8202, .int .i64 8198, .int .i64 a, .int .i64 x, .int .i64 L, .tuple #[y, .int .i64 je], y37, .slice (some ⟨gl, 0, none⟩) 52 cr, y39, .int .i64 L, y41, y42, y43, .tuple #[y, .int .i64 je], y, .int .i64 je, undef, undef, undef, undef, undef, undef, undef, undef, undef, undef, undef, undef, undef, undef, undef, undef, undef, undef, undef, undef, undef, undef, undef, undef, undef, undef, undef, undef, undef, undef, undef, undef, undef, undef, undef, undef, undef, undef, undef, undef, undef, undef, undef, undef, undef, undef, undef, undef, undef, undef, undef, undef, undef, undef, undef, undef, undef, undef, undef, undef, undef, undef, undef, undef, undef, undef, undef, undef, undef, undef, undef, undef, undef, undef, undef, undef, undef, undef, undef, undef, undef, undef, undef, undef, undef, undef, undef, undef, undef, undef, undef, undef, undef, undef], defers := [] }) ∧ Kept wr W) ?imp10 ?reg10
      case reg10 =>
        refine wp_region_held_drew (S := Kept wr) (by kernel_rfl) (Kept.refl wr).drew (fun hS => ?_)
        revert hS
        generalize wr.drew = X0
        intro hS
        have hb : Below X0.heap.size X0 X0 := Below.refl _ _
        refine wpAnyH_take (i := 1) (oi := ⟨some 38, _, _, _, _, _⟩) (v := ?va1) rfl (by kernel_rfl) (by kernel_rfl) (by kernel_rfl) (fun _ _ _ h => by cases h.1) (Or.inl ⟨by rfl, ?ya1⟩) hS ?ra1
        case ya1 => intro W hW; go_simp; first | done | with_reducible rfl
        simp only [Act.put, List.setIfInBounds_toArray, List.set_cons_zero, List.set_cons_succ]
        refine wpAnyH_take (i := 3) (oi := ⟨some 40, _, _, _, _, _⟩) (v := ?va3) rfl (by kernel_rfl) (by kernel_rfl) (by kernel_rfl) (fun _ _ _ h => by cases h.1) (Or.inl ⟨by rfl, ?ya3⟩) hS ?ra3
        case ya3 => intro W hW; go_simp; first | done | with_reducible rfl
        simp only [Act.put, List.setIfInBounds_toArray, List.set_cons_zero, List.set_cons_succ]
        refine wpAnyH_ready (rs := [0, 4]) (by kernel_rfl) (by simp) ?_
        refine (AllReadyH.cons (o := ⟨some 37, _, _, _, _, _⟩) rfl (fun K hK => ?_) (AllReadyH.cons (o := ⟨some 41, _, _, _, _, _⟩) rfl (fun K hK => ?_) AllReadyH.nil))
        · skip
          go_simp
          have al : Below X0.heap.size X0 (X0.alloc (.cells #[] 22)) := (Below.refl _ _).alloc (Nat.le_refl _) _
          have f0 := rows_empty X0 X0.heap.size hb.size
          have hb := hb.trans (al.mono hb.size)
          clear al
          generalize X0.alloc (.cells #[] 22) = V1 at *
          have kk : Kept wr V1 := Below.trans hS (hb.mono hS.size)
          refine hK.out _ _ kk (fun _ => ?_)
          clear hK K
          try simp only [Act.put, List.setIfInBounds_toArray, List.set_cons_zero, List.set_cons_succ]
          clear kk
          refine wpAnyH_ready (rs := [2, 4]) (by kernel_rfl) (by simp) ?_
          refine (AllReadyH.cons (o := ⟨some 39, _, _, _, _, _⟩) rfl (fun K hK => ?_) (AllReadyH.cons (o := ⟨some 41, _, _, _, _, _⟩) rfl (fun K hK => ?_) AllReadyH.nil))
          · skip
            have kk : Kept wr V1 := Below.trans hS (hb.mono hS.size)
            refine step_appRs _ rfl (.tmp 37) (.tmp 38) rfl X0.heap.size (.slice (some ⟨X0.heap.size, 0, none⟩) 0 0) rfl f0 w1.heap.size gl 52 cr vs rfl (row_below hrow kk) HO.out (by omega) hb.size ?_
            intro v2 V2 f2 hg2
            have hb := hb.grown hg2 hb.size (fun b e => (row_block f0 e).1)
            clear f0 hg2 kk
            obtain ⟨A2, c2, rfl⟩ := row_form f2
            have kk : Kept wr V2 := Below.trans hS (hb.mono hS.size)
            refine hK.out _ _ kk (fun _ => ?_)
            clear hK K
            try simp only [Act.put, List.setIfInBounds_toArray, List.set_cons_zero, List.set_cons_succ]
            clear kk
            refine wpAnyH_ready (rs := [4]) (by kernel_rfl) (by simp) ?_
            refine (AllReadyH.cons (o := ⟨some 41, _, _, _, _, _⟩) rfl (fun K hK => ?_) AllReadyH.nil)
            refine step_make _ rfl (.tmp 40) (.tmp 40) rfl L rfl rfl (by omega) ?_
            intro V3 f4 hb4 hlt4
            have f4 := f4.down hb.size
            have f2 := row_below f2 hb4
            have hb := hb.trans (hb4.mono hb.size)
            clear hb4 hlt4
            have kk : Kept wr V3 := Below.trans hS (hb.mono hS.size)
            refine hK.out _ _ kk (fun _ => ?_)
            clear hK K
            try simp only [Act.put, List.setIfInBounds_toArray, List.set_cons_zero, List.set_cons_succ]
            clear kk
            refine wpAnyH_ready (rs := [5]) (by kernel_rfl) (by simp) ?_
            refine (AllReadyH.cons (o := ⟨some 42, _, _, _, _, _⟩) rfl (fun K hK => ?_) AllReadyH.nil)
            go_simp
            have al : Below V3.heap.size V3 (V3.alloc (.cells #[.slice (some ⟨V2.heap.size, 0, none⟩) L L] 22)) := (Below.refl _ _).alloc (Nat.le_refl _) _
            have f5 := Boxed.new V3 22 (.slice (some ⟨V2.heap.size, 0, none⟩) L L)
            have f4 := f4.alloc (.cells #[.slice (some ⟨V2.heap.size, 0, none⟩) L L] 22)
            have f2 := row_below f2 al
            have hb := hb.trans (al.mono hb.size)
            clear al
            generalize V3.alloc (.cells #[.slice (some ⟨V2.heap.size, 0, none⟩) L L] 22) = V4 at *
            have kk : Kept wr V4 := Below.trans hS (hb.mono hS.size)
            refine hK.out _ _ kk (fun _ => ?_)
            clear hK K
            try simp only [Act.put, List.setIfInBounds_toArray, List.set_cons_zero, List.set_cons_succ]
            clear kk
            refine wpAnyH_ready (rs := [6]) (by kernel_rfl) (by simp) ?_
            refine (AllReadyH.cons (o := ⟨some 43, _, _, _, _, _⟩) rfl (fun K hK => ?_) AllReadyH.nil)
            refine step_appR _ rfl (.tmp 39) (.tmp 42) rfl X0.heap.size _ 52 vs rfl f2 _ 1 _ L L rfl f5.cell (by omega) hb.size ?_
            intro v6 W6 f6 hg6
            have o4 := f4.but (KeepsBut.of_row f2 hg6) (by decide)
            have hb6 : Below X0.heap.size X0 W6 := hb.grown hg6 hb.size (fun b e => (row_block f2 e).1)
            have k6 : Kept wr W6 := Below.trans hS (hb6.mono hS.size)
            obtain ⟨A6, c6, rfl⟩ := row_form f6
            refine hK.out _ _ k6 (fun _ => ?_)
            clear hK K
            try simp only [Act.put, List.setIfInBounds_toArray, List.set_cons_zero, List.set_cons_succ]
            refine wpAnyH_ready (rs := [7]) (by kernel_rfl) (by simp) ?_
            refine (AllReadyH.cons (o := ⟨some 44, _, _, _, _, _⟩) rfl (fun K hK => ?_) AllReadyH.nil)
            go_simp
            have JC := join_err A6 53 c6 (bodies Zb 52 ++ [nought L]) W6 (ht.below (GB.trans (Below.mono k6 GB.size))) (long_rv H2.out hvs k6 o4 f6) (bodies_fine hz (by omega))
            rw [JX.out] at JC
            with_reducible refine JC.mono ?_
            rintro e W7 ⟨v7, rfl, g7⟩
            have k7 := k6.step g7
            refine hK.out _ _ k7 (fun _ => ?_)
            clear hK K
            try simp only [Act.put, List.setIfInBounds_toArray, List.set_cons_zero, List.set_cons_succ]
            refine wpAnyH_take (i := 8) (oi := ⟨some 36, _, _, _, _, _⟩) (v := ?ve58) rfl (by kernel_rfl) (by kernel_rfl) (by kernel_rfl) (fun _ _ _ h => by cases h.1) (Or.inl ⟨by rfl, ?ye58⟩) k7 ?re58
            case ye58 => intro W hW; go_simp; first | done | with_reducible rfl
            simp only [Act.put, List.setIfInBounds_toArray, List.set_cons_zero, List.set_cons_succ]
            refine wpAnyH_take (i := 9) (oi := ⟨some 45, _, _, _, _, _⟩) (v := ?ve59) rfl (by kernel_rfl) (by kernel_rfl) (by kernel_rfl) (fun _ _ _ h => by cases h.1) (Or.inl ⟨by rfl, ?ye59⟩) k7 ?re59
            case ye59 => intro W hW; go_simp; first | done | with_reducible rfl
            simp only [Act.put, List.setIfInBounds_toArray, List.set_cons_zero, List.set_cons_succ]
            refine wpAnyH_take (i := 10) (oi := ⟨some 46, _, _, _, _, _⟩) (v := ?ve510) rfl (by kernel_rfl) (by kernel_rfl) (by kernel_rfl) (fun _ _ _ h => by cases h.1) (Or.inl ⟨by rfl, ?ye510⟩) k7 ?re510
            case ye510 => intro W hW; go_simp; first | done | with_reducible rfl
            simp only [Act.put, List.setIfInBounds_toArray, List.set_cons_zero, List.set_cons_succ]
            refine wpAnyH_take (i := 11) (oi := ⟨some 10, _, _, _, _, _⟩) (v := ?ve511) rfl (by kernel_rfl) (by kernel_rfl) (by kernel_rfl) (fun _ _ _ h => by cases h.1) (Or.inl ⟨by rfl, ?ye511⟩) k7 ?re511
            case ye511 => intro W hW; go_simp; first | done | with_reducible rfl
            simp only [Act.put, List.setIfInBounds_toArray, List.set_cons_zero, List.set_cons_succ]
            refine wpAnyH_take (i := 12) (oi := ⟨some 11, _, _, _, _, _⟩) (v := ?ve512) rfl (by kernel_rfl) (by kernel_rfl) (by kernel_rfl) (fun _ _ _ h => by cases h.1) (Or.inl ⟨by rfl, ?ye512⟩) k7 ?re512
            case ye512 => intro W hW; go_simp; first | done | with_reducible rfl
            simp only [Act.put, List.setIfInBounds_toArray, List.set_cons_zero, List.set_cons_succ]
            exact wpAnyH_done (by kernel_rfl) ⟨rfl, ⟨_, _, _, _, _, _, rfl⟩, k7⟩ _
          · skip
            refine step_make _ rfl (.tmp 40) (.tmp 40) rfl L rfl rfl (by omega) ?_
            intro V6 f4 hb4 hlt4
            have f4 := f4.down hb.size
            have f0 := row_below f0 hb4
            have hb := hb.trans (hb4.mono hb.size)
            clear hb4 hlt4
            have kk : Kept wr V6 := Below.trans hS (hb.mono hS.size)
            refine hK.out _ _ kk (fun _ => ?_)
            clear hK K
            try simp only [Act.put, List.setIfInBounds_toArray, List.set_cons_zero, List.set_cons_succ]
            clear kk
            refine wpAnyH_ready (rs := [2, 5]) (by kernel_rfl) (by simp) ?_
            refine (AllReadyH.cons (o := ⟨some 39, _, _, _, _, _⟩) rfl (fun K hK => ?_) (AllReadyH.cons (o := ⟨some 42, _, _, _, _, _⟩) rfl (fun K hK => ?_) AllReadyH.nil))
            · skip
              have kk : Kept wr V6 := Below.trans hS (hb.mono hS.size)
              refine step_appRs _ rfl (.tmp 37) (.tmp 38) rfl X0.heap.size (.slice (some ⟨X0.heap.size, 0, none⟩) 0 0) rfl f0 w1.heap.size gl 52 cr vs rfl (row_below hrow kk) HO.out (by omega) hb.size ?_
              intro v2 V7 f2 hg2
              have f4 := f4.but (KeepsBut.of_row f0 hg2) (by decide)
              have hb := hb.grown hg2 hb.size (fun b e => (row_block f0 e).1)
              clear f0 hg2 kk
              obtain ⟨A2, c2, rfl⟩ := row_form f2
              have kk : Kept wr V7 := Below.trans hS (hb.mono hS.size)
              refine hK.out _ _ kk (fun _ => ?_)
              clear hK K
              try simp only [Act.put, List.setIfInBounds_toArray, List.set_cons_zero, List.set_cons_succ]
              clear kk
              refine wpAnyH_ready (rs := [5]) (by kernel_rfl) (by simp) ?_
              refine (AllReadyH.cons (o := ⟨some 42, _, _, _, _, _⟩) rfl (fun K hK => ?_) AllReadyH.nil)
              go_simp
              have al : Below V7.heap.size V7 (V7.alloc (.cells #[.slice (some ⟨V1.heap.size, 0, none⟩) L L] 22)) := (Below.refl _ _).alloc (Nat.le_refl _) _
              have f5 := Boxed.new V7 22 (.slice (some ⟨V1.heap.size, 0, none⟩) L L)
              have f4 := f4.alloc (.cells #[.slice (some ⟨V1.heap.size, 0, none⟩) L L] 22)
              have f2 := row_below f2 al
              have hb := hb.trans (al.mono hb.size)
              clear al
              generalize V7.alloc (.cells #[.slice (some ⟨V1.heap.size, 0, none⟩) L L] 22) = V8 at *
              have kk : Kept wr V8 := Below.trans hS (hb.mono hS.size)
              refine hK.out _ _ kk (fun _ => ?_)
              clear hK K
              try simp only [Act.put, List.setIfInBounds_toArray, List.set_cons_zero, List.set_cons_succ]
              clear kk
              refine wpAnyH_ready (rs := [6]) (by kernel_rfl) (by simp) ?_
              refine (AllReadyH.cons (o := ⟨some 43, _, _, _, _, _⟩) rfl (fun K hK => ?_) AllReadyH.nil)
              refine step_appR _ rfl (.tmp 39) (.tmp 42) rfl X0.heap.size _ 52 vs rfl f2 _ 1 _ L L rfl f5.cell (by omega) hb.size ?_
              intro v6 W6 f6 hg6
              have o4 := f4.but (KeepsBut.of_row f2 hg6) (by decide)
              have hb6 : Below X0.heap.size X0 W6 := hb.grown hg6 hb.size (fun b e => (row_block f2 e).1)
              have k6 : Kept wr W6 := Below.trans hS (hb6.mono hS.size)
              obtain ⟨A6, c6, rfl⟩ := row_form f6
              refine hK.out _ _ k6 (fun _ => ?_)
              clear hK K
              try simp only [Act.put, List.setIfInBounds_toArray, List.set_cons_zero, List.set_cons_succ]
              refine wpAnyH_ready (rs := [7]) (by kernel_rfl) (by simp) ?_
              refine (AllReadyH.cons (o := ⟨some 44, _, _, _, _, _⟩) rfl (fun K hK => ?_) AllReadyH.nil)
              go_simp
              have JC := join_err A6 53 c6 (bodies Zb 52 ++ [nought L]) W6 (ht.below (GB.trans (Below.mono k6 GB.size))) (long_rv H2.out hvs k6 o4 f6) (bodies_fine hz (by omega))
              rw [JX.out] at JC
              with_reducible refine JC.mono ?_
              rintro e W7 ⟨v7, rfl, g7⟩
              have k7 := k6.step g7
              refine hK.out _ _ k7 (fun _ => ?_)
              clear hK K
              try simp only [Act.put, List.setIfInBounds_toArray, List.set_cons_zero, List.set_cons_succ]
              refine wpAnyH_take (i := 8) (oi := ⟨some 36, _, _, _, _, _⟩) (v := ?ve98) rfl (by kernel_rfl) (by kernel_rfl) (by kernel_rfl) (fun _ _ _ h => by cases h.1) (Or.inl ⟨by rfl, ?ye98⟩) k7 ?re98
              case ye98 => intro W hW; go_simp; first | done | with_reducible rfl
              simp only [Act.put, List.setIfInBounds_toArray, List.set_cons_zero, List.set_cons_succ]
              refine wpAnyH_take (i := 9) (oi := ⟨some 45, _, _, _, _, _⟩) (v := ?ve99) rfl (by kernel_rfl) (by kernel_rfl) (by kernel_rfl) (fun _ _ _ h => by cases h.1) (Or.inl ⟨by rfl, ?ye99⟩) k7 ?re99
              case ye99 => intro W hW; go_simp; first | done | with_reducible rfl
              simp only [Act.put, List.setIfInBounds_toArray, List.set_cons_zero, List.set_cons_succ]
              refine wpAnyH_take (i := 10) (oi := ⟨some 46, _, _, _, _, _⟩) (v := ?ve910) rfl (by kernel_rfl) (by kernel_rfl) (by kernel_rfl) (fun _ _ _ h => by cases h.1) (Or.inl ⟨by rfl, ?ye910⟩) k7 ?re910
              case ye910 => intro W hW; go_simp; first | done | with_reducible rfl
              simp only [Act.put, List.setIfInBounds_toArray, List.set_cons_zero, List.set_cons_succ]
              refine wpAnyH_take (i := 11) (oi := ⟨some 10, _, _, _, _, _⟩) (v := ?ve911) rfl (by kernel_rfl) (by kernel_rfl) (by kernel_rfl) (fun _ _ _ h => by cases h.1) (Or.inl ⟨by rfl, ?ye911⟩) k7 ?re911
              case ye911 => intro W hW; go_simp; first | done | with_reducible rfl
              simp only [Act.put, List.setIfInBounds_toArray, List.set_cons_zero, List.set_cons_succ]
              refine wpAnyH_take (i := 12) (oi := ⟨some 11, _, _, _, _, _⟩) (v := ?ve912) rfl (by kernel_rfl) (by kernel_rfl) (by kernel_rfl) (fun _ _ _ h => by cases h.1) (Or.inl ⟨by rfl, ?ye912⟩) k7 ?re912
              case ye912 => intro W hW; go_simp; first | done | with_reducible rfl
              simp only [Act.put, List.setIfInBounds_toArray, List.set_cons_zero, List.set_cons_succ]
              exact wpAnyH_done (by kernel_rfl) ⟨rfl, ⟨_, _, _, _, _, _, rfl⟩, k7⟩ _
            · skip
              go_simp
              have al : Below V6.heap.size V6 (V6.alloc (.cells #[.slice (some ⟨V1.heap.size, 0, none⟩) L L] 22)) := (Below.refl _ _).alloc (Nat.le_refl _) _
              have f5 := Boxed.new V6 22 (.slice (some ⟨V1.heap.size, 0, none⟩) L L)
              have f4 := f4.alloc (.cells #[.slice (some ⟨V1.heap.size, 0, none⟩) L L] 22)
              have hne : V6.heap.size ≠ _ := Nat.ne_of_gt (World.ownsRow.lt f0 _ rfl).2
              have f0 := row_below f0 al
              have hb := hb.trans (al.mono hb.size)
              clear al
              generalize V6.alloc (.cells #[.slice (some ⟨V1.heap.size, 0, none⟩) L L] 22) = V10 at *
              have kk : Kept wr V10 := Below.trans hS (hb.mono hS.size)
              refine hK.out _ _ kk (fun _ => ?_)
              clear hK K
              try simp only [Act.put, List.setIfInBounds_toArray, List.set_cons_zero, List.set_cons_succ]
              clear kk
              refine wpAnyH_ready (rs := [2]) (by kernel_rfl) (by simp) ?_
              refine (AllReadyH.cons (o := ⟨some 39, _, _, _, _, _⟩) rfl (fun K hK => ?_) AllReadyH.nil)
              have kk : Kept wr V10 := Below.trans hS (hb.mono hS.size)
              refine step_appRs _ rfl (.tmp 37) (.tmp 38) rfl X0.heap.size (.slice (some ⟨X0.heap.size, 0, none⟩) 0 0) rfl f0 w1.heap.size gl 52 cr vs rfl (row_below hrow kk) HO.out (by omega) hb.size ?_
              intro v2 V11 f2 hg2
              have f4 := f4.but (KeepsBut.of_row f0 hg2) (by decide)
              have f5 := f5.kept hg2 (by simpa [Value.ownBlock] using hne)
              have hb := hb.grown hg2 hb.size (fun b e => (row_block f0 e).1)
              clear f0 hg2 kk
              obtain ⟨A2, c2, rfl⟩ := row_form f2
              have kk : Kept wr V11 := Below.trans hS (hb.mono hS.size)
              refine hK.out _ _ kk (fun _ => ?_)
              clear hK K
              try simp only [Act.put, List.setIfInBounds_toArray, List.set_cons_zero, List.set_cons_succ]
              clear kk
              refine wpAnyH_ready (rs := [6]) (by kernel_rfl) (by simp) ?_
              refine (AllReadyH.cons (o := ⟨some 43, _, _, _, _, _⟩) rfl (fun K hK => ?_) AllReadyH.nil)
              refine step_appR _ rfl (.tmp 39) (.tmp 42) rfl X0.heap.size _ 52 vs rfl f2 _ 1 _ L L rfl f5.cell (by omega) hb.size ?_
              intro v6 W6 f6 hg6
              have o4 := f4.but (KeepsBut.of_row f2 hg6) (by decide)
              have hb6 : Below X0.heap.size X0 W6 := hb.grown hg6 hb.size (fun b e => (row_block f2 e).1)
              have k6 : Kept wr W6 := Below.trans hS (hb6.mono hS.size)
              obtain ⟨A6, c6, rfl⟩ := row_form f6
              refine hK.out _ _ k6 (fun _ => ?_)
              clear hK K
              try simp only [Act.put, List.setIfInBounds_toArray, List.set_cons_zero, List.set_cons_succ]
              refine wpAnyH_ready (rs := [7]) (by kernel_rfl) (by simp) ?_
              refine (AllReadyH.cons (o := ⟨some 44, _, _, _, _, _⟩) rfl (fun K hK => ?_) AllReadyH.nil)
              go_simp
              have JC := join_err A6 53 c6 (bodies Zb 52 ++ [nought L]) W6 (ht.below (GB.trans (Below.mono k6 GB.size))) (long_rv H2.out hvs k6 o4 f6) (bodies_fine hz (by omega))
              rw [JX.out] at JC
              with_reducible refine JC.mono ?_
              rintro e W7 ⟨v7, rfl, g7⟩
              have k7 := k6.step g7
              refine hK.out _ _ k7 (fun _ => ?_)
              clear hK K
              try simp only [Act.put, List.setIfInBounds_toArray, List.set_cons_zero, List.set_cons_succ]
              refine wpAnyH_take (i := 8) (oi := ⟨some 36, _, _, _, _, _⟩) (v := ?ve128) rfl (by kernel_rfl) (by kernel_rfl) (by kernel_rfl) (fun _ _ _ h => by cases h.1) (Or.inl ⟨by rfl, ?ye128⟩) k7 ?re128
              case ye128 => intro W hW; go_simp; first | done | with_reducible rfl
              simp only [Act.put, List.setIfInBounds_toArray, List.set_cons_zero, List.set_cons_succ]
              refine wpAnyH_take (i := 9) (oi := ⟨some 45, _, _, _, _, _⟩) (v := ?ve129) rfl (by kernel_rfl) (by kernel_rfl) (by kernel_rfl) (fun _ _ _ h => by cases h.1) (Or.inl ⟨by rfl, ?ye129⟩) k7 ?re129
              case ye129 => intro W hW; go_simp; first | done | with_reducible rfl
              simp only [Act.put, List.setIfInBounds_toArray, List.set_cons_zero, List.set_cons_succ]
              refine wpAnyH_take (i := 10) (oi := ⟨some 46, _, _, _, _, _⟩) (v := ?ve1210) rfl (by kernel_rfl) (by kernel_rfl) (by kernel_rfl) (fun _ _ _ h => by cases h.1) (Or.inl ⟨by rfl, ?ye1210⟩) k7 ?re1210
              case ye1210 => intro W hW; go_simp; first | done | with_reducible rfl
              simp only [Act.put, List.setIfInBounds_toArray, List.set_cons_zero, List.set_cons_succ]
              refine wpAnyH_take (i := 11) (oi := ⟨some 10, _, _, _, _, _⟩) (v := ?ve1211) rfl (by kernel_rfl) (by kernel_rfl) (by kernel_rfl) (fun _ _ _ h => by cases h.1) (Or.inl ⟨by rfl, ?ye1211⟩) k7 ?re1211
              case ye1211 => intro W hW; go_simp; first | done | with_reducible rfl
              simp only [Act.put, List.setIfInBounds_toArray, List.set_cons_zero, List.set_cons_succ]
              refine wpAnyH_take (i := 12) (oi := ⟨some 11, _, _, _, _, _⟩) (v := ?ve1212) rfl (by kernel_rfl) (by kernel_rfl) (by kernel_rfl) (fun _ _ _ h => by cases h.1) (Or.inl ⟨by rfl, ?ye1212⟩) k7 ?re1212
              case ye1212 => intro W hW; go_simp; first | done | with_reducible rfl
              simp only [Act.put, List.setIfInBounds_toArray, List.set_cons_zero, List.set_cons_succ]
              exact wpAnyH_done (by kernel_rfl) ⟨rfl, ⟨_, _, _, _, _, _, rfl⟩, k7⟩ _
        · skip
          refine step_make _ rfl (.tmp 40) (.tmp 40) rfl L rfl rfl (by omega) ?_
          intro V13 f4 hb4 hlt4
          have f4 := f4.down hb.size
          have hb := hb.trans (hb4.mono hb.size)
          clear hb4 hlt4
          have kk : Kept wr V13 := Below.trans hS (hb.mono hS.size)
          refine hK.out _ _ kk (fun _ => ?_)
          clear hK K
          try simp only [Act.put, List.setIfInBounds_toArray, List.set_cons_zero, List.set_cons_succ]
          clear kk
          refine wpAnyH_ready (rs := [0, 5]) (by kernel_rfl) (by simp) ?_
          refine (AllReadyH.cons (o := ⟨some 37, _, _, _, _, _⟩) rfl (fun K hK => ?_) (AllReadyH.cons (o := ⟨some 42, _, _, _, _, _⟩) rfl (fun K hK => ?_) AllReadyH.nil))
          · skip
            go_simp
            have al : Below V13.heap.size V13 (V13.alloc (.cells #[] 22)) := (Below.refl _ _).alloc (Nat.le_refl _) _
            have f0 := rows_empty V13 X0.heap.size hb.size
            have f4 := f4.alloc (.cells #[] 22)
            have hb := hb.trans (al.mono hb.size)
            clear al
            generalize V13.alloc (.cells #[] 22) = V14 at *
            have kk : Kept wr V14 := Below.trans hS (hb.mono hS.size)
            refine hK.out _ _ kk (fun _ => ?_)
            clear hK K
            try simp only [Act.put, List.setIfInBounds_toArray, List.set_cons_zero, List.set_cons_succ]
            clear kk
            refine wpAnyH_ready (rs := [2, 5]) (by kernel_rfl) (by simp) ?_
            refine (AllReadyH.cons (o := ⟨some 39, _, _, _, _, _⟩) rfl (fun K hK => ?_) (AllReadyH.cons (o := ⟨some 42, _, _, _, _, _⟩) rfl (fun K hK => ?_) AllReadyH.nil))
            · skip
              have kk : Kept wr V14 := Below.trans hS (hb.mono hS.size)
              refine step_appRs _ rfl (.tmp 37) (.tmp 38) rfl X0.heap.size (.slice (some ⟨V13.heap.size, 0, none⟩) 0 0) rfl f0 w1.heap.size gl 52 cr vs rfl (row_below hrow kk) HO.out (by omega) hb.size ?_
              intro v2 V15 f2 hg2
              have f4 := f4.but (KeepsBut.of_row f0 hg2) (by decide)
              have hb := hb.grown hg2 hb.size (fun b e => (row_block f0 e).1)
              clear f0 hg2 kk
              obtain ⟨A2, c2, rfl⟩ := row_form f2
              have kk : Kept wr V15 := Below.trans hS (hb.mono hS.size)
              refine hK.out _ _ kk (fun _ => ?_)
              clear hK K
              try simp only [Act.put, List.setIfInBounds_toArray, List.set_cons_zero, List.set_cons_succ]
              clear kk
              refine wpAnyH_ready (rs := [5]) (by kernel_rfl) (by simp) ?_
              refine (AllReadyH.cons (o := ⟨some 42, _, _, _, _, _⟩) rfl (fun K hK => ?_) AllReadyH.nil)
              go_simp
              have al : Below V15.heap.size V15 (V15.alloc (.cells #[.slice (some ⟨X0.heap.size, 0, none⟩) L L] 22)) := (Below.refl _ _).alloc (Nat.le_refl _) _
              have f5 := Boxed.new V15 22 (.slice (some ⟨X0.heap.size, 0, none⟩) L L)
              have f4 := f4.alloc (.cells #[.slice (some ⟨X0.heap.size, 0, none⟩) L L] 22)
              have f2 := row_below f2 al
              have hb := hb.trans (al.mono hb.size)
              clear al
              generalize V15.alloc (.cells #[.slice (some ⟨X0.heap.size, 0, none⟩) L L] 22) = V16 at *
              have kk : Kept wr V16 := Below.trans hS (hb.mono hS.size)
              refine hK.out _ _ kk (fun _ => ?_)
              clear hK K
              try simp only [Act.put, List.setIfInBounds_toArray, List.set_cons_zero, List.set_cons_succ]
              clear kk
              refine wpAnyH_ready (rs := [6]) (by kernel_rfl) (by simp) ?_
              refine (AllReadyH.cons (o := ⟨some 43, _, _, _, _, _⟩) rfl (fun K hK => ?_) AllReadyH.nil)
              refine step_appR _ rfl (.tmp 39) (.tmp 42) rfl X0.heap.size _ 52 vs rfl f2 _ 1 _ L L rfl f5.cell (by omega) hb.size ?_
              intro v6 W6 f6 hg6
              have o4 := f4.but (KeepsBut.of_row f2 hg6) (by decide)
              have hb6 : Below X0.heap.size X0 W6 := hb.grown hg6 hb.size (fun b e => (row_block f2 e).1)
              have k6 : Kept wr W6 := Below.trans hS (hb6.mono hS.size)
              obtain ⟨A6, c6, rfl⟩ := row_form f6
              refine hK.out _ _ k6 (fun _ => ?_)
              clear hK K
              try simp only [Act.put, List.setIfInBounds_toArray, List.set_cons_zero, List.set_cons_succ]
              refine wpAnyH_ready (rs := [7]) (by kernel_rfl) (by simp) ?_
              refine (AllReadyH.cons (o := ⟨some 44, _, _, _, _, _⟩) rfl (fun K hK => ?_) AllReadyH.nil)
              go_simp
              have JC := join_err A6 53 c6 (bodies Zb 52 ++ [nought L]) W6 (ht.below (GB.trans (Below.mono k6 GB.size))) (long_rv H2.out hvs k6 o4 f6) (bodies_fine hz (by omega))
              rw [JX.out] at JC
              with_reducible refine JC.mono ?_
              rintro e W7 ⟨v7, rfl, g7⟩
              have k7 := k6.step g7
              refine hK.out _ _ k7 (fun _ => ?_)
              clear hK K
              try simp only [Act.put, List.setIfInBounds_toArray, List.set_cons_zero, List.set_cons_succ]
              refine wpAnyH_take (i := 8) (oi := ⟨some 36, _, _, _, _, _⟩) (v := ?ve178) rfl (by kernel_rfl) (by kernel_rfl) (by kernel_rfl) (fun _ _ _ h => by cases h.1) (Or.inl ⟨by rfl, ?ye178⟩) k7 ?re178
              case ye178 => intro W hW; go_simp; first | done | with_reducible rfl
              simp only [Act.put, List.setIfInBounds_toArray, List.set_cons_zero, List.set_cons_succ]
              refine wpAnyH_take (i := 9) (oi := ⟨some 45, _, _, _, _, _⟩) (v := ?ve179) rfl (by kernel_rfl) (by kernel_rfl) (by kernel_rfl) (fun _ _ _ h => by cases h.1) (Or.inl ⟨by rfl, ?ye179⟩) k7 ?re179
              case ye179 => intro W hW; go_simp; first | done | with_reducible rfl
              simp only [Act.put, List.setIfInBounds_toArray, List.set_cons_zero, List.set_cons_succ]
              refine wpAnyH_take (i := 10) (oi := ⟨some 46, _, _, _, _, _⟩) (v := ?ve1710) rfl (by kernel_rfl) (by kernel_rfl) (by kernel_rfl) (fun _ _ _ h => by cases h.1) (Or.inl ⟨by rfl, ?ye1710⟩) k7 ?re1710
              case ye1710 => intro W hW; go_simp; first | done | with_reducible rfl
              simp only [Act.put, List.setIfInBounds_toArray, List.set_cons_zero, List.set_cons_succ]
              refine wpAnyH_take (i := 11) (oi := ⟨some 10, _, _, _, _, _⟩) (v := ?ve1711) rfl (by kernel_rfl) (by kernel_rfl) (by kernel_rfl) (fun _ _ _ h => by cases h.1) (Or.inl ⟨by rfl, ?ye1711⟩) k7 ?re1711
              case ye1711 => intro W hW; go_simp; first | done | with_reducible rfl
              simp only [Act.put, List.setIfInBounds_toArray, List.set_cons_zero, List.set_cons_succ]
              refine wpAnyH_take (i := 12) (oi := ⟨some 11, _, _, _, _, _⟩) (v := ?ve1712) rfl (by kernel_rfl) (by kernel_rfl) (by kernel_rfl) (fun _ _ _ h => by cases h.1) (Or.inl ⟨by rfl, ?ye1712⟩) k7 ?re1712
              case ye1712 => intro W hW; go_simp; first | done | with_reducible rfl
              simp only [Act.put, List.setIfInBounds_toArray, List.set_cons_zero, List.set_cons_succ]
              exact wpAnyH_done (by kernel_rfl) ⟨rfl, ⟨_, _, _, _, _, _, rfl⟩, k7⟩ _
            · skip
              go_simp
              have al : Below V14.heap.size V14 (V14.alloc (.cells #[.slice (some ⟨X0.heap.size, 0, none⟩) L L] 22)) := (Below.refl _ _).alloc (Nat.le_refl _) _
              have f5 := Boxed.new V14 22 (.slice (some ⟨X0.heap.size, 0, none⟩) L L)
              have f4 := f4.alloc (.cells #[.slice (some ⟨X0.heap.size, 0, none⟩) L L] 22)
              have hne : V14.heap.size ≠ _ := Nat.ne_of_gt (World.ownsRow.lt f0 _ rfl).2
              have f0 := row_below f0 al
              have hb := hb.trans (al.mono hb.size)
              clear al
              generalize V14.alloc (.cells #[.slice (some ⟨X0.heap.size, 0, none⟩) L L] 22) = V18 at *
              have kk : Kept wr V18 := Below.trans hS (hb.mono hS.size)
              refine hK.out _ _ kk (fun _ => ?_)
              clear hK K
              try simp only [Act.put, List.setIfInBounds_toArray, List.set_cons_zero, List.set_cons_succ]
              clear kk
              refine wpAnyH_ready (rs := [2]) (by kernel_rfl) (by simp) ?_
              refine (AllReadyH.cons (o := ⟨some 39, _, _, _, _, _⟩) rfl (fun K hK => ?_) AllReadyH.nil)
              have kk : Kept wr V18 := Below.trans hS (hb.mono hS.size)
              refine step_appRs _ rfl (.tmp 37) (.tmp 38) rfl X0.heap.size (.slice (some ⟨V13.heap.size, 0, none⟩) 0 0) rfl f0 w1.heap.size gl 52 cr vs rfl (row_below hrow kk) HO.out (by omega) hb.size ?_
              intro v2 V19 f2 hg2
              have f4 := f4.but (KeepsBut.of_row f0 hg2) (by decide)
              have f5 := f5.kept hg2 (by simpa [Value.ownBlock] using hne)
              have hb := hb.grown hg2 hb.size (fun b e => (row_block f0 e).1)
              clear f0 hg2 kk
              obtain ⟨A2, c2, rfl⟩ := row_form f2
              have kk : Kept wr V19 := Below.trans hS (hb.mono hS.size)
              refine hK.out _ _ kk (fun _ => ?_)
              clear hK K
              try simp only [Act.put, List.setIfInBounds_toArray, List.set_cons_zero, List.set_cons_succ]
              clear kk
              refine wpAnyH_ready (rs := [6]) (by kernel_rfl) (by simp) ?_
              refine (AllReadyH.cons (o := ⟨some 43, _, _, _, _, _⟩) rfl (fun K hK => ?_) AllReadyH.nil)
              refine step_appR _ rfl (.tmp 39) (.tmp 42) rfl X0.heap.size _ 52 vs rfl f2 _ 1 _ L L rfl f5.cell (by omega) hb.size ?_
              intro v6 W6 f6 hg6
              have o4 := f4.but (KeepsBut.of_row f2 hg6) (by decide)
              have hb6 : Below X0.heap.size X0 W6 := hb.grown hg6 hb.size (fun b e => (row_block f2 e).1)
              have k6 : Kept wr W6 := Below.trans hS (hb6.mono hS.size)
              obtain ⟨A6, c6, rfl⟩ := row_form f6
              refine hK.out _ _ k6 (fun _ => ?_)
              clear hK K
              try simp only [Act.put, List.setIfInBounds_toArray, List.set_cons_zero, List.set_cons_succ]
              refine wpAnyH_ready (rs := [7]) (by kernel_rfl) (by simp) ?_
              refine (AllReadyH.cons (o := ⟨some 44, _, _, _, _, _⟩) rfl (fun K hK => ?_) AllReadyH.nil)
              go_simp
              have JC := join_err A6 53 c6 (bodies Zb 52 ++ [nought L]) W6 (ht.below (GB.trans (Below.mono k6 GB.size))) (long_rv H2.out hvs k6 o4 f6) (bodies_fine hz (by omega))
              rw [JX.out] at JC
              with_reducible refine JC.mono ?_
              rintro e W7 ⟨v7, rfl, g7⟩
              have k7 := k6.step g7
              refine hK.out _ _ k7 (fun _ => ?_)
              clear hK K
              try simp only [Act.put, List.setIfInBounds_toArray, List.set_cons_zero, List.set_cons_succ]
              refine wpAnyH_take (i := 8) (oi := ⟨some 36, _, _, _, _, _⟩) (v := ?ve208) rfl (by kernel_rfl) (by kernel_rfl) (by kernel_rfl) (fun _ _ _ h => by cases h.1) (Or.inl ⟨by rfl, ?ye208⟩) k7 ?re208
              case ye208 => intro W hW; go_simp; first | done | with_reducible rfl
              simp only [Act.put, List.setIfInBounds_toArray, List.set_cons_zero, List.set_cons_succ]
              refine wpAnyH_take (i := 9) (oi := ⟨some 45, _, _, _, _, _⟩) (v := ?ve209) rfl (by kernel_rfl) (by kernel_rfl) (by kernel_rfl) (fun _ _ _ h => by cases h.1) (Or.inl ⟨by rfl, ?ye209⟩) k7 ?re209
              case ye209 => intro W hW; go_simp; first | done | with_reducible rfl
              simp only [Act.put, List.setIfInBounds_toArray, List.set_cons_zero, List.set_cons_succ]
              refine wpAnyH_take (i := 10) (oi := ⟨some 46, _, _, _, _, _⟩) (v := ?ve2010) rfl (by kernel_rfl) (by kernel_rfl) (by kernel_rfl) (fun _ _ _ h => by cases h.1) (Or.inl ⟨by rfl, ?ye2010⟩) k7 ?re2010
              case ye2010 => intro W hW; go_simp; first | done | with_reducible rfl
              simp only [Act.put, List.setIfInBounds_toArray, List.set_cons_zero, List.set_cons_succ]
              refine wpAnyH_take (i := 11) (oi := ⟨some 10, _, _, _, _, _⟩) (v := ?ve2011) rfl (by kernel_rfl) (by kernel_rfl) (by kernel_rfl) (fun _ _ _ h => by cases h.1) (Or.inl ⟨by rfl, ?ye2011⟩) k7 ?re2011
              case ye2011 => intro W hW; go_simp; first | done | with_reducible rfl
              simp only [Act.put, List.setIfInBounds_toArray, List.set_cons_zero, List.set_cons_succ]
              refine wpAnyH_take (i := 12) (oi := ⟨some 11, _, _, _, _, _⟩) (v := ?ve2012) rfl (by kernel_rfl) (by kernel_rfl) (by kernel_rfl) (fun _ _ _ h => by cases h.1) (Or.inl ⟨by rfl, ?ye2012⟩) k7 ?re2012
              case ye2012 => intro W hW; go_simp; first | done | with_reducible rfl
              simp only [Act.put, List.setIfInBounds_toArray, List.set_cons_zero, List.set_cons_succ]
              exact wpAnyH_done (by kernel_rfl) ⟨rfl, ⟨_, _, _, _, _, _, rfl⟩, k7⟩ _
          · skip
            go_simp
            have al : Below V13.heap.size V13 (V13.alloc (.cells #[.slice (some ⟨X0.heap.size, 0, none⟩) L L] 22)) := (Below.refl _ _).alloc (Nat.le_refl _) _
            have f5 := Boxed.new V13 22 (.slice (some ⟨X0.heap.size, 0, none⟩) L L)
            have f4 := f4.alloc (.cells #[.slice (some ⟨X0.heap.size, 0, none⟩) L L] 22)
            have hb := hb.trans (al.mono hb.size)
            clear al
            generalize V13.alloc (.cells #[.slice (some ⟨X0.heap.size, 0, none⟩) L L] 22) = V21 at *
            have kk : Kept wr V21 := Below.trans hS (hb.mono hS.size)
            refine hK.out _ _ kk (fun _ => ?_)
            clear hK K
            try simp only [Act.put, List.setIfInBounds_toArray, List.set_cons_zero, List.set_cons_succ]
            clear kk
            refine wpAnyH_ready (rs := [0]) (by kernel_rfl) (by simp) ?_
            refine (AllReadyH.cons (o := ⟨some 37, _, _, _, _, _⟩) rfl (fun K hK => ?_) AllReadyH.nil)
            go_simp
            have al : Below V21.heap.size V21 (V21.alloc (.cells #[] 22)) := (Below.refl _ _).alloc (Nat.le_refl _) _
            have f0 := rows_empty V21 X0.heap.size hb.size
            have f4 := f4.alloc (.cells #[] 22)
            have hne : _ ≠ V21.heap.size := Nat.ne_of_lt f5.lt
            have f5 := f5.alloc (.cells #[] 22)
            have hb := hb.trans (al.mono hb.size)
            clear al
            generalize V21.alloc (.cells #[] 22) = V22 at *
            have kk : Kept wr V22 := Below.trans hS (hb.mono hS.size)
            refine hK.out _ _ kk (fun _ => ?_)
            clear hK K
            try simp only [Act.put, List.setIfInBounds_toArray, List.set_cons_zero, List.set_cons_succ]
            clear kk
            refine wpAnyH_ready (rs := [2]) (by kernel_rfl) (by simp) ?_
            refine (AllReadyH.cons (o := ⟨some 39, _, _, _, _, _⟩) rfl (fun K hK => ?_) AllReadyH.nil)
            have kk : Kept wr V22 := Below.trans hS (hb.mono hS.size)
            refine step_appRs _ rfl (.tmp 37) (.tmp 38) rfl X0.heap.size (.slice (some ⟨V21.heap.size, 0, none⟩) 0 0) rfl f0 w1.heap.size gl 52 cr vs rfl (row_below hrow kk) HO.out (by omega) hb.size ?_
            intro v2 V23 f2 hg2
            have f4 := f4.but (KeepsBut.of_row f0 hg2) (by decide)
            have f5 := f5.kept hg2 (by simpa [Value.ownBlock] using hne)
            have hb := hb.grown hg2 hb.size (fun b e => (row_block f0 e).1)
            clear f0 hg2 kk
            obtain ⟨A2, c2, rfl⟩ := row_form f2
            have kk : Kept wr V23 := Below.trans hS (hb.mono hS.size)
            refine hK.out _ _ kk (fun _ => ?_)
            clear hK K
            try simp only [Act.put, List.setIfInBounds_toArray, List.set_cons_zero, List.set_cons_succ]
            clear kk
            refine wpAnyH_ready (rs := [6]) (by kernel_rfl) (by simp) ?_
            refine (AllReadyH.cons (o := ⟨some 43, _, _, _, _, _⟩) rfl (fun K hK => ?_) AllReadyH.nil)
            refine step_appR _ rfl (.tmp 39) (.tmp 42) rfl X0.heap.size _ 52 vs rfl f2 _ 1 _ L L rfl f5.cell (by omega) hb.size ?_
            intro v6 W6 f6 hg6
            have o4 := f4.but (KeepsBut.of_row f2 hg6) (by decide)
            have hb6 : Below X0.heap.size X0 W6 := hb.grown hg6 hb.size (fun b e => (row_block f2 e).1)
            have k6 : Kept wr W6 := Below.trans hS (hb6.mono hS.size)
            obtain ⟨A6, c6, rfl⟩ := row_form f6
            refine hK.out _ _ k6 (fun _ => ?_)
            clear hK K
            try simp only [Act.put, List.setIfInBounds_toArray, List.set_cons_zero, List.set_cons_succ]
            refine wpAnyH_ready (rs := [7]) (by kernel_rfl) (by simp) ?_
            refine (AllReadyH.cons (o := ⟨some 44, _, _, _, _, _⟩) rfl (fun K hK => ?_) AllReadyH.nil)
            go_simp
            have JC := join_err A6 53 c6 (bodies Zb 52 ++ [nought L]) W6 (ht.below (GB.trans (Below.mono k6 GB.size))) (long_rv H2.out hvs k6 o4 f6) (bodies_fine hz (by omega))
            rw [JX.out] at JC
            with_reducible refine JC.mono ?_
            rintro e W7 ⟨v7, rfl, g7⟩
            have k7 := k6.step g7
            refine hK.out _ _ k7 (fun _ => ?_)
            clear hK K
            try simp only [Act.put, List.setIfInBounds_toArray, List.set_cons_zero, List.set_cons_succ]
            refine wpAnyH_take (i := 8) (oi := ⟨some 36, _, _, _, _, _⟩) (v := ?ve248) rfl (by kernel_rfl) (by kernel_rfl) (by kernel_rfl) (fun _ _ _ h => by cases h.1) (Or.inl ⟨by rfl, ?ye248⟩) k7 ?re248
            case ye248 => intro W hW; go_simp; first | done | with_reducible rfl
            simp only [Act.put, List.setIfInBounds_toArray, List.set_cons_zero, List.set_cons_succ]
            refine wpAnyH_take (i := 9) (oi := ⟨some 45, _, _, _, _, _⟩) (v := ?ve249) rfl (by kernel_rfl) (by kernel_rfl) (by kernel_rfl) (fun _ _ _ h => by cases h.1) (Or.inl ⟨by rfl, ?ye249⟩) k7 ?re249
            case ye249 => intro W hW; go_simp; first | done | with_reducible rfl
            simp only [Act.put, List.setIfInBounds_toArray, List.set_cons_zero, List.set_cons_succ]
            refine wpAnyH_take (i := 10) (oi := ⟨some 46, _, _, _, _, _⟩) (v := ?ve2410) rfl (by kernel_rfl) (by kernel_rfl) (by kernel_rfl) (fun _ _ _ h => by cases h.1) (Or.inl ⟨by rfl, ?ye2410⟩) k7 ?re2410
            case ye2410 => intro W hW; go_simp; first | done | with_reducible rfl
            simp only [Act.put, List.setIfInBounds_toArray, List.set_cons_zero, List.set_cons_succ]
            refine wpAnyH_take (i := 11) (oi := ⟨some 10, _, _, _, _, _⟩) (v := ?ve2411) rfl (by kernel_rfl) (by kernel_rfl) (by kernel_rfl) (fun _ _ _ h => by cases h.1) (Or.inl ⟨by rfl, ?ye2411⟩) k7 ?re2411
            case ye2411 => intro W hW; go_simp; first | done | with_reducible rfl
            simp only [Act.put, List.setIfInBounds_toArray, List.set_cons_zero, List.set_cons_succ]
            refine wpAnyH_take (i := 12) (oi := ⟨some 11, _, _, _, _, _⟩) (v := ?ve2412) rfl (by kernel_rfl) (by kernel_rfl) (by kernel_rfl) (fun _ _ _ h => by cases h.1) (Or.inl ⟨by rfl, ?ye2412⟩) k7 ?re2412
            case ye2412 => intro W hW; go_simp; first | done | with_reducible rfl
            simp only [Act.put, List.setIfInBounds_toArray, List.set_cons_zero, List.set_cons_succ]
            exact wpAnyH_done (by kernel_rfl) ⟨rfl, ⟨_, _, _, _, _, _, rfl⟩, k7⟩ _
      case imp10 =>
        rintro e a' w10 ⟨rfl, ⟨y, y37, y39, y41, y42, y43, rfl⟩, K10⟩
        have G10 : Below w.heap.size w w10 := GB.trans (Below.mono K10 GB.size)
        have hbl : (bodies Zb 52).length = 52 := by rw [bodies, List.length_replicate]
        have RV := rv_of_row (bs := bodies Zb 52) (row_below hrow K10) hbl (fun i l hl => by
          obtain ⟨A, c, k1, k2⟩ := H2.out i l hl
          obtain ⟨k3, k4, k5⟩ := k2.view
          exact ⟨A, c, k1, k3, k4, (k5.below K10).more (Below.size K10)⟩)
        have JF := join_fit _ 52 cr (bodies Zb 52) w10 (ht.below G10) RV (bodies_fine0 hz) (bodies_over0 hz)
        rw [join_bodies hz] at JF
        have hJl := join_bodies hz
        clear RV hbl JX
        obtain ⟨JB, hJB⟩ : ∃ J, join (bodies Zb 52) = J := ⟨_, rfl⟩
        rw [hJB] at JF hJl
        have HJB := Lib.hid hJB
        clear hJB
        go_wp2_with fail
        with_reducible refine JF.mono ?_
        rintro e w11 ⟨A11, c11, rfl, o11, g11⟩
        have G11 : Below w.heap.size w w11 := G10.trans (g11.mono G10.size)
        obtain ⟨o11a, o11b, o11c⟩ := o11.view
        obtain ⟨gs, rfl⟩ : ∃ g, A11 = some ⟨g, 0, none⟩ := by
          obtain ⟨g, e, _⟩ := o11.addr (by omega)
          exact ⟨g, e⟩
        clear JF o11 g11 G10 K10
        go_wp2_with fail
        have hfl : (frm (nought L)).length = L + 6 := by rw [frm_two (by omega) (by omega), hnL]
        obtain ⟨NL, hNL⟩ : ∃ n, 1040368 + (L + 6) = n := ⟨_, rfl⟩
        refine Code.wp_mono (Q := fun e a' W => e = .normal ∧ (∃ (y54 y56 y58 : Value) (Av : Option Addr) (cv : Nat), a' = { tmps := #[.int .i64 L, .int .i64 b, undef, undef, .bool false, .bool true, .slice (some ⟨gl, 0, none⟩) 52 cr, .slice (some ⟨w1.heap.size, 0, none⟩) 20000 20000, .int .i64 52, .int .i64 8202, y, .int .i64 je, .slice (some ⟨gs, 0, none⟩) 1040368 c11, .int .i64 0, .slice Av NL cv, undef, undef, undef, undef, undef, undef, .bool true, .slice (some ⟨w1.heap.size, 0, none⟩) 20000 20000, .int .i64 52, .bool false, u25, u26, u27, u28, u29, u30, .int .i64 8202, .int .i64 8198, .int .i64 a, .int .i64 x, .int .i64 L, .tuple #[y, .int .i64 je], y37, .slice (some ⟨gl, 0, none⟩) 52 cr, y39, .int .i64 L, y41, y42, y43, .tuple #[y, .int .i64 je], y, .int .i64 je, .tuple #[.slice (some ⟨gs, 0, none⟩) 1040368 c11, .int .i64 0], .slice (some ⟨gl, 0, none⟩) 52 cr, .tuple #[.slice (some ⟨gs, 0, none⟩) 1040368 c11, .int .i64 0], .slice (some ⟨gs, 0, none⟩) 1040368 c11, .int .i64 0, .int .i64 0, .bool false, y54, .slice (some ⟨gs, 0, none⟩) 1040368 c11, y56, .int .i64 L, y58, .string (str (nought L)), .string (str (frm (nought L))), .slice Av NL cv, undef, undef, undef, undef, undef, undef, undef, undef, undef, undef, undef, undef, undef, undef, undef, undef, undef, undef, undef, undef, undef, undef, undef, undef, undef, undef, undef, undef, undef, undef, undef, undef, undef, undef, undef, undef, undef, undef, undef, undef, undef, undef, undef, undef, undef, undef, undef, undef, undef, undef, undef, undef, undef, undef, undef, undef, undef, undef, undef, undef, undef, undef, undef, undef, undef, undef, undef, undef, undef, undef, undef, undef, undef, undef, undef, undef, undef, undef, undef], defers := [] } ∧ Own W w11.heap.size (.slice Av NL cv) NL (JB ++ frm (nought L))) ∧ Kept w11 W) ?imp14 ?reg14
        case reg14 =>
          refine wp_region_held_drew (S := Kept w11) (by kernel_rfl) (Kept.refl w11).drew (fun hS => ?_)
          revert hS
          generalize w11.drew = X0
          intro hS
          have hb : Below X0.heap.size X0 X0 := Below.refl _ _
          refine wpAnyH_take (i := 1) (oi := ⟨some 55, _, _, _, _, _⟩) (v := ?vh1) rfl (by kernel_rfl) (by kernel_rfl) (by kernel_rfl) (fun _ _ _ h => by cases h.1) (Or.inl ⟨by rfl, ?yh1⟩) hS ?rh1
          case yh1 => intro W hW; go_simp; first | done | with_reducible rfl
          simp only [Act.put, List.setIfInBounds_toArray, List.set_cons_zero, List.set_cons_succ]
          refine wpAnyH_take (i := 3) (oi := ⟨some 57, _, _, _, _, _⟩) (v := ?vh3) rfl (by kernel_rfl) (by kernel_rfl) (by kernel_rfl) (fun _ _ _ h => by cases h.1) (Or.inl ⟨by rfl, ?yh3⟩) hS ?rh3
          case yh3 => intro W hW; go_simp; first | done | with_reducible rfl
          simp only [Act.put, List.setIfInBounds_toArray, List.set_cons_zero, List.set_cons_succ]
          refine wpAnyH_ready (rs := [0, 4]) (by kernel_rfl) (by simp) ?_
          refine (AllReadyH.cons (o := ⟨some 54, _, _, _, _, _⟩) rfl (fun K hK => ?_) (AllReadyH.cons (o := ⟨some 58, _, _, _, _, _⟩) rfl (fun K hK => ?_) AllReadyH.nil))
          · skip
            go_simp
            have al : Below X0.heap.size X0 (X0.alloc (.cells #[] 5)) := (Below.refl _ _).alloc (Nat.le_refl _) _
            have f0 := own_empty X0 X0.heap.size hb.size
            have hb := hb.trans (al.mono hb.size)
            clear al
            generalize X0.alloc (.cells #[] 5) = V101 at *
            have kk : Kept w11 V101 := Below.trans hS (hb.mono hS.size)
            refine hK.out _ _ kk (fun _ => ?_)
            clear hK K
            try simp only [Act.put, List.setIfInBounds_toArray, List.set_cons_zero, List.set_cons_succ]
            clear kk
            refine wpAnyH_ready (rs := [2, 4]) (by kernel_rfl) (by simp) ?_
            refine (AllReadyH.cons (o := ⟨some 56, _, _, _, _, _⟩) rfl (fun K hK => ?_) (AllReadyH.cons (o := ⟨some 58, _, _, _, _, _⟩) rfl (fun K hK => ?_) AllReadyH.nil))
            · skip
              have kk : Kept w11 V101 := Below.trans hS (hb.mono hS.size)
              refine step_appB _ rfl (.tmp 54) (.tmp 55) rfl X0.heap.size (.slice (some ⟨X0.heap.size, 0, none⟩) 0 0) rfl f0 w11.heap.size gs 1040368 c11 JB rfl (o11c.below kk) (by omega) (by omega) hb.size ?_
              intro A2 c2 V102 f2 hg2
              have hb := hb.grown hg2 hb.size (fun b e => f0.base_le b e)
              clear f0 hg2 kk
              have kk : Kept w11 V102 := Below.trans hS (hb.mono hS.size)
              refine hK.out _ _ kk (fun _ => ?_)
              clear hK K
              try simp only [Act.put, List.setIfInBounds_toArray, List.set_cons_zero, List.set_cons_succ]
              clear kk
              refine wpAnyH_ready (rs := [4]) (by kernel_rfl) (by simp) ?_
              refine (AllReadyH.cons (o := ⟨some 58, _, _, _, _, _⟩) rfl (fun K hK => ?_) AllReadyH.nil)
              refine step_make _ rfl (.tmp 57) (.tmp 57) rfl L rfl rfl (by omega) ?_
              intro V103 f4 hb4 hlt4
              have f4 := f4.down hb.size
              have f2 := f2.kept hb4
              have hb := hb.trans (hb4.mono hb.size)
              clear hb4 hlt4
              have kk : Kept w11 V103 := Below.trans hS (hb.mono hS.size)
              refine hK.out _ _ kk (fun _ => ?_)
              clear hK K
              try simp only [Act.put, List.setIfInBounds_toArray, List.set_cons_zero, List.set_cons_succ]
              clear kk
              refine wpAnyH_ready (rs := [5]) (by kernel_rfl) (by simp) ?_
              refine (AllReadyH.cons (o := ⟨some 59, _, _, _, _, _⟩) rfl (fun K hK => ?_) AllReadyH.nil)
              have cz := run_str V103 _ _ L L (nought L) f4.view.2.2
              go_simp
              clear cz
              have kk : Kept w11 V103 := Below.trans hS (hb.mono hS.size)
              refine hK.out _ _ kk (fun _ => ?_)
              clear hK K
              try simp only [Act.put, List.setIfInBounds_toArray, List.set_cons_zero, List.set_cons_succ]
              clear kk
              refine wpAnyH_ready (rs := [6]) (by kernel_rfl) (by simp) ?_
              refine (AllReadyH.cons (o := ⟨some 60, _, _, _, _, _⟩) rfl (fun K hK => ?_) AllReadyH.nil)
              go_simp
              with_reducible refine (refFrame_any (nought L) V103 (by omega)).mono ?_
              rintro e W6 ⟨rfl, g6⟩
              have f2 := f2.kept g6
              have hb := hb.trans (g6.mono hb.size)
              have k6 : Kept w11 W6 := Below.trans hS (hb.mono hS.size)
              refine hK.out _ _ k6 (fun _ => ?_)
              clear hK K
              try simp only [Act.put, List.setIfInBounds_toArray, List.set_cons_zero, List.set_cons_succ]
              refine wpAnyH_ready (rs := [7]) (by kernel_rfl) (by simp) ?_
              refine (AllReadyH.cons (o := ⟨some 61, _, _, _, _, _⟩) rfl (fun K hK => ?_) AllReadyH.nil)
              refine step_appStr _ rfl (.tmp 56) (.tmp 60) rfl X0.heap.size _ 1040368 JB rfl f2 (frm (nought L)) rfl (by omega) hb.size NL (by omega) ?_
              intro A7 c7 W7 o7 hb7
              have k7 : Kept w11 W7 := Below.trans k6 (hb7.mono hS.size)
              refine hK.out _ _ k7 (fun _ => ?_)
              clear hK K
              try simp only [Act.put, List.setIfInBounds_toArray, List.set_cons_zero, List.set_cons_succ]
              refine wpAnyH_take (i := 8) (oi := ⟨some 14, _, _, _, _, _⟩) (v := ?ve1058) rfl (by kernel_rfl) (by kernel_rfl) (by kernel_rfl) (fun _ _ _ h => by cases h.1) (Or.inl ⟨by rfl, ?ye1058⟩) k7 ?re1058
              case ye1058 => intro W hW; go_simp; first | done | with_reducible rfl
              simp only [Act.put, List.setIfInBounds_toArray, List.set_cons_zero, List.set_cons_succ]
              exact wpAnyH_done (by kernel_rfl) ⟨rfl, ⟨_, _, _, _, _, rfl, o7.down hS.size⟩, k7⟩ _
            · skip
              refine step_make _ rfl (.tmp 57) (.tmp 57) rfl L rfl rfl (by omega) ?_
              intro V106 f4 hb4 hlt4
              have f4 := f4.down hb.size
              have hne : V101.heap.size ≠ X0.heap.size := Nat.ne_of_gt (World.ownsRow.lt f0 _ rfl).2
              have f0 := f0.kept hb4
              have hb := hb.trans (hb4.mono hb.size)
              clear hb4 hlt4
              have kk : Kept w11 V106 := Below.trans hS (hb.mono hS.size)
              refine hK.out _ _ kk (fun _ => ?_)
              clear hK K
              try simp only [Act.put, List.setIfInBounds_toArray, List.set_cons_zero, List.set_cons_succ]
              clear kk
              refine wpAnyH_ready (rs := [2, 5]) (by kernel_rfl) (by simp) ?_
              refine (AllReadyH.cons (o := ⟨some 56, _, _, _, _, _⟩) rfl (fun K hK => ?_) (AllReadyH.cons (o := ⟨some 59, _, _, _, _, _⟩) rfl (fun K hK => ?_) AllReadyH.nil))
              · skip
                have kk : Kept w11 V106 := Below.trans hS (hb.mono hS.size)
                refine step_appB _ rfl (.tmp 54) (.tmp 55) rfl X0.heap.size (.slice (some ⟨X0.heap.size, 0, none⟩) 0 0) rfl f0 w11.heap.size gs 1040368 c11 JB rfl (o11c.below kk) (by omega) (by omega) hb.size ?_
                intro A2 c2 V107 f2 hg2
                have f4 := f4.aside (g' := X0.heap.size) hg2 hne
                have hb := hb.grown hg2 hb.size (fun b e => f0.base_le b e)
                clear f0 hg2 kk
                have kk : Kept w11 V107 := Below.trans hS (hb.mono hS.size)
                refine hK.out _ _ kk (fun _ => ?_)
                clear hK K
                try simp only [Act.put, List.setIfInBounds_toArray, List.set_cons_zero, List.set_cons_succ]
                clear kk
                refine wpAnyH_ready (rs := [5]) (by kernel_rfl) (by simp) ?_
                refine (AllReadyH.cons (o := ⟨some 59, _, _, _, _, _⟩) rfl (fun K hK => ?_) AllReadyH.nil)
                have cz := run_str V107 _ _ L L (nought L) f4.view.2.2
                go_simp
                clear cz
                have kk : Kept w11 V107 := Below.trans hS (hb.mono hS.size)
                refine hK.out _ _ kk (fun _ => ?_)
                clear hK K
                try simp only [Act.put, List.setIfInBounds_toArray, List.set_cons_zero, List.set_cons_succ]
                clear kk
                refine wpAnyH_ready (rs := [6]) (by kernel_rfl) (by simp) ?_
                refine (AllReadyH.cons (o := ⟨some 60, _, _, _, _, _⟩) rfl (fun K hK => ?_) AllReadyH.nil)
                go_simp
                with_reducible refine (refFrame_any (nought L) V107 (by omega)).mono ?_
                rintro e W6 ⟨rfl, g6⟩
                have f2 := f2.kept g6
                have hb := hb.trans (g6.mono hb.size)
                have k6 : Kept w11 W6 := Below.trans hS (hb.mono hS.size)
                refine hK.out _ _ k6 (fun _ => ?_)
                clear hK K
                try simp only [Act.put, List.setIfInBounds_toArray, List.set_cons_zero, List.set_cons_succ]
                refine wpAnyH_ready (rs := [7]) (by kernel_rfl) (by simp) ?_
                refine (AllReadyH.cons (o := ⟨some 61, _, _, _, _, _⟩) rfl (fun K hK => ?_) AllReadyH.nil)
                refine step_appStr _ rfl (.tmp 56) (.tmp 60) rfl X0.heap.size _ 1040368 JB rfl f2 (frm (nought L)) rfl (by omega) hb.size NL (by omega) ?_
                intro A7 c7 W7 o7 hb7
                have k7 : Kept w11 W7 := Below.trans k6 (hb7.mono hS.size)
                refine hK.out _ _ k7 (fun _ => ?_)
                clear hK K
                try simp only [Act.put, List.setIfInBounds_toArray, List.set_cons_zero, List.set_cons_succ]
                refine wpAnyH_take (i := 8) (oi := ⟨some 14, _, _, _, _, _⟩) (v := ?ve1098) rfl (by kernel_rfl) (by kernel_rfl) (by kernel_rfl) (fun _ _ _ h => by cases h.1) (Or.inl ⟨by rfl, ?ye1098⟩) k7 ?re1098
                case ye1098 => intro W hW; go_simp; first | done | with_reducible rfl
                simp only [Act.put, List.setIfInBounds_toArray, List.set_cons_zero, List.set_cons_succ]
                exact wpAnyH_done (by kernel_rfl) ⟨rfl, ⟨_, _, _, _, _, rfl, o7.down hS.size⟩, k7⟩ _
              · skip
                have cz := run_str V106 _ _ L L (nought L) f4.view.2.2
                go_simp
                clear cz
                have kk : Kept w11 V106 := Below.trans hS (hb.mono hS.size)
                refine hK.out _ _ kk (fun _ => ?_)
                clear hK K
                try simp only [Act.put, List.setIfInBounds_toArray, List.set_cons_zero, List.set_cons_succ]
                clear kk
                refine wpAnyH_ready (rs := [2]) (by kernel_rfl) (by simp) ?_
                refine (AllReadyH.cons (o := ⟨some 56, _, _, _, _, _⟩) rfl (fun K hK => ?_) AllReadyH.nil)
                have kk : Kept w11 V106 := Below.trans hS (hb.mono hS.size)
                refine step_appB _ rfl (.tmp 54) (.tmp 55) rfl X0.heap.size (.slice (some ⟨X0.heap.size, 0, none⟩) 0 0) rfl f0 w11.heap.size gs 1040368 c11 JB rfl (o11c.below kk) (by omega) (by omega) hb.size ?_
                intro A2 c2 V111 f2 hg2
                have f4 := f4.aside (g' := X0.heap.size) hg2 hne
                have hb := hb.grown hg2 hb.size (fun b e => f0.base_le b e)
                clear f0 hg2 kk
                have kk : Kept w11 V111 := Below.trans hS (hb.mono hS.size)
                refine hK.out _ _ kk (fun _ => ?_)
                clear hK K
                try simp only [Act.put, List.setIfInBounds_toArray, List.set_cons_zero, List.set_cons_succ]
                clear kk
                refine wpAnyH_ready (rs := [6]) (by kernel_rfl) (by simp) ?_
                refine (AllReadyH.cons (o := ⟨some 60, _, _, _, _, _⟩) rfl (fun K hK => ?_) AllReadyH.nil)
                go_simp
                with_reducible refine (refFrame_any (nought L) V111 (by omega)).mono ?_
                rintro e W6 ⟨rfl, g6⟩
                have f2 := f2.kept g6
                have hb := hb.trans (g6.mono hb.size)
                have k6 : Kept w11 W6 := Below.trans hS (hb.mono hS.size)
                refine hK.out _ _ k6 (fun _ => ?_)
                clear hK K
                try simp only [Act.put, List.setIfInBounds_toArray, List.set_cons_zero, List.set_cons_succ]
                refine wpAnyH_ready (rs := [7]) (by kernel_rfl) (by simp) ?_
                refine (AllReadyH.cons (o := ⟨some 61, _, _, _, _, _⟩) rfl (fun K hK => ?_) AllReadyH.nil)
                refine step_appStr _ rfl (.tmp 56) (.tmp 60) rfl X0.heap.size _ 1040368 JB rfl f2 (frm (nought L)) rfl (by omega) hb.size NL (by omega) ?_
                intro A7 c7 W7 o7 hb7
                have k7 : Kept w11 W7 := Below.trans k6 (hb7.mono hS.size)
                refine hK.out _ _ k7 (fun _ => ?_)
                clear hK K
                try simp only [Act.put, List.setIfInBounds_toArray, List.set_cons_zero, List.set_cons_succ]
                refine wpAnyH_take (i := 8) (oi := ⟨some 14, _, _, _, _, _⟩) (v := ?ve1128) rfl (by kernel_rfl) (by kernel_rfl) (by kernel_rfl) (fun _ _ _ h => by cases h.1) (Or.inl ⟨by rfl, ?ye1128⟩) k7 ?re1128
                case ye1128 => intro W hW; go_simp; first | done | with_reducible rfl
                simp only [Act.put, List.setIfInBounds_toArray, List.set_cons_zero, List.set_cons_succ]
                exact wpAnyH_done (by kernel_rfl) ⟨rfl, ⟨_, _, _, _, _, rfl, o7.down hS.size⟩, k7⟩ _
          · skip
            refine step_make _ rfl (.tmp 57) (.tmp 57) rfl L rfl rfl (by omega) ?_
            intro V113 f4 hb4 hlt4
            have f4 := f4.down hb.size
            have hb := hb.trans (hb4.mono hb.size)
            clear hb4 hlt4
            have kk : Kept w11 V113 := Below.trans hS (hb.mono hS.size)
            refine hK.out _ _ kk (fun _ => ?_)
            clear hK K
            try simp only [Act.put, List.setIfInBounds_toArray, List.set_cons_zero, List.set_cons_succ]
            clear kk
            refine wpAnyH_ready (rs := [0, 5]) (by kernel_rfl) (by simp) ?_
            refine (AllReadyH.cons (o := ⟨some 54, _, _, _, _, _⟩) rfl (fun K hK => ?_) (AllReadyH.cons (o := ⟨some 59, _, _, _, _, _⟩) rfl (fun K hK => ?_) AllReadyH.nil))
            · skip
              go_simp
              have al : Below V113.heap.size V113 (V113.alloc (.cells #[] 5)) := (Below.refl _ _).alloc (Nat.le_refl _) _
              have f0 := own_empty V113 X0.heap.size hb.size
              have hne : X0.heap.size ≠ V113.heap.size := Nat.ne_of_lt (World.ownsRow.lt f4 _ rfl).2
              have f4 := f4.alloc (.cells #[] 5)
              have hb := hb.trans (al.mono hb.size)
              clear al
              generalize V113.alloc (.cells #[] 5) = V114 at *
              have kk : Kept w11 V114 := Below.trans hS (hb.mono hS.size)
              refine hK.out _ _ kk (fun _ => ?_)
              clear hK K
              try simp only [Act.put, List.setIfInBounds_toArray, List.set_cons_zero, List.set_cons_succ]
              clear kk
              refine wpAnyH_ready (rs := [2, 5]) (by kernel_rfl) (by simp) ?_
              refine (AllReadyH.cons (o := ⟨some 56, _, _, _, _, _⟩) rfl (fun K hK => ?_) (AllReadyH.cons (o := ⟨some 59, _, _, _, _, _⟩) rfl (fun K hK => ?_) AllReadyH.nil))
              · skip
                have kk : Kept w11 V114 := Below.trans hS (hb.mono hS.size)
                refine step_appB _ rfl (.tmp 54) (.tmp 55) rfl X0.heap.size (.slice (some ⟨V113.heap.size, 0, none⟩) 0 0) rfl f0 w11.heap.size gs 1040368 c11 JB rfl (o11c.below kk) (by omega) (by omega) hb.size ?_
                intro A2 c2 V115 f2 hg2
                have f4 := f4.aside (g' := V113.heap.size) hg2 hne
                have hb := hb.grown hg2 hb.size (fun b e => f0.base_le b e)
                clear f0 hg2 kk
                have kk : Kept w11 V115 := Below.trans hS (hb.mono hS.size)
                refine hK.out _ _ kk (fun _ => ?_)
                clear hK K
                try simp only [Act.put, List.setIfInBounds_toArray, List.set_cons_zero, List.set_cons_succ]
                clear kk
                refine wpAnyH_ready (rs := [5]) (by kernel_rfl) (by simp) ?_
                refine (AllReadyH.cons (o := ⟨some 59, _, _, _, _, _⟩) rfl (fun K hK => ?_) AllReadyH.nil)
                have cz := run_str V115 _ _ L L (nought L) f4.view.2.2
                go_simp
                clear cz
                have kk : Kept w11 V115 := Below.trans hS (hb.mono hS.size)
                refine hK.out _ _ kk (fun _ => ?_)
                clear hK K
                try simp only [Act.put, List.setIfInBounds_toArray, List.set_cons_zero, List.set_cons_succ]
                clear kk
                refine wpAnyH_ready (rs := [6]) (by kernel_rfl) (by simp) ?_
                refine (AllReadyH.cons (o := ⟨some 60, _, _, _, _, _⟩) rfl (fun K hK => ?_) AllReadyH.nil)
                go_simp
                with_reducible refine (refFrame_any (nought L) V115 (by omega)).mono ?_
                rintro e W6 ⟨rfl, g6⟩
                have f2 := f2.kept g6
                have hb := hb.trans (g6.mono hb.size)
                have k6 : Kept w11 W6 := Below.trans hS (hb.mono hS.size)
                refine hK.out _ _ k6 (fun _ => ?_)
                clear hK K
                try simp only [Act.put, List.setIfInBounds_toArray, List.set_cons_zero, List.set_cons_succ]
                refine wpAnyH_ready (rs := [7]) (by kernel_rfl) (by simp) ?_
                refine (AllReadyH.cons (o := ⟨some 61, _, _, _, _, _⟩) rfl (fun K hK => ?_) AllReadyH.nil)
                refine step_appStr _ rfl (.tmp 56) (.tmp 60) rfl X0.heap.size _ 1040368 JB rfl f2 (frm (nought L)) rfl (by omega) hb.size NL (by omega) ?_
                intro A7 c7 W7 o7 hb7
                have k7 : Kept w11 W7 := Below.trans k6 (hb7.mono hS.size)
                refine hK.out _ _ k7 (fun _ => ?_)
                clear hK K
                try simp only [Act.put, List.setIfInBounds_toArray, List.set_cons_zero, List.set_cons_succ]
                refine wpAnyH_take (i := 8) (oi := ⟨some 14, _, _, _, _, _⟩) (v := ?ve1178) rfl (by kernel_rfl) (by kernel_rfl) (by kernel_rfl) (fun _ _ _ h => by cases h.1) (Or.inl ⟨by rfl, ?ye1178⟩) k7 ?re1178
                case ye1178 => intro W hW; go_simp; first | done | with_reducible rfl
                simp only [Act.put, List.setIfInBounds_toArray, List.set_cons_zero, List.set_cons_succ]
                exact wpAnyH_done (by kernel_rfl) ⟨rfl, ⟨_, _, _, _, _, rfl, o7.down hS.size⟩, k7⟩ _
              · skip
                have cz := run_str V114 _ _ L L (nought L) f4.view.2.2
                go_simp
                clear cz
                have kk : Kept w11 V114 := Below.trans hS (hb.mono hS.size)
                refine hK.out _ _ kk (fun _ => ?_)
                clear hK K
                try simp only [Act.put, List.setIfInBounds_toArray, List.set_cons_zero, List.set_cons_succ]
                clear kk
                refine wpAnyH_ready (rs := [2]) (by kernel_rfl) (by simp) ?_
                refine (AllReadyH.cons (o := ⟨some 56, _, _, _, _, _⟩) rfl (fun K hK => ?_) AllReadyH.nil)
                have kk : Kept w11 V114 := Below.trans hS (hb.mono hS.size)
                refine step_appB _ rfl (.tmp 54) (.tmp 55) rfl X0.heap.size (.slice (some ⟨V113.heap.size, 0, none⟩) 0 0) rfl f0 w11.heap.size gs 1040368 c11 JB rfl (o11c.below kk) (by omega) (by omega) hb.size ?_
                intro A2 c2 V119 f2 hg2
                have f4 := f4.aside (g' := V113.heap.size) hg2 hne
                have hb := hb.grown hg2 hb.size (fun b e => f0.base_le b e)
                clear f0 hg2 kk
                have kk : Kept w11 V119 := Below.trans hS (hb.mono hS.size)
                refine hK.out _ _ kk (fun _ => ?_)
                clear hK K
                try simp only [Act.put, List.setIfInBounds_toArray, List.set_cons_zero, List.set_cons_succ]
                clear kk
                refine wpAnyH_ready (rs := [6]) (by kernel_rfl) (by simp) ?_
                refine (AllReadyH.cons (o := ⟨some 60, _, _, _, _, _⟩) rfl (fun K hK => ?_) AllReadyH.nil)
                go_simp
                with_reducible refine (refFrame_any (nought L) V119 (by omega)).mono ?_
                rintro e W6 ⟨rfl, g6⟩
                have f2 := f2.kept g6
                have hb := hb.trans (g6.mono hb.size)
                have k6 : Kept w11 W6 := Below.trans hS (hb.mono hS.size)
                refine hK.out _ _ k6 (fun _ => ?_)
                clear hK K
                try simp only [Act.put, List.setIfInBounds_toArray, List.set_cons_zero, List.set_cons_succ]
                refine wpAnyH_ready (rs := [7]) (by kernel_rfl) (by simp) ?_
                refine (AllReadyH.cons (o := ⟨some 61, _, _, _, _, _⟩) rfl (fun K hK => ?_) AllReadyH.nil)
                refine step_appStr _ rfl (.tmp 56) (.tmp 60) rfl X0.heap.size _ 1040368 JB rfl f2 (frm (nought L)) rfl (by omega) hb.size NL (by omega) ?_
                intro A7 c7 W7 o7 hb7
                have k7 : Kept w11 W7 := Below.trans k6 (hb7.mono hS.size)
                refine hK.out _ _ k7 (fun _ => ?_)
                clear hK K
                try simp only [Act.put, List.setIfInBounds_toArray, List.set_cons_zero, List.set_cons_succ]
                refine wpAnyH_take (i := 8) (oi := ⟨some 14, _, _, _, _, _⟩) (v := ?ve1208) rfl (by kernel_rfl) (by kernel_rfl) (by kernel_rfl) (fun _ _ _ h => by cases h.1) (Or.inl ⟨by rfl, ?ye1208⟩) k7 ?re1208
                case ye1208 => intro W hW; go_simp; first | done | with_reducible rfl
                simp only [Act.put, List.setIfInBounds_toArray, List.set_cons_zero, List.set_cons_succ]
                exact wpAnyH_done (by kernel_rfl) ⟨rfl, ⟨_, _, _, _, _, rfl, o7.down hS.size⟩, k7⟩ _
            · skip
              have cz := run_str V113 _ _ L L (nought L) f4.view.2.2
              go_simp
              clear cz
              have kk : Kept w11 V113 := Below.trans hS (hb.mono hS.size)
              refine hK.out _ _ kk (fun _ => ?_)
              clear hK K
              try simp only [Act.put, List.setIfInBounds_toArray, List.set_cons_zero, List.set_cons_succ]
              clear kk
              refine wpAnyH_ready (rs := [0]) (by kernel_rfl) (by simp) ?_
              refine (AllReadyH.cons (o := ⟨some 54, _, _, _, _, _⟩) rfl (fun K hK => ?_) AllReadyH.nil)
              go_simp
              have al : Below V113.heap.size V113 (V113.alloc (.cells #[] 5)) := (Below.refl _ _).alloc (Nat.le_refl _) _
              have f0 := own_empty V113 X0.heap.size hb.size
              have hne : X0.heap.size ≠ V113.heap.size := Nat.ne_of_lt (World.ownsRow.lt f4 _ rfl).2
              have f4 := f4.alloc (.cells #[] 5)
              have hb := hb.trans (al.mono hb.size)
              clear al
              generalize V113.alloc (.cells #[] 5) = V122 at *
              have kk : Kept w11 V122 := Below.trans hS (hb.mono hS.size)
              refine hK.out _ _ kk (fun _ => ?_)
              clear hK K
              try simp only [Act.put, List.setIfInBounds_toArray, List.set_cons_zero, List.set_cons_succ]
              clear kk
              refine wpAnyH_ready (rs := [2]) (by kernel_rfl) (by simp) ?_
              refine (AllReadyH.cons (o := ⟨some 56, _, _, _, _, _⟩) rfl (fun K hK => ?_) AllReadyH.nil)
              have kk : Kept w11 V122 := Below.trans hS (hb.mono hS.size)
              refine step_appB _ rfl (.tmp 54) (.tmp 55) rfl X0.heap.size (.slice (some ⟨V113.heap.size, 0, none⟩) 0 0) rfl f0 w11.heap.size gs 1040368 c11 JB rfl (o11c.below kk) (by omega) (by omega) hb.size ?_
              intro A2 c2 V123 f2 hg2
              have f4 := f4.aside (g' := V113.heap.size) hg2 hne
              have hb := hb.grown hg2 hb.size (fun b e => f0.base_le b e)
              clear f0 hg2 kk
              have kk : Kept w11 V123 := Below.trans hS (hb.mono hS.size)
              refine hK.out _ _ kk (fun _ => ?_)
              clear hK K
              try simp only [Act.put, List.setIfInBounds_toArray, List.set_cons_zero, List.set_cons_succ]
              clear kk
              refine wpAnyH_ready (rs := [6]) (by kernel_rfl) (by simp) ?_
              refine (AllReadyH.cons (o := ⟨some 60, _, _, _, _, _⟩) rfl (fun K hK => ?_) AllReadyH.nil)
              go_simp
              with_reducible refine (refFrame_any (nought L) V123 (by omega)).mono ?_
              rintro e W6 ⟨rfl, g6⟩
              have f2 := f2.kept g6
              have hb := hb.trans (g6.mono hb.size)
              have k6 : Kept w11 W6 := Below.trans hS (hb.mono hS.size)
              refine hK.out _ _ k6 (fun _ => ?_)
              clear hK K
              try simp only [Act.put, List.setIfInBounds_toArray, List.set_cons_zero, List.set_cons_succ]
              refine wpAnyH_ready (rs := [7]) (by kernel_rfl) (by simp) ?_
              refine (AllReadyH.cons (o := ⟨some 61, _, _, _, _, _⟩) rfl (fun K hK => ?_) AllReadyH.nil)
              refine step_appStr _ rfl (.tmp 56) (.tmp 60) rfl X0.heap.size _ 1040368 JB rfl f2 (frm (nought L)) rfl (by omega) hb.size NL (by omega) ?_
              intro A7 c7 W7 o7 hb7
              have k7 : Kept w11 W7 := Below.trans k6 (hb7.mono hS.size)
              refine hK.out _ _ k7 (fun _ => ?_)
              clear hK K
              try simp only [Act.put, List.setIfInBounds_toArray, List.set_cons_zero, List.set_cons_succ]
              refine wpAnyH_take (i := 8) (oi := ⟨some 14, _, _, _, _, _⟩) (v := ?ve1248) rfl (by kernel_rfl) (by kernel_rfl) (by kernel_rfl) (fun _ _ _ h => by cases h.1) (Or.inl ⟨by rfl, ?ye1248⟩) k7 ?re1248
              case ye1248 => intro W hW; go_simp; first | done | with_reducible rfl
              simp only [Act.put, List.setIfInBounds_toArray, List.set_cons_zero, List.set_cons_succ]
              exact wpAnyH_done (by kernel_rfl) ⟨rfl, ⟨_, _, _, _, _, rfl, o7.down hS.size⟩, k7⟩ _
        case imp14 =>
          rintro e a' w14 ⟨rfl, ⟨y54, y56, y58, Av, cv, rfl, o14⟩, K14⟩
          have G14 : Below w.heap.size w w14 := G11.trans (Below.mono K14 G11.size)
          have gs14 := G11.size
          clear K14 G11 o11c
          obtain ⟨o14a, o14b, o14c⟩ := o14.view
          obtain ⟨gv, rfl, hgv, _⟩ := o14.addr (by omega)
          have SP := splitL_any _ NL cv _ w14 (ht.below G14) o14c o14a o14b (by omega)
          have HLE : Hid (JB ++ frm (nought L) = op4 ++ (frs (bodies Zb 52) ++ frm (nought L))) := by
            show _ = _
            rw [← HJB.out]
            simp [join]
          have HOK : Hid (L ≤ 8202 → splitL (JB ++ frm (nought L)) = (bodies Zb 52 ++ [nought L], NL, 0)) := fun h => by
            rw [← HJB.out, long_ok hz (by omega) (by omega), hnL, hNL]
          have HOV : Hid (8202 < L → splitL (JB ++ frm (nought L)) = (bodies Zb 52, 1048576, 5)) := fun h => by
            rw [← HJB.out, long_over hz (by omega) (by omega)]
          have hb53 : (bodies Zb 52 ++ [nought L]).length = 53 := by rw [List.length_append, bodies, List.length_replicate]; rfl
          have hb52 : (bodies Zb 52).length = 52 := by rw [bodies, List.length_replicate]
          obtain ⟨LG, hLG⟩ : ∃ l, JB ++ frm (nought L) = l := ⟨_, rfl⟩
          rw [hLG] at SP o14 o14c HLE HOK HOV
          have eN : (1040374 : Int) + (L : Int) = (NL : Int) := by omega
          have hLl := o14.len
          clear hLG o14c
          by_cases hbig : 8202 < L
          · have hje : je = 5 := by have := HJE.out; rw [if_pos hbig] at this; exact this.symm
            subst hje
            rw [HOV.out hbig] at SP
            have d1 : decide ((L : Int) ≤ 8202) = false := by simp; omega
            clear hbig
            go_wp2_with fail
            with_reducible refine SP.mono ?_
            rintro e w15 ⟨v15, rfl, r15, g15⟩
            obtain ⟨A15, c15, rfl⟩ := r15.form
            rw [hb52]
            have G15 : Below w.heap.size w w15 := G14.trans (g15.mono G14.size)
            have o15 := o14.kept g15
            clear SP r15 g15 o14 G14
            have hk3N : k3 < LG.length := by omega
            obtain ⟨z, hz3⟩ : ∃ z, op4.getD k3 0 = z := ⟨_, rfl⟩
            have hzz : LG.getD k3 0 = z := by
              rw [← hz3, HLE.out]
              simp only [List.getD]
              rw [List.getElem?_append_left (show k3 < op4.length by show k3 < 4; omega)]
            have hcell := World.ownsRow.cellAt o15 k3 (by omega)
            have hfr := World.ownsRow.frozenAt o15 k3
            rw [show (vbs LG)[k3]? = some (.int .u8 (z.toNat : Int)) by rw [← hzz]; simp [vbs, vb, List.getD, List.getElem?_eq_getElem hk3N]] at hcell
            obtain ⟨p1, _⟩ := o15.put k3 (UInt8.ofNat ((z.toNat + 1) % 256))
            have HSF : Hid (splitL (LG.set k3 (UInt8.ofNat ((z.toNat + 1) % 256))) = ([], k3, 3)) := by
              show splitL _ = _
              rw [HLE.out, ← hz3]
              exact split_first _ k3 (by omega) _ (next_ne k3 (by omega))
            have G16 : Below w.heap.size w (w15.setCell ⟨gv, k3, none⟩ (vb (UInt8.ofNat ((z.toNat + 1) % 256)))) := G15.setCell (p := ⟨gv, k3, none⟩) (Nat.le_trans gs14 hgv) _
            obtain ⟨p1a, p1b, p1c⟩ := p1.view
            have SF := splitL_any _ NL cv _ _ (ht.below G16) p1c p1a p1b (by omega)
            rw [HSF.out] at SF
            rw [← u8_next] at SF G16
            have hz8 := UInt8.toNat_lt z
            clear p1 p1a p1b p1c hz3 hzz o15 HSF
            generalize z.toNat = X at *
            have i1 : (0 : Int) ≤ (k3 : Int) := by omega
            have i2 : (k3 : Int) < (NL : Int) := by omega
            go_wp2_with fail
            generalize w15.setCell ⟨gv, k3, none⟩ (.int .u8 (((X : Int) + 1) % 256)) = w16 at *
            with_reducible refine SF.mono ?_
            rintro e w17 ⟨v17, rfl, r17, g17⟩
            have G17 : Below w.heap.size w w17 := G16.trans (g17.mono G16.size)
            clear SF r17 g17
            go_wp2_with fail
            go_ret
            exact ⟨rfl, G17⟩
          · have hje : je = 0 := by have := HJE.out; rw [if_neg hbig] at this; exact this.symm
            subst hje
            rw [HOK.out (by omega)] at SP
            have d1 : decide ((L : Int) ≤ 8202) = true := by simp; omega
            clear hbig
            go_wp2_with fail
            with_reducible refine SP.mono ?_
            rintro e w15 ⟨v15, rfl, r15, g15⟩
            obtain ⟨A15, c15, rfl⟩ := r15.form
            rw [hb53]
            have G15 : Below w.heap.size w w15 := G14.trans (g15.mono G14.size)
            have o15 := o14.kept g15
            clear SP r15 g15 o14 G14
            have hk3N : k3 < LG.length := by omega
            obtain ⟨z, hz3⟩ : ∃ z, op4.getD k3 0 = z := ⟨_, rfl⟩
            have hzz : LG.getD k3 0 = z := by
              rw [← hz3, HLE.out]
              simp only [List.getD]
              rw [List.getElem?_append_left (show k3 < op4.length by show k3 < 4; omega)]
            have hcell := World.ownsRow.cellAt o15 k3 (by omega)
            have hfr := World.ownsRow.frozenAt o15 k3
            rw [show (vbs LG)[k3]? = some (.int .u8 (z.toNat : Int)) by rw [← hzz]; simp [vbs, vb, List.getD, List.getElem?_eq_getElem hk3N]] at hcell
            obtain ⟨p1, _⟩ := o15.put k3 (UInt8.ofNat ((z.toNat + 1) % 256))
            have HSF : Hid (splitL (LG.set k3 (UInt8.ofNat ((z.toNat + 1) % 256))) = ([], k3, 3)) := by
              show splitL _ = _
              rw [HLE.out, ← hz3]
              exact split_first _ k3 (by omega) _ (next_ne k3 (by omega))
            have G16 : Below w.heap.size w (w15.setCell ⟨gv, k3, none⟩ (vb (UInt8.ofNat ((z.toNat + 1) % 256)))) := G15.setCell (p := ⟨gv, k3, none⟩) (Nat.le_trans gs14 hgv) _
            obtain ⟨p1a, p1b, p1c⟩ := p1.view
            have SF := splitL_any _ NL cv _ _ (ht.below G16) p1c p1a p1b (by omega)
            rw [HSF.out] at SF
            rw [← u8_next] at SF G16
            have hz8 := UInt8.toNat_lt z
            clear p1 p1a p1b p1c hz3 hzz o15 HSF
            generalize z.toNat = X at *
            have i1 : (0 : Int) ≤ (k3 : Int) := by omega
            have i2 : (k3 : Int) < (NL : Int) := by omega
            go_wp2_with fail
            generalize w15.setCell ⟨gv, k3, none⟩ (.int .u8 (((X : Int) + 1) % 256)) = w16 at *
            with_reducible refine SF.mono ?_
            rintro e w17 ⟨v17, rfl, r17, g17⟩
            have G17 : Below w.heap.size w w17 := G16.trans (g17.mono G16.size)
            clear SF r17 g17
            go_wp2_with fail
            go_ret
            exact ⟨rfl, G17⟩
end Go.Proofs.YtknnncdmpfmgkaaDoor
