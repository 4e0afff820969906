/-
  transeptlaw03.ShaPieces returns true, whatever pieces it is called with, and turns nothing that was there. Condition: the tables hold what the program's text lays.
-/
import Derived.Test.YtiigmpoopmnnhaaDoorSlips
namespace Go.Proofs.YtiigmpoopmnnhaaDoor
open Go.RowKit

set_option maxHeartbeats 16000000 in
set_option maxRecDepth 100000 in
theorem pieces_walk (A0 : Option Addr) (n0 c0 : Nat) (w : World) (h : Rws w A0 n0) (hn0 : n0 ≤ 9223372036854775807) (ht : Tab w) :
    Calls Tryd.prog 5 #[.slice A0 n0 c0] w fun e w' => e = .returned (.bool true) ∧ Below w.heap.size w w' := by
  have gd := guard25
  have ST := start_any
  have y40 := zero40
  have i40 := info40
  have i25 := info25
  have lz : (cells3 (List.replicate 8 0) (List.replicate 64 0) 0).length = 73 := cells3_length _ (by simp) (by simp)
  have lz25 : (vbs (List.replicate 32 0)).length = 32 := by simp [vbs_length]
  generalize cells3 (List.replicate 8 0) (List.replicate 64 0) 0 = Z at y40 i40 lz
  generalize vbs (List.replicate 32 0) = Z25 at i25 lz25
  obtain ⟨S0, hS0⟩ : ∃ S, stc [] = S := ⟨_, rfl⟩
  have k0 : S0.length = Z.length := by rw [← hS0, stc_length, lz]
  have z0 : (Tryd.prog.info? 40).map (·.size) = some S0.length := by rw [← hS0, stc_length]; exact size40
  have o0 : ∀ u ∈ S0, u.oneCell' = true := by rw [← hS0]; exact cells3_one _ _ _
  rw [hS0] at ST
  replace hS0 := Lib.hid hS0
  go_enter Tryd.func5, Tryd.ntmps5
  go_wp2_with fail
  refine (shown_any w ht).mono ?_
  rintro e w1 ⟨rfl, hb1⟩
  go_wp2_with fail
  refine (ST w1 (ht.below hb1)).mono ?_
  rintro e w2 ⟨rfl, hb2⟩
  have b2 : Below w.heap.size w w2 := hb1.trans (hb2.mono hb1.size)
  clear hb1 hb2 ST
  go_wp2_with (first
    | ((with_reducible show wpList _ _ _ (⟨some 4, _, _, _, _, _⟩ :: _) _ _); refine wp_new _ rfl 40 rfl _ y40 ?_; intro w3 g B3 hf3; simp only [Act.put, List.setIfInBounds_toArray, List.set_cons_zero, List.set_cons_succ])
    | ((with_reducible show wpList _ _ _ (⟨none, _, _, _, _, _⟩ :: _) _ _); refine wp_putAll _ rfl 40 (.tmp 4) (.tmp 13) rfl g 40 _ _ rfl rfl B3 k0 z0 o0 ?_; intro w4 B4 U4; simp only [Act.put]))
  have s2 := b2.size
  have gb : w.heap.size ≤ g := by rw [hf3.is]; exact s2
  have b4 : Below w.heap.size w w4 := (b2.trans (hf3.below.mono s2)).trans (U4.below gb)
  have I4 := St.init (base := w.heap.size) (by rw [hS0.out]; exact B4) gb
  have b5 : Below w.heap.size w (w4.alloc (.cells #[] 5)) := b4.alloc b4.size _
  clear s2 hf3 U4 B3 B4 b2 b4 k0 z0 o0 hS0 y40
  go_loopw [5, 6, 7, 8] (fun v5 v6 v7 v8 wr => ∃ (i : Nat) (P : List UInt8) (ps : List (List UInt8)) (f : Nat → Nat) (A5 A6 A7 : Option Addr) (N5 c5 c6 c7 : Nat), v5 = .slice A5 N5 c5 ∧ v6 = .slice A6 i c6 ∧ v7 = .slice A7 i c7 ∧ v8 = .int .i64 i ∧ i ≤ 20 ∧ i ≤ n0 ∧ ps.length = i ∧ P.length = N5 ∧ N5 ≤ 200 * i ∧ St wr w.heap.size g (.slice A5 N5 c5) (.slice A6 i c6) (.slice A7 i c7) (.slice none 0 0) P P [] ps ps f ∧ Hid (∀ p ∈ ps, p.length ≤ 4000) ∧ Below w.heap.size w wr) (fun _ _ _ v _ => 20 - (intOf v).toNat)
  case atStart => exact ⟨0, [], [], _, _, _, _, 0, 0, 0, 0, rfl, rfl, rfl, rfl, by omega, by omega, rfl, rfl, by omega, I4, Lib.hid (by simp), b5⟩
  case round =>
    obtain ⟨i, P, ps, f, A5, A6, A7, N5, c5, c6, c7, rfl, rfl, rfl, rfl, hi, hi0, hps, hPN, hP, S1, HP4, b1⟩ := hrel
    generalize wr = w1 at *
    clear I4 b5
    obtain ⟨SP, hSP⟩ : ∃ S, stc P = S := ⟨_, rfl⟩
    obtain ⟨DP, hDP⟩ : ∃ S, vbs (digest P) = S := ⟨_, rfl⟩
    have zP : (Tryd.prog.info? 40).map (·.size) = some SP.length := by rw [← hSP, stc_length]; exact size40
    have lP : SP.length = 73 := by rw [← hSP, stc_length]
    have oP : ∀ u ∈ SP, u.oneCell' = true := by rw [← hSP]; exact cells3_one _ _ _
    have lD : DP.length = 32 := by rw [← hDP, vbs_length, digest_length]
    have oD : ∀ u ∈ DP, u.oneCell' = true := by rw [← hDP]; exact vbs_one _
    have UP := fun w p1 => stateSum_any P w p1 (by omega)
    rw [hSP, hDP] at UP
    by_cases hlt : i < n0
    · by_cases hlt2 : i < 20
      · have hlt2' : (i : Int) < 20 := by omega
        obtain ⟨b, off, e0, hb0, A, L, C, l, hcell, hbs, hLC, hCm⟩ := h i hlt
        subst e0
        have hc1 : w1.cell? ⟨b, off + i, none⟩ = some (.slice A L C) := (b1.cell (p := ⟨b, off + i, none⟩) hb0).trans hcell
        obtain ⟨m, hm, ma, mb⟩ : ∃ m : Nat, min (L : Int) 200 = (m : Int) ∧ m ≤ L ∧ m ≤ 200 := ⟨min L 200, by omega, by omega, by omega⟩
        have hbs1 := ((hbs.take m ma).below b1).more b1.size
        clear hbs hcell
        generalize l.take m = T at hbs1
        have hTl := hbs1.1
        have hcW : ∀ W, Kept w1 W → W.cell? ⟨b, off + i, none⟩ = some (.slice A L C) := fun W hW => (hW.cell (p := ⟨b, off + i, none⟩) (Nat.lt_of_lt_of_le hb0 b1.size)).trans hc1
        have hmC : m ≤ C := Nat.le_trans ma hLC
        go_wp2_with fail
        have hS0 : Kept w1 w1.drew := (Kept.refl w1).drew
        refine wp_region_held_drew (S := fun W => Kept w1 W) (by kernel_rfl) hS0 (fun hS => ?_)
        refine wpAnyH_take (i := 1) (oi := ⟨some 26, _, _, _, _, _⟩) (v := ?va1) rfl (by kernel_rfl) (by kernel_rfl) (by kernel_rfl) (fun _ _ _ h => h) (Or.inl ⟨by rfl, ?ya1⟩) hS ?ra1
        case ya1 => intro W hW; go_simp; first | done | with_reducible rfl
        simp only [Act.put, List.setIfInBounds_toArray, List.set_cons_zero, List.set_cons_succ]
        refine wpAnyH_take (i := 2) (oi := ⟨some 27, _, _, _, _, _⟩) (v := ?va2) rfl (by kernel_rfl) (by kernel_rfl) (by kernel_rfl) (fun _ _ _ h => h) (Or.inl ⟨by rfl, ?ya2⟩) hS ?ra2
        case ya2 => intro W hW; go_simp; first | done | with_reducible rfl
        simp only [Act.put, List.setIfInBounds_toArray, List.set_cons_zero, List.set_cons_succ]
        refine wpAnyH_take (i := 3) (oi := ⟨some 28, _, _, _, _, _⟩) (v := ?va3) rfl (by kernel_rfl) (by kernel_rfl) (by kernel_rfl) (fun _ _ _ h => h) (Or.inl ⟨by rfl, ?ya3⟩) hS ?ra3
        case ya3 => intro W hW; have v1 := index32 W b off n0 c0 i hlt; go_simp; first | done | with_reducible rfl
        simp only [Act.put, List.setIfInBounds_toArray, List.set_cons_zero, List.set_cons_succ]
        refine wpAnyH_take (i := 4) (oi := ⟨some 29, _, _, _, _, _⟩) (v := ?va4) rfl (by kernel_rfl) (by kernel_rfl) (by kernel_rfl) (fun _ _ _ h => h) (Or.inl ⟨by rfl, ?ya4⟩) hS ?ra4
        case ya4 => intro W hW; have v1 := hcW W hW; go_simp; first | done | with_reducible rfl
        simp only [Act.put, List.setIfInBounds_toArray, List.set_cons_zero, List.set_cons_succ]
        refine wpAnyH_take (i := 5) (oi := ⟨some 30, _, _, _, _, _⟩) (v := ?va5) rfl (by kernel_rfl) (by kernel_rfl) (by kernel_rfl) (fun _ _ _ h => h) (Or.inl ⟨by rfl, ?ya5⟩) hS ?ra5
        case ya5 => intro W hW; go_simp; first | done | with_reducible rfl
        simp only [Act.put, List.setIfInBounds_toArray, List.set_cons_zero, List.set_cons_succ]
        refine wpAnyH_take (i := 6) (oi := ⟨some 31, _, _, _, _, _⟩) (v := ?va6) rfl (by kernel_rfl) (by kernel_rfl) (by kernel_rfl) (fun _ _ _ h => h) (Or.inl ⟨by rfl, ?ya6⟩) hS ?ra6
        case ya6 => intro W hW; go_simp; first | done | with_reducible rfl
        simp only [Act.put, List.setIfInBounds_toArray, List.set_cons_zero, List.set_cons_succ]
        refine wpAnyH_take (i := 7) (oi := ⟨some 32, _, _, _, _, _⟩) (v := ?va7) rfl (by kernel_rfl) (by kernel_rfl) (by kernel_rfl) (fun _ _ _ h => h) (Or.inl ⟨by rfl, ?ya7⟩) hS ?ra7
        case ya7 => intro W hW; have v1 := index32 W b off n0 c0 i hlt; go_simp; first | done | with_reducible rfl
        simp only [Act.put, List.setIfInBounds_toArray, List.set_cons_zero, List.set_cons_succ]
        refine wpAnyH_take (i := 8) (oi := ⟨some 33, _, _, _, _, _⟩) (v := ?va8) rfl (by kernel_rfl) (by kernel_rfl) (by kernel_rfl) (fun _ _ _ h => h) (Or.inl ⟨by rfl, ?ya8⟩) hS ?ra8
        case ya8 => intro W hW; have v1 := hcW W hW; go_simp; first | done | with_reducible rfl
        simp only [Act.put, List.setIfInBounds_toArray, List.set_cons_zero, List.set_cons_succ]
        refine wpAnyH_take (i := 9) (oi := ⟨some 34, _, _, _, _, _⟩) (v := ?va9) rfl (by kernel_rfl) (by kernel_rfl) (by kernel_rfl) (fun _ _ _ h => h) (Or.inl ⟨by rfl, ?ya9⟩) hS ?ra9
        case ya9 => intro W hW; go_simp; first | done | with_reducible rfl
        simp only [Act.put, List.setIfInBounds_toArray, List.set_cons_zero, List.set_cons_succ]
        refine wpAnyH_take (i := 10) (oi := ⟨some 35, _, _, _, _, _⟩) (v := ?va10) rfl (by kernel_rfl) (by kernel_rfl) (by kernel_rfl) (fun _ _ _ h => h) (Or.inl ⟨by rfl, ?ya10⟩) hS ?ra10
        case ya10 => intro W hW; go_simp; first | done | with_reducible rfl
        simp only [Act.put, List.setIfInBounds_toArray, List.set_cons_zero, List.set_cons_succ]
        refine wpAnyH_take (i := 11) (oi := ⟨some 36, _, _, _, _, _⟩) (v := ?va11) rfl (by kernel_rfl) (by kernel_rfl) (by kernel_rfl) (fun _ _ _ h => h) (Or.inl ⟨by rfl, ?ya11⟩) hS ?ra11
        case ya11 => intro W hW; go_simp; first | done | with_reducible rfl
        simp only [Act.put, List.setIfInBounds_toArray, List.set_cons_zero, List.set_cons_succ]
        refine wpAnyH_ready (rs := [0]) (by kernel_rfl) (by simp) ?_
        refine (AllReadyH.cons (o := ⟨some 25, _, _, _, _, _⟩) rfl (fun K hK => ?_) AllReadyH.nil)
        go_simp
        refine hK.out _ _ (hS.alloc _) (fun hS3 => ?_)
        clear hK K
        refine wpAnyH_ready (rs := [12]) (by kernel_rfl) (by simp) ?_
        refine (AllReadyH.cons (o := ⟨some 37, _, _, _, _, _⟩) rfl (fun K hK => ?_) AllReadyH.nil)
        refine step_appS _ rfl (.tmp 25) (.tmp 36) rfl w1.heap.size _ 0 [] rfl (own_empty w1.drew w1.heap.size (Nat.le_refl _)) w1.heap.size _ m _ T rfl ((hbs1.drew).alloc (Nat.le_refl _) _) (by omega) (by simp) m T (by omega) rfl ?_
        intro A3 c3 w3 hc3 hS3' hO3 hbel3
        have hK3 : Kept w1 w3 := hS3.base hbel3
        refine hK.out _ _ hK3 (fun _ => ?_)
        clear hK K
        simp only [Act.put, List.setIfInBounds_toArray, List.set_cons_zero, List.set_cons_succ]
        refine wpAnyH_take (i := 13) (oi := ⟨some 9, _, _, _, _, _⟩) (v := ?vf13) rfl (by kernel_rfl) (by kernel_rfl) (by kernel_rfl) (fun _ _ _ h => h) (Or.inl ⟨by rfl, ?yf13⟩) hK3 ?rf13
        case yf13 => intro W hW; go_simp; first | done | with_reducible rfl
        simp only [Act.put, List.setIfInBounds_toArray, List.set_cons_zero, List.set_cons_succ]
        refine wpAnyH_done (by kernel_rfl) ?_ _
        have cap3 := hO3.capmax
        have S3 := S1.newP hK3 hO3 b1.size
        have b3 : Below w.heap.size w w3 := b1.trans (hK3.mono b1.size)
        clear hmC hS3 hS3' hbel3 hS hS0 hK3 hO3 b1 S1 hc1 hcW hbs1 hb0 hCm hLC hm ma
        have B3 : Blk w3 g 40 SP := by rw [← hSP]; exact S3.var
        have O3 := S3.s.own
        go_wp2_with (first
          | ((with_reducible show wpList _ _ _ (⟨some 39, _, _, _, _, _⟩ :: _) _ _); refine wp_get _ rfl 40 (.tmp 4) rfl g 0 _ _ rfl B3.whole Tryd.underlying40 rfl zP ?_; simp only [Act.put, List.setIfInBounds_toArray, List.set_cons_zero, List.set_cons_succ])
          | ((with_reducible show wpList _ _ _ (⟨some 40, _, _, _, _, _⟩ :: _) _ _); refine wp_buildT _ rfl 42 40 (.tmp 39) rfl Tryd.underlying42 SP Z 104 (by rw [lP]; exact i40) rfl (by omega) (by omega) ?_; intro w4 g4 B4 hf4; simp only [Act.put, List.setIfInBounds_toArray, List.set_cons_zero, List.set_cons_succ])
          | ((with_reducible show wpList _ _ _ (⟨some 41, _, _, _, _, _⟩ :: _) _ _); refine wp_app1 _ rfl (.tmp 38) (.tmp 40) 42 40 rfl Tryd.underlying42 SP 73 lP Z 104 i40 lz (by omega) oP w.heap.size (.slice A6 i c6) _ _ rfl ((S3.keep hf4.below).s.own) g4 _ rfl B4 (by omega) (by omega) (Nat.le_trans b3.size hf4.below.size) ?_; intro x6 w5 hO5 hg5 hat5; have S5 := (S3.keep hf4.below).appS (R := P) (by rw [hSP]; exact hO5) hg5 hat5; have b5 : Below w.heap.size w w5 := (b3.trans (hf4.below.mono b3.size)).grown hg5 (Nat.le_trans b3.size hf4.below.size) (fun k hk => ((S3.keep hf4.below).s.own.lt k hk).1); have B5 : Blk w5 g 40 SP := (by rw [← hSP]; exact S5.var); simp only [Act.put, List.setIfInBounds_toArray, List.set_cons_zero, List.set_cons_succ])
          | ((with_reducible show wpList _ _ _ (⟨some 43, _, _, _, _, _⟩ :: _) _ _); refine wp_get _ rfl 40 (.tmp 4) rfl g 0 _ _ rfl B5.whole Tryd.underlying40 rfl zP ?_; simp only [Act.put, List.setIfInBounds_toArray, List.set_cons_zero, List.set_cons_succ]))
        clear hf4 B4 hg5 hat5 S3 b3 B3 O3
        refine (UP w5 (ht.below b5)).mono ?_
        rintro e w6 ⟨rfl, hb6⟩
        have S6 := S5.keep hb6
        have b6 : Below w.heap.size w w6 := b5.trans (hb6.mono b5.size)
        clear S5 hb6 b5 B5
        go_wp2_with (first
          | ((with_reducible show wpList _ _ _ (⟨some 45, _, _, _, _, _⟩ :: _) _ _); refine wp_buildT _ rfl 43 25 (.tmp 44) rfl Tryd.underlying43 DP Z25 32 (by rw [lD]; exact i25) rfl (by omega) (by omega) ?_; intro w7 g7 B7 hf7; simp only [Act.put, List.setIfInBounds_toArray, List.set_cons_zero, List.set_cons_succ])
          | ((with_reducible show wpList _ _ _ (⟨some 46, _, _, _, _, _⟩ :: _) _ _); refine wp_app1 _ rfl (.tmp 42) (.tmp 45) 43 25 rfl Tryd.underlying43 DP 32 lD Z25 32 i25 lz25 (by omega) oD w.heap.size (.slice A7 i c7) _ _ rfl ((S6.keep hf7.below).d.own) g7 _ rfl B7 (by omega) (by omega) (Nat.le_trans b6.size hf7.below.size) ?_; intro x7 w8 hO8 hg8 hat8; have S8 := (S6.keep hf7.below).appD (R := P) (by rw [hDP]; exact hO8) hg8 hat8; have b8 : Below w.heap.size w w8 := (b6.trans (hf7.below.mono b6.size)).grown hg8 (Nat.le_trans b6.size hf7.below.size) (fun k hk => ((S6.keep hf7.below).d.own.lt k hk).1); have B8 : Blk w8 g 40 SP := (by rw [← hSP]; exact S8.var); simp only [Act.put, List.setIfInBounds_toArray, List.set_cons_zero, List.set_cons_succ])
          | ((with_reducible show wpList _ _ _ (⟨some 47, _, _, _, _, _⟩ :: _) _ _); refine wp_get _ rfl 40 (.tmp 4) rfl g 0 _ _ rfl B8.whole Tryd.underlying40 rfl zP ?_; simp only [Act.put, List.setIfInBounds_toArray, List.set_cons_zero, List.set_cons_succ]))
        clear hf7 B7 hg8 hat8 S6 b6
        obtain ⟨SQ, hSQ⟩ : ∃ S, stc (P ++ T) = S := ⟨_, rfl⟩
        obtain ⟨DQ, hDQ⟩ : ∃ S, vbs (digest (P ++ T)) = S := ⟨_, rfl⟩
        have zQ : (Tryd.prog.info? 40).map (·.size) = some SQ.length := by rw [← hSQ, stc_length]; exact size40
        have lQ : SQ.length = SP.length := by rw [← hSQ, stc_length, lP]
        have oQ : ∀ u ∈ SQ, u.oneCell' = true := by rw [← hSQ]; exact cells3_one _ _ _
        have MQ := fun w p1 p2 => more_any P A3 m c3 T w p1 p2 hc3 cap3 (by omega)
        rw [hSP, hSQ] at MQ
        have OP8 := S8.p.own
        rw [hTl] at OP8
        refine (MQ w8 (ht.below b8) (Own.bs OP8).1).mono ?_
        rintro e w9 ⟨rfl, hb9⟩
        have S9 := S8.keep hb9
        have b9 : Below w.heap.size w w9 := b8.trans (hb9.mono b8.size)
        have B9 := B8.kept hb9
        clear S8 hb9 b8 B8 OP8 MQ
        go_wp2_with (first
          | ((with_reducible show wpList _ _ _ (⟨none, _, _, _, _, _⟩ :: _) _ _); refine wp_putAll _ rfl 40 (.tmp 4) (.tmp 49) rfl g 40 _ _ rfl rfl B9 lQ zQ oQ ?_; intro w10 B10 U10; have S10 := S9.put (Q' := P ++ T) U10 (by rw [hSQ]; exact B10); have b10 : Below w.heap.size w w10 := b9.trans (U10.below S9.gb); have OA := S10.a.own; rw [hPN] at OA; have OP := S10.p.own; rw [hTl] at OP; simp only [Act.put])
          | ((with_reducible show wpList _ _ _ (⟨some 52, _, _, _, _, _⟩ :: _) _ _); refine wp_appAt _ rfl (.tmp 50) (.tmp 51) rfl w.heap.size (.slice A5 N5 c5) N5 P rfl OA w10.heap.size A3 m c3 T rfl (Own.bs OP).1 (by omega) b10.size ?_; intro x5 w11 hO11 hg11 hat11; have S11 := S10.appA (R := T) hO11 hg11 hat11; have b11 : Below w.heap.size w w11 := b10.grown hg11 b10.size (fun k hk => (S10.a.own.lt k hk).1); simp only [Act.put, List.setIfInBounds_toArray, List.set_cons_zero, List.set_cons_succ]))
        clear U10 B10 B9 S9 b9 OA OP hg11 hat11 S10 b10
        rw [hps] at hO5 hO8
        obtain ⟨X5, y5, rfl, _⟩ := row_form hO11
        obtain ⟨X6, y6, rfl, _⟩ := row_form hO5
        obtain ⟨X7, y7, rfl, _⟩ := row_form hO8
        clear hO5 hO8 hO11
        obtain ⟨F, S12⟩ : ∃ F, St w11 w.heap.size g (.slice X5 (N5 + m) y5) (.slice X6 (i + 1) y6) (.slice X7 (i + 1) y7) (.slice A3 m c3) (P ++ T) (P ++ T) T (ps ++ [P]) (ps ++ [P]) F := ⟨_, S11⟩
        clear S11
        obtain ⟨PT, hPT⟩ : ∃ x, P ++ T = x := ⟨_, rfl⟩
        obtain ⟨pt, hpt⟩ : ∃ x, ps ++ [P] = x := ⟨_, rfl⟩
        obtain ⟨N, hN⟩ : ∃ x, N5 + m = x := ⟨_, rfl⟩
        have lPT : PT.length = N := by rw [← hPT, ← hN, List.length_append, hPN, hTl]
        have HP5 : Hid (∀ p ∈ pt, p.length ≤ 4000) := Lib.hid (by
          rw [← hpt]
          intro p hp
          rw [List.mem_append] at hp
          rcases hp with hp | hp
          · exact HP4.out p hp
          · rw [List.mem_singleton] at hp
            subst hp
            omega)
        have lpt : pt.length = i + 1 := by rw [← hpt, List.length_append, hps]; rfl
        rw [hPT, hpt] at S12
        rw [hPT] at hSQ hDQ
        simp only [hN] at S12 ⊢
        have hNb : N ≤ 200 * (i + 1) := by omega
        clear hPT hpt UP lP zP oP lD oD hSP hDP oQ lQ HP4
        go_loopw [10] (fun v10 wr => ∃ (k : Nat) (R : List UInt8), v10 = .int .i64 k ∧ k ≤ m ∧ R.length = m ∧ St wr w.heap.size g (.slice X5 N y5) (.slice X6 (i + 1) y6) (.slice X7 (i + 1) y7) (.slice A3 m c3) PT PT R pt pt F ∧ Below w.heap.size w wr) (fun v _ => m - (intOf v).toNat)
        case atStart => exact ⟨0, T, rfl, by omega, hTl, S12, b11⟩
        case round =>
          obtain ⟨k, R, rfl, hk, hR, S13, b13⟩ := hrel
          generalize wr = w13 at *
          clear S12 b11
          by_cases hkm : k < m
          · have OP := S13.p.own
            rw [hR] at OP
            obtain ⟨gp, eA⟩ : ∃ gp, A3 = some ⟨gp, 0, none⟩ := by
              obtain ⟨A', c', e, hpos⟩ := row_form OP
              injection e with e1
              rw [e1]
              exact hpos (by omega)
            subst eA
            obtain ⟨C, BC, hkC, hCk, hset⟩ := Own.setAt OP hkm
            obtain ⟨x, hx⟩ : ∃ x, R.getD k 0 = x := ⟨_, rfl⟩
            rw [hx] at hCk
            have hck : w13.cell? ⟨gp, k, none⟩ = some (.int .u8 (x.toNat : Int)) := BC.cell hCk
            clear hCk hx OP
            go_wp2_with (first
              | ((with_reducible show wpList _ _ _ (⟨none, _, _, _, _, _⟩ :: _) _ _); refine wp_set _ rfl 5 (.tmp 66) (.tmp 65) rfl gp k 5 C _ rfl rfl rfl rfl BC hkC size5 ?_; intro w14 B14 U14; simp only [Act.put]))
            go_roundw
            case rel =>
              have e := u8_next x
              have B15 : Blk w14 gp 5 (C.set k (vb (UInt8.ofNat ((x.toNat + 1) % 256)))) := by rw [← e]; exact B14
              exact ⟨k + 1, R.set k (UInt8.ofNat ((x.toNat + 1) % 256)), by go_num, by omega, by rw [List.length_set, hR], S13.setP rfl U14 (by rw [List.length_set, hR]; exact hset _ _ B15), b13.trans (U14.below (S13.p.own.lt gp rfl).1)⟩
            case measure => simp [intOf]; omega
          · replace S13 := S13.noP
            have B13 : Blk w13 g 40 SQ := by rw [← hSQ]; exact S13.var
            have OA := S13.a.own
            rw [lPT] at OA
            have capA := Own.capmax OA
            obtain ⟨bsA, lcA⟩ := Own.bs OA
            have UQ := fun w p1 => stateSum_any PT w p1 (by omega)
            have ZQ := fun w p1 p2 => sum_any X5 N y5 PT w p1 p2 lcA capA (by omega)
            have eqQ := eqSelf (digest PT) (digest_length PT)
            rw [hSQ, hDQ] at UQ
            rw [hDQ] at ZQ eqQ
            have T13 := ht.below b13
            clear OA
            go_wp2_with fail
            have hS0 : Kept w13 w13.drew := (Kept.refl w13).drew
            refine wp_region_held_drew (S := fun W => Kept w13 W) (by kernel_rfl) hS0 (fun hS => ?_)
            have hK0 := hS
            refine wpAnyH_take (i := 0) (oi := ⟨some 67, _, _, _, _, _⟩) (v := _) rfl (by kernel_rfl) (by kernel_rfl) (by kernel_rfl) (fun _ _ _ h => h) (yieldsIf_load_mid (by rfl) 40 (.tmp 4) rfl g 0 rfl SQ _ (fun W hW => (B13.kept hW).whole) Tryd.underlying40 rfl zQ) hS ?_
            simp only [Act.put, List.setIfInBounds_toArray, List.set_cons_zero, List.set_cons_succ]
            refine wpAnyH_take (i := 2) (oi := ⟨some 69, _, _, _, _, _⟩) (v := ?vh2) rfl (by kernel_rfl) (by kernel_rfl) (by kernel_rfl) (fun _ _ _ h => h) (Or.inl ⟨by rfl, ?yh2⟩) hS ?rh2
            case yh2 => intro W hW; go_simp; first | done | with_reducible rfl
            simp only [Act.put, List.setIfInBounds_toArray, List.set_cons_zero, List.set_cons_succ]
            refine wpAnyH_ready (rs := [1]) (by kernel_rfl) (by simp) ?_
            refine (AllReadyH.cons (o := ⟨some 68, _, _, _, _, _⟩) rfl (fun K hK => ?_) AllReadyH.nil)
            go_simp
            refine (UQ _ (T13.below hK0)).mono ?_
            rintro e w21 ⟨rfl, hb21⟩
            have hK21 : Kept w13 w21 := hK0.step hb21
            refine hK.out _ _ hK21 (fun _ => ?_)
            clear hK K
            try simp only [Act.put, List.setIfInBounds_toArray, List.set_cons_zero, List.set_cons_succ]
            refine wpAnyH_ready (rs := [3]) (by kernel_rfl) (by simp) ?_
            refine (AllReadyH.cons (o := ⟨some 70, _, _, _, _, _⟩) rfl (fun K hK => ?_) AllReadyH.nil)
            go_simp
            refine (ZQ _ (T13.below hK21) ((bsA.below hK21).more hK21.size)).mono ?_
            rintro e w22 ⟨rfl, hb22⟩
            have hK22 : Kept w13 w22 := hK21.step hb22
            refine hK.out _ _ hK22 (fun _ => ?_)
            clear hK K
            try simp only [Act.put, List.setIfInBounds_toArray, List.set_cons_zero, List.set_cons_succ]
            refine wpAnyH_take (i := 4) (oi := ⟨some 71, _, _, _, _, _⟩) (v := ?vh4) rfl (by kernel_rfl) (by kernel_rfl) (by kernel_rfl) (fun _ _ _ h => h) (Or.inl ⟨by rfl, ?yh4⟩) hK22 ?rh4
            case yh4 => intro W hW; have v1 := eqQ W; go_simp; first | done | with_reducible rfl
            simp only [Act.put, List.setIfInBounds_toArray, List.set_cons_zero, List.set_cons_succ]
            refine wpAnyH_take (i := 5) (oi := ⟨some 72, _, _, _, _, _⟩) (v := ?vh5) rfl (by kernel_rfl) (by kernel_rfl) (by kernel_rfl) (fun _ _ _ h => h) (Or.inl ⟨by rfl, ?yh5⟩) hK22 ?rh5
            case yh5 => intro W hW; go_simp; first | done | with_reducible rfl
            simp only [Act.put, List.setIfInBounds_toArray, List.set_cons_zero, List.set_cons_succ]
            refine wpAnyH_take (i := 6) (oi := ⟨some 73, _, _, _, _, _⟩) (v := _) rfl (by kernel_rfl) (by kernel_rfl) (by kernel_rfl) (fun _ _ _ h => h) (yieldsIf_load_mid (by rfl) 40 (.tmp 4) rfl g 0 rfl SQ _ (fun W hW => (B13.kept hW).whole) Tryd.underlying40 rfl zQ) hK22 ?_
            simp only [Act.put, List.setIfInBounds_toArray, List.set_cons_zero, List.set_cons_succ]
            refine wpAnyH_take (i := 8) (oi := ⟨some 75, _, _, _, _, _⟩) (v := _) rfl (by kernel_rfl) (by kernel_rfl) (by kernel_rfl) (fun _ _ _ h => h) (yieldsIf_load_mid (by rfl) 40 (.tmp 4) rfl g 0 rfl SQ _ (fun W hW => (B13.kept hW).whole) Tryd.underlying40 rfl zQ) hK22 ?_
            simp only [Act.put, List.setIfInBounds_toArray, List.set_cons_zero, List.set_cons_succ]
            refine wpAnyH_ready (rs := [7]) (by kernel_rfl) (by simp) ?_
            refine (AllReadyH.cons (o := ⟨some 74, _, _, _, _, _⟩) rfl (fun K hK => ?_) AllReadyH.nil)
            go_simp
            refine (UQ _ (T13.below hK22)).mono ?_
            rintro e w23 ⟨rfl, hb23⟩
            have hK23 : Kept w13 w23 := hK22.step hb23
            refine hK.out _ _ hK23 (fun _ => ?_)
            clear hK K
            try simp only [Act.put, List.setIfInBounds_toArray, List.set_cons_zero, List.set_cons_succ]
            refine wpAnyH_ready (rs := [9]) (by kernel_rfl) (by simp) ?_
            refine (AllReadyH.cons (o := ⟨some 76, _, _, _, _, _⟩) rfl (fun K hK => ?_) AllReadyH.nil)
            go_simp
            refine (UQ _ (T13.below hK23)).mono ?_
            rintro e w24 ⟨rfl, hb24⟩
            have hK24 : Kept w13 w24 := hK23.step hb24
            refine hK.out _ _ hK24 (fun _ => ?_)
            clear hK K
            try simp only [Act.put, List.setIfInBounds_toArray, List.set_cons_zero, List.set_cons_succ]
            refine wpAnyH_take (i := 10) (oi := ⟨some 77, _, _, _, _, _⟩) (v := ?vh10) rfl (by kernel_rfl) (by kernel_rfl) (by kernel_rfl) (fun _ _ _ h => h) (Or.inl ⟨by rfl, ?yh10⟩) hK24 ?rh10
            case yh10 => intro W hW; have v1 := eqQ W; go_simp; first | done | with_reducible rfl
            simp only [Act.put, List.setIfInBounds_toArray, List.set_cons_zero, List.set_cons_succ]
            refine wpAnyH_take (i := 11) (oi := ⟨some 78, _, _, _, _, _⟩) (v := ?vh11) rfl (by kernel_rfl) (by kernel_rfl) (by kernel_rfl) (fun _ _ _ h => h) (Or.inl ⟨by rfl, ?yh11⟩) hK24 ?rh11
            case yh11 => intro W hW; go_simp; first | done | with_reducible rfl
            simp only [Act.put, List.setIfInBounds_toArray, List.set_cons_zero, List.set_cons_succ]
            refine wpAnyH_done (by kernel_rfl) ?_ _
            have S15 := S13.keep hK24
            have b15 : Below w.heap.size w w24 := b13.trans (hK24.mono b13.size)
            clear hK24 hK23 hK22 hK21 hb21 hb22 hb23 hb24 hS hS0 hK0 UQ ZQ eqQ S13 b13 B13 bsA
            go_wp2_with fail
            go_roundw
            case rel =>
              exact ⟨i + 1, PT, pt, F, X5, X6, X7, N, y5, y6, y7, rfl, rfl, rfl, by go_num, by omega, by omega, lpt, lPT, hNb, S15, HP5, b15⟩
            case measure => simp [intOf]; omega
      · have hout : ¬ ((i : Int) < 20) := by omega
        go_wp2_with fail
        go_loopw [11] (fun v11 wr => ∃ (j : Nat), v11 = .int .i64 j ∧ j ≤ i ∧ St wr w.heap.size g (.slice A5 N5 c5) (.slice A6 i c6) (.slice A7 i c7) (.slice none 0 0) P P [] ps ps f ∧ Below w.heap.size w wr) (fun v _ => i - (intOf v).toNat)
        case atStart => exact ⟨0, rfl, by omega, S1, b1⟩
        case round =>
          obtain ⟨j, rfl, hj, S2, b2⟩ := hrel
          generalize wr = w2 at *
          clear S1 b1
          by_cases hji : j < i
          · obtain ⟨q, hq⟩ : ∃ q, ps[j]? = some q := ⟨_, List.getElem?_eq_getElem (by omega)⟩
            have lq := HP4.out q (List.mem_of_getElem? hq)
            obtain ⟨gs, eS⟩ : ∃ gs, A6 = some ⟨gs, 0, none⟩ := by
              have OS := S2.s.own
              rw [hps] at OS
              obtain ⟨A', c', e, hpos⟩ := row_form OS
              injection e with e1
              rw [e1]
              exact hpos (by omega)
            obtain ⟨gd2, eD⟩ : ∃ gs, A7 = some ⟨gs, 0, none⟩ := by
              have OS := S2.d.own
              rw [hps] at OS
              obtain ⟨A', c', e, hpos⟩ := row_form OS
              injection e with e1
              rw [e1]
              exact hpos (by omega)
            subst eS eD
            obtain ⟨Sq, hSq⟩ : ∃ S, stc q = S := ⟨_, rfl⟩
            obtain ⟨Dq, hDq⟩ : ∃ S, vbs (digest q) = S := ⟨_, rfl⟩
            have zq : (Tryd.prog.info? 40).map (·.size) = some Sq.length := by rw [← hSq, stc_length]; exact size40
            have zd : (Tryd.prog.info? 25).map (·.size) = some Dq.length := by rw [← hDq, vbs_length, digest_length]; exact size25
            have R1 : ∀ W, Kept w2 W → W.rangeAt gs (j * 73) Sq := by
              intro W hW
              have OS := (S2.keep hW).s.own
              rw [hps] at OS
              rw [← hSq]
              exact range_at stc 73 stc_length OS hq
            have R2 : ∀ W, Kept w2 W → W.rangeAt gd2 (j * 32) Dq := by
              intro W hW
              have OS := (S2.keep hW).d.own
              rw [hps] at OS
              rw [← hDq]
              exact range_at (fun p => vbs (digest p)) 32 (fun p => by rw [vbs_length, digest_length]) OS hq
            have Uq := fun w p1 => stateSum_any q w p1 (by omega)
            have eqq := eqSelf (digest q) (digest_length q)
            have Mq := fun A c w p1 p2 p3 p4 => more_any q A 6 c [98, 101, 104, 105, 110, 100] w p1 p2 p3 p4 (by omega)
            rw [hSq] at Mq
            generalize stc (q ++ [98, 101, 104, 105, 110, 100]) = SB at Mq
            rw [hSq, hDq] at Uq
            rw [hDq] at eqq
            have T2 := ht.below b2
            have v42 := fun W => index42 W gs i c6 j hji
            have v43 := fun W => index43 W gd2 i c7 j hji
            have kc := fun (w : World) (C : Array Value) (n c : Nat) => Lib.run_convert_bytes_const (P := Tryd.prog) w 22 5 C n c Tryd.underlying22 Tryd.underlying5
            clear hSq hDq hq
            go_wp2_with (first
              | ((with_reducible show wpList _ _ _ (⟨some 88, _, _, _, _, _⟩ :: _) _ _); refine wp_get _ rfl 40 (.tmp 87) rfl gs (j * 73) _ _ rfl (R1 _ (Kept.refl _)) Tryd.underlying40 rfl zq ?_; simp only [Act.put, List.setIfInBounds_toArray, List.set_cons_zero, List.set_cons_succ]))
            refine (Mq _ 6 _ (T2.alloc _) (Bs.newF w2 [98, 101, 104, 105, 110, 100] _ rfl 6 rfl _) (by omega) (by omega)).mono ?_
            rintro e w3 ⟨rfl, hb3⟩
            have K3 : Kept w2 w3 := ((Kept.refl w2).alloc _).step hb3
            clear hb3 Mq kc
            go_wp2_with fail
            have hS0 : Kept w2 w3.drew := K3.drew
            refine wp_region_held_drew (S := fun W => Kept w2 W) (by kernel_rfl) hS0 (fun hS => ?_)
            have hK0 := hS
            refine wpAnyH_take (i := 0) (oi := ⟨some 92, _, _, _, _, _⟩) (v := ?vk0) rfl (by kernel_rfl) (by kernel_rfl) (by kernel_rfl) (fun _ _ _ h => h) (Or.inl ⟨by rfl, ?yk0⟩) hS ?rk0
            case yk0 => intro W hW; go_simp; first | done | with_reducible rfl
            simp only [Act.put, List.setIfInBounds_toArray, List.set_cons_zero, List.set_cons_succ]
            refine wpAnyH_take (i := 1) (oi := ⟨some 93, _, _, _, _, _⟩) (v := ?vk1) rfl (by kernel_rfl) (by kernel_rfl) (by kernel_rfl) (fun _ _ _ h => h) (Or.inl ⟨by rfl, ?yk1⟩) hS ?rk1
            case yk1 => intro W hW; go_simp; first | done | with_reducible rfl
            simp only [Act.put, List.setIfInBounds_toArray, List.set_cons_zero, List.set_cons_succ]
            refine wpAnyH_take (i := 2) (oi := ⟨some 94, _, _, _, _, _⟩) (v := ?vk2) rfl (by kernel_rfl) (by kernel_rfl) (by kernel_rfl) (fun _ _ _ h => h) (Or.inl ⟨by rfl, ?yk2⟩) hS ?rk2
            case yk2 => intro W hW; have v1 := v42 W; go_simp; first | done | with_reducible rfl
            simp only [Act.put, List.setIfInBounds_toArray, List.set_cons_zero, List.set_cons_succ]
            refine wpAnyH_take (i := 3) (oi := ⟨some 95, _, _, _, _, _⟩) (v := _) rfl (by kernel_rfl) (by kernel_rfl) (by kernel_rfl) (fun _ _ _ h => h) (yieldsIf_load_mid (by rfl) 40 (.tmp 94) rfl gs (j * 73) rfl Sq _ (fun W hW => R1 W hW) Tryd.underlying40 rfl zq) hS ?_
            simp only [Act.put, List.setIfInBounds_toArray, List.set_cons_zero, List.set_cons_succ]
            refine wpAnyH_take (i := 5) (oi := ⟨some 97, _, _, _, _, _⟩) (v := ?vk5) rfl (by kernel_rfl) (by kernel_rfl) (by kernel_rfl) (fun _ _ _ h => h) (Or.inl ⟨by rfl, ?yk5⟩) hS ?rk5
            case yk5 => intro W hW; go_simp; first | done | with_reducible rfl
            simp only [Act.put, List.setIfInBounds_toArray, List.set_cons_zero, List.set_cons_succ]
            refine wpAnyH_take (i := 6) (oi := ⟨some 98, _, _, _, _, _⟩) (v := ?vk6) rfl (by kernel_rfl) (by kernel_rfl) (by kernel_rfl) (fun _ _ _ h => h) (Or.inl ⟨by rfl, ?yk6⟩) hS ?rk6
            case yk6 => intro W hW; go_simp; first | done | with_reducible rfl
            simp only [Act.put, List.setIfInBounds_toArray, List.set_cons_zero, List.set_cons_succ]
            refine wpAnyH_take (i := 7) (oi := ⟨some 99, _, _, _, _, _⟩) (v := ?vk7) rfl (by kernel_rfl) (by kernel_rfl) (by kernel_rfl) (fun _ _ _ h => h) (Or.inl ⟨by rfl, ?yk7⟩) hS ?rk7
            case yk7 => intro W hW; have v1 := v43 W; go_simp; first | done | with_reducible rfl
            simp only [Act.put, List.setIfInBounds_toArray, List.set_cons_zero, List.set_cons_succ]
            refine wpAnyH_take (i := 8) (oi := ⟨some 100, _, _, _, _, _⟩) (v := _) rfl (by kernel_rfl) (by kernel_rfl) (by kernel_rfl) (fun _ _ _ h => h) (yieldsIf_load_mid (by rfl) 25 (.tmp 99) rfl gd2 (j * 32) rfl Dq _ (fun W hW => R2 W hW) Tryd.underlying25 rfl zd) hS ?_
            simp only [Act.put, List.setIfInBounds_toArray, List.set_cons_zero, List.set_cons_succ]
            refine wpAnyH_ready (rs := [4]) (by kernel_rfl) (by simp) ?_
            refine (AllReadyH.cons (o := ⟨some 96, _, _, _, _, _⟩) rfl (fun K hK => ?_) AllReadyH.nil)
            go_simp
            refine (Uq _ (T2.below hK0)).mono ?_
            rintro e w21 ⟨rfl, hb21⟩
            have hK21 : Kept w2 w21 := hK0.step hb21
            refine hK.out _ _ hK21 (fun _ => ?_)
            clear hK K
            try simp only [Act.put, List.setIfInBounds_toArray, List.set_cons_zero, List.set_cons_succ]
            refine wpAnyH_take (i := 9) (oi := ⟨some 101, _, _, _, _, _⟩) (v := ?vk9) rfl (by kernel_rfl) (by kernel_rfl) (by kernel_rfl) (fun _ _ _ h => h) (Or.inl ⟨by rfl, ?yk9⟩) hK21 ?rk9
            case yk9 => intro W hW; have v1 := eqq W; go_simp; first | done | with_reducible rfl
            simp only [Act.put, List.setIfInBounds_toArray, List.set_cons_zero, List.set_cons_succ]
            refine wpAnyH_done (by kernel_rfl) ?_ _
            have S4 := S2.keep hK21
            have b4 : Below w.heap.size w w21 := b2.trans (hK21.mono b2.size)
            clear hK21 hb21 hS hS0 hK0 S2 b2 R1 R2 v42 v43 Uq eqq K3 T2
            go_wp2_with fail
            go_roundw
            case rel => exact ⟨j + 1, by go_num, by omega, S4, b4⟩
            case measure => simp [intOf]; omega
          · have B2 : Blk w2 g 40 SP := by rw [← hSP]; exact S2.var
            have OA := S2.a.own
            rw [hPN] at OA
            have capA := Own.capmax OA
            obtain ⟨bsA, lcA⟩ := Own.bs OA
            have ZP := fun w p1 p2 => sum_any A5 N5 c5 P w p1 p2 lcA capA (by omega)
            have eqP := eqSelf (digest P) (digest_length P)
            rw [hDP] at ZP eqP
            clear OA
            go_wp2_with (first
              | ((with_reducible show wpList _ _ _ (⟨some 104, _, _, _, _, _⟩ :: _) _ _); refine wpG_get _ rfl 40 (.tmp 4) rfl g 0 _ _ rfl B2.whole Tryd.underlying40 rfl zP ?_; simp only [Act.put, List.setIfInBounds_toArray, List.set_cons_zero, List.set_cons_succ]))
            refine (UP w2 (ht.below b2)).mono ?_
            rintro e w3 ⟨rfl, hb3⟩
            have b3 : Below w.heap.size w w3 := b2.trans (hb3.mono b2.size)
            go_wp2_with fail
            refine (ZP w3 (ht.below b3) ((bsA.below hb3).more hb3.size)).mono ?_
            rintro e w4 ⟨rfl, hb4⟩
            have b4 : Below w.heap.size w w4 := b3.trans (hb4.mono b3.size)
            go_wp2_with fail
            go_ret
            exact ⟨rfl, b4⟩
    · skip
      go_wp2_with fail
      go_loopw [11] (fun v11 wr => ∃ (j : Nat), v11 = .int .i64 j ∧ j ≤ i ∧ St wr w.heap.size g (.slice A5 N5 c5) (.slice A6 i c6) (.slice A7 i c7) (.slice none 0 0) P P [] ps ps f ∧ Below w.heap.size w wr) (fun v _ => i - (intOf v).toNat)
      case atStart => exact ⟨0, rfl, by omega, S1, b1⟩
      case round =>
        obtain ⟨j, rfl, hj, S2, b2⟩ := hrel
        generalize wr = w2 at *
        clear S1 b1
        by_cases hji : j < i
        · obtain ⟨q, hq⟩ : ∃ q, ps[j]? = some q := ⟨_, List.getElem?_eq_getElem (by omega)⟩
          have lq := HP4.out q (List.mem_of_getElem? hq)
          obtain ⟨gs, eS⟩ : ∃ gs, A6 = some ⟨gs, 0, none⟩ := by
            have OS := S2.s.own
            rw [hps] at OS
            obtain ⟨A', c', e, hpos⟩ := row_form OS
            injection e with e1
            rw [e1]
            exact hpos (by omega)
          obtain ⟨gd2, eD⟩ : ∃ gs, A7 = some ⟨gs, 0, none⟩ := by
            have OS := S2.d.own
            rw [hps] at OS
            obtain ⟨A', c', e, hpos⟩ := row_form OS
            injection e with e1
            rw [e1]
            exact hpos (by omega)
          subst eS eD
          obtain ⟨Sq, hSq⟩ : ∃ S, stc q = S := ⟨_, rfl⟩
          obtain ⟨Dq, hDq⟩ : ∃ S, vbs (digest q) = S := ⟨_, rfl⟩
          have zq : (Tryd.prog.info? 40).map (·.size) = some Sq.length := by rw [← hSq, stc_length]; exact size40
          have zd : (Tryd.prog.info? 25).map (·.size) = some Dq.length := by rw [← hDq, vbs_length, digest_length]; exact size25
          have R1 : ∀ W, Kept w2 W → W.rangeAt gs (j * 73) Sq := by
            intro W hW
            have OS := (S2.keep hW).s.own
            rw [hps] at OS
            rw [← hSq]
            exact range_at stc 73 stc_length OS hq
          have R2 : ∀ W, Kept w2 W → W.rangeAt gd2 (j * 32) Dq := by
            intro W hW
            have OS := (S2.keep hW).d.own
            rw [hps] at OS
            rw [← hDq]
            exact range_at (fun p => vbs (digest p)) 32 (fun p => by rw [vbs_length, digest_length]) OS hq
          have Uq := fun w p1 => stateSum_any q w p1 (by omega)
          have eqq := eqSelf (digest q) (digest_length q)
          have Mq := fun A c w p1 p2 p3 p4 => more_any q A 6 c [98, 101, 104, 105, 110, 100] w p1 p2 p3 p4 (by omega)
          rw [hSq] at Mq
          generalize stc (q ++ [98, 101, 104, 105, 110, 100]) = SB at Mq
          rw [hSq, hDq] at Uq
          rw [hDq] at eqq
          have T2 := ht.below b2
          have v42 := fun W => index42 W gs i c6 j hji
          have v43 := fun W => index43 W gd2 i c7 j hji
          have kc := fun (w : World) (C : Array Value) (n c : Nat) => Lib.run_convert_bytes_const (P := Tryd.prog) w 22 5 C n c Tryd.underlying22 Tryd.underlying5
          clear hSq hDq hq
          go_wp2_with (first
            | ((with_reducible show wpList _ _ _ (⟨some 88, _, _, _, _, _⟩ :: _) _ _); refine wp_get _ rfl 40 (.tmp 87) rfl gs (j * 73) _ _ rfl (R1 _ (Kept.refl _)) Tryd.underlying40 rfl zq ?_; simp only [Act.put, List.setIfInBounds_toArray, List.set_cons_zero, List.set_cons_succ]))
          refine (Mq _ 6 _ (T2.alloc _) (Bs.newF w2 [98, 101, 104, 105, 110, 100] _ rfl 6 rfl _) (by omega) (by omega)).mono ?_
          rintro e w3 ⟨rfl, hb3⟩
          have K3 : Kept w2 w3 := ((Kept.refl w2).alloc _).step hb3
          clear hb3 Mq kc
          go_wp2_with fail
          have hS0 : Kept w2 w3.drew := K3.drew
          refine wp_region_held_drew (S := fun W => Kept w2 W) (by kernel_rfl) hS0 (fun hS => ?_)
          have hK0 := hS
          refine wpAnyH_take (i := 0) (oi := ⟨some 92, _, _, _, _, _⟩) (v := ?vq0) rfl (by kernel_rfl) (by kernel_rfl) (by kernel_rfl) (fun _ _ _ h => h) (Or.inl ⟨by rfl, ?yq0⟩) hS ?rq0
          case yq0 => intro W hW; go_simp; first | done | with_reducible rfl
          simp only [Act.put, List.setIfInBounds_toArray, List.set_cons_zero, List.set_cons_succ]
          refine wpAnyH_take (i := 1) (oi := ⟨some 93, _, _, _, _, _⟩) (v := ?vq1) rfl (by kernel_rfl) (by kernel_rfl) (by kernel_rfl) (fun _ _ _ h => h) (Or.inl ⟨by rfl, ?yq1⟩) hS ?rq1
          case yq1 => intro W hW; go_simp; first | done | with_reducible rfl
          simp only [Act.put, List.setIfInBounds_toArray, List.set_cons_zero, List.set_cons_succ]
          refine wpAnyH_take (i := 2) (oi := ⟨some 94, _, _, _, _, _⟩) (v := ?vq2) rfl (by kernel_rfl) (by kernel_rfl) (by kernel_rfl) (fun _ _ _ h => h) (Or.inl ⟨by rfl, ?yq2⟩) hS ?rq2
          case yq2 => intro W hW; have v1 := v42 W; go_simp; first | done | with_reducible rfl
          simp only [Act.put, List.setIfInBounds_toArray, List.set_cons_zero, List.set_cons_succ]
          refine wpAnyH_take (i := 3) (oi := ⟨some 95, _, _, _, _, _⟩) (v := _) rfl (by kernel_rfl) (by kernel_rfl) (by kernel_rfl) (fun _ _ _ h => h) (yieldsIf_load_mid (by rfl) 40 (.tmp 94) rfl gs (j * 73) rfl Sq _ (fun W hW => R1 W hW) Tryd.underlying40 rfl zq) hS ?_
          simp only [Act.put, List.setIfInBounds_toArray, List.set_cons_zero, List.set_cons_succ]
          refine wpAnyH_take (i := 5) (oi := ⟨some 97, _, _, _, _, _⟩) (v := ?vq5) rfl (by kernel_rfl) (by kernel_rfl) (by kernel_rfl) (fun _ _ _ h => h) (Or.inl ⟨by rfl, ?yq5⟩) hS ?rq5
          case yq5 => intro W hW; go_simp; first | done | with_reducible rfl
          simp only [Act.put, List.setIfInBounds_toArray, List.set_cons_zero, List.set_cons_succ]
          refine wpAnyH_take (i := 6) (oi := ⟨some 98, _, _, _, _, _⟩) (v := ?vq6) rfl (by kernel_rfl) (by kernel_rfl) (by kernel_rfl) (fun _ _ _ h => h) (Or.inl ⟨by rfl, ?yq6⟩) hS ?rq6
          case yq6 => intro W hW; go_simp; first | done | with_reducible rfl
          simp only [Act.put, List.setIfInBounds_toArray, List.set_cons_zero, List.set_cons_succ]
          refine wpAnyH_take (i := 7) (oi := ⟨some 99, _, _, _, _, _⟩) (v := ?vq7) rfl (by kernel_rfl) (by kernel_rfl) (by kernel_rfl) (fun _ _ _ h => h) (Or.inl ⟨by rfl, ?yq7⟩) hS ?rq7
          case yq7 => intro W hW; have v1 := v43 W; go_simp; first | done | with_reducible rfl
          simp only [Act.put, List.setIfInBounds_toArray, List.set_cons_zero, List.set_cons_succ]
          refine wpAnyH_take (i := 8) (oi := ⟨some 100, _, _, _, _, _⟩) (v := _) rfl (by kernel_rfl) (by kernel_rfl) (by kernel_rfl) (fun _ _ _ h => h) (yieldsIf_load_mid (by rfl) 25 (.tmp 99) rfl gd2 (j * 32) rfl Dq _ (fun W hW => R2 W hW) Tryd.underlying25 rfl zd) hS ?_
          simp only [Act.put, List.setIfInBounds_toArray, List.set_cons_zero, List.set_cons_succ]
          refine wpAnyH_ready (rs := [4]) (by kernel_rfl) (by simp) ?_
          refine (AllReadyH.cons (o := ⟨some 96, _, _, _, _, _⟩) rfl (fun K hK => ?_) AllReadyH.nil)
          go_simp
          refine (Uq _ (T2.below hK0)).mono ?_
          rintro e w21 ⟨rfl, hb21⟩
          have hK21 : Kept w2 w21 := hK0.step hb21
          refine hK.out _ _ hK21 (fun _ => ?_)
          clear hK K
          try simp only [Act.put, List.setIfInBounds_toArray, List.set_cons_zero, List.set_cons_succ]
          refine wpAnyH_take (i := 9) (oi := ⟨some 101, _, _, _, _, _⟩) (v := ?vq9) rfl (by kernel_rfl) (by kernel_rfl) (by kernel_rfl) (fun _ _ _ h => h) (Or.inl ⟨by rfl, ?yq9⟩) hK21 ?rq9
          case yq9 => intro W hW; have v1 := eqq W; go_simp; first | done | with_reducible rfl
          simp only [Act.put, List.setIfInBounds_toArray, List.set_cons_zero, List.set_cons_succ]
          refine wpAnyH_done (by kernel_rfl) ?_ _
          have S4 := S2.keep hK21
          have b4 : Below w.heap.size w w21 := b2.trans (hK21.mono b2.size)
          clear hK21 hb21 hS hS0 hK0 S2 b2 R1 R2 v42 v43 Uq eqq K3 T2
          go_wp2_with fail
          go_roundw
          case rel => exact ⟨j + 1, by go_num, by omega, S4, b4⟩
          case measure => simp [intOf]; omega
        · have B2 : Blk w2 g 40 SP := by rw [← hSP]; exact S2.var
          have OA := S2.a.own
          rw [hPN] at OA
          have capA := Own.capmax OA
          obtain ⟨bsA, lcA⟩ := Own.bs OA
          have ZP := fun w p1 p2 => sum_any A5 N5 c5 P w p1 p2 lcA capA (by omega)
          have eqP := eqSelf (digest P) (digest_length P)
          rw [hDP] at ZP eqP
          clear OA
          go_wp2_with (first
            | ((with_reducible show wpList _ _ _ (⟨some 104, _, _, _, _, _⟩ :: _) _ _); refine wpG_get _ rfl 40 (.tmp 4) rfl g 0 _ _ rfl B2.whole Tryd.underlying40 rfl zP ?_; simp only [Act.put, List.setIfInBounds_toArray, List.set_cons_zero, List.set_cons_succ]))
          refine (UP w2 (ht.below b2)).mono ?_
          rintro e w3 ⟨rfl, hb3⟩
          have b3 : Below w.heap.size w w3 := b2.trans (hb3.mono b2.size)
          go_wp2_with fail
          refine (ZP w3 (ht.below b3) ((bsA.below hb3).more hb3.size)).mono ?_
          rintro e w4 ⟨rfl, hb4⟩
          have b4 : Below w.heap.size w w4 := b3.trans (hb4.mono b3.size)
          go_wp2_with fail
          go_ret
          exact ⟨rfl, b4⟩
end Go.Proofs.YtiigmpoopmnnhaaDoor
