/-
  The walk of transeptlaw05.EventUnlike: true, for every two events; nothing that was there turns. Condition: the table of kinds holds what the program's text lays.
-/
import Derived.Test.YtjgcodnabgkjoaaDoorYld
namespace Go.Proofs.YtjgcodnabgkjoaaDoor
open Go.RowKit

theorem enc_inj {a b : Ev} (ha : EvOk a) (hb : EvOk b) (sa : Small a) (sb : Small b) (ra : rightE a = true) (rb : rightE b = true) : encB a = encB b ↔ a = b := by
  constructor
  · intro h
    rw [← (dec_of_enc ha sa ra).2.2, h, (dec_of_enc hb sb rb).2.2]
  · rintro rfl
    rfl
theorem enc_pre {a b : Ev} (ha : EvOk a) (hb : EvOk b) (sa : Small a) (sb : Small b) (ra : rightE a = true) (rb : rightE b = true) : (encB a).take (min (encB a).length (encB b).length) = (encB b).take (min (encB a).length (encB b).length) ↔ a = b := by
  constructor
  · intro h
    rcases Nat.lt_trichotomy (encB a).length (encB b).length with hl | hl | hl
    · rw [Nat.min_eq_left (by omega), List.take_length] at h
      have h1 := (dec_of_enc ha sa ra).2.1
      rw [h, (dec_cut b hb sb rb _ hl).2] at h1
      exact absurd h1 (by decide)
    · rw [hl, Nat.min_self, List.take_length, ← hl, List.take_length] at h
      exact (enc_inj ha hb sa sb ra rb).1 h
    · rw [Nat.min_eq_right (by omega), List.take_length] at h
      have h1 := (dec_of_enc hb sb rb).2.1
      rw [← h, (dec_cut a ha sa ra _ hl).2] at h1
      exact absurd h1 (by decide)
  · rintro rfl
    rfl

set_option maxHeartbeats 8000000 in
set_option maxRecDepth 100000 in
theorem unlike_walk (e f : Ev) (he : EvOk e) (hf : EvOk f) (hse : Small e) (hsf : Small f) (hze : ∀ t ∈ e.ts, t.length ≤ 9223372036854775807) (hzf : ∀ t ∈ f.ts, t.length ≤ 9223372036854775807) (w : World) (ht : Tab w) :
    Calls Tryd.prog 9 #[.agg (evc e).toArray, .agg (evc f).toArray] w fun r w' => r = .returned (.bool true) ∧ Below w.heap.size w w' := by
  have CU := fun W => cut_any e he hze W
  have CV := fun W => cut_any f hf hzf W
  have hokE := cutE_ok he
  have hokF := cutE_ok hf
  have hsmE := cutE_small hse
  have hsmF := cutE_small hsf
  have EN := fun W (hW : Tab W) => encode_any (cutE e) hokE (fun t h => by have := cutE_texts e t h; omega) hsmE.1 hsmE.2 W hW
  have FN := fun W (hW : Tab W) => encode_any (cutE f) hokF (fun t h => by have := cutE_texts f t h; omega) hsmF.1 hsmF.2 W hW
  have z24e := size24' he
  have z24f := size24' hf
  have zE := size24' hokE
  have zF := size24' hokF
  have hlE : (evc (cutE e)).length = (evc e).length := by rw [evc_length hokE, evc_length he]
  have hlF : (evc (cutE f)).length = (evc f).length := by rw [evc_length hokF, evc_length hf]
  have oE := evc_one (cutE e)
  have oF := evc_one (cutE f)
  obtain ⟨E, hE⟩ : ∃ F, F = cutE e := ⟨_, rfl⟩
  obtain ⟨F, hF⟩ : ∃ F, F = cutE f := ⟨_, rfl⟩
  rw [← hE] at CU EN zE hlE oE hokE hsmE
  rw [← hF] at CV FN zF hlF oF hokF hsmF
  have HCU := Lib.hid CU
  have HCV := Lib.hid CV
  have HEN := Lib.hid EN
  have HFN := Lib.hid FN
  clear CU CV EN FN hE hF hse hsf he hf hze hzf
  go_enter Tryd.func9, Tryd.ntmps9
  go_wp2_with (first
    | ((with_reducible show wpList _ _ _ (⟨some 2, _, _, _, _, _⟩ :: _) _ _); refine wp_box _ rfl 24 (.tmp 0) rfl (evc e) rfl ?_; intro w1 g2 hB1 hf1; simp only [Act.put, List.setIfInBounds_toArray, List.set_cons_zero, List.set_cons_succ])
    | ((with_reducible show wpList _ _ _ (⟨some 3, _, _, _, _, _⟩ :: _) _ _); refine wp_box _ rfl 24 (.tmp 1) rfl (evc f) rfl ?_; intro w2 g3 hB2 hf2; simp only [Act.put, List.setIfInBounds_toArray, List.set_cons_zero, List.set_cons_succ]))
  have t2 := (ht.kept hf1.below).kept hf2.below
  have D2 := hf2.blk hB1
  have hg : w.heap.size ≤ g2 ∧ g2 < g3 := ⟨Nat.le_of_eq hf1.is.symm, by have := hf2.is; have := hf1.size; omega⟩
  have b2 : Below w.heap.size w w2 := hf1.below.trans (hf2.below.mono hf1.below.size)
  refine (shown_any w2 t2).mono ?_
  rintro r w3 ⟨rfl, e3⟩
  have E3 := D2.kept e3
  have F3 := hB2.kept e3
  have b3 := b2.trans (e3.mono b2.size)
  have t3 := t2.kept e3
  clear hB1 hB2 hf1 hf2 D2 b2 t2 e3
  go_wp2_with (first
    | ((with_reducible show wpList _ _ _ (⟨some 12, _, _, _, _, _⟩ :: _) _ _); refine wp_getG _ (by rfl) 24 (.tmp 2) rfl g2 0 (evc e) _ rfl E3.whole Tryd.underlying24 rfl z24e ?_; simp only [Act.put, List.setIfInBounds_toArray, List.set_cons_zero, List.set_cons_succ]))
  refine (HCU.out w3).mono ?_
  rintro r w4 ⟨rfl, e4⟩
  have E4 := E3.kept e4
  have F4 := F3.kept e4
  have b4 := b3.trans (e4.mono b3.size)
  have t4 := t3.kept e4
  clear E3 F3 b3 t3 e4 HCU
  go_wp2_with (first
    | ((with_reducible show wpList _ _ _ (⟨none, .store 24 (.tmp 2) _, _, _, _, _⟩ :: _) _ _); refine wp_putAll _ rfl 24 (.tmp 2) (.tmp 13) rfl g2 24 _ (evc E) rfl rfl E4 hlE zE oE ?_; intro w5 E5 U5; have F5 := F4.upd U5 (by omega); simp only [Act.put])
    | ((with_reducible show wpList _ _ _ (⟨some 14, _, _, _, _, _⟩ :: _) _ _); refine wp_getG _ (by rfl) 24 (.tmp 3) rfl g3 0 (evc f) _ rfl F5.whole Tryd.underlying24 rfl z24f ?_; simp only [Act.put, List.setIfInBounds_toArray, List.set_cons_zero, List.set_cons_succ]))
  have t5 : Tab w5 := t4.below (U5.below (B := 1) (by have := ht.1; omega)) (by omega)
  have b5 := b4.trans (U5.below hg.1)
  clear E4 F4 U5 t4 b4
  refine (HCV.out w5).mono ?_
  rintro r w6 ⟨rfl, e6⟩
  have E6 := E5.kept e6
  have F6 := F5.kept e6
  have b6 := b5.trans (e6.mono b5.size)
  have t6 := t5.kept e6
  clear E5 F5 b5 t5 e6 HCV
  go_wp2_with (first
    | ((with_reducible show wpList _ _ _ (⟨none, .store 24 (.tmp 3) _, _, _, _, _⟩ :: _) _ _); refine wp_putAll _ rfl 24 (.tmp 3) (.tmp 15) rfl g3 24 _ (evc F) rfl rfl F6 hlF zF oF ?_; intro w7 F7 U7; have E7 := E6.upd U7 (by omega); simp only [Act.put])
    | ((with_reducible show wpList _ _ _ (⟨some 17, _, _, _, _, _⟩ :: _) _ _); refine wp_getG _ (by rfl) 24 (.tmp 2) rfl g2 0 (evc E) _ rfl E7.whole Tryd.underlying24 rfl zE ?_; simp only [Act.put, List.setIfInBounds_toArray, List.set_cons_zero, List.set_cons_succ]))
  have t7 : Tab w7 := t6.below (U7.below (B := 1) (by have := ht.1; omega)) (by omega)
  have b7 := b6.trans (U7.below (by omega))
  clear E6 F6 U7 t6 b6
  refine (HEN.out w7 t7).mono ?_
  rintro r w8 ⟨A8, n8, c8, rfl, hc8, hs8, ho8, e8⟩
  have E8 := E7.kept e8
  have F8 := F7.kept e8
  have b8 := b7.trans (e8.mono b7.size)
  have t8 := t7.kept e8
  clear E7 F7 b7 t7 e8 HEN ho8
  go_wp2_with (first
    | ((with_reducible show wpList _ _ _ (⟨some 22, _, _, _, _, _⟩ :: _) _ _); refine wp_getG _ (by rfl) 24 (.tmp 3) rfl g3 0 (evc F) _ rfl F8.whole Tryd.underlying24 rfl zF ?_; simp only [Act.put, List.setIfInBounds_toArray, List.set_cons_zero, List.set_cons_succ]))
  refine (HFN.out w8 t8).mono ?_
  rintro r w9 ⟨A9, n9, c9, rfl, hc9, hs9, ho9, e9⟩
  have E9 := E8.kept e9
  have F9 := F8.kept e9
  have b9 := b8.trans (e9.mono b8.size)
  have s8 := (hs8.below e9).more e9.size
  clear E8 F8 b8 t8 e9 HFN ho9 hs8 ht hlE hlF oE oF z24e z24f
  by_cases hrE : rightE E = true
  · rw [(encF_right hrE).2]
    rw [(encF_right hrE).1] at s8
    by_cases hrF : rightE F = true
    · rw [(encF_right hrF).2]
      rw [(encF_right hrF).1] at hs9
      obtain ⟨R, hR⟩ : ∃ R, evEq E F = R := ⟨_, rfl⟩
      have hRi : R = true ↔ E = F := by rw [← hR]; exact evEq_iff E F
      have hS1 : R = true ↔ encB E = encB F := hRi.trans (enc_inj hokE hokF hsmE hsmF hrE hrF).symm
      have hS2 : R = true ↔ (encB E).take (min n8 n9) = (encB F).take (min n8 n9) := by
        rw [← s8.1, ← hs9.1]
        exact hRi.trans (enc_pre hokE hokF hsmE hsmF hrE hrF).symm
      obtain ⟨m, hm⟩ : ∃ m, m = min n8 n9 := ⟨_, rfl⟩
      have km : min (n8 : Int) (n9 : Int) = (m : Int) := by omega
      have m8 : (m : Int) ≤ (c8 : Int) := by omega
      have m9 : (m : Int) ≤ (c9 : Int) := by omega
      have p8 := s8.take m (by omega)
      have p9 := hs9.take m (by omega)
      rw [← hm] at hS2
      have HB := Lib.hid (And.intro hR (And.intro hS1 hS2))
      have HS := Lib.hid (And.intro s8 (And.intro hs9 (And.intro p8 p9)))
      clear hR hS1 hS2 hRi hm s8 hs9 p8 p9
      go_wp2_with fail
      refine wp_region_held_drew (S := Kept w9) (by kernel_rfl) (Kept.refl w9).drew (fun hS => ?_)
      refine wpAnyH_take (i := 0) (oi := ⟨some 38, _, _, _, _, _⟩) (v := ?va0) rfl (by kernel_rfl) (by kernel_rfl) (by kernel_rfl) (fun _ _ _ h => h) (Or.inl ⟨by rfl, ?ya0⟩) hS ?ra0
      case ya0 => intro W hW; go_simp; first | done | with_reducible rfl
      simp only [Act.put, List.setIfInBounds_toArray, List.set_cons_zero, List.set_cons_succ]
      refine wpAnyH_take (i := 1) (oi := ⟨some 39, _, _, _, _, _⟩) (v := ?va1) rfl (by kernel_rfl) (by kernel_rfl) (by kernel_rfl) (fun _ _ _ h => h) (Or.inl ⟨by rfl, ?ya1⟩) hS ?ra1
      case ya1 => intro W hW; go_simp; first | done | with_reducible rfl
      simp only [Act.put, List.setIfInBounds_toArray, List.set_cons_zero, List.set_cons_succ]
      refine wpAnyH_take (i := 2) (oi := ⟨some 40, _, _, _, _, _⟩) (v := ?va2) rfl (by kernel_rfl) (by kernel_rfl) (by kernel_rfl) (fun _ _ _ h => h) (Or.inl ⟨by rfl, ?ya2⟩) hS ?ra2
      case ya2 => intro W hW; go_simp; first | done | with_reducible rfl
      simp only [Act.put, List.setIfInBounds_toArray, List.set_cons_zero, List.set_cons_succ]
      refine wpAnyH_take (i := 3) (oi := ⟨some 41, _, _, _, _, _⟩) (v := _) rfl (by kernel_rfl) (by kernel_rfl) (by kernel_rfl) (fun _ _ _ h => h) (yld_str (by rfl) (.tmp 40) rfl A8 n8 c8 _ rfl (fun W hW => ⟨_, HS.out.1.below' hW (by omega)⟩)) hS ?_
      simp only [Act.put, List.setIfInBounds_toArray, List.set_cons_zero, List.set_cons_succ]
      refine wpAnyH_take (i := 4) (oi := ⟨some 42, _, _, _, _, _⟩) (v := ?va4) rfl (by kernel_rfl) (by kernel_rfl) (by kernel_rfl) (fun _ _ _ h => h) (Or.inl ⟨by rfl, ?ya4⟩) hS ?ra4
      case ya4 => intro W hW; go_simp; first | done | with_reducible rfl
      simp only [Act.put, List.setIfInBounds_toArray, List.set_cons_zero, List.set_cons_succ]
      refine wpAnyH_take (i := 5) (oi := ⟨some 43, _, _, _, _, _⟩) (v := _) rfl (by kernel_rfl) (by kernel_rfl) (by kernel_rfl) (fun _ _ _ h => h) (yld_str (by rfl) (.tmp 42) rfl A9 n9 c9 _ rfl (fun W hW => ⟨_, HS.out.2.1.below' hW (by omega)⟩)) hS ?_
      simp only [Act.put, List.setIfInBounds_toArray, List.set_cons_zero, List.set_cons_succ]
      refine wpAnyH_take (i := 6) (oi := ⟨some 44, _, _, _, _, _⟩) (v := _) rfl (by kernel_rfl) (by kernel_rfl) (by kernel_rfl) (fun _ _ _ h => h) (yld_eqS (by rfl) (.tmp 41) (.tmp 43) rfl _ _ rfl rfl R HB.out.2.1) hS ?_
      simp only [Act.put, List.setIfInBounds_toArray, List.set_cons_zero, List.set_cons_succ]
      refine wpAnyH_take (i := 7) (oi := ⟨some 45, _, _, _, _, _⟩) (v := _) rfl (by kernel_rfl) (by kernel_rfl) (by kernel_rfl) (fun _ _ _ h => h) (yieldsIf_load_mid (by rfl) 24 (.tmp 2) rfl g2 0 rfl (evc E) _ (fun W hW => (E9.kept hW).whole) Tryd.underlying24 rfl zE) hS ?_
      simp only [Act.put, List.setIfInBounds_toArray, List.set_cons_zero, List.set_cons_succ]
      refine wpAnyH_take (i := 8) (oi := ⟨some 46, _, _, _, _, _⟩) (v := _) rfl (by kernel_rfl) (by kernel_rfl) (by kernel_rfl) (fun _ _ _ h => h) (yieldsIf_load_mid (by rfl) 24 (.tmp 3) rfl g3 0 rfl (evc F) _ (fun W hW => (F9.kept hW).whole) Tryd.underlying24 rfl zF) hS ?_
      simp only [Act.put, List.setIfInBounds_toArray, List.set_cons_zero, List.set_cons_succ]
      refine wpAnyH_take (i := 9) (oi := ⟨some 47, _, _, _, _, _⟩) (v := _) rfl (by kernel_rfl) (by kernel_rfl) (by kernel_rfl) (fun _ _ _ h => h) (yld_eqE (by rfl) (.tmp 45) (.tmp 46) rfl E F hokE hokF rfl rfl R HB.out.1) hS ?_
      simp only [Act.put, List.setIfInBounds_toArray, List.set_cons_zero, List.set_cons_succ]
      refine wpAnyH_take (i := 10) (oi := ⟨some 48, _, _, _, _, _⟩) (v := ?va10) rfl (by kernel_rfl) (by kernel_rfl) (by kernel_rfl) (fun _ _ _ h => h) (Or.inl ⟨by rfl, ?ya10⟩) hS ?ra10
      case ya10 => intro W hW; go_simp; first | done | with_reducible rfl
      simp only [Act.put, List.setIfInBounds_toArray, List.set_cons_zero, List.set_cons_succ]
      refine wpAnyH_take (i := 11) (oi := ⟨some 49, _, _, _, _, _⟩) (v := ?va11) rfl (by kernel_rfl) (by kernel_rfl) (by kernel_rfl) (fun _ _ _ h => h) (Or.inl ⟨by rfl, ?ya11⟩) hS ?ra11
      case ya11 => intro W hW; go_simp; first | done | with_reducible rfl
      simp only [Act.put, List.setIfInBounds_toArray, List.set_cons_zero, List.set_cons_succ]
      refine wpAnyH_take (i := 12) (oi := ⟨some 50, _, _, _, _, _⟩) (v := ?va12) rfl (by kernel_rfl) (by kernel_rfl) (by kernel_rfl) (fun _ _ _ h => h) (Or.inl ⟨by rfl, ?ya12⟩) hS ?ra12
      case ya12 => intro W hW; go_simp; first | done | with_reducible rfl
      simp only [Act.put, List.setIfInBounds_toArray, List.set_cons_zero, List.set_cons_succ]
      refine wpAnyH_take (i := 13) (oi := ⟨some 51, _, _, _, _, _⟩) (v := ?va13) rfl (by kernel_rfl) (by kernel_rfl) (by kernel_rfl) (fun _ _ _ h => h) (Or.inl ⟨by rfl, ?ya13⟩) hS ?ra13
      case ya13 => intro W hW; go_simp; first | done | with_reducible rfl
      simp only [Act.put, List.setIfInBounds_toArray, List.set_cons_zero, List.set_cons_succ]
      refine wpAnyH_take (i := 14) (oi := ⟨some 52, _, _, _, _, _⟩) (v := ?va14) rfl (by kernel_rfl) (by kernel_rfl) (by kernel_rfl) (fun _ _ _ h => h) (Or.inl ⟨by rfl, ?ya14⟩) hS ?ra14
      case ya14 => intro W hW; go_simp; first | done | with_reducible rfl
      simp only [Act.put, List.setIfInBounds_toArray, List.set_cons_zero, List.set_cons_succ]
      refine wpAnyH_take (i := 15) (oi := ⟨some 53, _, _, _, _, _⟩) (v := ?va15) rfl (by kernel_rfl) (by kernel_rfl) (by kernel_rfl) (fun _ _ _ h => h) (Or.inl ⟨by rfl, ?ya15⟩) hS ?ra15
      case ya15 => intro W hW; go_simp; first | done | with_reducible rfl
      simp only [Act.put, List.setIfInBounds_toArray, List.set_cons_zero, List.set_cons_succ]
      refine wpAnyH_take (i := 16) (oi := ⟨some 54, _, _, _, _, _⟩) (v := _) rfl (by kernel_rfl) (by kernel_rfl) (by kernel_rfl) (fun _ _ _ h => h) (yld_str (by rfl) (.tmp 53) rfl A8 m c8 _ rfl (fun W hW => ⟨_, HS.out.2.2.1.below' hW (by omega)⟩)) hS ?_
      simp only [Act.put, List.setIfInBounds_toArray, List.set_cons_zero, List.set_cons_succ]
      refine wpAnyH_take (i := 17) (oi := ⟨some 55, _, _, _, _, _⟩) (v := ?va17) rfl (by kernel_rfl) (by kernel_rfl) (by kernel_rfl) (fun _ _ _ h => h) (Or.inl ⟨by rfl, ?ya17⟩) hS ?ra17
      case ya17 => intro W hW; go_simp; first | done | with_reducible rfl
      simp only [Act.put, List.setIfInBounds_toArray, List.set_cons_zero, List.set_cons_succ]
      refine wpAnyH_take (i := 18) (oi := ⟨some 56, _, _, _, _, _⟩) (v := ?va18) rfl (by kernel_rfl) (by kernel_rfl) (by kernel_rfl) (fun _ _ _ h => h) (Or.inl ⟨by rfl, ?ya18⟩) hS ?ra18
      case ya18 => intro W hW; go_simp; first | done | with_reducible rfl
      simp only [Act.put, List.setIfInBounds_toArray, List.set_cons_zero, List.set_cons_succ]
      refine wpAnyH_take (i := 19) (oi := ⟨some 57, _, _, _, _, _⟩) (v := ?va19) rfl (by kernel_rfl) (by kernel_rfl) (by kernel_rfl) (fun _ _ _ h => h) (Or.inl ⟨by rfl, ?ya19⟩) hS ?ra19
      case ya19 => intro W hW; go_simp; first | done | with_reducible rfl
      simp only [Act.put, List.setIfInBounds_toArray, List.set_cons_zero, List.set_cons_succ]
      refine wpAnyH_take (i := 20) (oi := ⟨some 58, _, _, _, _, _⟩) (v := _) rfl (by kernel_rfl) (by kernel_rfl) (by kernel_rfl) (fun _ _ _ h => h) (yld_str (by rfl) (.tmp 57) rfl A9 m c9 _ rfl (fun W hW => ⟨_, HS.out.2.2.2.below' hW (by omega)⟩)) hS ?_
      simp only [Act.put, List.setIfInBounds_toArray, List.set_cons_zero, List.set_cons_succ]
      refine wpAnyH_take (i := 21) (oi := ⟨some 59, _, _, _, _, _⟩) (v := _) rfl (by kernel_rfl) (by kernel_rfl) (by kernel_rfl) (fun _ _ _ h => h) (yld_eqS (by rfl) (.tmp 54) (.tmp 58) rfl _ _ rfl rfl R HB.out.2.2) hS ?_
      simp only [Act.put, List.setIfInBounds_toArray, List.set_cons_zero, List.set_cons_succ]
      refine wpAnyH_take (i := 22) (oi := ⟨some 60, _, _, _, _, _⟩) (v := _) rfl (by kernel_rfl) (by kernel_rfl) (by kernel_rfl) (fun _ _ _ h => h) (yieldsIf_load_mid (by rfl) 24 (.tmp 2) rfl g2 0 rfl (evc E) _ (fun W hW => (E9.kept hW).whole) Tryd.underlying24 rfl zE) hS ?_
      simp only [Act.put, List.setIfInBounds_toArray, List.set_cons_zero, List.set_cons_succ]
      refine wpAnyH_take (i := 23) (oi := ⟨some 61, _, _, _, _, _⟩) (v := _) rfl (by kernel_rfl) (by kernel_rfl) (by kernel_rfl) (fun _ _ _ h => h) (yieldsIf_load_mid (by rfl) 24 (.tmp 3) rfl g3 0 rfl (evc F) _ (fun W hW => (F9.kept hW).whole) Tryd.underlying24 rfl zF) hS ?_
      simp only [Act.put, List.setIfInBounds_toArray, List.set_cons_zero, List.set_cons_succ]
      refine wpAnyH_take (i := 24) (oi := ⟨some 62, _, _, _, _, _⟩) (v := _) rfl (by kernel_rfl) (by kernel_rfl) (by kernel_rfl) (fun _ _ _ h => h) (yld_eqE (by rfl) (.tmp 60) (.tmp 61) rfl E F hokE hokF rfl rfl R HB.out.1) hS ?_
      simp only [Act.put, List.setIfInBounds_toArray, List.set_cons_zero, List.set_cons_succ]
      refine wpAnyH_take (i := 25) (oi := ⟨some 63, _, _, _, _, _⟩) (v := ?va25) rfl (by kernel_rfl) (by kernel_rfl) (by kernel_rfl) (fun _ _ _ h => h) (Or.inl ⟨by rfl, ?ya25⟩) hS ?ra25
      case ya25 => intro W hW; go_simp; first | done | with_reducible rfl
      simp only [Act.put, List.setIfInBounds_toArray, List.set_cons_zero, List.set_cons_succ]
      refine wpAnyH_take (i := 26) (oi := ⟨some 64, _, _, _, _, _⟩) (v := ?va26) rfl (by kernel_rfl) (by kernel_rfl) (by kernel_rfl) (fun _ _ _ h => h) (Or.inl ⟨by rfl, ?ya26⟩) hS ?ra26
      case ya26 => intro W hW; go_simp; first | done | with_reducible rfl
      simp only [Act.put, List.setIfInBounds_toArray, List.set_cons_zero, List.set_cons_succ]
      refine wpAnyH_take (i := 27) (oi := ⟨some 4, _, _, _, _, _⟩) (v := ?va27) rfl (by kernel_rfl) (by kernel_rfl) (by kernel_rfl) (fun _ _ _ h => h) (Or.inl ⟨by rfl, ?ya27⟩) hS ?ra27
      case ya27 => intro W hW; go_simp; first | done | with_reducible rfl
      simp only [Act.put, List.setIfInBounds_toArray, List.set_cons_zero, List.set_cons_succ]
      refine wpAnyH_done (by kernel_rfl) ?_ _
      go_wp2_with fail
      go_ret
      exact ⟨by simp, b9.drew⟩
    · rw [(encF_wrong hrF).2]
      go_wp2_with fail
      go_ret
      exact ⟨rfl, b9⟩
  · rw [(encF_wrong hrE).2]
    go_wp2_with fail
    go_ret
    exact ⟨rfl, b9⟩
end Go.Proofs.YtjgcodnabgkjoaaDoor
