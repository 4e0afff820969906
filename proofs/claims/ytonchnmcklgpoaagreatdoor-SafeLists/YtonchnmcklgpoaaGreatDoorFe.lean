/-
  What field.gather answers: a map of each name to the row of its values. No condition but sizes.
-/
import Derived.Test.YtonchnmcklgpoaaGreatDoorFd
namespace Go.Proofs.YtonchnmcklgpoaaGreatDoor
open Go.RowKit Go.Maps
set_option linter.unusedVariables false

set_option maxHeartbeats 4000000 in
set_option maxRecDepth 100000 in
theorem gather_any (fs : List (List UInt8 × List UInt8)) (A : Option Addr) (c : Nat) (w : World) (hn : fs.length ≤ 1000) (hf : Fs w w.heap.size A fs.length fs) (hN : ∀ f ∈ fs, f.1.length ≤ 9223372036854775807 ∧ f.2.length ≤ 9223372036854775807) : Calls Tryz.prog 52 #[.slice A fs.length c] w fun e w' => ∃ D V, e = .returned (.map (some w.heap.size)) ∧ GM w' w.heap.size w.heap.size fs D V ∧ Below w.heap.size w w' := by
  have HF := Lib.hid hf
  obtain ⟨S, hS⟩ : ∃ S, S = fs.length := ⟨_, rfl⟩
  rw [← hS] at hn HF ⊢
  have HS := Lib.hid hS
  have HNk : Hid (∀ (k : Nat) f, fs[k]? = some f → f.1.length ≤ 9223372036854775807 ∧ f.2.length ≤ 9223372036854775807) := fun k f h => hN f (List.mem_of_getElem? h)
  have HE : Hid (fs.take S = fs) := by show _ = _; rw [hS, List.take_length]
  have HT : Hid (∀ (k : Nat) f, fs[k]? = some f → fs.take k ++ [f] = fs.take (k + 1)) := fun k f h => (take_snoc fs k f h).symm
  have HTk : Hid (∀ k, k ≤ S → (fs.take k).length ≤ 1000) := fun k hk => by rw [List.length_take]; omega
  have hmm := @run_makeMap Tryz.prog
  obtain ⟨b, hb⟩ : ∃ b, b = w.heap.size := ⟨_, rfl⟩
  have Hb := Lib.hid hb
  have HM0 : Hid (GM (w.alloc (.map #[] 0)) w.heap.size b [] (.map []) (fun _ => .agg #[.slice none 0 0])) := by show GM _ _ _ _ _ _; rw [hb]; exact GM.made w _
  have HP : ∀ w' : World, w' = w.alloc (.map #[] 0) → Kept w w' := fun w' h => by subst h; exact (Kept.refl w).alloc _
  have HP0 := Lib.hid (HP _ rfl)
  clear hf hS hN HP
  have hmm2 : (Instr.makeMap 57 none).run Tryz.prog w = .ok (.map (some b)) (w.alloc (.map #[] 0)) := by rw [hb]; rfl
  clear hmm hb
  go_enter Tryz.func52, Tryz.ntmps52
  go_wp2_with fail
  generalize w.alloc (.map #[] 0) = w0 at *
  go_loopw [11] (fun i wr => ∃ (k : Nat) (D : DataW Value) (V : List UInt8 → Value), k ≤ S ∧ i = .int .i64 (k : Int) ∧ GM wr w.heap.size b (fs.take k) D V ∧ Kept w wr) (fun i _ => S - (intOf i).toNat)
  case atStart => exact ⟨0, _, _, by omega, rfl, HM0.out, HP0.out⟩
  case round =>
    obtain ⟨k, D, V, hk, rfl, hgm, hkp⟩ := hrel
    clear HM0 HP0
    have HGM := Lib.hid hgm
    have HK := Lib.hid hkp
    clear hgm hkp
    by_cases hlt : k < S
    · have hkS : (k : Int) < (S : Int) := by omega
      obtain ⟨b2, off, f, rfl, hbl, hfk, hrg⟩ := ((HF.out.below HK.out).range hlt)
      have hNf := HNk.out k f hfk
      have hTf := HT.out k f hfk
      obtain ⟨p, q⟩ := f
      have HTf := Lib.hid hTf
      have HTl := Lib.hid (HTk.out k hk)
      have HR := Lib.hid hrg
      obtain ⟨kk, hkk⟩ : ∃ kk, kk = low p := ⟨_, rfl⟩
      have HLk : Hid (low p = kk) := hkk.symm
      have HLl : Hid ((low p).length ≤ 9223372036854775807) := by show _ ≤ _; rw [low_length]; exact hNf.1
      have HKl : Hid (kk.length ≤ 9223372036854775807) := by show _ ≤ _; rw [hkk, low_length]; exact hNf.1
      have HLow : Hid (∀ w', Calls Tryz.prog 29 #[.string (str p)] w' fun e w2 => e = .returned (.string (str kk)) ∧ Below w'.heap.size w' w2) := fun w' => by rw [hkk]; exact lower_any p w' hNf.1
      obtain ⟨A1, n, c1, hVk, hown⟩ := HGM.out.row kk
      have HVk := Lib.hid hVk
      have HOwn := Lib.hid hown
      have Hn : Hid (n ≤ 1000) := by show _ ≤ _; rw [← hown.len]; exact Nat.le_trans (vl_len _ _) HTl.out
      clear hNf hTf hfk hrg hbl hkk hVk hown
      go_wp2_with (first
        | ((with_reducible show wpList _ _ _ (⟨some 14, .load 28 _, _, _, _, _⟩ :: _) _ _); refine wp_get _ rfl 28 _ rfl b2 (off + k * 2) [.string (str p), .string (str q)] _ rfl HR.out Tryz.underlying28 rfl (by kernel_rfl) ?_; simp only [Act.put, List.setIfInBounds_toArray, List.set_cons_zero, List.set_cons_succ])
        | ((with_reducible show wpList _ _ _ (⟨some 5, .alloc _, _, _, _, _⟩ :: _) _ _); refine wp_new _ rfl 28 rfl [.string ⟨#[]⟩, .string ⟨#[]⟩] (by kernel_rfl) ?_; intro w5 g5 HB5 hF5; simp only [Act.put, List.setIfInBounds_toArray, List.set_cons_zero, List.set_cons_succ])
        | ((with_reducible show wpList _ _ _ (⟨none, .store 28 _ _, _, _, _, _⟩ :: _) _ _); refine wp_putAll _ rfl 28 _ _ rfl g5 _ _ [.string (str p), .string (str q)] rfl rfl HB5 rfl (by kernel_rfl) (by simp [Value.oneCell']) ?_; intro w6 HC5 hU6; simp only [Act.put]; have hk6 := hF5.below.trans (hU6.below (by rw [hF5.is]; exact Nat.le_refl _)); have HK6 := Lib.hid hk6; have d0 := HC5.cell (i := 0) (v := .string (str p)) rfl; clear hk6 hF5 hU6 HB5)
        | (go_at_call 29; (with_reducible refine (HLow.out _).mono ?_); (rintro e w7 ⟨rfl, hb7⟩); have HK7 := Lib.hid (HK6.out.trans (hb7.mono HK6.out.size)); have HC7 := HC5.kept hb7; have HG7 := Lib.hid (HGM.out.kept HK7.out); clear hb7 d0 HK6)
        | ((with_reducible show wpList _ _ _ (⟨some 20, .lookup _ _ _ _, _, _, _, _⟩ :: _) _ _); refine wp_lookM _ rfl _ _ rfl w.heap.size b (fs.take k) D V HG7.out kk HKl.out rfl rfl (.agg #[.slice A1 n c1]) HVk.out ?_; simp only [Act.put, List.setIfInBounds_toArray, List.set_cons_zero, List.set_cons_succ])
        | ((with_reducible show wpList _ _ _ (⟨some 7, .alloc _, _, _, _, _⟩ :: _) _ _); refine wp_new _ rfl 59 rfl [.slice none 0 0] (by kernel_rfl) ?_; intro w8 g8 HB8 hF8; simp only [Act.put, List.setIfInBounds_toArray, List.set_cons_zero, List.set_cons_succ])
        | ((with_reducible show wpList _ _ _ (⟨none, .store 59 _ _, _, _, _, _⟩ :: _) _ _); refine wp_putAll _ rfl 59 _ _ rfl g8 _ _ [.slice A1 n c1] rfl rfl HB8 rfl (by kernel_rfl) (by simp [Value.oneCell']) ?_; intro w9 HC8 hU9; simp only [Act.put]; have hk9 := hF8.below.trans (hU9.below (by rw [hF8.is]; exact Nat.le_refl _)); have HK9 := Lib.hid hk9; have HG8 : Hid (w7.heap.size ≤ g8) := Nat.le_of_eq hF8.is.symm; have HO9 := Lib.hid ((HOwn.out.kept HK7.out).kept hk9); have HC59 := HC7.kept hk9; have d1 := HC59.cell (i := 1) (v := .string (str q)) rfl; have d2 := HC8.cell (i := 0) (v := .slice A1 n c1) rfl; have HBS : Hid (w.heap.size ≤ w9.heap.size) := Nat.le_trans HK.out.size (Nat.le_trans HK7.out.size hk9.size); clear hk9 hF8 hU9 HB8)
        | ((with_reducible show wpList _ _ _ (⟨some 26, .call _, _, _, _, _⟩ :: _) _ _); refine wp_appL _ rfl _ _ rfl w.heap.size _ n (vl (fs.take k) kk) rfl (HO9.out.alloc _) w9.heap.size q rfl (by simp [vstr]) Hn.out (Nat.le_trans HBS.out (by simp)) ?_; intro A2 c2 w10 hown2 hgr2 hloc2; simp only [Act.put, List.setIfInBounds_toArray, List.set_cons_zero, List.set_cons_succ]; have HOwn2 := Lib.hid hown2; have HGr2 := Lib.hid ((World.grownBy_alloc w9 _ _).trans hgr2); have HLoc2 := Lib.hid hloc2; have HC10 := (HC8.alloc _).but (KeepsBut.of_row (HO9.out.alloc _) hgr2) (by decide); clear hown2 hgr2 hloc2 d1 d2)
        | ((with_reducible show wpList _ _ _ (⟨none, .store 31 _ _, _, _, _, _⟩ :: _) _ _); refine wp_set _ rfl 31 _ _ rfl g8 0 _ _ (.slice A2 (n + 1) c2) rfl rfl rfl rfl HC10 (by simp) (by kernel_rfl) ?_; intro w11 HC11 hU11; simp only [Act.put]; have HU11 := Lib.hid hU11; clear hU11; have HW11 := Lib.hid HC11.whole)
        | ((with_reducible show wpList _ _ _ (⟨some 30, .load 59 _, _, _, _, _⟩ :: _) _ _); refine wp_get _ rfl 59 _ rfl g8 (0) [.slice A2 (n + 1) c2] _ rfl HW11.out Tryz.underlying59 rfl (by kernel_rfl) ?_; simp only [Act.put, List.setIfInBounds_toArray, List.set_cons_zero, List.set_cons_succ])
        | ((with_reducible show wpList _ _ _ (⟨none, .mapUpdate _ _ _ _, _, _, _, _⟩ :: _) _ _); refine wp_updM _ rfl _ _ _ rfl w7 w.heap.size b (fs.take k) D V HG7.out HTl.out p q HLl.out (by rw [HLk.out, HVk.out, vblk_agg]; exact grow_upd ((grow_below HK9.out _).trans HGr2.out) HU11.out HG8.out) A2 (n + 1) c2 (by rw [HLk.out]; exact HOwn2.out.chg (Chg.upd1 HU11.out _) (HOwn2.out.off HC10 (by decide))) (by rw [HLk.out, HVk.out, vblk_agg]; rcases HLoc2.out with h | h; (· exact .inl h); (· exact .inr ⟨_, h, Nat.le_trans HK9.out.size (by simp)⟩)) rfl (by rw [HLk.out]; rfl) rfl ?_; intro w12 D2 V2 HGM2 hgr12; simp only [Act.put]))
      have HKe : Hid (Kept w w12) := by
        have h1 := HGr2.out
        have h2 : Below w.heap.size w w9 := HK.out.step (HK7.out.trans (HK9.out.mono HK7.out.size))
        have h3 : Below w.heap.size w9 w10 := (Below.refl _ _).grown h1 h2.size (fun j hj => (World.ownsRow.lt HO9.out j hj).1)
        have h4 : Below w.heap.size w10 w11 := HU11.out.below (Nat.le_trans HK.out.size (Nat.le_trans HK7.out.size HG8.out))
        have h5 : Below w.heap.size w11 w12 := (Below.refl _ _).grown hgr12 (h2.trans (h3.trans h4)).size (fun j hj => by cases hj; rw [Hb.out]; exact Nat.le_refl _)
        exact h2.trans (h3.trans (h4.trans h5))
      go_roundw
      case rel => exact ⟨k + 1, D2, V2, by omega, by go_num, by rw [← HTf.out]; exact HGM2, HKe.out⟩
      case measure => simp [intOf]; omega
    · have hkS : ¬ (k : Int) < (S : Int) := by omega
      have hk2 : Hid (k = S) := by show _ = _; omega
      go_wp2_with fail
      go_ret
      have hg := HGM.out
      rw [hk2.out, HE.out] at hg
      have hb2 := Hb.out
      exact ⟨by rw [hb2]; rfl, ⟨D, V, by rw [hb2] at hg; exact hg⟩, HK.out⟩
end Go.Proofs.YtonchnmcklgpoaaGreatDoor
