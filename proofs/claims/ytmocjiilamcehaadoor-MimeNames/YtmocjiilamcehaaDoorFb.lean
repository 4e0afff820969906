/-
  What field.find answers: the values of a name. No condition but sizes.
-/
import Derived.Test.YtmocjiilamcehaaDoorFa
namespace Go.Proofs.YtmocjiilamcehaaDoor
open Go.RowKit
set_option linter.unusedVariables false

theorem Fs.range {w : World} {B n : Nat} {A : Option Addr} {fs : List (List UInt8 × List UInt8)} (h : Fs w B A n fs) {k : Nat} (hk : k < n) : ∃ b off f, A = some ⟨b, off, none⟩ ∧ b < B ∧ fs[k]? = some f ∧ w.rangeAt b (off + k * 2) [.string (str f.1), .string (str f.2)] := by
  obtain ⟨b, off, f, h1, h2, h3, h4, h5⟩ := h.at_ hk
  refine ⟨b, off, f, h1, h2, h3, fun j v hv => ?_⟩
  match j, hv with
  | 0, hv => cases hv; exact h4
  | 1, hv => cases hv; exact h5
/-- A block of another type is not the row's. -/
theorem OwnT.off {w : World} {base n g : Nat} {v : Value} {L : List (List UInt8)} {t : TypeId} {C : List Value} (h : OwnT w base v n L) (hb : Blk w g t C) (ht : t ≠ 9) : v.ownBlock ≠ some g := by
  rcases h.2 with ⟨rfl, _⟩ | ⟨k, cap, cur, rfl, _, hh, _⟩
  · intro e; cases e
  · intro e
    have e2 : k = g := by simpa [Value.ownBlock] using e
    subst e2
    unfold Blk at hb
    rw [hb] at hh
    cases hh
    exact ht rfl
set_option maxHeartbeats 4000000 in
set_option maxRecDepth 100000 in
theorem find_any (fs : List (List UInt8 × List UInt8)) (A : Option Addr) (c : Nat) (nm : List UInt8) (w : World) (hn : fs.length ≤ 1000) (hf : Fs w w.heap.size A fs.length fs) (hN : ∀ f ∈ fs, f.1.length ≤ 9223372036854775807 ∧ f.2.length ≤ 9223372036854775807) (hnm : nm.length ≤ 9223372036854775807) : Calls Tryd.prog 46 #[.slice A fs.length c, .string (str nm)] w fun e w' => ∃ A' c', e = .returned (.agg #[.slice A' (vals fs nm).length c']) ∧ OwnT w' w.heap.size (.slice A' (vals fs nm).length c') (vals fs nm).length (vals fs nm) ∧ Below w.heap.size w w' := by
  have HF := Lib.hid hf
  obtain ⟨S, hS⟩ : ∃ S, S = fs.length := ⟨_, rfl⟩
  rw [← hS] at hn HF ⊢
  have HS := Lib.hid hS
  clear hf hS
  go_enter Tryd.func46, Tryd.ntmps46
  go_wp2_with (first
    | ((with_reducible show wpList _ _ _ (⟨some 4, .alloc _, _, _, _, _⟩ :: _) _ _); refine wp_new _ rfl 68 rfl [.slice none 0 0] (by kernel_rfl) ?_; intro w1 g4 HB4 hF4; simp only [Act.put, List.setIfInBounds_toArray, List.set_cons_zero, List.set_cons_succ])
    | ((with_reducible show wpList _ _ _ (⟨some 5, .alloc _, _, _, _, _⟩ :: _) _ _); refine wp_new _ rfl 68 rfl [.slice none 0 0] (by kernel_rfl) ?_; intro w2 g5 HB5 hF5; simp only [Act.put, List.setIfInBounds_toArray, List.set_cons_zero, List.set_cons_succ])
    | ((with_reducible show wpList _ _ _ (⟨some 8, .build _ _, _, _, _, _⟩ :: _) _ _); refine wp_build0 _ rfl 68 rfl (.agg #[.slice none 0 0]) (by kernel_rfl) ?_; simp only [Act.put, List.setIfInBounds_toArray, List.set_cons_zero, List.set_cons_succ])
    | ((with_reducible show wpList _ _ _ (⟨none, .store 68 _ _, _, _, _, _⟩ :: _) _ _); refine wp_putAll _ rfl 68 _ _ rfl g5 _ _ [.slice none 0 0] rfl rfl HB5 rfl (by kernel_rfl) (by simp [Value.oneCell']) ?_; intro w3 HC5 hU3; simp only [Act.put]))
  have HK3 : Hid (Kept w w3) := ((hF4.below.trans (hF5.below.mono hF4.below.size)).trans (hU3.below (by rw [hF5.is]; exact hF4.below.size)))
  have HG5 : Hid (w.heap.size ≤ g5) := by show _ ≤ _; rw [hF5.is]; exact hF4.below.size
  have HB43 : Hid (Blk w3 g4 68 [.slice none 0 0]) := (hF5.blk HB4).upd hU3 (by rw [hF5.is]; exact Nat.ne_of_lt HB4.lt)
  have H45 : Hid (g4 ≠ g5) := by show _ ≠ _; rw [hF5.is]; exact Nat.ne_of_lt HB4.lt
  have HC53 := Lib.hid HC5
  have HG4 : Hid (g4 = w.heap.size) := hF4.is
  have HNk : Hid (∀ (k : Nat) f, fs[k]? = some f → f.1.length ≤ 9223372036854775807 ∧ f.2.length ≤ 9223372036854775807) := fun k f h => hN f (List.mem_of_getElem? h)
  have HV : Hid (∀ (k : Nat) f, fs[k]? = some f → vals (fs.take (k + 1)) nm = vals (fs.take k) nm ++ if low f.1 = low nm then [f.2] else []) := fun k f h => vl_take fs k f h _
  have HVl : Hid (∀ k, k ≤ S → (vals (fs.take k) nm).length ≤ 1000) := fun k hk => Nat.le_trans (vl_len _ _) (by rw [List.length_take]; omega)
  have HE : Hid (fs.take S = fs) := by show _ = _; rw [HS.out, List.take_length]
  have HFold : Hid (∀ p w', p.length ≤ 9223372036854775807 → Calls Tryd.prog 57 #[.string (str p), .string (str nm)] w' fun e w2 => e = .returned (.bool (decide (low p = low nm))) ∧ Below w'.heap.size w' w2) := fun p w' hp => fold_any p nm w' hp hnm
  clear hF4 hF5 hU3 HB4 HB5 HC5 hN hnm
  go_loopw [11] (fun i wr => ∃ (k n : Nat) (A1 : Option Addr) (c1 : Nat), k ≤ S ∧ i = .int .i64 (k : Int) ∧ Blk wr g5 68 [.slice A1 n c1] ∧ Blk wr g4 68 [.slice none 0 0] ∧ OwnT wr w.heap.size (.slice A1 n c1) n (vals (fs.take k) nm) ∧ Kept w wr) (fun i _ => S - (intOf i).toNat)
  case atStart => exact ⟨0, 0, none, 0, by omega, rfl, HC53.out, HB43.out, ownT_nil _ _, HK3.out⟩
  case round =>
    obtain ⟨k, n, A1, c1, hk, rfl, hb5, hb4, hown, hkp⟩ := hrel
    clear HC53 HB43 HK3
    have HB5 := Lib.hid hb5
    have HB4 := Lib.hid hb4
    have HOwn := Lib.hid hown
    have HK := Lib.hid hkp
    have hnl := hown.len
    have hnb := HVl.out k hk
    rw [hnl] at hnb
    have Hnb := Lib.hid hnb
    have Hnl := Lib.hid hnl
    clear hb5 hb4 hown hkp hnb hnl
    by_cases hlt : k < S
    · have hkS : (k : Int) < (S : Int) := by omega
      obtain ⟨b, off, f, rfl, hbl, hfk, hrg⟩ := ((HF.out.below HK.out).range hlt)
      have hVk := HV.out k f hfk
      have hNf := HNk.out k f hfk
      obtain ⟨p, q⟩ := f
      have HP : Hid (p.length ≤ 9223372036854775807) := hNf.1
      have HR := Lib.hid hrg
      clear hNf hfk hrg hbl
      by_cases he : low p = low nm
      · have hVk2 : vals (fs.take (k + 1)) nm = vals (fs.take k) nm ++ [q] := by rw [hVk, if_pos he]
        have HVk := Lib.hid hVk2
        have HFo : Hid (∀ w', Calls Tryd.prog 57 #[.string (str p), .string (str nm)] w' fun e w2 => e = .returned (.bool true) ∧ Below w'.heap.size w' w2) := fun w' => (HFold.out p w' HP.out).mono fun e w2 h => ⟨by rw [h.1, decide_eq_true he], h.2⟩
        clear hVk hVk2 he
        go_wp2_with (first
          | ((with_reducible show wpList _ _ _ (⟨some 14, .load 35 _, _, _, _, _⟩ :: _) _ _); refine wp_get _ rfl 35 _ rfl b (off + k * 2) [.string (str p), .string (str q)] _ rfl HR.out Tryd.underlying35 rfl (by kernel_rfl) ?_; simp only [Act.put, List.setIfInBounds_toArray, List.set_cons_zero, List.set_cons_succ])
          | ((with_reducible show wpList _ _ _ (⟨some 7, .alloc _, _, _, _, _⟩ :: _) _ _); refine wp_new _ rfl 35 rfl [.string ⟨#[]⟩, .string ⟨#[]⟩] (by kernel_rfl) ?_; intro w7 g7 HB7 hF7; simp only [Act.put, List.setIfInBounds_toArray, List.set_cons_zero, List.set_cons_succ])
          | ((with_reducible show wpList _ _ _ (⟨none, .store 35 _ _, _, _, _, _⟩ :: _) _ _); refine wp_putAll _ rfl 35 _ _ rfl g7 _ _ [.string (str p), .string (str q)] rfl rfl HB7 rfl (by kernel_rfl) (by simp [Value.oneCell']) ?_; intro w8 HC7 hU8; simp only [Act.put]; have d0 := HC7.cell (i := 0) (v := .string (str p)) rfl)
          | (go_at_call 57; (with_reducible refine (HFo.out _).mono ?_); (rintro e w9 ⟨rfl, hb9⟩); have HE7 := HC7.kept hb9; have d1 := HE7.cell (i := 1) (v := .string (str q)) rfl; have hK79 := hF7.below.trans ((hU8.below (by rw [hF7.is]; exact Nat.le_refl _)).trans (hb9.mono (by rw [hU8.size]; exact hF7.below.size))); have HB9 := HB5.out.kept hK79; have HA9 := HB4.out.kept hK79; have HO9 := HOwn.out.kept hK79; have d2 := HB9.cell (i := 0) (v := .slice A1 n c1) rfl; have HK9 := Lib.hid (HK.out.step hK79); clear hK79 hb9 hU8)
          | ((with_reducible show wpList _ _ _ (⟨some 24, .call _, _, _, _, _⟩ :: _) _ _); refine wp_appT _ rfl _ _ rfl w.heap.size _ n (vals (fs.take k) nm) rfl (HO9.alloc _) w9.heap.size 0 1 1 [q] rfl rfl (lit_one _ _ _ rfl) (by have := Hnb.out; omega) (Nat.le_trans HK9.out.size (by simp)) (n + 1) rfl ?_; intro A2 c2 w2 hc2 hown2 hb2 hkb2 hgr2; simp only [Act.put, List.setIfInBounds_toArray, List.set_cons_zero, List.set_cons_succ]; have HB10 := (HB9.alloc _).but hkb2 (by decide); have HA10 := (HA9.alloc _).but hkb2 (by decide); have HK10 := Lib.hid ((HK9.out.alloc _).base hb2); clear hb2 hgr2 hkb2)
          | ((with_reducible show wpList _ _ _ (⟨none, .store 41 _ _, _, _, _, _⟩ :: _) _ _); refine wp_set _ rfl 41 _ _ rfl g5 0 _ _ (.slice A2 (n + 1) c2) rfl rfl rfl rfl HB10 (by simp) (by kernel_rfl) ?_; intro w11 HC10 hU11; simp only [Act.put]))
        go_roundw
        case rel => exact ⟨k + 1, n + 1, A2, c2, by omega, by go_num, HC10, HA10.upd hU11 H45.out, by rw [HVk.out]; exact hown2.chg (Chg.upd1 hU11 _) (hown2.off HB10 (by decide)), HK10.out.base (hU11.below HG5.out)⟩
        case measure => simp [intOf]; omega
      · have hVk2 : vals (fs.take (k + 1)) nm = vals (fs.take k) nm := by rw [hVk, if_neg he, List.append_nil]
        have HVk := Lib.hid hVk2
        have HFo : Hid (∀ w', Calls Tryd.prog 57 #[.string (str p), .string (str nm)] w' fun e w2 => e = .returned (.bool false) ∧ Below w'.heap.size w' w2) := fun w' => (HFold.out p w' HP.out).mono fun e w2 h => ⟨by rw [h.1, decide_eq_false he], h.2⟩
        clear hVk hVk2 he
        go_wp2_with (first
          | ((with_reducible show wpList _ _ _ (⟨some 14, .load 35 _, _, _, _, _⟩ :: _) _ _); refine wp_get _ rfl 35 _ rfl b (off + k * 2) [.string (str p), .string (str q)] _ rfl HR.out Tryd.underlying35 rfl (by kernel_rfl) ?_; simp only [Act.put, List.setIfInBounds_toArray, List.set_cons_zero, List.set_cons_succ])
          | ((with_reducible show wpList _ _ _ (⟨some 7, .alloc _, _, _, _, _⟩ :: _) _ _); refine wp_new _ rfl 35 rfl [.string ⟨#[]⟩, .string ⟨#[]⟩] (by kernel_rfl) ?_; intro w7 g7 HB7 hF7; simp only [Act.put, List.setIfInBounds_toArray, List.set_cons_zero, List.set_cons_succ])
          | ((with_reducible show wpList _ _ _ (⟨none, .store 35 _ _, _, _, _, _⟩ :: _) _ _); refine wp_putAll _ rfl 35 _ _ rfl g7 _ _ [.string (str p), .string (str q)] rfl rfl HB7 rfl (by kernel_rfl) (by simp [Value.oneCell']) ?_; intro w8 HC7 hU8; simp only [Act.put]; have d0 := HC7.cell (i := 0) (v := .string (str p)) rfl)
          | (go_at_call 57; (with_reducible refine (HFo.out _).mono ?_); (rintro e w9 ⟨rfl, hb9⟩); have HE7 := HC7.kept hb9; have d1 := HE7.cell (i := 1) (v := .string (str q)) rfl; have hK79 := hF7.below.trans ((hU8.below (by rw [hF7.is]; exact Nat.le_refl _)).trans (hb9.mono (by rw [hU8.size]; exact hF7.below.size))); have HB9 := HB5.out.kept hK79; have HA9 := HB4.out.kept hK79; have HO9 := HOwn.out.kept hK79; have d2 := HB9.cell (i := 0) (v := .slice A1 n c1) rfl; have HK9 := Lib.hid (HK.out.step hK79); clear hK79 hb9 hU8))
        go_roundw
        case rel => exact ⟨k + 1, n, A1, c1, by omega, by go_num, HB9, HA9, by rw [HVk.out]; exact HO9, HK9.out⟩
        case measure => simp [intOf]; omega
    · have hkS : ¬ (k : Int) < (S : Int) := by omega
      have hk2 : k = S := by omega
      have HVS : Hid (vals (fs.take k) nm = vals fs nm) := by show _ = _; rw [hk2, HE.out]
      clear hk2 hlt
      have HR5 : Hid (wr.rangeAt g5 0 [.slice A1 n c1]) := HB5.out.whole
      go_wp2_with (first
        | ((with_reducible show wpList _ _ _ (⟨some 27, .load 68 _, _, _, _, _⟩ :: _) _ _); refine wp_get _ rfl 68 _ rfl g5 (0) [.slice A1 n c1] _ rfl HR5.out Tryd.underlying68 rfl (by kernel_rfl) ?_; simp only [Act.put, List.setIfInBounds_toArray, List.set_cons_zero, List.set_cons_succ])
        | ((with_reducible show wpList _ _ _ (⟨none, .store 68 _ _, _, _, _, _⟩ :: _) _ _); refine wp_putAll _ rfl 68 _ _ rfl g4 _ _ [.slice A1 n c1] rfl rfl HB4.out rfl (by kernel_rfl) (by simp [Value.oneCell']) ?_; intro w12 HC4 hU12; simp only [Act.put]))
      refine ret_cell 4 68 rfl g4 [.slice A1 n c1] _ rfl HC4.whole Tryd.underlying68 rfl (by kernel_rfl) rfl ?_
      have hl := Hnl.out
      have ho := HOwn.out
      rw [HVS.out] at hl ho
      rw [hl]
      exact ⟨A1, c1, rfl, ho.chg (Chg.upd1 hU12 _) (ho.off HB4.out (by decide)), HK.out.base (hU12.below (by rw [HG4.out]; exact Nat.le_refl _))⟩
end Go.Proofs.YtmocjiilamcehaaDoor
