/-
  What transeptref07.Split, parts and Ends answer; nothing that was there turns. Condition: texts of at most 100000000 bytes.
-/
import Derived.Test.YtcepigekibidfaaGreatDoorRha
import Derived.Test.YtcepigekibidfaaGreatDoorGm
namespace Go.Proofs.YtcepigekibidfaaGreatDoor
open Go.RowKit

theorem str_sub (l : List UInt8) (f k : Nat) : (str l).extract f k = str ((l.drop f).take (k - f)) := by
  apply ByteArray.ext
  apply Array.ext'
  simp [str]
theorem cut_at (l : List UInt8) (ch : UInt8) (f k : Nat) (hf : f ≤ k) (hk : k < l.length) (he : l.getD k 0 = ch) : l.drop f = (l.drop f).take (k - f) ++ ch :: l.drop (k + 1) := by
  have h1 : l.drop k = ch :: l.drop (k + 1) := by
    rw [List.drop_eq_getElem_cons hk, ← he]
    simp [List.getD, List.getElem?_eq_getElem hk]
  conv => lhs; rw [← List.take_append_drop (k - f) (l.drop f)]
  rw [List.drop_drop, show f + (k - f) = k by omega, h1]
theorem sub_not (l : List UInt8) (ch : UInt8) (f k : Nat) (hk : k ≤ l.length) (h : ∀ j, f ≤ j → j < k → l.getD j 0 ≠ ch) : ch ∉ (l.drop f).take (k - f) := by
  intro hm
  obtain ⟨i, hi, e⟩ := List.getElem_of_mem hm
  rw [List.length_take, List.length_drop] at hi
  rw [List.getElem_take, List.getElem_drop] at e
  refine h (f + i) (by omega) (by omega) ?_
  rw [List.getD_eq_getElem?_getD, List.getElem?_eq_getElem (by omega), ← e]
  rfl
/-- Where the document's Split stands. -/
def Sq8 (l : List UInt8) (ch : UInt8) (k f n : Nat) (L : List (List UInt8)) : Prop := n ≤ k ∧ ((k ≤ l.length ∧ f ≤ k ∧ spl ch l = L ++ spl ch (l.drop f) ∧ ∀ j, f ≤ j → j < k → l.getD j 0 ≠ ch) ∨ (k = l.length + 1 ∧ L = spl ch l))
theorem Sq8.go {l : List UInt8} {ch : UInt8} {k f n : Nat} {L : List (List UInt8)} (h : Sq8 l ch k f n L) (hk : k < l.length) (hne : l.getD k 0 ≠ ch) : Sq8 l ch (k + 1) f n L := by
  obtain ⟨h0, ⟨h1, h2, h3, h4⟩ | ⟨h1, _⟩⟩ := h
  · refine ⟨by omega, .inl ⟨by omega, by omega, h3, fun j hj hj2 => ?_⟩⟩
    by_cases e : j = k
    · rw [e]; exact hne
    · exact h4 j hj (by omega)
  · omega
theorem Sq8.cut {l : List UInt8} {ch : UInt8} {k f n : Nat} {L : List (List UInt8)} (h : Sq8 l ch k f n L) (hk : k < l.length) (he : l.getD k 0 = ch) : Sq8 l ch (k + 1) (k + 1) (n + 1) (L ++ [(l.drop f).take (k - f)]) := by
  obtain ⟨h0, ⟨h1, h2, h3, h4⟩ | ⟨h1, _⟩⟩ := h
  · refine ⟨by omega, .inl ⟨by omega, by omega, ?_, fun j hj hj2 => by omega⟩⟩
    rw [h3, cut_at l ch f k h2 hk he]
    have e := spl_append ch (l.drop (k + 1)) _ (sub_not l ch f k h1 h4)
    rw [← cut_at l ch f k h2 hk he] at e ⊢
    rw [e]
    simp
  · omega
theorem Sq8.last {l : List UInt8} {ch : UInt8} {f n : Nat} {L : List (List UInt8)} (h : Sq8 l ch l.length f n L) : Sq8 l ch (l.length + 1) (l.length + 1) (n + 1) (L ++ [(l.drop f).take (l.length - f)]) := by
  obtain ⟨h0, ⟨h1, h2, h3, h4⟩ | ⟨h1, _⟩⟩ := h
  · refine ⟨by omega, .inr ⟨rfl, ?_⟩⟩
    have h5 := sub_not l ch f l.length h1 h4
    have h6 : (l.drop f).take (l.length - f) = l.drop f := List.take_of_length_le (by rw [List.length_drop]; omega)
    rw [h6] at h5 ⊢
    rw [h3, spl_none ch _ h5]
  · omega
theorem Sq8.fle {l : List UInt8} {ch : UInt8} {k f n : Nat} {L : List (List UInt8)} (h : Sq8 l ch k f n L) (hk : k ≤ l.length) : f ≤ k := by
  obtain ⟨_, ⟨_, h2, _, _⟩ | ⟨h1, _⟩⟩ := h
  · exact h2
  · omega
theorem Sq8.done {l : List UInt8} {ch : UInt8} {k f n : Nat} {L : List (List UInt8)} (h : Sq8 l ch k f n L) (hk : ¬ k ≤ l.length) : L = spl ch l := by
  obtain ⟨_, ⟨h1, _⟩ | ⟨_, h2⟩⟩ := h
  · omega
  · exact h2
set_option maxHeartbeats 4000000 in
set_option maxRecDepth 100000 in
theorem rsplit_any (l : List UInt8) (ch : UInt8) (w : World) (hl : l.length ≤ 100000000) : Calls Tryz.prog 73 #[.string (str l), vb ch] w fun e w' => ∃ A c, e = .returned (.slice A (spl ch l).length c) ∧ OwnT w' w.heap.size (.slice A (spl ch l).length c) (spl ch l).length (spl ch l) ∧ Below w.heap.size w w' := by
  have hsz := str_size l
  have hgb : Hid (∀ k, k < l.length → ∀ h, ((str l)[k]'h).toNat = (l.getD k 0).toNat) := fun k hk h => str_at l k hk h
  have hsub : Hid (∀ f k, f ≤ k → k ≤ l.length → (str l).extract f k = str ((l.drop f).take (k - f))) := fun f k _ _ => str_sub l f k
  have hgo : Hid (∀ k f n L, Sq8 l ch k f n L → k < l.length → l.getD k 0 ≠ ch → Sq8 l ch (k + 1) f n L) := fun k f n L h => h.go
  have hcut : Hid (∀ k f n L, Sq8 l ch k f n L → k < l.length → l.getD k 0 = ch → Sq8 l ch (k + 1) (k + 1) (n + 1) (L ++ [(l.drop f).take (k - f)])) := fun k f n L h => h.cut
  have hlast : Hid (∀ f n L, Sq8 l ch l.length f n L → Sq8 l ch (l.length + 1) (l.length + 1) (n + 1) (L ++ [(l.drop f).take (l.length - f)])) := fun f n L h => h.last
  have hfle : Hid (∀ k f n L, Sq8 l ch k f n L → k ≤ l.length → f ≤ k) := fun k f n L h => h.fle
  have hdone : Hid (∀ k f n L, Sq8 l ch k f n L → ¬ k ≤ l.length → L = spl ch l) := fun k f n L h => h.done
  have hst : Hid (Sq8 l ch 0 0 0 []) := ⟨Nat.le_refl _, .inl ⟨Nat.zero_le _, Nat.le_refl _, by simp, fun j h1 h2 => by omega⟩⟩
  obtain ⟨S, hS⟩ : ∃ S, S = l.length := ⟨_, rfl⟩
  unfold vb
  obtain ⟨m, hm⟩ : ∃ m, m = ch.toNat := ⟨_, rfl⟩
  have hmc : Hid (∀ b : UInt8, b.toNat = m ↔ b = ch) := fun b => ⟨fun h => UInt8.toNat.inj (by rw [h, hm]), fun h => by rw [h, hm]⟩
  rw [← hm]
  rw [← hS] at hsz hgb hsub hgo hcut hlast hfle hdone hl
  clear hS hm
  go_enter Tryz.func73, Tryz.ntmps73
  go_wp2_with fail
  have hown0 : OwnT (w.alloc (.cells #[] 9)) w.heap.size (.slice (some ⟨w.heap.size, 0, none⟩) 0 0) 0 [] := ownT_made w w.heap.size (Nat.le_refl _)
  go_loopw [7, 6, 5] (fun i fr v wr => ∃ (k f n : Nat) (A : Option Addr) (c : Nat) (L : List (List UInt8)), k ≤ S + 1 ∧ i = .int .i64 (k : Int) ∧ fr = .int .i64 (f : Int) ∧ v = .slice A n c ∧ OwnT wr w.heap.size (.slice A n c) n L ∧ Kept w wr ∧ Sq8 l ch k f n L) (fun i _ _ _ => S + 1 - (intOf i).toNat)
  case atStart => exact ⟨0, 0, 0, _, _, [], by omega, rfl, rfl, rfl, hown0, (Kept.refl w).alloc _, hst.out⟩
  case round =>
    obtain ⟨k, f, n, A, c, L, hk, rfl, rfl, rfl, hown, hkp, hsp⟩ := hrel
    clear hown0 hst
    have hnk : n ≤ k := hsp.1
    have HSp := Lib.hid hsp
    have HOwn := Lib.hid hown
    clear hsp hown
    have hbs : Hid (w.heap.size ≤ wr.heap.size) := hkp.size
    have HK := Lib.hid hkp
    clear hkp
    by_cases hkl : k ≤ S
    · have hkS : (k : Int) ≤ (S : Int) := by omega
      have hf := hfle.out k f n L HSp.out hkl
      have hx := hsub.out f k hf hkl
      by_cases hlt : k < S
      · have hkS2 : ((k : Int) == (S : Int)) = false := by simp; omega
        have HG := hgb.out k hlt
        have hgo1 := hgo.out k f n L HSp.out hlt
        have hcut1 := hcut.out k f n L HSp.out hlt
        have hmc1 := hmc.out (l.getD k 0)
        obtain ⟨x, hxx⟩ : ∃ x, x = (l.drop f).take (k - f) := ⟨_, rfl⟩
        rw [← hxx] at hx hcut1
        obtain ⟨bb, hbb⟩ : ∃ b, b = l.getD k 0 := ⟨_, rfl⟩
        rw [← hbb] at HG hgo1 hcut1 hmc1
        obtain ⟨b, hb⟩ : ∃ b, b = bb.toNat := ⟨_, rfl⟩
        rw [← hb] at HG hmc1
        clear hxx hbb hb
        by_cases he : b = m
        · have hc : ((b : Int) == (m : Int)) = true := by simp [he]
          have HN := Lib.hid (hcut1 (hmc1.1 he))
          clear hgo1 hcut1 hmc1 he
          go_wp2_with (first
            | ((with_reducible show wpList _ _ _ (⟨some 32, .call _, _, _, _, _⟩ :: _) _ _); refine wp_appT _ rfl (.tmp 26) (.tmp 31) rfl w.heap.size _ n L rfl (HOwn.out.alloc _) wr.heap.size 0 1 1 [x] rfl rfl (lit_one _ _ _ rfl) (by omega) (by simp; have := hbs.out; omega) (n + 1) rfl ?_; intro A4 c4 w4 hc4 hown4 hb4 hkb4 hgr4; simp only [Act.put, List.setIfInBounds_toArray, List.set_cons_zero, List.set_cons_succ]))
          go_roundw
          case rel => exact ⟨k + 1, k + 1, n + 1, A4, c4, L ++ [x], by omega, by go_num, by go_num, rfl, hown4, (HK.out.alloc _).base hb4, HN.out⟩
          case measure => simp [intOf]; omega
        · have hc : ((b : Int) == (m : Int)) = false := by simp; omega
          have HN := Lib.hid (hgo1 (fun h => he (hmc1.2 h)))
          clear hgo1 hcut1 hmc1 he
          go_wp2_with fail
          go_roundw
          case rel => exact ⟨k + 1, f, n, A, c, L, by omega, by go_num, rfl, rfl, HOwn.out, HK.out, HN.out⟩
          case measure => simp [intOf]; omega
      · obtain ⟨S2, hS2⟩ : ∃ S2, S2 = S := ⟨_, rfl⟩
        have hkS2 : ((k : Int) == (S : Int)) = true := by simp; omega
        have hke : k = S := by omega
        have HN : Hid (Sq8 l ch (k + 1) (k + 1) (n + 1) (L ++ [(l.drop f).take (k - f)])) := by
          have := hlast.out f n L (by rw [← hke]; exact HSp.out)
          rw [← hke] at this
          exact this
        obtain ⟨x, hxx⟩ : ∃ x, x = (l.drop f).take (k - f) := ⟨_, rfl⟩
        rw [← hxx] at hx HN
        clear hxx hke hlt hS2
        go_wp2_with (first
          | ((with_reducible show wpList _ _ _ (⟨some 32, .call _, _, _, _, _⟩ :: _) _ _); refine wp_appT _ rfl (.tmp 26) (.tmp 31) rfl w.heap.size _ n L rfl (HOwn.out.alloc _) wr.heap.size 0 1 1 [x] rfl rfl (lit_one _ _ _ rfl) (by omega) (by simp; have := hbs.out; omega) (n + 1) rfl ?_; intro A4 c4 w4 hc4 hown4 hb4 hkb4 hgr4; simp only [Act.put, List.setIfInBounds_toArray, List.set_cons_zero, List.set_cons_succ]))
        go_roundw
        case rel => exact ⟨k + 1, k + 1, n + 1, A4, c4, L ++ [x], by omega, by go_num, by go_num, rfl, hown4, (HK.out.alloc _).base hb4, HN.out⟩
        case measure => simp [intOf]; omega
    · have hkS : ¬ (k : Int) ≤ (S : Int) := by omega
      have hL := hdone.out k f n L HSp.out hkl
      have hn := HOwn.out.len
      rw [hL] at HOwn hn
      have hn2 := Lib.hid hn
      clear hL hn
      go_wp2_with fail
      go_ret
      rw [hn2.out]
      exact ⟨A, c, rfl, HOwn.out, HK.out⟩
theorem rsplit_one (l : List UInt8) (ch : UInt8) (w : World) (hl : l.length ≤ 100000000) : Calls Tryz.prog 73 #[.string (str l), vb ch] w fun e w' => ∃ g c, e = .returned (.slice (some ⟨g, 0, none⟩) (spl ch l).length c) ∧ (spl ch l).length ≤ c ∧ Ps w' g (spl ch l) ∧ Below w.heap.size w w' := by
  refine (rsplit_any l ch w hl).mono fun e w' hh => ?_
  obtain ⟨A, c, rfl, hown, hb⟩ := hh
  have hne : 1 ≤ (spl ch l).length := by rw [spl_length]; omega
  obtain ⟨A', c', he, hc, _, hf⟩ := hown.form
  cases he
  obtain ⟨g, rfl, _, hg, hcell⟩ := hf (by omega)
  exact ⟨g, c, rfl, hc, ⟨hg, hcell⟩, hb⟩
set_option maxHeartbeats 4000000 in
theorem rparts_any (l : List UInt8) (w : World) (hl : l.length ≤ 100000000) : Calls Tryz.prog 78 #[.string (str l)] w fun e w' => ∃ g c, e = .returned (.slice (some ⟨g, 0, none⟩) (prt l).length c) ∧ (prt l).length ≤ c ∧ Ps w' g (prt l) ∧ Below w.heap.size w w' := by
  have HS : Hid (Calls Tryz.prog 73 #[.string (str l), .int .u8 46] w fun e w' => ∃ g c, e = .returned (.slice (some ⟨g, 0, none⟩) (spl 46 l).length c) ∧ (spl 46 l).length ≤ c ∧ Ps w' g (spl 46 l) ∧ Below w.heap.size w w') := rsplit_one l 46 w hl
  have hpr : prt l = if 1 < (spl 46 l).length ∧ (spl 46 l).getLastD [] = [] then (spl 46 l).dropLast else spl 46 l := rfl
  obtain ⟨k, hk⟩ : ∃ k, (spl 46 l).length = k + 1 := ⟨(spl 46 l).length - 1, by rw [spl_length]; omega⟩
  have hkl : k ≤ 100000000 := by
    have h1 := spl_length 46 l
    have h2 := List.count_le_length (a := (46 : UInt8)) (l := l)
    omega
  have hla := getLastD_at (spl 46 l) k hk
  generalize prt l = R at hpr ⊢
  generalize spl 46 l = P at HS hpr hk hla
  obtain ⟨X, hX⟩ : ∃ X, X = P.getLastD [] := ⟨_, rfl⟩
  rw [← hX] at hpr hla
  rw [hk] at HS hpr
  have hki : (k : Int) + 1 - 1 = (k : Int) := by omega
  have hkn : k < k + 1 := by omega
  have HLa := Lib.hid hla
  have HP := Lib.hid hk
  clear hX hk hla
  by_cases h1 : 1 < k + 1
  · have hk1 : (1 : Int) < (k : Int) + 1 := by omega
    by_cases hx : X = []
    · have hem : (str X).toList.isEmpty = true := by rw [str_empty]; simp [hx]
      have hR : Hid (R = P.dropLast) := by show _ = _; rw [hpr, if_pos ⟨h1, hx⟩]
      clear hpr hx h1
      go_enter Tryz.func78, Tryz.ntmps78
      go_wp2_with (go_at_call 73; (with_reducible refine HS.out.mono ?_); (rintro e w1 ⟨g, c, rfl, hc, hps, hb⟩; have hcell := hps.at_ HLa.out; have HPs := Lib.hid hps; have hc2 : k ≤ c := Nat.le_of_succ_le hc; clear hps))
      go_ret
      have e1 : R.length = k := by rw [hR.out, List.length_dropLast, HP.out]; rfl
      rw [e1]
      refine ⟨g, c, rfl, hc2, ⟨HPs.out.1, fun j p hj => HPs.out.2 j p ?_⟩, hb⟩
      rw [hR.out, List.dropLast_eq_take, List.getElem?_take] at hj
      split at hj
      · exact hj
      · cases hj
    · have hem : (str X).toList.isEmpty = false := by rw [str_empty]; simp [hx]
      have hR : Hid (R = P) := by show _ = _; rw [hpr, if_neg (fun h => hx h.2)]
      clear hpr hx h1
      go_enter Tryz.func78, Tryz.ntmps78
      go_wp2_with (go_at_call 73; (with_reducible refine HS.out.mono ?_); (rintro e w1 ⟨g, c, rfl, hc, hps, hb⟩; have hcell := hps.at_ HLa.out; have HPs := Lib.hid hps; clear hps))
      go_ret
      have e1 : R.length = k + 1 := by rw [hR.out, HP.out]
      rw [e1]
      exact ⟨g, c, rfl, hc, hR.out ▸ HPs.out, hb⟩
  · have hk1 : ¬ (1 : Int) < (k : Int) + 1 := by omega
    have hR : Hid (R = P) := by show _ = _; rw [hpr, if_neg (fun h => h1 h.1)]
    clear hpr h1
    go_enter Tryz.func78, Tryz.ntmps78
    go_wp2_with (go_at_call 73; (with_reducible refine HS.out.mono ?_); (rintro e w1 ⟨g, c, rfl, hc, hps, hb⟩; have HPs := Lib.hid hps; clear hps))
    go_ret
    have e1 : R.length = k + 1 := by rw [hR.out, HP.out]
    rw [e1]
    exact ⟨g, c, rfl, hc, hR.out ▸ HPs.out, hb⟩
theorem rprt_ne (l : List UInt8) : prt l ≠ [] := by
  unfold prt
  split
  · rename_i h
    intro e
    have := congrArg List.length e
    rw [List.length_dropLast] at this
    simp at this
    omega
  · exact spl_ne 46 l
theorem rprt_mem (l p : List UInt8) (h : p ∈ prt l) : p.length ≤ l.length := by
  unfold prt at h
  split at h
  · exact (spl_mem 46 l p (List.dropLast_subset _ h)).2.1
  · exact (spl_mem 46 l p h).2.1
theorem rprt_len (l : List UInt8) : (prt l).length ≤ l.length + 1 := by
  have h1 := spl_length 46 l
  have h2 := List.count_le_length (a := (46 : UInt8)) (l := l)
  unfold prt
  split
  · rw [List.length_dropLast]; omega
  · omega
theorem ends_r (ps : List (List UInt8)) : ends ps = ((rnum (ps.getLastD [])).isSome || ((rv 10 0 (ps.getLastD [])).isSome && decide (ps.getLastD [] ≠ []))) := by
  have h1 := val_rv 10 (by decide) (ps.getLastD []) 0 (by decide)
  have h2 := num_rnum (ps.getLastD [])
  unfold ends
  generalize ps.getLastD [] = X at h1 h2
  have e1 : (val 10 0 X).isSome = (rv 10 0 X).isSome := by
    have : val 10 (min 0 4294967296) X = val 10 0 X := rfl
    rw [← this, h1, Option.isSome_map]
  rw [e1, h2, Option.isSome_map]
  by_cases hx : X = []
  · subst hx
    rfl
  · have : (X != []) = true := by simpa using hx
    rw [this, decide_eq_true hx]
    cases (rv 10 0 X).isSome <;> cases (rnum X).isSome <;> rfl
set_option maxHeartbeats 4000000 in
theorem rends_any (l : List UInt8) (w : World) (hl : l.length ≤ 100000000) : Calls Tryz.prog 77 #[.string (str l)] w fun e w' => e = .returned (.bool (ends (prt l))) ∧ Below w.heap.size w w' := by
  have HS := Lib.hid (rparts_any l w hl)
  have hne := rprt_ne l
  have hE := ends_r (prt l)
  have hkl := rprt_len l
  have hmem := fun p => rprt_mem l p
  obtain ⟨E, hE'⟩ : ∃ E, E = ends (prt l) := ⟨_, rfl⟩
  rw [← hE'] at hE ⊢
  clear hE'
  generalize prt l = P at HS hne hE hkl hmem
  obtain ⟨k, hk⟩ : ∃ k, P.length = k + 1 := ⟨P.length - 1, by have := List.length_pos_iff.2 hne; omega⟩
  have hla := getLastD_at P k hk
  have hX := hmem _ (List.mem_of_getElem? hla)
  obtain ⟨X, hX'⟩ : ∃ X, X = P.getLastD [] := ⟨_, rfl⟩
  rw [← hX'] at hla hX hE
  rw [hk] at HS hkl
  have V : ∀ W, Calls Tryz.prog 108 #[.string (str X), .int .u64 10] W fun e w' => e = .returned (valV (rv 10 0 X)) ∧ w' = W := fun W => rbased_any X 10 (by decide) W (by omega)
  have M : ∀ W, Calls Tryz.prog 79 #[.string (str X)] W fun e w' => e = .returned (valV (rnum X)) ∧ w' = W := fun W => rnumber_any X W (by omega)
  rw [valV_pair] at V M
  obtain ⟨v1, hv1⟩ : ∃ v, v = (rv 10 0 X).getD 0 := ⟨_, rfl⟩
  obtain ⟨v2, hv2⟩ : ∃ v, v = (rnum X).getD 0 := ⟨_, rfl⟩
  obtain ⟨b1, hb1⟩ : ∃ v, v = (rv 10 0 X).isSome := ⟨_, rfl⟩
  obtain ⟨b2, hb2⟩ : ∃ v, v = (rnum X).isSome := ⟨_, rfl⟩
  rw [← hv1, ← hb1] at V
  rw [← hv2, ← hb2] at M
  rw [← hb1, ← hb2] at hE
  have HV := Lib.hid V
  have HM := Lib.hid M
  have HE := Lib.hid hE
  have HLa := Lib.hid hla
  have hki : (k : Int) + 1 - 1 = (k : Int) := by omega
  have hkn : k < k + 1 := by omega
  have he0 : (str X).toList.isEmpty = !decide (X ≠ []) := by rw [str_empty]; simp
  obtain ⟨d, hd⟩ : ∃ d, d = decide (X ≠ []) := ⟨_, rfl⟩
  rw [← hd] at he0 HE
  clear hv1 hv2 hb1 hb2 V M hla hk hne hX' hE hX hmem hd
  cases d <;> cases b1 <;> cases b2
  all_goals
    simp only [Bool.not_false, Bool.not_true] at he0
    go_enter Tryz.func77, Tryz.ntmps77
    go_wp2_with (first
      | (go_at_call 78; (with_reducible refine HS.out.mono ?_); (rintro e w1 ⟨g, c, rfl, hc, hps, hb⟩; have hcell := hps.at_ HLa.out; clear hps))
      | (go_at_call 108; (with_reducible refine (HV.out _).mono ?_); rintro e w2 ⟨rfl, rfl⟩)
      | (go_at_call 79; (with_reducible refine (HM.out _).mono ?_); rintro e w3 ⟨rfl, rfl⟩))
    go_ret
    rw [HE.out]
    exact ⟨rfl, hb⟩
end Go.Proofs.YtcepigekibidfaaGreatDoor
