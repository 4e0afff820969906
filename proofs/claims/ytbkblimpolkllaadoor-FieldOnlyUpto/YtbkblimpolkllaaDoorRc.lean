/-
  What transeptref10.Names, Combined, Split and field.Split answer. No condition but sizes.
-/
import Derived.Test.YtbkblimpolkllaaDoorRb
namespace Go.Proofs.YtbkblimpolkllaaDoor
open Go.RowKit
set_option linter.unusedVariables false

set_option maxHeartbeats 4000000 in
set_option maxRecDepth 100000 in
theorem rnames_any (fs : List (List UInt8 × List UInt8)) (A : Option Addr) (c : Nat) (w : World) (hn : fs.length ≤ 1000) (hf : Fs w w.heap.size A fs.length fs) (hN : ∀ f ∈ fs, f.1.length ≤ 9223372036854775807 ∧ f.2.length ≤ 9223372036854775807) : Calls Tryd.prog 16 #[.slice A fs.length c] w fun e w' => ∃ A' c', e = .returned (.slice A' (nms fs).length c') ∧ OwnT w' w.heap.size (.slice A' (nms fs).length c') (nms fs).length (nms fs) ∧ Below w.heap.size w w' := by
  have HF := Lib.hid hf
  obtain ⟨S, hS⟩ : ∃ S, S = fs.length := ⟨_, rfl⟩
  rw [← hS] at hn HF ⊢
  have HNk : Hid (∀ (k : Nat) f, fs[k]? = some f → f.1.length ≤ 9223372036854775807 ∧ f.2.length ≤ 9223372036854775807) := fun k f h => hN f (List.mem_of_getElem? h)
  have HT : Hid (∀ (k : Nat) f, fs[k]? = some f → nms (fs.take (k + 1)) = ins (nms (fs.take k)) (low f.1)) := fun k f h => nms_take fs k f h
  have HNl : Hid (∀ k, k ≤ S → (nms (fs.take k)).length ≤ 1000) := fun k hk => Nat.le_trans (nms_len _) (by rw [List.length_take]; omega)
  have HE : Hid (fs.take S = fs) := by show _ = _; rw [hS, List.take_length]
  have HLo : Hid (∀ p w', p.length ≤ 9223372036854775807 → Calls Tryd.prog 31 #[.string (str p)] w' fun e w2 => e = .returned (.string (str (low p))) ∧ Below w'.heap.size w' w2) := fun p w' hp => rlower_any p w' hp
  have HWi : Hid (∀ (L : List (List UInt8)) (s : List UInt8) (n c : Nat) (A : Option Addr) (w' : World), OwnT w' w.heap.size (.slice A n c) n L → n ≤ 1000 → w.heap.size ≤ w'.heap.size → Calls Tryd.prog 30 #[.slice A n c, .string (str s)] w' fun e w2 => ∃ A' c', e = .returned (.slice A' (ins L s).length c') ∧ OwnT w2 w.heap.size (.slice A' (ins L s).length c') (ins L s).length (ins L s) ∧ Below w'.heap.size w' w2) := fun L s n c A w' h1 h2 h3 => with_any L s n c w.heap.size A w' h1 h2 h3
  clear hf hS hN
  go_enter Tryd.func16, Tryd.ntmps16
  go_wp2_with fail
  have hown0 : Hid (OwnT (w.alloc (.cells #[] 9)) w.heap.size (.slice (some ⟨w.heap.size, 0, none⟩) 0 0) 0 []) := ownT_made w w.heap.size (Nat.le_refl _)
  go_loopw [4, 3] (fun i o wr => ∃ (k n : Nat) (A1 : Option Addr) (c1 : Nat), k ≤ S ∧ i = .int .i64 (k : Int) ∧ o = .slice A1 n c1 ∧ OwnT wr w.heap.size (.slice A1 n c1) n (nms (fs.take k)) ∧ Kept w wr) (fun i _ _ => S - (intOf i).toNat)
  case atStart => exact ⟨0, 0, _, _, by omega, rfl, rfl, hown0.out, (Kept.refl w).alloc _⟩
  case round =>
    obtain ⟨k, n, A1, c1, hk, rfl, rfl, hown, hkp⟩ := hrel
    clear hown0
    have HOwn := Lib.hid hown
    have HK := Lib.hid hkp
    have hnl := hown.len
    have hnb := HNl.out k hk
    rw [hnl] at hnb
    have Hnb := Lib.hid hnb
    have Hnl := Lib.hid hnl
    clear hown hkp hnb hnl
    by_cases hlt : k < S
    · have hkS : (k : Int) < (S : Int) := by omega
      obtain ⟨b, off, f, rfl, hbl, hfk, h1, h2⟩ := HF.out.at_ hlt
      have HTk := Lib.hid (HT.out k f hfk)
      have hNf := HNk.out k f hfk
      obtain ⟨p, q⟩ := f
      have HP : Hid (p.length ≤ 9223372036854775807) := hNf.1
      have d0 : wr.cell? ⟨b, off + k * 2, none⟩ = some (.string (str p)) := (HK.out.cell (p := ⟨b, off + k * 2, none⟩) hbl).trans h1
      clear hNf hfk hbl h1 h2
      go_wp2_with (first
        | (go_at_call 31; (with_reducible refine (HLo.out p _ HP.out).mono ?_); (rintro e w1 ⟨rfl, hb⟩); have HB1 := Lib.hid hb; have HK1 := Lib.hid (HK.out.step hb); have HO1 := Lib.hid (HOwn.out.kept hb); have HKs : Hid (w.heap.size ≤ w1.heap.size) := HK1.out.size; clear hb)
        | (go_at_call 30; (with_reducible refine (HWi.out _ _ _ _ _ _ HO1.out Hnb.out HKs.out).mono ?_); (rintro e w2 ⟨A4, c4, rfl, hown4, hb4⟩); have HO4 := Lib.hid hown4; have HK4 := Lib.hid (HK1.out.step hb4); clear hown4 hb4))
      go_roundw
      case rel => exact ⟨k + 1, _, A4, c4, by omega, by go_num, rfl, by rw [HTk.out]; exact HO4.out, HK4.out⟩
      case measure => simp [intOf]; omega
    · have hkS : ¬ (k : Int) < (S : Int) := by omega
      have hk2 : k = S := by omega
      have HVS : Hid (nms (fs.take k) = nms fs) := by show _ = _; rw [hk2, HE.out]
      clear hk2 hlt
      go_wp2_with fail
      go_ret
      have hl := Hnl.out
      have ho := HOwn.out
      rw [HVS.out] at hl ho
      rw [hl]
      exact ⟨A1, c1, rfl, ho, HK.out⟩
set_option maxHeartbeats 4000000 in
set_option maxRecDepth 100000 in
theorem rcombined_any (fs : List (List UInt8 × List UInt8)) (A : Option Addr) (c : Nat) (w : World) (hn : fs.length ≤ 1000) (hf : Fs w w.heap.size A fs.length fs) (hN : ∀ f ∈ fs, f.1.length ≤ 9223372036854775807 ∧ f.2.length ≤ 9223372036854775807) (hj : ∀ nm, (jn (vals fs nm)).length ≤ 140737488355328) : Calls Tryd.prog 19 #[.slice A fs.length c] w fun e w' => ∃ A' c', e = .returned (.slice A' (cmb fs).length c') ∧ OwnF 47 w' w.heap.size (.slice A' (cmb fs).length c') (cmb fs).length (cmb fs) ∧ Below w.heap.size w w' := by
  have HNm0 : Hid (∀ w', w' = w → Calls Tryd.prog 16 #[.slice A fs.length c] w' fun e w2 => ∃ A' c', e = .returned (.slice A' (nms fs).length c') ∧ OwnT w2 w.heap.size (.slice A' (nms fs).length c') (nms fs).length (nms fs) ∧ Below w.heap.size w w2) := fun w' h => by subst h; exact rnames_any fs A c w' hn hf hN
  have HG : Hid (∀ w' nm, Kept w w' → nm.length ≤ 9223372036854775807 → Calls Tryd.prog 9 #[.slice A fs.length c, .string (str nm)] w' fun e w2 => e = .returned (.tuple #[.string (str (jn (vals fs nm))), .bool (decide (vals fs nm ≠ []))]) ∧ Below w'.heap.size w' w2) := fun w' nm hk h => rget_any fs A c nm w' hn (hf.kept hk) hN h (hj nm)
  have hSn : (nms fs).length ≤ 1000 := Nat.le_trans (nms_len fs) hn
  have HNm : Hid (∀ (k : Nat) x, (nms fs)[k]? = some x → x.length ≤ 9223372036854775807) := fun k x hx => nms_size (List.mem_of_getElem? hx) _ fun f hf => (hN f hf).1
  have HCa := Lib.hid (cmb_at fs)
  have HCt : Hid ((cmb fs).take (nms fs).length = cmb fs) := by show _ = _; rw [← cmb_length, List.take_length]
  rw [cmb_length]
  clear hn hf hN hj
  obtain ⟨S, hS⟩ : ∃ S, S = (nms fs).length := ⟨_, rfl⟩
  rw [← hS] at hSn HCt HNm0 ⊢
  have HS := Lib.hid hS
  clear hS
  go_enter Tryd.func19, Tryd.ntmps19
  go_wp2_with (first
    | (go_at_call 16; (with_reducible refine (HNm0.out _ rfl).mono ?_); (rintro e w1 ⟨A3, c3, rfl, hown3, hb3⟩); have HO3 := Lib.hid hown3; have HB3 := Lib.hid hb3; clear hown3 hb3))
  have HF3 : Hid (OwnF 47 (w1.alloc (.cells #[] 47)) w.heap.size (.slice (some ⟨w1.heap.size, 0, none⟩) 0 0) 0 []) := ownF_made 47 w1 w.heap.size HB3.out.size
  have HN3 : Hid (OwnT (w1.alloc (.cells #[] 47)) w.heap.size (.slice A3 S c3) S (nms fs)) := HO3.out.alloc _
  have HK3 : Hid (Kept w (w1.alloc (.cells #[] 47))) := HB3.out.alloc HB3.out.size _
  generalize w1.heap.size = gq at *
  clear HNm0 HO3 HB3
  go_loopw [5, 4] (fun i o wr => ∃ (k : Nat) (A1 : Option Addr) (c1 : Nat), k ≤ S ∧ i = .int .i64 (k : Int) ∧ o = .slice A1 k c1 ∧ OwnF 47 wr w.heap.size (.slice A1 k c1) k ((cmb fs).take k) ∧ OwnT wr w.heap.size (.slice A3 S c3) S (nms fs) ∧ Kept w wr) (fun i _ _ => S - (intOf i).toNat)
  case atStart => exact ⟨0, _, _, by omega, rfl, rfl, HF3.out, HN3.out, HK3.out⟩
  case round =>
    obtain ⟨k, A1, c1, hk, rfl, rfl, hof, hon, hkp⟩ := hrel
    clear HF3 HN3 HK3
    have HOr := Lib.hid hof
    have HNr := Lib.hid hon
    have HKr := Lib.hid hkp
    have Hk9 : Hid (k ≤ 1000) := by show _ ≤ _; omega
    clear hof hon hkp
    by_cases hlt : k < S
    · have hkS : (k : Int) < (S : Int) := by omega
      obtain ⟨A4, c4, he, hc4, _, hf4⟩ := HNr.out.form
      cases he
      obtain ⟨g4, rfl, _, _, hcell⟩ := hf4 (by omega)
      have hkl : k < (nms fs).length := by rw [← HS.out]; exact hlt
      obtain ⟨x, hx⟩ : ∃ x, (nms fs)[k]? = some x := ⟨_, List.getElem?_eq_getElem hkl⟩
      have d0 : wr.cell? ⟨g4, k, none⟩ = some (.string (str x)) := hcell k x hx
      have HXl : Hid (x.length ≤ 9223372036854775807) := HNm.out k x hx
      have HCk : Hid ((cmb fs).take k ++ [(x, jn (vals fs x))] = (cmb fs).take (k + 1)) := (take_snoc _ _ _ (HCa.out k x hx)).symm
      clear hf4 hcell hkl hx
      go_wp2_with (first
        | (go_at_call 9; (with_reducible refine (HG.out _ _ HKr.out HXl.out).mono ?_); (rintro e w6 ⟨rfl, hb6⟩); have HB6 := Lib.hid hb6; have HK6 := Lib.hid (HKr.out.step hb6); have HO6 := Lib.hid (OwnF.kept HOr.out hb6); obtain ⟨A8, c8, he8, hc8, _, hf8⟩ := (HNr.out.kept hb6).form; cases he8; obtain ⟨g8, he9, _, _, hcell8⟩ := hf8 (by omega); cases he9; have d1 : w6.cell? ⟨g4, k, none⟩ = some (.string (str x)) := (hb6.cell (p := ⟨g4, k, none⟩) (World.block_lt_of_cell? wr _ d0)).trans d0; clear hb6 hf8 hcell8)
        | ((with_reducible show wpList _ _ _ (⟨some 34, .call _, _, _, _, _⟩ :: _) _ _); refine wp_appF _ rfl _ _ 25 47 rfl Tryd.underlying25 rd_info w.heap.size _ k ((cmb fs).take k) rfl (HO6.out.alloc _) (w6.heap.size + 1) _ 1 1 [(x, jn (vals fs x))] rfl (Fs.one _ _ _ _ _ rfl) (by have := Hk9.out; omega) (Nat.le_trans HK6.out.size (by simp)) (k + 1) rfl ?_; intro A7 c7 w7 hc7 hcm7 hown7 hb7 hgr7; simp only [Act.put, List.setIfInBounds_toArray, List.set_cons_zero, List.set_cons_succ]; have HGr7 := Lib.hid ((World.grownBy_alloc w6 _ _).trans hgr7); have HO7 := Lib.hid hown7; have Hb7 := Lib.hid hb7; clear hc7 hcm7 hown7 hb7 hgr7))
      go_roundw
      case rel =>
        refine ⟨k + 1, A7, c7, by omega, by go_num, rfl, ?_, ?_, ?_⟩
        · rw [← HCk.out]; exact HO7.out
        · exact (HNr.out.kept HB6.out).grownF HO6.out (by decide) HGr7.out
        · exact (HK6.out.alloc _).base Hb7.out
      case measure => simp [intOf]; omega
    · have hkS : ¬ (k : Int) < (S : Int) := by omega
      have hk2 : Hid (k = S) := by show _ = _; omega
      go_wp2_with fail
      go_ret
      have ho := HOr.out
      rw [hk2.out, HCt.out] at ho
      exact ⟨A1, c1, by rw [hk2.out]; rfl, ho, HKr.out⟩
/-- The parts of what Get tells. -/
def spt (fs : List (List UInt8 × List UInt8)) (nm : List UInt8) : List (List UInt8) := if vals fs nm = [] then [] else prts (jn (vals fs nm))
theorem spt_no (fs : List (List UInt8 × List UInt8)) (nm : List UInt8) (h : vals fs nm = []) : spt fs nm = [] := if_pos h
theorem spt_yes (fs : List (List UInt8 × List UInt8)) (nm : List UInt8) (h : vals fs nm ≠ []) : spt fs nm = prts (jn (vals fs nm)) := if_neg h
set_option maxHeartbeats 4000000 in
set_option maxRecDepth 100000 in
theorem split_any (fs : List (List UInt8 × List UInt8)) (A : Option Addr) (c : Nat) (nm : List UInt8) (w : World) (hn : fs.length ≤ 1000) (hf : Fs w w.heap.size A fs.length fs) (hN : ∀ f ∈ fs, f.1.length ≤ 9223372036854775807 ∧ f.2.length ≤ 9223372036854775807) (hnm : nm.length ≤ 9223372036854775807) (hj : (jn (vals fs nm)).length ≤ 200000000) : Calls Tryd.prog 10 #[.slice A fs.length c, .string (str nm)] w fun e w' => ∃ A' c', e = .returned (.tuple #[.slice A' (spt fs nm).length c', .bool (decide (vals fs nm ≠ []))]) ∧ OwnT w' w.heap.size (.slice A' (spt fs nm).length c') (spt fs nm).length (spt fs nm) ∧ Below w.heap.size w w' := by
  have HG : Hid (∀ w', w' = w → Calls Tryd.prog 8 #[.slice A fs.length c, .string (str nm)] w' fun e w2 => e = .returned (.tuple #[.string (str (jn (vals fs nm))), .bool (decide (vals fs nm ≠ []))]) ∧ Below w.heap.size w w2) := fun w' h => by subst h; exact get_any fs A c nm w' hn hf hN hnm (by omega)
  by_cases hv : vals fs nm = []
  · rw [spt_no fs nm hv, decide_eq_false (fun h => h hv)]
    rw [decide_eq_false (fun h => h hv)] at HG
    generalize jn (vals fs nm) = X at *
    clear hv hn hf hN hnm hj
    go_enter Tryd.func10, Tryd.ntmps10
    go_wp2_with (first
      | (go_at_call 8; (with_reducible refine (HG.out _ rfl).mono ?_); (rintro e w1 ⟨rfl, hb⟩); have HB1 := Lib.hid hb; clear hb))
    go_ret2
    exact ⟨none, 0, rfl, ownT_nil _ _, HB1.out⟩
  · rw [spt_yes fs nm hv, decide_eq_true hv]
    rw [decide_eq_true hv] at HG
    have HP : Hid (∀ w', Calls Tryd.prog 21 #[.string (str (jn (vals fs nm)))] w' fun e w2 => ∃ A c, e = .returned (.slice A (prts (jn (vals fs nm))).length c) ∧ OwnT w2 w'.heap.size (.slice A (prts (jn (vals fs nm))).length c) (prts (jn (vals fs nm))).length (prts (jn (vals fs nm))) ∧ Below w'.heap.size w' w2) := fun w' => parts_own _ w' (by omega) (by
      have := pt_len (jn (vals fs nm)) 0 []
      unfold prts
      omega)
    generalize jn (vals fs nm) = X at *
    generalize prts X = P at *
    obtain ⟨m, hm⟩ : ∃ m, m = P.length := ⟨_, rfl⟩
    rw [← hm] at HP ⊢
    clear hv hn hf hN hnm hj hm
    go_enter Tryd.func10, Tryd.ntmps10
    go_wp2_with (first
      | (go_at_call 8; (with_reducible refine (HG.out _ rfl).mono ?_); (rintro e w1 ⟨rfl, hb⟩); have HB1 := Lib.hid hb; clear hb)
      | (go_at_call 21; (with_reducible refine (HP.out _).mono ?_); (rintro e w2 ⟨A2, c2, rfl, hown, hb⟩); have HB2 := Lib.hid hb; have HO2 := Lib.hid hown; clear hb hown))
    go_ret2
    exact ⟨A2, c2, rfl, HO2.out.down HB1.out.size, HB1.out.trans (HB2.out.mono HB1.out.size)⟩
set_option maxHeartbeats 4000000 in
set_option maxRecDepth 100000 in
theorem rsplit_any (fs : List (List UInt8 × List UInt8)) (A : Option Addr) (c : Nat) (nm : List UInt8) (w : World) (hn : fs.length ≤ 1000) (hf : Fs w w.heap.size A fs.length fs) (hN : ∀ f ∈ fs, f.1.length ≤ 9223372036854775807 ∧ f.2.length ≤ 9223372036854775807) (hnm : nm.length ≤ 9223372036854775807) (hj : (jn (vals fs nm)).length ≤ 200000000) : Calls Tryd.prog 11 #[.slice A fs.length c, .string (str nm)] w fun e w' => ∃ A' c', e = .returned (.tuple #[.slice A' (spt fs nm).length c', .bool (decide (vals fs nm ≠ []))]) ∧ OwnT w' w.heap.size (.slice A' (spt fs nm).length c') (spt fs nm).length (spt fs nm) ∧ Below w.heap.size w w' := by
  have HG : Hid (∀ w', w' = w → Calls Tryd.prog 9 #[.slice A fs.length c, .string (str nm)] w' fun e w2 => e = .returned (.tuple #[.string (str (jn (vals fs nm))), .bool (decide (vals fs nm ≠ []))]) ∧ Below w.heap.size w w2) := fun w' h => by subst h; exact rget_any fs A c nm w' hn hf hN hnm (by omega)
  by_cases hv : vals fs nm = []
  · rw [spt_no fs nm hv, decide_eq_false (fun h => h hv)]
    rw [decide_eq_false (fun h => h hv)] at HG
    generalize jn (vals fs nm) = X at *
    clear hv hn hf hN hnm hj
    go_enter Tryd.func11, Tryd.ntmps11
    go_wp2_with (first
      | (go_at_call 9; (with_reducible refine (HG.out _ rfl).mono ?_); (rintro e w1 ⟨rfl, hb⟩); have HB1 := Lib.hid hb; clear hb))
    go_ret2
    exact ⟨none, 0, rfl, ownT_nil _ _, HB1.out⟩
  · rw [spt_yes fs nm hv, decide_eq_true hv]
    rw [decide_eq_true hv] at HG
    have HP : Hid (∀ w', Calls Tryd.prog 26 #[.string (str (jn (vals fs nm)))] w' fun e w2 => ∃ A c, e = .returned (.slice A (prts (jn (vals fs nm))).length c) ∧ OwnT w2 w'.heap.size (.slice A (prts (jn (vals fs nm))).length c) (prts (jn (vals fs nm))).length (prts (jn (vals fs nm))) ∧ Below w'.heap.size w' w2) := fun w' => rparts_own _ w' (by omega) (by
      have := pt_len (jn (vals fs nm)) 0 []
      unfold prts
      omega)
    generalize jn (vals fs nm) = X at *
    generalize prts X = P at *
    obtain ⟨m, hm⟩ : ∃ m, m = P.length := ⟨_, rfl⟩
    rw [← hm] at HP ⊢
    clear hv hn hf hN hnm hj hm
    go_enter Tryd.func11, Tryd.ntmps11
    go_wp2_with (first
      | (go_at_call 9; (with_reducible refine (HG.out _ rfl).mono ?_); (rintro e w1 ⟨rfl, hb⟩); have HB1 := Lib.hid hb; clear hb)
      | (go_at_call 26; (with_reducible refine (HP.out _).mono ?_); (rintro e w2 ⟨A2, c2, rfl, hown, hb⟩); have HB2 := Lib.hid hb; have HO2 := Lib.hid hown; clear hb hown))
    go_ret2
    exact ⟨A2, c2, rfl, HO2.out.down HB1.out.size, HB1.out.trans (HB2.out.mono HB1.out.size)⟩
end Go.Proofs.YtbkblimpolkllaaDoor
