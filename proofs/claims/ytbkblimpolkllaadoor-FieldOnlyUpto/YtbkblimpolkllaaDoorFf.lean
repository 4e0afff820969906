/-
  What field.Names and field.Combined answer. No condition but sizes.
-/
import Derived.Test.YtbkblimpolkllaaDoorFe
import Derived.CallsIn
namespace Go.Proofs.YtbkblimpolkllaaDoor
open Go.RowKit Go.Maps
set_option linter.unusedVariables false

theorem OwnT.down {w : World} {base base' n : Nat} {v : Value} {L : List (List UInt8)} (h : OwnT w base v n L) (hb : base' ≤ base) : OwnT w base' v n L := by
  refine ⟨h.1, ?_⟩
  rcases h.2 with h2 | ⟨g, cap, cur, hv, hg, r⟩
  · exact .inl h2
  · exact .inr ⟨g, cap, cur, hv, by omega, r⟩
theorem lit_str_of (k : TypeId) (hk : Tryd.prog.underlying k = some .string) {l : Lit} (h : Maps.KeysOf Tryd.prog k l) : ∃ x, l = .string x := by
  obtain ⟨v, hv⟩ := h
  obtain ⟨x, _, h2, _⟩ := Maps.keyOf_str hk hv
  exact ⟨x, h2⟩
/-- The map's keys are the names. -/
theorem GM.keys {w : World} {base b : Nat} {fs : List (List UInt8 × List UInt8)} {D : DataW Value} {V : List UInt8 → Value} (h : GM w base b fs D V) : (nms fs).Perm (strKeys D) := by
  obtain ⟨es, hD, hp⟩ := h.map.tidy (string_keyed Tryd.underlying9)
  obtain ⟨es2, hD2, hk⟩ := h.map.keysOf
  subst hD
  cases hD2
  exact perm_strKeys hp (fun p hp => lit_str_of 9 Tryd.underlying9 (hk p hp)) (nms_nodup fs) fun x => by rw [h.has, decide_eq_true_eq]
theorem GM.size {w : World} {base b : Nat} {fs : List (List UInt8 × List UInt8)} {D : DataW Value} {V : List UInt8 → Value} (h : GM w base b fs D V) : Maps.size D = (nms fs).length := by
  have h1 := h.keys.length_eq
  obtain ⟨es, hD, _⟩ := h.map.tidy (string_keyed Tryd.underlying9)
  subst hD
  rw [h1]
  simp [Maps.size, strKeys]
theorem keys_any (b : Nat) (w : World) : Calls Tryd.prog 28 #[.map (some b)] w fun e w' => e = .returned (.func (.func 38) #[] #[.pointer (some ⟨w.heap.size, 0, none⟩)]) ∧ w' = w.alloc (.cells #[.map (some b)] 57) :=
  callsIn_wide.1 (Tryd.maps_Keys_28 (some b) w)
theorem sorted_any {w : World} {base b : Nat} {fs : List (List UInt8 × List UInt8)} {D : DataW Value} {V : List UInt8 → Value} (h : GM w base b fs D V) (hn : fs.length ≤ 1000) :
    Calls Tryd.prog 27 #[.func (.func 38) #[] #[.pointer (some ⟨w.heap.size, 0, none⟩)]] (w.alloc (.cells #[.map (some b)] 57)) fun e w' => ∃ A c, e = .returned (.slice A (nms fs).length c) ∧ OwnT w' w.heap.size (.slice A (nms fs).length c) (nms fs).length (nms fs) ∧ Below w.heap.size w w' := by
  have hs := h.size
  have hl := nms_len fs
  refine (callsIn_wide.1 (Tryd.slices_Sorted_keys_27_28 b fs.length D rawE w h.map (by rw [hs]; unfold maxLen; omega) (by rw [hs]; omega))).mono fun e w' hh => ?_
  obtain ⟨v, ss, rfl, hp, hrow, _, hb⟩ := hh
  have e1 : ss.mergeSort (fun x y => decide (x ≤ y)) = nms fs := by
    have h1 := mergeSort_of_perm (hp.trans h.keys.symm)
    rw [sort_id (nms fs) (nms_le fs)] at h1
    exact h1
  have e2 : ss.length = (nms fs).length := (hp.trans h.keys.symm).length_eq
  rw [e1, e2] at hrow
  have hrow2 : OwnT w' w.heap.size v (nms fs).length (nms fs) := OwnT.down (base := (w.alloc (.cells #[.map (some b)] 57)).heap.size) hrow (by simp)
  obtain ⟨A, c, rfl, _, _, _⟩ := hrow2.form
  exact ⟨A, c, rfl, hrow2, ((Below.refl _ w).alloc (Nat.le_refl _) _).trans (hb.mono (by simp))⟩
set_option maxHeartbeats 4000000 in
set_option maxRecDepth 100000 in
theorem names_any (fs : List (List UInt8 × List UInt8)) (A : Option Addr) (c : Nat) (w : World) (hn : fs.length ≤ 1000) (hf : Fs w w.heap.size A fs.length fs) (hN : ∀ f ∈ fs, f.1.length ≤ 9223372036854775807 ∧ f.2.length ≤ 9223372036854775807) : Calls Tryd.prog 15 #[.slice A fs.length c] w fun e w' => ∃ A' c', e = .returned (.slice A' (nms fs).length c') ∧ OwnT w' w.heap.size (.slice A' (nms fs).length c') (nms fs).length (nms fs) ∧ Below w.heap.size w w' := by
  have HGa : Hid (∀ w', w' = w → Calls Tryd.prog 29 #[.slice A fs.length c] w' fun e w2 => ∃ D V, e = .returned (.map (some w.heap.size)) ∧ GM w2 w.heap.size w.heap.size fs D V ∧ Below w.heap.size w w2) := fun w' h => by subst h; exact gather_any fs A c w' hn hf hN
  have Hn := Lib.hid hn
  clear hn hf hN
  go_enter Tryd.func15, Tryd.ntmps15
  go_wp2_with (first
    | (go_at_call 29; (with_reducible refine (HGa.out _ rfl).mono ?_); (rintro e w1 ⟨D, V, rfl, hgm, hb1⟩); have HGM := Lib.hid hgm; have HB1 := Lib.hid hb1; clear hgm hb1)
    | (go_at_call 28; (with_reducible refine (keys_any _ _).mono ?_); (rintro e w2x ⟨rfl, rfl⟩))
    | (go_at_call 27; (with_reducible refine (sorted_any HGM.out Hn.out).mono ?_); (rintro e w3 ⟨A3, c3, rfl, hown3, hb3⟩); have HO3 := Lib.hid hown3; have HB3 := Lib.hid hb3; clear hown3 hb3))
  go_ret
  exact ⟨A3, c3, rfl, HO3.out.down HB1.out.size, HB1.out.trans (HB3.out.mono HB1.out.size)⟩
/-- Rows of headers and rows of texts are other blocks. -/
theorem OwnF.notT {T : TypeId} {w : World} {base base' n n' g : Nat} {v v' : Value} {fs : List (List UInt8 × List UInt8)} {L : List (List UInt8)} (h : OwnF T w base v n fs) (h' : OwnT w base' v' n' L) (hT : T ≠ 9) (e : v'.ownBlock = some g) : v.ownBlock ≠ some g := by
  rcases h.2 with ⟨rfl, _⟩ | ⟨k, cap, cur, rfl, _, hh, _⟩
  · intro e; cases e
  · rcases h'.2 with ⟨rfl, _⟩ | ⟨k', cap', cur', rfl, _, hh', _⟩
    · cases e
    · intro e2
      have e3 : k = g := by simpa [Value.ownBlock] using e2
      have e4 : k' = g := by simpa [Value.ownBlock] using e
      subst e3
      subst e4
      rw [hh] at hh'
      cases hh'
      exact hT rfl
theorem OwnF.notMap {T : TypeId} {w : World} {base n b : Nat} {v : Value} {fs : List (List UInt8 × List UInt8)} {es : Array MapEntry} {cl : Nat} (h : OwnF T w base v n fs) (hb : w.heap[b]? = some (.map es cl)) : v.ownBlock ≠ some b := by
  rcases h.2 with ⟨rfl, _⟩ | ⟨g, cap, cur, rfl, _, hh, _⟩
  · intro e; cases e
  · intro e
    have e2 : g = b := by simpa [Value.ownBlock] using e
    subst e2
    rw [hb] at hh
    cases hh
theorem GM.grownF {T : TypeId} {w w' : World} {base base' b n : Nat} {fs : List (List UInt8 × List UInt8)} {gs : List (List UInt8 × List UInt8)} {D : DataW Value} {V : List UInt8 → Value} {v : Value} (h : GM w base b fs D V) (hF : OwnF T w base' v n gs) (hT : T ≠ 9) (hg : w.grownBy w' v.ownBlock) : GM w' base b fs D V := by
  refine ⟨h.map.kept hg fun e => ?_, h.has, h.at_, fun k => ?_, h.apart⟩
  · obtain ⟨es, cl, hb, _⟩ := h.map
    exact hF.notMap hb e.symm
  · obtain ⟨A, m, c, e, ho⟩ := h.row k
    exact ⟨A, m, c, e, ho.grown hg fun g eg e2 => hF.notT ho hT eg e2.symm⟩
theorem OwnT.grownF {T : TypeId} {w w' : World} {base base' n m : Nat} {gs : List (List UInt8 × List UInt8)} {v u : Value} {L : List (List UInt8)} (h : OwnT w base u m L) (hF : OwnF T w base' v n gs) (hT : T ≠ 9) (hg : w.grownBy w' v.ownBlock) : OwnT w' base u m L :=
  h.grown hg fun g eg e2 => hF.notT h hT eg e2.symm
theorem cmb_at (fs : List (List UInt8 × List UInt8)) (k : Nat) (x : List UInt8) (h : (nms fs)[k]? = some x) : (cmb fs)[k]? = some (x, jn (vals fs x)) := by
  rw [cmb, List.getElem?_map, h]; rfl
theorem cmb_length (fs : List (List UInt8 × List UInt8)) : (cmb fs).length = (nms fs).length := by rw [cmb, List.length_map]
set_option maxHeartbeats 4000000 in
set_option maxRecDepth 100000 in
theorem combined_any (fs : List (List UInt8 × List UInt8)) (A : Option Addr) (c : Nat) (w : World) (hn : fs.length ≤ 1000) (hf : Fs w w.heap.size A fs.length fs) (hN : ∀ f ∈ fs, f.1.length ≤ 9223372036854775807 ∧ f.2.length ≤ 9223372036854775807) (hj : ∀ nm, (jn (vals fs nm)).length ≤ 140737488355328) : Calls Tryd.prog 18 #[.slice A fs.length c] w fun e w' => ∃ A' c', e = .returned (.slice A' (cmb fs).length c') ∧ OwnF 42 w' w.heap.size (.slice A' (cmb fs).length c') (cmb fs).length (cmb fs) ∧ Below w.heap.size w w' := by
  have HGa : Hid (∀ w', w' = w → Calls Tryd.prog 29 #[.slice A fs.length c] w' fun e w2 => ∃ D V, e = .returned (.map (some w.heap.size)) ∧ GM w2 w.heap.size w.heap.size fs D V ∧ Below w.heap.size w w2) := fun w' h => by subst h; exact gather_any fs A c w' hn hf hN
  have Hn := Lib.hid hn
  have Hj := Lib.hid hj
  have hSn : (nms fs).length ≤ 1000 := Nat.le_trans (nms_len fs) hn
  have HNm : Hid (∀ (k : Nat) x, (nms fs)[k]? = some x → x.length ≤ 9223372036854775807 ∧ low x = x) := fun k x hx => ⟨nms_size (List.mem_of_getElem? hx) _ fun f hf => (hN f hf).1, nms_low (List.mem_of_getElem? hx)⟩
  have HCa := Lib.hid (cmb_at fs)
  have HCt : Hid ((cmb fs).take (nms fs).length = cmb fs) := by show _ = _; rw [← cmb_length, List.take_length]
  rw [cmb_length]
  obtain ⟨i, hi, hz0, hz1, hz2⟩ := info_parts fd_info
  have HI1 := Lib.hid hi
  have HI2 := Lib.hid hz0
  have HI3 := Lib.hid hz1
  have HI4 := Lib.hid hz2
  clear hn hf hN hj hi hz0 hz1 hz2
  obtain ⟨S, hS⟩ : ∃ S, S = (nms fs).length := ⟨_, rfl⟩
  rw [← hS] at hSn HCt ⊢
  have HS := Lib.hid hS
  have HSr : Hid (∀ (w1 : World) (b : Nat) (D : DataW Value) (V : List UInt8 → Value), GM w1 w.heap.size b fs D V → Calls Tryd.prog 27 #[.func (.func 38) #[] #[.pointer (some ⟨w1.heap.size, 0, none⟩)]] (w1.alloc (.cells #[.map (some b)] 57)) fun e w' => ∃ A c, e = .returned (.slice A S c) ∧ OwnT w' w1.heap.size (.slice A S c) S (nms fs) ∧ Below w1.heap.size w1 w') := fun w1 b D V h => by rw [hS]; exact sorted_any h Hn.out
  have HSz : Hid (∀ (w1 : World) (b : Nat) (D : DataW Value) (V : List UInt8 → Value), GM w1 w.heap.size b fs D V → Maps.size D = S) := fun w1 b D V h => by rw [hS]; exact h.size
  clear hS
  go_enter Tryd.func18, Tryd.ntmps18
  go_wp2_with (first
    | (go_at_call 29; (with_reducible refine (HGa.out _ rfl).mono ?_); (rintro e w1 ⟨D, V, rfl, hgm, hb1⟩); have HGM := Lib.hid hgm; have HB1 := Lib.hid hb1; clear hgm hb1)
    | ((with_reducible show wpList _ _ _ (⟨some 10, .call _, _, _, _, _⟩ :: _) _ _); refine wpList_len_own _ rfl _ 57 rfl 9 49 Tryd.underlying57 rawE w.heap.size fs.length D rfl HGM.out.map ?_; rw [HSz.out _ _ _ _ HGM.out]; simp only [Act.put, List.setIfInBounds_toArray, List.set_cons_zero, List.set_cons_succ])
    | ((with_reducible show wpList _ _ _ (⟨some 11, .makeSlice _ _ _, _, _, _, _⟩ :: _) _ _); refine wpList_make_own _ rfl _ _ 22 rfl w.heap.size 42 i _ 2 Tryd.underlying22 HI1.out HI2.out HI3.out _ _ _ S rfl rfl rfl (by rw [HI4.out]; omega) (by unfold maxLen; omega) HB1.out.size ?_; intro w2 how2 hgr2; simp only [Act.put, List.setIfInBounds_toArray, List.set_cons_zero, List.set_cons_succ]; have HOF2 : Hid (OwnF 42 w2 w.heap.size (.slice (some ⟨w1.heap.size, 0, none⟩) 0 S) 0 []) := how2; have HB2 : Hid (Below w1.heap.size w1 w2) := ((Below.refl _ _).grown hgr2 (Nat.le_refl _) (fun j hj => by cases hj)); have HGM2 := Lib.hid (HGM.out.kept HB2.out); clear how2 hgr2)
    | (go_at_call 28; (with_reducible refine (keys_any _ _).mono ?_); (rintro e w2x ⟨rfl, rfl⟩))
    | (go_at_call 27; (with_reducible refine (HSr.out _ _ _ _ HGM2.out).mono ?_); (rintro e w3 ⟨A3, c3, rfl, hown3, hb3⟩); have HO3 := Lib.hid hown3; have HB3 := Lib.hid hb3; clear hown3 hb3))
  have HK3 : Hid (Kept w w3) := by
    have h1 := HB2.out.trans (HB3.out.mono HB2.out.size)
    exact HB1.out.trans (h1.mono HB1.out.size)
  have HG3 := Lib.hid (HGM2.out.kept HB3.out)
  have HF3 : Hid (OwnF 42 w3 w.heap.size (.slice (some ⟨w1.heap.size, 0, none⟩) 0 S) 0 []) := OwnF.kept HOF2.out HB3.out
  have HN3 : Hid (OwnT w3 w.heap.size (.slice A3 S c3) S (nms fs)) := OwnT.down HO3.out (Nat.le_trans HB1.out.size HB2.out.size)
  generalize w1.heap.size = gq at *
  clear HGa HGM HB1 HOF2 HB2 HGM2 HO3 HB3 HSr HSz
  go_loopw [16, 4] (fun i o wr => ∃ (k : Nat) (A1 : Option Addr) (c1 : Nat), k ≤ S ∧ i = .int .i64 (k : Int) ∧ o = .slice A1 k c1 ∧ OwnF 42 wr w.heap.size (.slice A1 k c1) k ((cmb fs).take k) ∧ GM wr w.heap.size w.heap.size fs D V ∧ OwnT wr w.heap.size (.slice A3 S c3) S (nms fs) ∧ Kept w wr) (fun i _ _ => S - (intOf i).toNat)
  case atStart => exact ⟨0, _, _, by omega, rfl, rfl, HF3.out, HG3.out, HN3.out, HK3.out⟩
  case round =>
    obtain ⟨k, A1, c1, hk, rfl, rfl, hof, hgm, hon, hkp⟩ := hrel
    clear HF3 HG3 HN3 HK3
    have HOr := Lib.hid hof
    have HGr := Lib.hid hgm
    have HNr := Lib.hid hon
    have HKr := Lib.hid hkp
    have Hk9 : Hid (k ≤ 1000) := by show _ ≤ _; omega
    clear hof hgm hon hkp
    by_cases hlt : k < S
    · have hkS : (k : Int) < (S : Int) := by omega
      obtain ⟨A4, c4, he, hc4, _, hf4⟩ := HNr.out.form
      cases he
      obtain ⟨g4, rfl, _, _, hcell⟩ := hf4 (by omega)
      have hkl : k < (nms fs).length := by rw [← HS.out]; exact hlt
      obtain ⟨x, hx⟩ : ∃ x, (nms fs)[k]? = some x := ⟨_, List.getElem?_eq_getElem hkl⟩
      have d0 : wr.cell? ⟨g4, k, none⟩ = some (.string (str x)) := hcell k x hx
      have HXl : Hid (x.length ≤ 9223372036854775807) := (HNm.out k x hx).1
      have hxl := (HNm.out k x hx).2
      have HCk : Hid ((cmb fs).take k ++ [(x, jn (vals fs x))] = (cmb fs).take (k + 1)) := (take_snoc _ _ _ (HCa.out k x hx)).symm
      obtain ⟨A5, n5, c5, hVx, hown5⟩ := HGr.out.row x
      have HVx := Lib.hid hVx
      have hn5 : n5 ≤ 1000 := by rw [← hown5.len]; exact Nat.le_trans (vl_len _ _) Hn.out
      have hvv : vl fs x = vals fs x := by rw [vals, hxl]
      have HTx : Hid (Calls Tryd.prog 24 #[.agg #[.slice A5 n5 c5]] wr fun e w2 => e = .returned (.string (str (jn (vals fs x)))) ∧ Below wr.heap.size wr w2) := by rw [hvv] at hown5; exact text_any (vals fs x) n5 c5 w.heap.size A5 wr hown5 hn5 (Hj.out x)
      clear hf4 hcell hkl hx hxl hVx hown5 hn5 hvv
      go_wp2_with (first
        | ((with_reducible show wpList _ _ _ (⟨some 24, .lookup _ _ _ _, _, _, _, _⟩ :: _) _ _); refine wp_lookM _ rfl _ _ rfl w.heap.size w.heap.size fs D V HGr.out x HXl.out rfl rfl (.agg #[.slice A5 n5 c5]) HVx.out ?_; simp only [Act.put, List.setIfInBounds_toArray, List.set_cons_zero, List.set_cons_succ])
        | (go_at_call 24; (with_reducible refine (HTx.out).mono ?_); (rintro e w6 ⟨rfl, hb6⟩); have HB6 := Lib.hid hb6; have HO6 := Lib.hid (HOr.out.kept hb6); clear hb6)
        | ((with_reducible show wpList _ _ _ (⟨some 28, .call _, _, _, _, _⟩ :: _) _ _); refine wp_appF _ rfl _ _ 22 42 rfl Tryd.underlying22 fd_info w.heap.size _ k ((cmb fs).take k) rfl (HO6.out.alloc _) (w6.heap.size + 1) _ 1 1 [(x, jn (vals fs x))] rfl (Fs.one _ _ _ _ _ rfl) (by have := Hk9.out; omega) (Nat.le_trans HKr.out.size (Nat.le_trans HB6.out.size (by simp))) (k + 1) rfl ?_; intro A7 c7 w7 hc7 hcm7 hown7 hb7 hgr7; simp only [Act.put, List.setIfInBounds_toArray, List.set_cons_zero, List.set_cons_succ]; have HGr7 := Lib.hid ((World.grownBy_alloc w6 _ _).trans hgr7); have HO7 := Lib.hid hown7; have Hb7 := Lib.hid hb7; clear hc7 hcm7 hown7 hb7 hgr7))
      have HB6a : Hid (Kept w w6) := HKr.out.step HB6.out
      go_roundw
      case rel =>
        refine ⟨k + 1, A7, c7, by omega, by go_num, rfl, ?_, ?_, ?_, ?_⟩
        · rw [← HCk.out]; exact HO7.out
        · exact (HGr.out.kept HB6.out).grownF HO6.out (by decide) HGr7.out
        · exact (HNr.out.kept HB6.out).grownF HO6.out (by decide) HGr7.out
        · exact (HB6a.out.alloc _).base Hb7.out
      case measure => simp [intOf]; omega
    · have hkS : ¬ (k : Int) < (S : Int) := by omega
      have hk2 : Hid (k = S) := by show _ = _; omega
      go_wp2_with fail
      go_ret
      have ho := HOr.out
      rw [hk2.out, HCt.out] at ho
      exact ⟨A1, c1, by rw [hk2.out]; rfl, ho, HKr.out⟩
end Go.Proofs.YtbkblimpolkllaaDoor
