/-
  What transeptlaw10.FieldAgain answers: true; nothing that was there turns. Condition: texts of at most 1048576 bytes.
-/
import Derived.Test.YtbkblimpolkllaaFj
import Derived.OrdersHeld
import Derived.Sort.Walk0
import Derived.Laws.Cover1
namespace Go.Proofs.Ytbkblimpolkllaa
open Go.RowKit
set_option linter.unusedVariables false

theorem onl_cmb (fs : List (List UInt8 × List UInt8)) (nm : List UInt8) : onl (vals (cmb fs) nm) = jn (vals fs nm) := by
  rw [vals_cmb]
  split
  · rfl
  · rename_i h
    rw [Decidable.not_not.1 h]
    rfl
theorem cmb_ne (fs : List (List UInt8 × List UInt8)) (nm : List UInt8) : decide (vals (cmb fs) nm ≠ []) = decide (vals fs nm ≠ []) := by
  rw [vals_cmb, decide_eq_decide]
  split
  · rename_i h
    exact ⟨fun _ => h, fun _ => by simp⟩
  · rename_i h
    exact ⟨fun h2 => absurd rfl h2, fun h2 => absurd h2 h⟩
theorem cmb_one (fs : List (List UInt8 × List UInt8)) (nm : List UInt8) : decide ((vals (cmb fs) nm).length = 1) = decide (vals fs nm ≠ []) := by
  rw [vals_cmb, decide_eq_decide]
  split
  · rename_i h
    exact ⟨fun _ => h, fun _ => rfl⟩
  · rename_i h
    exact ⟨fun h2 => by simp at h2, fun h2 => absurd h2 h⟩
theorem cmb_name (fs : List (List UInt8 × List UInt8)) (k : Nat) (f : List UInt8 × List UInt8) (h : (cmb fs)[k]? = some f) : (nms fs)[k]? = some f.1 := by
  rw [cmb, List.getElem?_map, Option.map_eq_some_iff] at h
  obtain ⟨x, hx, rfl⟩ := h
  exact hx
theorem cmb_rise (fs : List (List UInt8 × List UInt8)) (k : Nat) (f g : List UInt8 × List UInt8) (h : (cmb fs)[k]? = some f) (h2 : (cmb fs)[k + 1]? = some g) : Op.bytesLess f.1 g.1 = true := by
  obtain ⟨h3, h4⟩ := List.getElem?_eq_some_iff.1 (cmb_name fs k f h)
  obtain ⟨h5, h6⟩ := List.getElem?_eq_some_iff.1 (cmb_name fs (k + 1) g h2)
  have h7 := List.pairwise_iff_getElem.1 (nms_sorted fs) k (k + 1) h3 h5 (by omega)
  rw [h4, h6] at h7
  rw [Go.Proofs.bytesLess_eq]
  exact decide_eq_true h7
theorem tv_own {w : World} {base n c : Nat} {A : Option Addr} {L : List (List UInt8)} (h : OwnT w base (.slice A n c) n L) : (∀ j x, L[j]? = some x → ∃ g, A = some ⟨g, 0, none⟩ ∧ w.cell? ⟨g, j, none⟩ = some (vstr x)) ∧ L.length ≤ c := by
  obtain ⟨A2, c2, he, hc, _, hf⟩ := h.form
  cases he
  have hl := h.len
  refine ⟨fun j x hj => ?_, by omega⟩
  have hj2 := (List.getElem?_eq_some_iff.1 hj).1
  obtain ⟨g, rfl, _, _, hcell⟩ := hf (by omega)
  exact ⟨g, rfl, hcell j x hj⟩
set_option maxHeartbeats 4000000 in
set_option maxRecDepth 100000 in
theorem again_any (fs : List (List UInt8 × List UInt8)) (A : Option Addr) (n c : Nat) (nm : List UInt8) (w : World) (hf : Fs w w.heap.size A n fs) (hc : n ≤ c) (hc2 : c ≤ 9223372036854775807)
    (hN : ∀ f ∈ fs, f.1.length ≤ 1048576 ∧ f.2.length ≤ 1048576) (hnm : nm.length ≤ 1048576) : Calls Try.prog 4 #[.slice A n c, .string (str nm)] w fun e w' => e = .returned (.bool true) ∧ Below w.heap.size w w' := by
  have HS : Hid (∀ w', Calls Try.prog 7 #[] w' fun e w2 => e = .returned (.bool true) ∧ Below w'.heap.size w' w2) := fun w' => shown_any w'
  obtain ⟨L, hL⟩ : ∃ L, L = fs.take 100 := ⟨_, rfl⟩
  obtain ⟨l1, hl1⟩ : ∃ l, l = (fs.take 100).length := ⟨_, rfl⟩
  have hLN : ∀ f ∈ L, f.1.length ≤ 1048576 ∧ f.2.length ≤ 1048576 := fun f h => hN f (List.mem_of_mem_take (hL ▸ h))
  have hLl : L.length ≤ 100 := by rw [hL, List.length_take]; omega
  have hLl1 : L.length = l1 := by rw [hl1, hL]
  have up : ∀ {Z : List (List UInt8 × List UInt8)} (K : Nat), K ≤ 9223372036854775807 → (∀ f ∈ Z, f.1.length ≤ K ∧ f.2.length ≤ K) → ∀ f ∈ Z, f.1.length ≤ 9223372036854775807 ∧ f.2.length ≤ 9223372036854775807 := fun K hK h f hf => ⟨Nat.le_trans (h f hf).1 hK, Nat.le_trans (h f hf).2 hK⟩
  have hLM := up 1048576 (by decide) hLN
  have hjL : ∀ m, (jn (vals L m)).length ≤ 140737488355328 := fun m => Nat.le_trans (jn_size L m 1048576 (by omega) hLN) (by decide)
  have hCN := cmb_size L 1048576 (by omega) hLN
  have hCM := up _ (by decide) hCN
  have hCl : (cmb L).length ≤ 100 := Nat.le_trans (cmb_len L) hLl
  have hjC : ∀ m, (jn (vals (cmb L) m)).length ≤ 140737488355328 := fun m => by rw [jn_vals_cmb]; exact hjL m
  have HFew : Hid (∀ W, Below w.heap.size w W → Calls Try.prog 10 #[.slice A n c] W fun e w2 => ∃ A' c', e = .returned (.slice A' l1 c') ∧ l1 ≤ c' ∧ c' ≤ 9223372036854775807 ∧ Fs w2 w2.heap.size A' l1 L ∧ Below W.heap.size W w2) := fun W hb => by
    have h := few_any fs A n c W hc hc2 (hf.kept hb)
    rw [← hl1, ← hL] at h
    exact h
  obtain ⟨C, hC⟩ : ∃ C, C = cmb L := ⟨_, rfl⟩
  obtain ⟨lc, hlc⟩ : ∃ l, l = (cmb L).length := ⟨_, rfl⟩
  have hClc : C.length = lc := by rw [hlc, hC]
  have HComb : Hid (∀ W A' c', Fs W W.heap.size A' l1 L → Calls Try.prog 11 #[.slice A' l1 c'] W fun e w2 => ∃ A2 c2, e = .returned (.slice A2 lc c2) ∧ Fs w2 w2.heap.size A2 lc C ∧ Below W.heap.size W w2) := fun W A' c' hF => by
    have h := combined_any L A' c' W (by omega) (by rw [hLl1]; exact hF) hLM hjL
    rw [hLl1, ← hlc, ← hC] at h
    refine h.mono fun e w2 hh => ?_
    obtain ⟨A2, c2, h1, h2, h3⟩ := hh
    obtain ⟨A3, c3, he, _, _, h4⟩ := h2.form
    cases he
    exact ⟨A2, c2, h1, h4, h3⟩
  have HComb2 : Hid (∀ W A' c', Fs W W.heap.size A' lc C → Calls Try.prog 11 #[.slice A' lc c'] W fun e w2 => ∃ A2 c2, e = .returned (.slice A2 lc c2) ∧ Fs w2 w2.heap.size A2 lc C ∧ Below W.heap.size W w2) := fun W A' c' hF => by
    have h := combined_any C A' c' W (by omega) (by rw [hClc]; exact hF) (by rw [hC]; exact hCM) (by rw [hC]; exact hjC)
    rw [hC, cmb_cmb, ← hC, hClc] at h
    refine h.mono fun e w2 hh => ?_
    obtain ⟨A2, c2, h1, h2, h3⟩ := hh
    obtain ⟨A3, c3, he, _, _, h4⟩ := h2.form
    cases he
    exact ⟨A2, c2, h1, h4, h3⟩
  have HOf : Hid (∀ W A' c', Fs W W.heap.size A' lc C → Calls Try.prog 16 #[.slice A' lc c'] W fun e w2 => ∃ A2 c2, e = .returned (.slice A2 lc c2) ∧ Fs w2 w2.heap.size A2 lc C ∧ Below W.heap.size W w2) := fun W A' c' hF => by
    have h := of_any C A' c' W (by omega) (by rw [hClc]; exact hF)
    rw [hClc] at h
    refine h.mono fun e w2 hh => ?_
    obtain ⟨A2, c2, h1, h2, h3⟩ := hh
    obtain ⟨A3, c3, he, _, _, h4⟩ := h2.form
    cases he
    exact ⟨A2, c2, h1, h4, h3⟩
  have HSame : Hid (∀ W A' B' c' d', Fs W W.heap.size A' lc C → Fs W W.heap.size B' lc C → Calls Try.prog 15 #[.slice A' lc c', .slice B' lc d'] W fun e w2 => e = .returned (.bool true) ∧ Below W.heap.size W w2) := fun W A' B' c' d' h1 h2 => by
    have h := samef_any C C A' B' c' d' W (by rw [hClc]; exact h1) (by rw [hClc]; exact h2) (by omega)
    rw [hClc, decide_eq_true rfl] at h
    exact h
  obtain ⟨NL, hNL⟩ : ∃ N, N = nms L := ⟨_, rfl⟩
  obtain ⟨ln, hln⟩ : ∃ l, l = (nms L).length := ⟨_, rfl⟩
  have hNLl : NL.length = ln := by rw [hln, hNL]
  have hln1 : ln ≤ 100 := by rw [hln]; exact Nat.le_trans (nms_len L) hLl
  have HNm1 : Hid (∀ W A' c', Fs W W.heap.size A' lc C → Calls Try.prog 18 #[.slice A' lc c'] W fun e w2 => ∃ A2 c2, e = .returned (.slice A2 ln c2) ∧ OwnT w2 W.heap.size (.slice A2 ln c2) ln NL ∧ Below W.heap.size W w2) := fun W A' c' hF => by
    have h := names_any C A' c' W (by omega) (by rw [hClc]; exact hF) (by rw [hC]; exact hCM)
    rw [hClc, hC, nms_cmb, ← hln, ← hNL] at h
    exact h
  have HNm2 : Hid (∀ W A' c', Fs W W.heap.size A' l1 L → Calls Try.prog 18 #[.slice A' l1 c'] W fun e w2 => ∃ A2 c2, e = .returned (.slice A2 ln c2) ∧ OwnT w2 W.heap.size (.slice A2 ln c2) ln NL ∧ Below W.heap.size W w2) := fun W A' c' hF => by
    have h := names_any L A' c' W (by omega) (by rw [hLl1]; exact hF) hLM
    rw [hLl1, ← hln, ← hNL] at h
    exact h
  have HSm : Hid (∀ (W : World) A' B' c' d' b1 b2, OwnT W b1 (.slice A' ln c') ln NL → OwnT W b2 (.slice B' ln d') ln NL → Calls Try.prog 17 #[.slice A' ln c', .slice B' ln d'] W fun e w2 => e = .returned (.bool true) ∧ Below W.heap.size W w2) := fun W A' B' c' d' b1 b2 h1 h2 => by
    have h := same_any NL NL A' B' c' d' W (tv_own h1).1 (tv_own h2).1 (tv_own h1).2 (tv_own h2).2 (by omega)
    rw [hNLl, decide_eq_true rfl] at h
    exact h
  obtain ⟨X, hX⟩ : ∃ X, X = jn (vals L nm) := ⟨_, rfl⟩
  obtain ⟨b, hb⟩ : ∃ b, b = decide (vals L nm ≠ []) := ⟨_, rfl⟩
  have HGet1 : Hid (∀ W A' c', Fs W W.heap.size A' l1 L → Calls Try.prog 12 #[.slice A' l1 c', .string (str nm)] W fun e w2 => e = .returned (.tuple #[.string (str X), .bool b]) ∧ Below W.heap.size W w2) := fun W A' c' hF => by
    have h := get_any L A' c' nm W (by omega) (by rw [hLl1]; exact hF) hLM (by omega) (hjL nm)
    rw [hLl1, ← hX, ← hb] at h
    exact h
  have HGet2 : Hid (∀ W A' c', Fs W W.heap.size A' lc C → Calls Try.prog 12 #[.slice A' lc c', .string (str nm)] W fun e w2 => e = .returned (.tuple #[.string (str X), .bool b]) ∧ Below W.heap.size W w2) := fun W A' c' hF => by
    have h := get_any C A' c' nm W (by omega) (by rw [hClc]; exact hF) (by rw [hC]; exact hCM) (by omega) (by rw [hC]; exact hjC nm)
    rw [hClc, hC, jn_vals_cmb, cmb_ne, ← hX, ← hb] at h
    exact h
  have HOnly : Hid (∀ W A' c', Fs W W.heap.size A' lc C → Calls Try.prog 13 #[.slice A' lc c', .string (str nm)] W fun e w2 => e = .returned (.tuple #[.string (str X), .bool b]) ∧ Below W.heap.size W w2) := fun W A' c' hF => by
    have h := only_any C A' c' nm W (by omega) (by rw [hClc]; exact hF) (by rw [hC]; exact hCM) (by omega)
    rw [hClc, hC, onl_cmb, cmb_one, ← hX, ← hb] at h
    exact h
  have HRow : Hid (∀ (k : Nat) f, C[k]? = some f → low f.1 = f.1 ∧ f.1.length ≤ 9223372036854775807) := fun k f h => by
    rw [hC] at h
    exact ⟨nms_low (List.mem_of_getElem? (cmb_name L k f h)), (hCM f (List.mem_of_getElem? h)).1⟩
  have HRise : Hid (∀ (k : Nat) f g, C[k]? = some f → C[k + 1]? = some g → Op.bytesLess f.1 g.1 = true) := fun k f g h h2 => by
    rw [hC] at h h2
    exact cmb_rise L k f g h h2
  have hq : ((str X).toList == (str X).toList) = true := by simp
  have hbb : (b == b) = true := by simp
  have Hlc : Hid (lc ≤ 100) := by show _ ≤ _; omega
  clear hN hnm hf hc hc2 hL hl1 hLN hLl hLl1 up hLM hjL hCN hCM hCl hjC hC hlc hClc hNL hln hNLl hln1 hX hb
  go_enter Try.func4, Try.ntmps4
  go_wp2_with (first
    | (go_at_call 7; (with_reducible refine (HS.out _).mono ?_); (rintro e w1 ⟨rfl, hb⟩); have HB1 := Lib.hid hb; clear hb)
    | (go_at_call 10; (with_reducible refine (HFew.out _ HB1.out).mono ?_); (rintro e w2 ⟨A1, c1, rfl, hc1, hcm1, hf1, hb⟩); have HB2 := Lib.hid (HB1.out.trans (hb.mono HB1.out.size)); have HF2 := Lib.hid hf1; clear hb hf1 hc1 hcm1)
    | (go_at_call 11; (with_reducible refine (HComb.out _ _ _ HF2.out).mono ?_); (rintro e w3 ⟨A2, c2, rfl, hf1, hb⟩); have HB3 := Lib.hid (HB2.out.trans (hb.mono HB2.out.size)); have HC3 := Lib.hid hf1; have HF3 := Lib.hid (HF2.out.kept hb); clear hb hf1)
    | (go_at_call 12; (with_reducible refine (HGet1.out _ _ _ HF3.out).mono ?_); (rintro e w4 ⟨rfl, hb⟩); have HB4 := Lib.hid (HB3.out.trans (hb.mono HB3.out.size)); have HC4 := Lib.hid (HC3.out.kept hb); have HF4 := Lib.hid (HF3.out.kept hb); clear hb)
    | (go_at_call 12; (with_reducible refine (HGet2.out _ _ _ HC4.out).mono ?_); (rintro e w5 ⟨rfl, hb⟩); have HB5 := Lib.hid (HB4.out.trans (hb.mono HB4.out.size)); have HC5 := Lib.hid (HC4.out.kept hb); have HF5 := Lib.hid (HF4.out.kept hb); clear hb)
    | (go_at_call 13; (with_reducible refine (HOnly.out _ _ _ HC5.out).mono ?_); (rintro e w6 ⟨rfl, hb⟩); have HB6 := Lib.hid (HB5.out.trans (hb.mono HB5.out.size)); have HC6 := Lib.hid (HC5.out.kept hb); have HF6 := Lib.hid (HF5.out.kept hb); clear hb))
  have HK6 : Hid (Kept w6 w6) := Kept.refl w6
  go_loopw [13] (fun i wr => ∃ k : Nat, k ≤ lc ∧ i = .int .i64 (k : Int) ∧ Kept w6 wr) (fun i _ => lc - (intOf i).toNat)
  case atStart => exact ⟨0, by omega, rfl, HK6.out⟩
  case round =>
    obtain ⟨k, hk, rfl, hkp⟩ := hrel
    have HK := Lib.hid hkp
    clear hkp HK6
    by_cases hlt : k < lc
    · have hkS : (k : Int) < (lc : Int) := by omega
      obtain ⟨g, off, f, rfl, hbl, hfk, h1, h2⟩ := HC6.out.at_ hlt
      obtain ⟨hlow, hfl⟩ := HRow.out k f hfk
      obtain ⟨x, v⟩ := f
      have HC0 := Lib.hid h1
      have HBl := Lib.hid hbl
      have HLo : Hid (∀ W, Calls Try.prog 14 #[.string (str x)] W fun e w2 => e = .returned (.string (str x)) ∧ Below W.heap.size W w2) := fun W => by
        have h := lower_any x W hfl
        rw [show x.map lwc = x from hlow] at h
        exact h
      have hne : ((str x).toList != (str x).toList) = false := by simp [bne]
      clear h1 h2 hbl hlow hfl
      by_cases hk0 : k = 0
      · have hkp0 : ¬ (0 : Int) < (k : Int) := by omega
        have hkn : ¬ 0 < k := by omega
        clear hk0
        go_wp2_with fail
        refine wp_region_held_drew (S := fun W => Kept w6 W) (by kernel_rfl) (HK.out.drew) (fun hS => ?_)
        refine wpAnyH_take (i := 0) (oi := ⟨some 43, _, _, _, _, _⟩) (v := ?vd0) rfl (by kernel_rfl) (by kernel_rfl) (by kernel_rfl) (fun _ _ _ h => h) (Or.inl ⟨by rfl, ?yd0⟩) hS ?rd0
        case yd0 => intro W hW; go_simp; first | done | with_reducible rfl
        simp only [Act.put, List.setIfInBounds_toArray, List.set_cons_zero, List.set_cons_succ]
        refine wpAnyH_take (i := 1) (oi := ⟨some 44, _, _, _, _, _⟩) (v := ?vd1) rfl (by kernel_rfl) (by kernel_rfl) (by kernel_rfl) (fun _ _ _ h => h) (Or.inl ⟨by rfl, ?yd1⟩) hS ?rd1
        case yd1 => intro W hW; go_simp; first | done | with_reducible rfl
        simp only [Act.put, List.setIfInBounds_toArray, List.set_cons_zero, List.set_cons_succ]
        refine wpAnyH_take (i := 2) (oi := ⟨some 45, _, _, _, _, _⟩) (v := ?vd2) rfl (by kernel_rfl) (by kernel_rfl) (by kernel_rfl) (fun _ _ _ h => h) (Or.inl ⟨by rfl, ?yd2⟩) hS ?rd2
        case yd2 => intro W hW; go_simp; first | done | with_reducible rfl
        simp only [Act.put, List.setIfInBounds_toArray, List.set_cons_zero, List.set_cons_succ]
        refine wpAnyH_take (i := 3) (oi := ⟨some 46, _, _, _, _, _⟩) (v := ?vd3) rfl (by kernel_rfl) (by kernel_rfl) (by kernel_rfl) (fun _ _ _ h => h) (Or.inl ⟨by rfl, ?yd3⟩) hS ?rd3
        case yd3 => intro W hW; go_simp; first | done | with_reducible rfl
        simp only [Act.put, List.setIfInBounds_toArray, List.set_cons_zero, List.set_cons_succ]
        refine wpAnyH_take (i := 4) (oi := ⟨some 47, _, _, _, _, _⟩) (v := ?vd4) rfl (by kernel_rfl) (by kernel_rfl) (by kernel_rfl) (fun _ _ _ h => h) (Or.inl ⟨by rfl, ?yd4⟩) hS ?rd4
        case yd4 => intro W hW; have d0 : W.cell? ⟨g, off + k * 2, none⟩ = some (.string (str x)) := (hW.cell (p := ⟨g, off + k * 2, none⟩) HBl.out).trans HC0.out; go_simp; first | done | with_reducible rfl
        simp only [Act.put, List.setIfInBounds_toArray, List.set_cons_zero, List.set_cons_succ]
        refine wpAnyH_take (i := 5) (oi := ⟨some 48, _, _, _, _, _⟩) (v := ?vd5) rfl (by kernel_rfl) (by kernel_rfl) (by kernel_rfl) (fun _ _ _ h => h) (Or.inl ⟨by rfl, ?yd5⟩) hS ?rd5
        case yd5 => intro W hW; go_simp; first | done | with_reducible rfl
        simp only [Act.put, List.setIfInBounds_toArray, List.set_cons_zero, List.set_cons_succ]
        refine wpAnyH_take (i := 6) (oi := ⟨some 49, _, _, _, _, _⟩) (v := ?vd6) rfl (by kernel_rfl) (by kernel_rfl) (by kernel_rfl) (fun _ _ _ h => h) (Or.inl ⟨by rfl, ?yd6⟩) hS ?rd6
        case yd6 => intro W hW; go_simp; first | done | with_reducible rfl
        simp only [Act.put, List.setIfInBounds_toArray, List.set_cons_zero, List.set_cons_succ]
        refine wpAnyH_take (i := 7) (oi := ⟨some 50, _, _, _, _, _⟩) (v := ?vd7) rfl (by kernel_rfl) (by kernel_rfl) (by kernel_rfl) (fun _ _ _ h => h) (Or.inl ⟨by rfl, ?yd7⟩) hS ?rd7
        case yd7 => intro W hW; go_simp; first | done | with_reducible rfl
        simp only [Act.put, List.setIfInBounds_toArray, List.set_cons_zero, List.set_cons_succ]
        refine wpAnyH_take (i := 8) (oi := ⟨some 51, _, _, _, _, _⟩) (v := ?vd8) rfl (by kernel_rfl) (by kernel_rfl) (by kernel_rfl) (fun _ _ _ h => h) (Or.inl ⟨by rfl, ?yd8⟩) hS ?rd8
        case yd8 => intro W hW; go_simp; first | done | with_reducible rfl
        simp only [Act.put, List.setIfInBounds_toArray, List.set_cons_zero, List.set_cons_succ]
        refine wpAnyH_take (i := 9) (oi := ⟨some 52, _, _, _, _, _⟩) (v := ?vd9) rfl (by kernel_rfl) (by kernel_rfl) (by kernel_rfl) (fun _ _ _ h => h) (Or.inl ⟨by rfl, ?yd9⟩) hS ?rd9
        case yd9 => intro W hW; have d0 : W.cell? ⟨g, off + k * 2, none⟩ = some (.string (str x)) := (hW.cell (p := ⟨g, off + k * 2, none⟩) HBl.out).trans HC0.out; go_simp; first | done | with_reducible rfl
        simp only [Act.put, List.setIfInBounds_toArray, List.set_cons_zero, List.set_cons_succ]
        refine wpAnyH_ready (rs := [10]) (by kernel_rfl) (by simp) ?_
        refine (AllReadyH.cons (o := ⟨some 53, _, _, _, _, _⟩) rfl (fun K hK => ?_) AllReadyH.nil)
        try go_simp
        (with_reducible refine (HLo.out _).mono ?_)
        rintro e wxd10 ⟨rfl, hb⟩
        have hT := hS.step hb
        clear hS
        have hS := hT
        clear hT
        refine hK.out _ _ hS (fun _ => ?_)
        clear hK K
        try simp only [Act.put, List.setIfInBounds_toArray, List.set_cons_zero, List.set_cons_succ]
        refine wpAnyH_take (i := 11) (oi := ⟨some 54, _, _, _, _, _⟩) (v := ?vd11) rfl (by kernel_rfl) (by kernel_rfl) (by kernel_rfl) (fun _ _ _ h => h) (Or.inl ⟨by rfl, ?yd11⟩) hS ?rd11
        case yd11 => intro W hW; go_simp; first | done | with_reducible rfl
        simp only [Act.put, List.setIfInBounds_toArray, List.set_cons_zero, List.set_cons_succ]
        refine wpAnyH_take (i := 12) (oi := ⟨some 55, _, _, _, _, _⟩) (v := ?vd12) rfl (by kernel_rfl) (by kernel_rfl) (by kernel_rfl) (fun _ _ _ h => h) (Or.inl ⟨by rfl, ?yd12⟩) hS ?rd12
        case yd12 => intro W hW; go_simp; first | done | with_reducible rfl
        simp only [Act.put, List.setIfInBounds_toArray, List.set_cons_zero, List.set_cons_succ]
        refine wpAnyH_take (i := 13) (oi := ⟨some 56, _, _, _, _, _⟩) (v := ?vd13) rfl (by kernel_rfl) (by kernel_rfl) (by kernel_rfl) (fun _ _ _ h => h) (Or.inl ⟨by rfl, ?yd13⟩) hS ?rd13
        case yd13 => intro W hW; go_simp; first | done | with_reducible rfl
        simp only [Act.put, List.setIfInBounds_toArray, List.set_cons_zero, List.set_cons_succ]
        refine wpAnyH_take (i := 14) (oi := ⟨some 57, _, _, _, _, _⟩) (v := ?vd14) rfl (by kernel_rfl) (by kernel_rfl) (by kernel_rfl) (fun _ _ _ h => h) (Or.inl ⟨by rfl, ?yd14⟩) hS ?rd14
        case yd14 => intro W hW; go_simp; first | done | with_reducible rfl
        simp only [Act.put, List.setIfInBounds_toArray, List.set_cons_zero, List.set_cons_succ]
        refine wpAnyH_take (i := 15) (oi := ⟨some 58, _, _, _, _, _⟩) (v := ?vd15) rfl (by kernel_rfl) (by kernel_rfl) (by kernel_rfl) (fun _ _ _ h => h) (Or.inl ⟨by rfl, ?yd15⟩) hS ?rd15
        case yd15 => intro W hW; go_simp; first | done | with_reducible rfl
        simp only [Act.put, List.setIfInBounds_toArray, List.set_cons_zero, List.set_cons_succ]
        refine wpAnyH_take (i := 16) (oi := ⟨some 59, _, _, _, _, _⟩) (v := undef) rfl (by kernel_rfl) (by kernel_rfl) (by kernel_rfl) (fun _ _ _ h => h) (Or.inr ⟨by rfl, rfl⟩) hS ?_
        simp only [Act.put, List.setIfInBounds_toArray, List.set_cons_zero, List.set_cons_succ]
        refine wpAnyH_take (i := 17) (oi := ⟨some 60, _, _, _, _, _⟩) (v := undef) rfl (by kernel_rfl) (by kernel_rfl) (by kernel_rfl) (fun _ _ _ h => h) (Or.inr ⟨by rfl, rfl⟩) hS ?_
        simp only [Act.put, List.setIfInBounds_toArray, List.set_cons_zero, List.set_cons_succ]
        refine wpAnyH_take (i := 18) (oi := ⟨some 61, _, _, _, _, _⟩) (v := undef) rfl (by kernel_rfl) (by kernel_rfl) (by kernel_rfl) (fun _ _ _ h => h) (Or.inr ⟨by rfl, rfl⟩) hS ?_
        simp only [Act.put, List.setIfInBounds_toArray, List.set_cons_zero, List.set_cons_succ]
        refine wpAnyH_take (i := 19) (oi := ⟨some 62, _, _, _, _, _⟩) (v := undef) rfl (by kernel_rfl) (by kernel_rfl) (by kernel_rfl) (fun _ _ _ h => h) (Or.inr ⟨by rfl, rfl⟩) hS ?_
        simp only [Act.put, List.setIfInBounds_toArray, List.set_cons_zero, List.set_cons_succ]
        refine wpAnyH_take (i := 20) (oi := ⟨some 63, _, _, _, _, _⟩) (v := undef) rfl (by kernel_rfl) (by kernel_rfl) (by kernel_rfl) (fun _ _ _ h => h) (Or.inr ⟨by rfl, rfl⟩) hS ?_
        simp only [Act.put, List.setIfInBounds_toArray, List.set_cons_zero, List.set_cons_succ]
        refine wpAnyH_take (i := 21) (oi := ⟨some 64, _, _, _, _, _⟩) (v := undef) rfl (by kernel_rfl) (by kernel_rfl) (by kernel_rfl) (fun _ _ _ h => h) (Or.inr ⟨by rfl, rfl⟩) hS ?_
        simp only [Act.put, List.setIfInBounds_toArray, List.set_cons_zero, List.set_cons_succ]
        refine wpAnyH_take (i := 22) (oi := ⟨some 65, _, _, _, _, _⟩) (v := undef) rfl (by kernel_rfl) (by kernel_rfl) (by kernel_rfl) (fun _ _ _ h => h) (Or.inr ⟨by rfl, rfl⟩) hS ?_
        simp only [Act.put, List.setIfInBounds_toArray, List.set_cons_zero, List.set_cons_succ]
        refine wpAnyH_take (i := 23) (oi := ⟨some 66, _, _, _, _, _⟩) (v := undef) rfl (by kernel_rfl) (by kernel_rfl) (by kernel_rfl) (fun _ _ _ h => h) (Or.inr ⟨by rfl, rfl⟩) hS ?_
        simp only [Act.put, List.setIfInBounds_toArray, List.set_cons_zero, List.set_cons_succ]
        refine wpAnyH_take (i := 24) (oi := ⟨some 67, _, _, _, _, _⟩) (v := undef) rfl (by kernel_rfl) (by kernel_rfl) (by kernel_rfl) (fun _ _ _ h => h) (Or.inr ⟨by rfl, rfl⟩) hS ?_
        simp only [Act.put, List.setIfInBounds_toArray, List.set_cons_zero, List.set_cons_succ]
        refine wpAnyH_take (i := 25) (oi := ⟨some 68, _, _, _, _, _⟩) (v := undef) rfl (by kernel_rfl) (by kernel_rfl) (by kernel_rfl) (fun _ _ _ h => h) (Or.inr ⟨by rfl, rfl⟩) hS ?_
        simp only [Act.put, List.setIfInBounds_toArray, List.set_cons_zero, List.set_cons_succ]
        refine wpAnyH_take (i := 26) (oi := ⟨some 69, _, _, _, _, _⟩) (v := undef) rfl (by kernel_rfl) (by kernel_rfl) (by kernel_rfl) (fun _ _ _ h => h) (Or.inr ⟨by rfl, rfl⟩) hS ?_
        simp only [Act.put, List.setIfInBounds_toArray, List.set_cons_zero, List.set_cons_succ]
        refine wpAnyH_take (i := 27) (oi := ⟨some 70, _, _, _, _, _⟩) (v := undef) rfl (by kernel_rfl) (by kernel_rfl) (by kernel_rfl) (fun _ _ _ h => h) (Or.inr ⟨by rfl, rfl⟩) hS ?_
        simp only [Act.put, List.setIfInBounds_toArray, List.set_cons_zero, List.set_cons_succ]
        refine wpAnyH_take (i := 28) (oi := ⟨some 71, _, _, _, _, _⟩) (v := ?vd28) rfl (by kernel_rfl) (by kernel_rfl) (by kernel_rfl) (fun _ _ _ h => h) (Or.inl ⟨by rfl, ?yd28⟩) hS ?rd28
        case yd28 => intro W hW; go_simp; first | done | with_reducible rfl
        simp only [Act.put, List.setIfInBounds_toArray, List.set_cons_zero, List.set_cons_succ]
        refine wpAnyH_take (i := 29) (oi := ⟨some 72, _, _, _, _, _⟩) (v := ?vd29) rfl (by kernel_rfl) (by kernel_rfl) (by kernel_rfl) (fun _ _ _ h => h) (Or.inl ⟨by rfl, ?yd29⟩) hS ?rd29
        case yd29 => intro W hW; go_simp; first | done | with_reducible rfl
        simp only [Act.put, List.setIfInBounds_toArray, List.set_cons_zero, List.set_cons_succ]
        refine wpAnyH_done (by kernel_rfl) ?_ _
        have HKn := Lib.hid hS
        clear hS
        go_wp2_with fail
        go_roundw
        case rel => exact ⟨k + 1, by omega, by go_num, HKn.out⟩
        case measure => simp [intOf]; omega
      · have hkp0 : (0 : Int) < (k : Int) := by omega
        have hkn : 0 < k := by omega
        obtain ⟨j, hj⟩ : ∃ j, j = k - 1 := ⟨_, rfl⟩
        have hk100 : k ≤ 100 := by have := Hlc.out; omega
        have hjk : j + 1 = k := by omega
        have hw1 : IntKind.i64.wrap ((k : Int) - 1) = (j : Int) := by rw [IntKind.wrap_i64]; omega
        have hjlt : j < lc := by omega
        have hjS : (j : Int) < (lc : Int) := by omega
        obtain ⟨g2, off2, f2, he2, _, hfj, h3, _⟩ := HC6.out.at_ hjlt
        cases he2
        have hls := HRise.out j f2 (x, v) hfj (by rw [hjk]; exact hfk)
        obtain ⟨x1, v1⟩ := f2
        have HC1 := Lib.hid h3
        have hge : Op.bytesLess (str x1).toList (str x).toList = true := by rw [toList_str, toList_str]; exact hls
        have Hjk := Lib.hid hjk
        clear hj hjk hjlt hfj h3 hls hk0 hfk
        go_wp2_with fail
        refine wp_region_held_drew (S := fun W => Kept w6 W) (by kernel_rfl) (HK.out.drew) (fun hS => ?_)
        refine wpAnyH_take (i := 0) (oi := ⟨some 43, _, _, _, _, _⟩) (v := ?vc0) rfl (by kernel_rfl) (by kernel_rfl) (by kernel_rfl) (fun _ _ _ h => h) (Or.inl ⟨by rfl, ?yc0⟩) hS ?rc0
        case yc0 => intro W hW; go_simp; first | done | with_reducible rfl
        simp only [Act.put, List.setIfInBounds_toArray, List.set_cons_zero, List.set_cons_succ]
        refine wpAnyH_take (i := 1) (oi := ⟨some 44, _, _, _, _, _⟩) (v := ?vc1) rfl (by kernel_rfl) (by kernel_rfl) (by kernel_rfl) (fun _ _ _ h => h) (Or.inl ⟨by rfl, ?yc1⟩) hS ?rc1
        case yc1 => intro W hW; go_simp; first | done | with_reducible rfl
        simp only [Act.put, List.setIfInBounds_toArray, List.set_cons_zero, List.set_cons_succ]
        refine wpAnyH_take (i := 2) (oi := ⟨some 45, _, _, _, _, _⟩) (v := ?vc2) rfl (by kernel_rfl) (by kernel_rfl) (by kernel_rfl) (fun _ _ _ h => h) (Or.inl ⟨by rfl, ?yc2⟩) hS ?rc2
        case yc2 => intro W hW; go_simp; first | done | with_reducible rfl
        simp only [Act.put, List.setIfInBounds_toArray, List.set_cons_zero, List.set_cons_succ]
        refine wpAnyH_take (i := 3) (oi := ⟨some 46, _, _, _, _, _⟩) (v := ?vc3) rfl (by kernel_rfl) (by kernel_rfl) (by kernel_rfl) (fun _ _ _ h => h) (Or.inl ⟨by rfl, ?yc3⟩) hS ?rc3
        case yc3 => intro W hW; go_simp; first | done | with_reducible rfl
        simp only [Act.put, List.setIfInBounds_toArray, List.set_cons_zero, List.set_cons_succ]
        refine wpAnyH_take (i := 4) (oi := ⟨some 47, _, _, _, _, _⟩) (v := ?vc4) rfl (by kernel_rfl) (by kernel_rfl) (by kernel_rfl) (fun _ _ _ h => h) (Or.inl ⟨by rfl, ?yc4⟩) hS ?rc4
        case yc4 => intro W hW; have d0 : W.cell? ⟨g, off + k * 2, none⟩ = some (.string (str x)) := (hW.cell (p := ⟨g, off + k * 2, none⟩) HBl.out).trans HC0.out; go_simp; first | done | with_reducible rfl
        simp only [Act.put, List.setIfInBounds_toArray, List.set_cons_zero, List.set_cons_succ]
        refine wpAnyH_take (i := 5) (oi := ⟨some 48, _, _, _, _, _⟩) (v := ?vc5) rfl (by kernel_rfl) (by kernel_rfl) (by kernel_rfl) (fun _ _ _ h => h) (Or.inl ⟨by rfl, ?yc5⟩) hS ?rc5
        case yc5 => intro W hW; go_simp; first | done | with_reducible rfl
        simp only [Act.put, List.setIfInBounds_toArray, List.set_cons_zero, List.set_cons_succ]
        refine wpAnyH_take (i := 6) (oi := ⟨some 49, _, _, _, _, _⟩) (v := ?vc6) rfl (by kernel_rfl) (by kernel_rfl) (by kernel_rfl) (fun _ _ _ h => h) (Or.inl ⟨by rfl, ?yc6⟩) hS ?rc6
        case yc6 => intro W hW; go_simp; first | done | with_reducible rfl
        simp only [Act.put, List.setIfInBounds_toArray, List.set_cons_zero, List.set_cons_succ]
        refine wpAnyH_take (i := 7) (oi := ⟨some 50, _, _, _, _, _⟩) (v := ?vc7) rfl (by kernel_rfl) (by kernel_rfl) (by kernel_rfl) (fun _ _ _ h => h) (Or.inl ⟨by rfl, ?yc7⟩) hS ?rc7
        case yc7 => intro W hW; go_simp; first | done | with_reducible rfl
        simp only [Act.put, List.setIfInBounds_toArray, List.set_cons_zero, List.set_cons_succ]
        refine wpAnyH_take (i := 8) (oi := ⟨some 51, _, _, _, _, _⟩) (v := ?vc8) rfl (by kernel_rfl) (by kernel_rfl) (by kernel_rfl) (fun _ _ _ h => h) (Or.inl ⟨by rfl, ?yc8⟩) hS ?rc8
        case yc8 => intro W hW; go_simp; first | done | with_reducible rfl
        simp only [Act.put, List.setIfInBounds_toArray, List.set_cons_zero, List.set_cons_succ]
        refine wpAnyH_take (i := 9) (oi := ⟨some 52, _, _, _, _, _⟩) (v := ?vc9) rfl (by kernel_rfl) (by kernel_rfl) (by kernel_rfl) (fun _ _ _ h => h) (Or.inl ⟨by rfl, ?yc9⟩) hS ?rc9
        case yc9 => intro W hW; have d0 : W.cell? ⟨g, off + k * 2, none⟩ = some (.string (str x)) := (hW.cell (p := ⟨g, off + k * 2, none⟩) HBl.out).trans HC0.out; go_simp; first | done | with_reducible rfl
        simp only [Act.put, List.setIfInBounds_toArray, List.set_cons_zero, List.set_cons_succ]
        refine wpAnyH_ready (rs := [10]) (by kernel_rfl) (by simp) ?_
        refine (AllReadyH.cons (o := ⟨some 53, _, _, _, _, _⟩) rfl (fun K hK => ?_) AllReadyH.nil)
        try go_simp
        (with_reducible refine (HLo.out _).mono ?_)
        rintro e wxc10 ⟨rfl, hb⟩
        have hT := hS.step hb
        clear hS
        have hS := hT
        clear hT
        refine hK.out _ _ hS (fun _ => ?_)
        clear hK K
        try simp only [Act.put, List.setIfInBounds_toArray, List.set_cons_zero, List.set_cons_succ]
        refine wpAnyH_take (i := 11) (oi := ⟨some 54, _, _, _, _, _⟩) (v := ?vc11) rfl (by kernel_rfl) (by kernel_rfl) (by kernel_rfl) (fun _ _ _ h => h) (Or.inl ⟨by rfl, ?yc11⟩) hS ?rc11
        case yc11 => intro W hW; go_simp; first | done | with_reducible rfl
        simp only [Act.put, List.setIfInBounds_toArray, List.set_cons_zero, List.set_cons_succ]
        refine wpAnyH_take (i := 12) (oi := ⟨some 55, _, _, _, _, _⟩) (v := ?vc12) rfl (by kernel_rfl) (by kernel_rfl) (by kernel_rfl) (fun _ _ _ h => h) (Or.inl ⟨by rfl, ?yc12⟩) hS ?rc12
        case yc12 => intro W hW; go_simp; first | done | with_reducible rfl
        simp only [Act.put, List.setIfInBounds_toArray, List.set_cons_zero, List.set_cons_succ]
        refine wpAnyH_take (i := 13) (oi := ⟨some 56, _, _, _, _, _⟩) (v := ?vc13) rfl (by kernel_rfl) (by kernel_rfl) (by kernel_rfl) (fun _ _ _ h => h) (Or.inl ⟨by rfl, ?yc13⟩) hS ?rc13
        case yc13 => intro W hW; go_simp; first | done | with_reducible rfl
        simp only [Act.put, List.setIfInBounds_toArray, List.set_cons_zero, List.set_cons_succ]
        refine wpAnyH_take (i := 14) (oi := ⟨some 57, _, _, _, _, _⟩) (v := ?vc14) rfl (by kernel_rfl) (by kernel_rfl) (by kernel_rfl) (fun _ _ _ h => h) (Or.inl ⟨by rfl, ?yc14⟩) hS ?rc14
        case yc14 => intro W hW; go_simp; first | done | with_reducible rfl
        simp only [Act.put, List.setIfInBounds_toArray, List.set_cons_zero, List.set_cons_succ]
        refine wpAnyH_take (i := 15) (oi := ⟨some 58, _, _, _, _, _⟩) (v := ?vc15) rfl (by kernel_rfl) (by kernel_rfl) (by kernel_rfl) (fun _ _ _ h => h) (Or.inl ⟨by rfl, ?yc15⟩) hS ?rc15
        case yc15 => intro W hW; go_simp; first | done | with_reducible rfl
        simp only [Act.put, List.setIfInBounds_toArray, List.set_cons_zero, List.set_cons_succ]
        refine wpAnyH_take (i := 16) (oi := ⟨some 59, _, _, _, _, _⟩) (v := ?vc16) rfl (by kernel_rfl) (by kernel_rfl) (by kernel_rfl) (fun _ _ _ h => h) (Or.inl ⟨by rfl, ?yc16⟩) hS ?rc16
        case yc16 => intro W hW; go_simp; first | done | with_reducible rfl
        simp only [Act.put, List.setIfInBounds_toArray, List.set_cons_zero, List.set_cons_succ]
        refine wpAnyH_take (i := 17) (oi := ⟨some 60, _, _, _, _, _⟩) (v := ?vc17) rfl (by kernel_rfl) (by kernel_rfl) (by kernel_rfl) (fun _ _ _ h => h) (Or.inl ⟨by rfl, ?yc17⟩) hS ?rc17
        case yc17 => intro W hW; go_simp; first | done | with_reducible rfl
        simp only [Act.put, List.setIfInBounds_toArray, List.set_cons_zero, List.set_cons_succ]
        refine wpAnyH_take (i := 18) (oi := ⟨some 61, _, _, _, _, _⟩) (v := ?vc18) rfl (by kernel_rfl) (by kernel_rfl) (by kernel_rfl) (fun _ _ _ h => h) (Or.inl ⟨by rfl, ?yc18⟩) hS ?rc18
        case yc18 => intro W hW; go_simp; first | done | with_reducible rfl
        simp only [Act.put, List.setIfInBounds_toArray, List.set_cons_zero, List.set_cons_succ]
        refine wpAnyH_take (i := 19) (oi := ⟨some 62, _, _, _, _, _⟩) (v := ?vc19) rfl (by kernel_rfl) (by kernel_rfl) (by kernel_rfl) (fun _ _ _ h => h) (Or.inl ⟨by rfl, ?yc19⟩) hS ?rc19
        case yc19 => intro W hW; go_simp; first | done | with_reducible rfl
        simp only [Act.put, List.setIfInBounds_toArray, List.set_cons_zero, List.set_cons_succ]
        refine wpAnyH_take (i := 20) (oi := ⟨some 63, _, _, _, _, _⟩) (v := ?vc20) rfl (by kernel_rfl) (by kernel_rfl) (by kernel_rfl) (fun _ _ _ h => h) (Or.inl ⟨by rfl, ?yc20⟩) hS ?rc20
        case yc20 => intro W hW; go_simp; first | done | with_reducible rfl
        simp only [Act.put, List.setIfInBounds_toArray, List.set_cons_zero, List.set_cons_succ]
        refine wpAnyH_take (i := 21) (oi := ⟨some 64, _, _, _, _, _⟩) (v := ?vc21) rfl (by kernel_rfl) (by kernel_rfl) (by kernel_rfl) (fun _ _ _ h => h) (Or.inl ⟨by rfl, ?yc21⟩) hS ?rc21
        case yc21 => intro W hW; have d1 : W.cell? ⟨g, off + j * 2, none⟩ = some (.string (str x1)) := (hW.cell (p := ⟨g, off + j * 2, none⟩) HBl.out).trans HC1.out; go_simp; first | done | with_reducible rfl
        simp only [Act.put, List.setIfInBounds_toArray, List.set_cons_zero, List.set_cons_succ]
        refine wpAnyH_take (i := 22) (oi := ⟨some 65, _, _, _, _, _⟩) (v := ?vc22) rfl (by kernel_rfl) (by kernel_rfl) (by kernel_rfl) (fun _ _ _ h => h) (Or.inl ⟨by rfl, ?yc22⟩) hS ?rc22
        case yc22 => intro W hW; go_simp; first | done | with_reducible rfl
        simp only [Act.put, List.setIfInBounds_toArray, List.set_cons_zero, List.set_cons_succ]
        refine wpAnyH_take (i := 23) (oi := ⟨some 66, _, _, _, _, _⟩) (v := ?vc23) rfl (by kernel_rfl) (by kernel_rfl) (by kernel_rfl) (fun _ _ _ h => h) (Or.inl ⟨by rfl, ?yc23⟩) hS ?rc23
        case yc23 => intro W hW; go_simp; first | done | with_reducible rfl
        simp only [Act.put, List.setIfInBounds_toArray, List.set_cons_zero, List.set_cons_succ]
        refine wpAnyH_take (i := 24) (oi := ⟨some 67, _, _, _, _, _⟩) (v := ?vc24) rfl (by kernel_rfl) (by kernel_rfl) (by kernel_rfl) (fun _ _ _ h => h) (Or.inl ⟨by rfl, ?yc24⟩) hS ?rc24
        case yc24 => intro W hW; go_simp; first | done | with_reducible rfl
        simp only [Act.put, List.setIfInBounds_toArray, List.set_cons_zero, List.set_cons_succ]
        refine wpAnyH_take (i := 25) (oi := ⟨some 68, _, _, _, _, _⟩) (v := ?vc25) rfl (by kernel_rfl) (by kernel_rfl) (by kernel_rfl) (fun _ _ _ h => h) (Or.inl ⟨by rfl, ?yc25⟩) hS ?rc25
        case yc25 => intro W hW; go_simp; first | done | with_reducible rfl
        simp only [Act.put, List.setIfInBounds_toArray, List.set_cons_zero, List.set_cons_succ]
        refine wpAnyH_take (i := 26) (oi := ⟨some 69, _, _, _, _, _⟩) (v := ?vc26) rfl (by kernel_rfl) (by kernel_rfl) (by kernel_rfl) (fun _ _ _ h => h) (Or.inl ⟨by rfl, ?yc26⟩) hS ?rc26
        case yc26 => intro W hW; have d0 : W.cell? ⟨g, off + k * 2, none⟩ = some (.string (str x)) := (hW.cell (p := ⟨g, off + k * 2, none⟩) HBl.out).trans HC0.out; go_simp; first | done | with_reducible rfl
        simp only [Act.put, List.setIfInBounds_toArray, List.set_cons_zero, List.set_cons_succ]
        refine wpAnyH_take (i := 27) (oi := ⟨some 70, _, _, _, _, _⟩) (v := ?vc27) rfl (by kernel_rfl) (by kernel_rfl) (by kernel_rfl) (fun _ _ _ h => h) (Or.inl ⟨by rfl, ?yc27⟩) hS ?rc27
        case yc27 => intro W hW; go_simp; first | done | with_reducible rfl
        simp only [Act.put, List.setIfInBounds_toArray, List.set_cons_zero, List.set_cons_succ]
        refine wpAnyH_take (i := 28) (oi := ⟨some 71, _, _, _, _, _⟩) (v := ?vc28) rfl (by kernel_rfl) (by kernel_rfl) (by kernel_rfl) (fun _ _ _ h => h) (Or.inl ⟨by rfl, ?yc28⟩) hS ?rc28
        case yc28 => intro W hW; go_simp; first | done | with_reducible rfl
        simp only [Act.put, List.setIfInBounds_toArray, List.set_cons_zero, List.set_cons_succ]
        refine wpAnyH_take (i := 29) (oi := ⟨some 72, _, _, _, _, _⟩) (v := ?vc29) rfl (by kernel_rfl) (by kernel_rfl) (by kernel_rfl) (fun _ _ _ h => h) (Or.inl ⟨by rfl, ?yc29⟩) hS ?rc29
        case yc29 => intro W hW; go_simp; first | done | with_reducible rfl
        simp only [Act.put, List.setIfInBounds_toArray, List.set_cons_zero, List.set_cons_succ]
        refine wpAnyH_done (by kernel_rfl) ?_ _
        have HKn := Lib.hid hS
        clear hS
        go_wp2_with fail
        go_roundw
        case rel => exact ⟨k + 1, by omega, by go_num, HKn.out⟩
        case measure => simp [intOf]; omega
    · have hkS : ¬ (k : Int) < (lc : Int) := by omega
      have HCr := Lib.hid (HC6.out.kept HK.out)
      have HFr := Lib.hid (HF6.out.kept HK.out)
      have HBr := Lib.hid (HB6.out.trans (HK.out.mono HB6.out.size))
      go_wp2_with (first
        | (go_at_call 11; (with_reducible refine (HComb2.out _ _ _ HCr.out).mono ?_); (rintro e w11 ⟨A5, c5, rfl, hf1, hb⟩); have HB11 := Lib.hid hb; have HD1 := Lib.hid hf1; have HC11 := Lib.hid (HCr.out.kept hb); have HF11 := Lib.hid (HFr.out.kept hb); clear hb hf1)
        | (go_at_call 16; (with_reducible refine (HOf.out _ _ _ HC11.out).mono ?_); (rintro e w12 ⟨A6, c6, rfl, hf1, hb⟩); have HB12 := Lib.hid (HB11.out.trans (hb.mono HB11.out.size)); have HD2 := Lib.hid hf1; have HD12 := Lib.hid (HD1.out.kept hb); have HC12 := Lib.hid (HC11.out.kept hb); have HF12 := Lib.hid (HF11.out.kept hb); clear hb hf1)
        | (go_at_call 15; (with_reducible refine (HSame.out _ _ _ _ _ HD12.out HD2.out).mono ?_); (rintro e w13 ⟨rfl, hb⟩); have HB13 := Lib.hid (HB12.out.trans (hb.mono HB12.out.size)); have HC13 := Lib.hid (HC12.out.kept hb); have HF13 := Lib.hid (HF12.out.kept hb); clear hb)
        | (go_at_call 18; (with_reducible refine (HNm1.out _ _ _ HC13.out).mono ?_); (rintro e w14 ⟨A7, c7, rfl, ho1, hb⟩); have HB14 := Lib.hid (HB13.out.trans (hb.mono HB13.out.size)); have HO1 := Lib.hid ho1; have HF14 := Lib.hid (HF13.out.kept hb); clear hb ho1)
        | (go_at_call 18; (with_reducible refine (HNm2.out _ _ _ HF14.out).mono ?_); (rintro e w15 ⟨A8, c8, rfl, ho1, hb⟩); have HB15 := Lib.hid (HB14.out.trans (hb.mono HB14.out.size)); have HO2 := Lib.hid ho1; have HO12 := Lib.hid (HO1.out.kept hb); clear hb ho1)
        | (go_at_call 17; (with_reducible refine (HSm.out _ _ _ _ _ _ _ HO12.out HO2.out).mono ?_); (rintro e w16 ⟨rfl, hb⟩); have HB16 := Lib.hid (HB15.out.trans (hb.mono HB15.out.size)); clear hb))
      go_ret
      exact ⟨rfl, HBr.out.trans (HB16.out.mono HBr.out.size)⟩
end Go.Proofs.Ytbkblimpolkllaa
