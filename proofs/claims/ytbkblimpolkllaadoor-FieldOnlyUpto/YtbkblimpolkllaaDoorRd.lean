/-
  What transeptlaw10.FieldTells and FieldOnly answer: true; nothing that was there turns. Condition: texts of at most 1048576 bytes.
-/
import Derived.Test.YtbkblimpolkllaaDoorRc
namespace Go.Proofs.YtbkblimpolkllaaDoor
open Go.RowKit
set_option linter.unusedVariables false

theorem tv_own {w : World} {base n c : Nat} {A : Option Addr} {L : List (List UInt8)} (h : OwnT w base (.slice A n c) n L) : (∀ j x, L[j]? = some x → ∃ g, A = some ⟨g, 0, none⟩ ∧ w.cell? ⟨g, j, none⟩ = some (vstr x)) ∧ L.length ≤ c := by
  obtain ⟨A2, c2, he, hc, _, hf⟩ := h.form
  cases he
  have hl := h.len
  refine ⟨fun j x hj => ?_, by omega⟩
  have hj2 := (List.getElem?_eq_some_iff.1 hj).1
  obtain ⟨g, rfl, _, _, hcell⟩ := hf (by omega)
  exact ⟨g, rfl, hcell j x hj⟩
theorem spt_len (fs : List (List UInt8 × List UInt8)) (nm : List UInt8) (N : Nat) (h : (jn (vals fs nm)).length ≤ N) : (spt fs nm).length ≤ N + 1 := by
  unfold spt
  split
  · simp
  · have := pt_len (jn (vals fs nm)) 0 []
    unfold prts
    omega
set_option maxHeartbeats 8000000 in
set_option maxRecDepth 100000 in
theorem tells_any (fs : List (List UInt8 × List UInt8)) (A : Option Addr) (n c : Nat) (nm : List UInt8) (w : World) (hf : Fs w w.heap.size A n fs) (hc : n ≤ c) (hc2 : c ≤ 9223372036854775807)
    (hN : ∀ f ∈ fs, f.1.length ≤ 1048576 ∧ f.2.length ≤ 1048576) (hnm : nm.length ≤ 1048576) : Calls Tryd.prog 3 #[.slice A n c, .string (str nm)] w fun e w' => e = .returned (.bool true) ∧ Below w.heap.size w w' := by
  have HS : Hid (∀ w', Calls Tryd.prog 5 #[] w' fun e w2 => e = .returned (.bool true) ∧ Below w'.heap.size w' w2) := fun w' => shown_any w'
  have up : ∀ {Z : List (List UInt8 × List UInt8)} (K : Nat), K ≤ 9223372036854775807 → (∀ f ∈ Z, f.1.length ≤ K ∧ f.2.length ≤ K) → ∀ f ∈ Z, f.1.length ≤ 9223372036854775807 ∧ f.2.length ≤ 9223372036854775807 := fun K hK h f hf => ⟨Nat.le_trans (h f hf).1 hK, Nat.le_trans (h f hf).2 hK⟩
  obtain ⟨L, hL⟩ : ∃ L, L = fs.take 100 := ⟨_, rfl⟩
  obtain ⟨l1, hl1⟩ : ∃ l, l = (fs.take 100).length := ⟨_, rfl⟩
  have hLN : ∀ f ∈ L, f.1.length ≤ 1048576 ∧ f.2.length ≤ 1048576 := fun f h => hN f (List.mem_of_mem_take (hL ▸ h))
  have hLl : L.length ≤ 100 := by rw [hL, List.length_take]; omega
  have hLl1 : L.length = l1 := by rw [hl1, hL]
  have hLM := up 1048576 (by decide) hLN
  have hjs : ∀ m, (jn (vals L m)).length ≤ 105906378 := fun m => Nat.le_trans (jn_size L m 1048576 (by omega) hLN) (by decide)
  have hjL : ∀ m, (jn (vals L m)).length ≤ 140737488355328 := fun m => Nat.le_trans (hjs m) (by decide)
  have HFew : Hid (∀ W, Below w.heap.size w W → Calls Tryd.prog 6 #[.slice A n c] W fun e w2 => ∃ A' c', e = .returned (.slice A' l1 c') ∧ l1 ≤ c' ∧ c' ≤ 9223372036854775807 ∧ Fs w2 w2.heap.size A' l1 L ∧ Below W.heap.size W w2) := fun W hb => by
    have h := few_any fs A n c W hc hc2 (hf.kept hb)
    rw [← hl1, ← hL] at h
    exact h
  have HOf : Hid (∀ W A' c', Fs W W.heap.size A' l1 L → Calls Tryd.prog 7 #[.slice A' l1 c'] W fun e w2 => ∃ A2 c2, e = .returned (.slice A2 l1 c2) ∧ Fs w2 w2.heap.size A2 l1 L ∧ Below W.heap.size W w2) := fun W A' c' hF => by
    have h := of_any L A' c' W (by omega) (by rw [hLl1]; exact hF)
    rw [hLl1] at h
    refine h.mono fun e w2 hh => ?_
    obtain ⟨A2, c2, h1, h2, h3⟩ := hh
    obtain ⟨A3, c3, he, _, _, h4⟩ := h2.form
    cases he
    exact ⟨A2, c2, h1, h4, h3⟩
  obtain ⟨X, hX⟩ : ∃ X, X = jn (vals L nm) := ⟨_, rfl⟩
  obtain ⟨b, hb⟩ : ∃ b, b = decide (vals L nm ≠ []) := ⟨_, rfl⟩
  obtain ⟨O, hO⟩ : ∃ O, O = onl (vals L nm) := ⟨_, rfl⟩
  obtain ⟨o1, ho1⟩ : ∃ o, o = decide ((vals L nm).length = 1) := ⟨_, rfl⟩
  obtain ⟨P, hP⟩ : ∃ P, P = spt L nm := ⟨_, rfl⟩
  obtain ⟨m, hm⟩ : ∃ m, m = (spt L nm).length := ⟨_, rfl⟩
  have hml : m ≤ 105906379 := by rw [hm]; exact spt_len L nm _ (hjs nm)
  have hPm : P.length = m := by rw [hm, hP]
  obtain ⟨C, hC⟩ : ∃ C, C = cmb L := ⟨_, rfl⟩
  obtain ⟨lc, hlc⟩ : ∃ l, l = (cmb L).length := ⟨_, rfl⟩
  have hClc : C.length = lc := by rw [hlc, hC]
  have hCl : C.length ≤ 100 := by rw [hC]; exact Nat.le_trans (cmb_len L) hLl
  obtain ⟨NL, hNL⟩ : ∃ N, N = nms L := ⟨_, rfl⟩
  obtain ⟨ln, hln⟩ : ∃ l, l = (nms L).length := ⟨_, rfl⟩
  have hNLl : NL.length = ln := by rw [hln, hNL]
  have hln1 : ln ≤ 100 := by rw [hln]; exact Nat.le_trans (nms_len L) hLl
  have HG1 : Hid (∀ W A' c', Fs W W.heap.size A' l1 L → Calls Tryd.prog 8 #[.slice A' l1 c', .string (str nm)] W fun e w2 => e = .returned (.tuple #[.string (str X), .bool b]) ∧ Below W.heap.size W w2) := fun W A' c' hF => by
    have h := get_any L A' c' nm W (by omega) (by rw [hLl1]; exact hF) hLM (by omega) (hjL nm)
    rw [hLl1, ← hX, ← hb] at h
    exact h
  have HG2 : Hid (∀ W A' c', Fs W W.heap.size A' l1 L → Calls Tryd.prog 9 #[.slice A' l1 c', .string (str nm)] W fun e w2 => e = .returned (.tuple #[.string (str X), .bool b]) ∧ Below W.heap.size W w2) := fun W A' c' hF => by
    have h := rget_any L A' c' nm W (by omega) (by rw [hLl1]; exact hF) hLM (by omega) (hjL nm)
    rw [hLl1, ← hX, ← hb] at h
    exact h
  have HO1 : Hid (∀ W A' c', Fs W W.heap.size A' l1 L → Calls Tryd.prog 12 #[.slice A' l1 c', .string (str nm)] W fun e w2 => e = .returned (.tuple #[.string (str O), .bool o1]) ∧ Below W.heap.size W w2) := fun W A' c' hF => by
    have h := only_any L A' c' nm W (by omega) (by rw [hLl1]; exact hF) hLM (by omega)
    rw [hLl1, ← hO, ← ho1] at h
    exact h
  have HO2 : Hid (∀ W A' c', Fs W W.heap.size A' l1 L → Calls Tryd.prog 13 #[.slice A' l1 c', .string (str nm)] W fun e w2 => e = .returned (.tuple #[.string (str O), .bool o1]) ∧ Below W.heap.size W w2) := fun W A' c' hF => by
    have h := ronly_any L A' c' nm W (by omega) (by rw [hLl1]; exact hF) hLM (by omega)
    rw [hLl1, ← hO, ← ho1] at h
    exact h
  have HP1 : Hid (∀ W A' c', Fs W W.heap.size A' l1 L → Calls Tryd.prog 10 #[.slice A' l1 c', .string (str nm)] W fun e w2 => ∃ A2 c2, e = .returned (.tuple #[.slice A2 m c2, .bool b]) ∧ OwnT w2 W.heap.size (.slice A2 m c2) m P ∧ Below W.heap.size W w2) := fun W A' c' hF => by
    have h := split_any L A' c' nm W (by omega) (by rw [hLl1]; exact hF) hLM (by omega) (Nat.le_trans (hjs nm) (by decide))
    rw [hLl1, ← hm, ← hP, ← hb] at h
    exact h
  have HP2 : Hid (∀ W A' c', Fs W W.heap.size A' l1 L → Calls Tryd.prog 11 #[.slice A' l1 c', .string (str nm)] W fun e w2 => ∃ A2 c2, e = .returned (.tuple #[.slice A2 m c2, .bool b]) ∧ OwnT w2 W.heap.size (.slice A2 m c2) m P ∧ Below W.heap.size W w2) := fun W A' c' hF => by
    have h := rsplit_any L A' c' nm W (by omega) (by rw [hLl1]; exact hF) hLM (by omega) (Nat.le_trans (hjs nm) (by decide))
    rw [hLl1, ← hm, ← hP, ← hb] at h
    exact h
  have HN1 : Hid (∀ W A' c', Fs W W.heap.size A' l1 L → Calls Tryd.prog 15 #[.slice A' l1 c'] W fun e w2 => ∃ A2 c2, e = .returned (.slice A2 ln c2) ∧ OwnT w2 W.heap.size (.slice A2 ln c2) ln NL ∧ Below W.heap.size W w2) := fun W A' c' hF => by
    have h := names_any L A' c' W (by omega) (by rw [hLl1]; exact hF) hLM
    rw [hLl1, ← hln, ← hNL] at h
    exact h
  have HN2 : Hid (∀ W A' c', Fs W W.heap.size A' l1 L → Calls Tryd.prog 16 #[.slice A' l1 c'] W fun e w2 => ∃ A2 c2, e = .returned (.slice A2 ln c2) ∧ OwnT w2 W.heap.size (.slice A2 ln c2) ln NL ∧ Below W.heap.size W w2) := fun W A' c' hF => by
    have h := rnames_any L A' c' W (by omega) (by rw [hLl1]; exact hF) hLM
    rw [hLl1, ← hln, ← hNL] at h
    exact h
  have HC1 : Hid (∀ W A' c', Fs W W.heap.size A' l1 L → Calls Tryd.prog 18 #[.slice A' l1 c'] W fun e w2 => ∃ A2 c2, e = .returned (.slice A2 lc c2) ∧ Fs w2 w2.heap.size A2 lc C ∧ Below W.heap.size W w2) := fun W A' c' hF => by
    have h := combined_any L A' c' W (by omega) (by rw [hLl1]; exact hF) hLM hjL
    rw [hLl1, ← hlc, ← hC] at h
    refine h.mono fun e w2 hh => ?_
    obtain ⟨A2, c2, h1, h2, h3⟩ := hh
    obtain ⟨A3, c3, he, _, _, h4⟩ := h2.form
    cases he
    exact ⟨A2, c2, h1, h4, h3⟩
  have HC2 : Hid (∀ W A' c', Fs W W.heap.size A' l1 L → Calls Tryd.prog 19 #[.slice A' l1 c'] W fun e w2 => ∃ A2 c2, e = .returned (.slice A2 lc c2) ∧ Fs w2 w2.heap.size A2 lc C ∧ Below W.heap.size W w2) := fun W A' c' hF => by
    have h := rcombined_any L A' c' W (by omega) (by rw [hLl1]; exact hF) hLM hjL
    rw [hLl1, ← hlc, ← hC] at h
    refine h.mono fun e w2 hh => ?_
    obtain ⟨A2, c2, h1, h2, h3⟩ := hh
    obtain ⟨A3, c3, he, _, _, h4⟩ := h2.form
    cases he
    exact ⟨A2, c2, h1, h4, h3⟩
  have HSl : Hid (∀ W A' B' c' d', Fs W W.heap.size A' l1 L → Fs W W.heap.size B' l1 L → Calls Tryd.prog 17 #[.slice A' l1 c', .slice B' l1 d'] W fun e w2 => e = .returned (.bool true) ∧ Below W.heap.size W w2) := fun W A' B' c' d' h1 h2 => by
    have h := samef_any L L A' B' c' d' W (by rw [hLl1]; exact h1) (by rw [hLl1]; exact h2) (by omega)
    rw [hLl1, decide_eq_true rfl] at h
    exact h
  have HSc : Hid (∀ W A' B' c' d', Fs W W.heap.size A' lc C → Fs W W.heap.size B' lc C → Calls Tryd.prog 17 #[.slice A' lc c', .slice B' lc d'] W fun e w2 => e = .returned (.bool true) ∧ Below W.heap.size W w2) := fun W A' B' c' d' h1 h2 => by
    have h := samef_any C C A' B' c' d' W (by rw [hClc]; exact h1) (by rw [hClc]; exact h2) (by omega)
    rw [hClc, decide_eq_true rfl] at h
    exact h
  have HSp : Hid (∀ (W : World) A' B' c' d' b1 b2, OwnT W b1 (.slice A' m c') m P → OwnT W b2 (.slice B' m d') m P → Calls Tryd.prog 14 #[.slice A' m c', .slice B' m d'] W fun e w2 => e = .returned (.bool true) ∧ Below W.heap.size W w2) := fun W A' B' c' d' b1 b2 h1 h2 => by
    have h := same_any P P A' B' c' d' W (tv_own h1).1 (tv_own h2).1 (tv_own h1).2 (tv_own h2).2 (by omega)
    rw [hPm, decide_eq_true rfl] at h
    exact h
  have HSn : Hid (∀ (W : World) A' B' c' d' b1 b2, OwnT W b1 (.slice A' ln c') ln NL → OwnT W b2 (.slice B' ln d') ln NL → Calls Tryd.prog 14 #[.slice A' ln c', .slice B' ln d'] W fun e w2 => e = .returned (.bool true) ∧ Below W.heap.size W w2) := fun W A' B' c' d' b1 b2 h1 h2 => by
    have h := same_any NL NL A' B' c' d' W (tv_own h1).1 (tv_own h2).1 (tv_own h1).2 (tv_own h2).2 (by omega)
    rw [hNLl, decide_eq_true rfl] at h
    exact h
  have hq : ((str X).toList == (str X).toList) = true := by simp
  have hq2 : ((str O).toList == (str O).toList) = true := by simp
  have hbb : (b == b) = true := by simp
  have hoo : (o1 == o1) = true := by simp
  clear hN hnm hf hc hc2 hL hl1 hLN hLl hLl1 up hLM hjs hjL hX hb hO ho1 hP hm hml hPm hC hlc hClc hCl hNL hln hNLl hln1
  go_enter Tryd.func3, Tryd.ntmps3
  go_wp2_with (first
    | (go_at_call 5; (with_reducible refine (HS.out _).mono ?_); (rintro e w1 ⟨rfl, hb⟩); have HB_1 := Lib.hid hb; clear hb)
    | (go_at_call 6; (with_reducible refine (HFew.out _ HB_1.out).mono ?_); (rintro e w2 ⟨A1, c1, rfl, _, _, hf1, hb⟩); have HB_2 := Lib.hid (HB_1.out.trans (hb.mono HB_1.out.size)); have FL_2 := Lib.hid hf1; clear hb)
    | (go_at_call 7; (with_reducible refine (HOf.out _ _ _ FL_2.out).mono ?_); (rintro e w3 ⟨A2, c2, rfl, hf2, hb⟩); have HB_3 := Lib.hid (HB_2.out.trans (hb.mono HB_2.out.size)); have FL_3 := Lib.hid (FL_2.out.kept hb); have FW_3 := Lib.hid hf2; clear hb)
    | (go_at_call 8; (with_reducible refine (HG1.out _ _ _ FL_3.out).mono ?_); (rintro e w4 ⟨rfl, hb⟩); have HB_4 := Lib.hid (HB_3.out.trans (hb.mono HB_3.out.size)); have FL_4 := Lib.hid (FL_3.out.kept hb); have FW_4 := Lib.hid (FW_3.out.kept hb); clear hb)
    | (go_at_call 9; (with_reducible refine (HG2.out _ _ _ FW_4.out).mono ?_); (rintro e w5 ⟨rfl, hb⟩); have HB_5 := Lib.hid (HB_4.out.trans (hb.mono HB_4.out.size)); have FL_5 := Lib.hid (FL_4.out.kept hb); have FW_5 := Lib.hid (FW_4.out.kept hb); clear hb)
    | (go_at_call 10; (with_reducible refine (HP1.out _ _ _ FL_5.out).mono ?_); (rintro e w6 ⟨A3, c3, rfl, hp1, hb⟩); have HB_6 := Lib.hid (HB_5.out.trans (hb.mono HB_5.out.size)); have FL_6 := Lib.hid (FL_5.out.kept hb); have FW_6 := Lib.hid (FW_5.out.kept hb); have PA_6 := Lib.hid hp1; clear hb)
    | (go_at_call 11; (with_reducible refine (HP2.out _ _ _ FW_6.out).mono ?_); (rintro e w7 ⟨A4, c4, rfl, hp2, hb⟩); have HB_7 := Lib.hid (HB_6.out.trans (hb.mono HB_6.out.size)); have FL_7 := Lib.hid (FL_6.out.kept hb); have FW_7 := Lib.hid (FW_6.out.kept hb); have PA_7 := Lib.hid (PA_6.out.kept hb); have PB_7 := Lib.hid hp2; clear hb)
    | (go_at_call 12; (with_reducible refine (HO1.out _ _ _ FL_7.out).mono ?_); (rintro e w8 ⟨rfl, hb⟩); have HB_8 := Lib.hid (HB_7.out.trans (hb.mono HB_7.out.size)); have FL_8 := Lib.hid (FL_7.out.kept hb); have FW_8 := Lib.hid (FW_7.out.kept hb); have PA_8 := Lib.hid (PA_7.out.kept hb); have PB_8 := Lib.hid (PB_7.out.kept hb); clear hb)
    | (go_at_call 13; (with_reducible refine (HO2.out _ _ _ FW_8.out).mono ?_); (rintro e w9 ⟨rfl, hb⟩); have HB_9 := Lib.hid (HB_8.out.trans (hb.mono HB_8.out.size)); have FL_9 := Lib.hid (FL_8.out.kept hb); have FW_9 := Lib.hid (FW_8.out.kept hb); have PA_9 := Lib.hid (PA_8.out.kept hb); have PB_9 := Lib.hid (PB_8.out.kept hb); clear hb)
    | (go_at_call 14; (with_reducible refine (HSp.out _ _ _ _ _ _ _ PA_9.out PB_9.out).mono ?_); (rintro e w10 ⟨rfl, hb⟩); have HB_10 := Lib.hid (HB_9.out.trans (hb.mono HB_9.out.size)); have FL_10 := Lib.hid (FL_9.out.kept hb); have FW_10 := Lib.hid (FW_9.out.kept hb); have PA_10 := Lib.hid (PA_9.out.kept hb); have PB_10 := Lib.hid (PB_9.out.kept hb); clear hb)
    | (go_at_call 15; (with_reducible refine (HN1.out _ _ _ FL_10.out).mono ?_); (rintro e w11 ⟨A5, c5, rfl, hn1, hb⟩); have HB_11 := Lib.hid (HB_10.out.trans (hb.mono HB_10.out.size)); have FL_11 := Lib.hid (FL_10.out.kept hb); have FW_11 := Lib.hid (FW_10.out.kept hb); have NA_11 := Lib.hid hn1; clear hb)
    | (go_at_call 16; (with_reducible refine (HN2.out _ _ _ FW_11.out).mono ?_); (rintro e w12 ⟨A6, c6, rfl, hn2, hb⟩); have HB_12 := Lib.hid (HB_11.out.trans (hb.mono HB_11.out.size)); have FL_12 := Lib.hid (FL_11.out.kept hb); have FW_12 := Lib.hid (FW_11.out.kept hb); have NA_12 := Lib.hid (NA_11.out.kept hb); have NB_12 := Lib.hid hn2; clear hb)
    | (go_at_call 14; (with_reducible refine (HSn.out _ _ _ _ _ _ _ NA_12.out NB_12.out).mono ?_); (rintro e w13 ⟨rfl, hb⟩); have HB_13 := Lib.hid (HB_12.out.trans (hb.mono HB_12.out.size)); have FL_13 := Lib.hid (FL_12.out.kept hb); have FW_13 := Lib.hid (FW_12.out.kept hb); have NA_13 := Lib.hid (NA_12.out.kept hb); have NB_13 := Lib.hid (NB_12.out.kept hb); clear hb)
    | (go_at_call 18; (with_reducible refine (HC1.out _ _ _ FL_13.out).mono ?_); (rintro e w14 ⟨A7, c7, rfl, hc1, hb⟩); have HB_14 := Lib.hid (HB_13.out.trans (hb.mono HB_13.out.size)); have FL_14 := Lib.hid (FL_13.out.kept hb); have FW_14 := Lib.hid (FW_13.out.kept hb); have CA_14 := Lib.hid hc1; clear hb)
    | (go_at_call 19; (with_reducible refine (HC2.out _ _ _ FW_14.out).mono ?_); (rintro e w15 ⟨A8, c8, rfl, hc3, hb⟩); have HB_15 := Lib.hid (HB_14.out.trans (hb.mono HB_14.out.size)); have FL_15 := Lib.hid (FL_14.out.kept hb); have FW_15 := Lib.hid (FW_14.out.kept hb); have CA_15 := Lib.hid (CA_14.out.kept hb); have CB_15 := Lib.hid hc3; clear hb)
    | (go_at_call 17; (with_reducible refine (HSc.out _ _ _ _ _ CA_15.out CB_15.out).mono ?_); (rintro e w16 ⟨rfl, hb⟩); have HB_16 := Lib.hid (HB_15.out.trans (hb.mono HB_15.out.size)); have FL_16 := Lib.hid (FL_15.out.kept hb); have FW_16 := Lib.hid (FW_15.out.kept hb); have CA_16 := Lib.hid (CA_15.out.kept hb); have CB_16 := Lib.hid (CB_15.out.kept hb); clear hb)
    | (go_at_call 17; (with_reducible refine (HSl.out _ _ _ _ _ FL_16.out FW_16.out).mono ?_); (rintro e w17 ⟨rfl, hb⟩); have HB_17 := Lib.hid (HB_16.out.trans (hb.mono HB_16.out.size)); have FL_17 := Lib.hid (FL_16.out.kept hb); have FW_17 := Lib.hid (FW_16.out.kept hb); have CA_17 := Lib.hid (CA_16.out.kept hb); have CB_17 := Lib.hid (CB_16.out.kept hb); clear hb))
  go_ret
  exact ⟨rfl, HB_17.out⟩
set_option maxHeartbeats 8000000 in
set_option maxRecDepth 100000 in
theorem only_law_any (fs : List (List UInt8 × List UInt8)) (A : Option Addr) (n c : Nat) (nm v : List UInt8) (w : World) (hf : Fs w w.heap.size A n fs) (hc : n ≤ c) (hc2 : c ≤ 9223372036854775807)
    (hN : ∀ f ∈ fs, f.1.length ≤ 1048576 ∧ f.2.length ≤ 1048576) (hnm : nm.length ≤ 1048576) (hv : v.length ≤ 1048576) : Calls Tryd.prog 4 #[.slice A n c, .string (str nm), .string (str v)] w fun e w' => e = .returned (.bool true) ∧ Below w.heap.size w w' := by
  have HS : Hid (∀ w', Calls Tryd.prog 5 #[] w' fun e w2 => e = .returned (.bool true) ∧ Below w'.heap.size w' w2) := fun w' => shown_any w'
  have up : ∀ {Z : List (List UInt8 × List UInt8)} (K : Nat), K ≤ 9223372036854775807 → (∀ f ∈ Z, f.1.length ≤ K ∧ f.2.length ≤ K) → ∀ f ∈ Z, f.1.length ≤ 9223372036854775807 ∧ f.2.length ≤ 9223372036854775807 := fun K hK h f hf => ⟨Nat.le_trans (h f hf).1 hK, Nat.le_trans (h f hf).2 hK⟩
  obtain ⟨k, hk, hkn, hk50⟩ : ∃ k : Nat, min (n : Int) 50 = (k : Int) ∧ k ≤ n ∧ k ≤ 50 := ⟨min n 50, by omega, by omega, by omega⟩
  have hkc : (k : Int) ≤ (c : Int) := by omega
  obtain ⟨L, hL⟩ : ∃ L, L = (fs.take k).take 100 := ⟨_, rfl⟩
  obtain ⟨l1, hl1⟩ : ∃ l, l = ((fs.take k).take 100).length := ⟨_, rfl⟩
  have hLN : ∀ f ∈ L, f.1.length ≤ 1048576 ∧ f.2.length ≤ 1048576 := fun f h => hN f (List.mem_of_mem_take (List.mem_of_mem_take (hL ▸ h)))
  have hLl : L.length ≤ 50 := by rw [hL, List.length_take, List.length_take]; omega
  have hLl1 : L.length = l1 := by rw [hl1, hL]
  have HFew : Hid (∀ W, Below w.heap.size w W → Calls Tryd.prog 6 #[.slice A k c] W fun e w2 => ∃ A' c', e = .returned (.slice A' l1 c') ∧ l1 ≤ c' ∧ c' ≤ 9223372036854775807 ∧ Fs w2 w2.heap.size A' l1 L ∧ Below W.heap.size W w2) := fun W hb => by
    have h := few_any (fs.take k) A k c W (by omega) hc2 ((hf.take k hkn).kept hb)
    rw [← hl1, ← hL] at h
    exact h
  obtain ⟨nml, hnml⟩ : ∃ x, x = low nm := ⟨_, rfl⟩
  have HLow : Hid (∀ W, Calls Tryd.prog 20 #[.string (str nm)] W fun e w2 => e = .returned (.string (str nml)) ∧ Below W.heap.size W w2) := fun W => by rw [hnml]; exact lower_any nm W (by omega)
  obtain ⟨M, hM⟩ : ∃ M, M = L ++ [(nml, v)] := ⟨_, rfl⟩
  have hMl : M.length = l1 + 1 := by rw [hM, List.length_append, hLl1]; rfl
  have hMN : ∀ f ∈ M, f.1.length ≤ 1048576 ∧ f.2.length ≤ 1048576 := fun f h => by
    rw [hM] at h
    rcases List.mem_append.1 h with h | h
    · exact hLN f h
    · simp at h
      subst h
      exact ⟨by show nml.length ≤ _; rw [hnml, low_length]; omega, hv⟩
  have hjs : ∀ m, (jn (vals M m)).length ≤ 105906378 := fun m => Nat.le_trans (jn_size M m 1048576 (by omega) hMN) (by decide)
  have hVM : vals M nm = vals L nm ++ [v] := by rw [hM, vals_app, vals, vals, vl_one, hnml, low_low, if_pos rfl]
  have hMM := up 1048576 (by decide) hMN
  have hLM := up 1048576 (by decide) hLN
  have HGetL : Hid (∀ W A' c', Fs W W.heap.size A' l1 L → Calls Tryd.prog 8 #[.slice A' l1 c', .string (str nm)] W fun e w2 => e = .returned (.tuple #[.string (str (jn (vals L nm))), .bool (decide (vals L nm ≠ []))]) ∧ Below W.heap.size W w2) := fun W A' c' hF => by
    have h := get_any L A' c' nm W (by omega) (by rw [hLl1]; exact hF) hLM (by omega) (Nat.le_trans (jn_size L nm 1048576 (by omega) hLN) (by decide))
    rw [hLl1] at h
    exact h
  have HOnlyM : Hid (∀ W A' c', Fs W W.heap.size A' (l1 + 1) M → Calls Tryd.prog 12 #[.slice A' (l1 + 1) c', .string (str nm)] W fun e w2 => e = .returned (.tuple #[.string (str (onl (vals M nm))), .bool (decide ((vals M nm).length = 1))]) ∧ Below W.heap.size W w2) := fun W A' c' hF => by
    have h := only_any M A' c' nm W (by omega) (by rw [hMl]; exact hF) hMM (by omega)
    rw [hMl] at h
    exact h
  have HGetM : Hid (∀ W A' c', Fs W W.heap.size A' (l1 + 1) M → Calls Tryd.prog 8 #[.slice A' (l1 + 1) c', .string (str nm)] W fun e w2 => e = .returned (.tuple #[.string (str (jn (vals M nm))), .bool (decide (vals M nm ≠ []))]) ∧ Below W.heap.size W w2) := fun W A' c' hF => by
    have h := get_any M A' c' nm W (by omega) (by rw [hMl]; exact hF) hMM (by omega) (Nat.le_trans (hjs nm) (by decide))
    rw [hMl] at h
    exact h
  have HSpl : Hid (∀ W A' c', Fs W W.heap.size A' (l1 + 1) M → Calls Tryd.prog 10 #[.slice A' (l1 + 1) c', .string (str nm)] W fun e w2 => ∃ A2 c2, e = .returned (.tuple #[.slice A2 (spt M nm).length c2, .bool (decide (vals M nm ≠ []))]) ∧ Below W.heap.size W w2) := fun W A' c' hF => by
    have h := split_any M A' c' nm W (by omega) (by rw [hMl]; exact hF) hMM (by omega) (Nat.le_trans (hjs nm) (by decide))
    rw [hMl] at h
    refine h.mono fun e w2 hh => ?_
    obtain ⟨A2, c2, h1, _, h3⟩ := hh
    exact ⟨A2, c2, h1, h3⟩
  have hb2 : decide (vals M nm ≠ []) = true := decide_eq_true (by rw [hVM]; simp)
  rw [hb2] at HGetM HSpl
  have hl50 : Hid (l1 ≤ 50) := by show _ ≤ _; omega
  have hMs : Hid (L ++ [(nml, v)] = M) := hM.symm
  by_cases ht : vals L nm = []
  · have hV1 : vals M nm = [v] := by rw [hVM, ht]; rfl
    have hP : spt M nm = prts v := by rw [spt_yes M nm (by rw [hV1]; simp), hV1, jn_one]
    have hb1 : decide (vals L nm ≠ []) = false := decide_eq_false (fun h => h ht)
    rw [hb1] at HGetL
    rw [hV1, show decide ([v].length = 1) = true from rfl, show onl [v] = v from rfl] at HOnlyM
    rw [hV1, jn_one] at HGetM
    rw [hP] at HSpl
    have HPv : Hid (∀ W, Calls Tryd.prog 21 #[.string (str v)] W fun e w2 => ∃ A2 c2, e = .returned (.slice A2 (prts v).length c2) ∧ Below W.heap.size W w2) := fun W => by
      have h := parts_own v W (by omega) (by have := pt_len v 0 []; unfold prts; omega)
      refine h.mono fun e w2 hh => ?_
      obtain ⟨A2, c2, h1, _, h3⟩ := hh
      exact ⟨A2, c2, h1, h3⟩
    generalize (prts v).length = m at *
    generalize jn (vals L nm) = X at *
    have hq : ((str v).toList == (str v).toList) = true := by simp
    have hmm : ((m : Int) == (m : Int)) = true := by simp
    clear hN hnm hf hc hc2 hL hl1 hLN hLl hLl1 up hLM hjs hMl hMN hMM hVM hb2 hV1 hP hb1 ht hnml hM hkn hk50 hv
    go_enter Tryd.func4, Tryd.ntmps4
    go_wp2_with (first
      | (go_at_call 5; (with_reducible refine (HS.out _).mono ?_); (rintro e w1 ⟨rfl, hb⟩); have HB_1 := Lib.hid hb; clear hb)
      | (go_at_call 6; (with_reducible refine (HFew.out _ HB_1.out).mono ?_); (rintro e w2 ⟨A1, c1, rfl, _, _, hf1, hb⟩); have HB_2 := Lib.hid (HB_1.out.trans (hb.mono HB_1.out.size)); have FL_2 := Lib.hid hf1; clear hb)
      | (go_at_call 8; (with_reducible refine (HGetL.out _ _ _ FL_2.out).mono ?_); (rintro e w3 ⟨rfl, hb⟩); have HB_3 := Lib.hid (HB_2.out.trans (hb.mono HB_2.out.size)); have FL_3 := Lib.hid (FL_2.out.kept hb); clear hb)
      | ((with_reducible show wpList _ _ _ (⟨some 32, .call _, _, _, _, _⟩ :: _) _ _); refine wp_appF _ rfl _ _ 22 42 rfl Tryd.underlying22 fd_info w3.heap.size _ 0 [] rfl (ownF_made 42 w3 w3.heap.size (Nat.le_refl _)) w3.heap.size A1 l1 c1 L rfl (FL_3.out.below ((Below.refl _ w3).alloc (Nat.le_refl _) _)) (by have := hl50.out; omega) (by simp) l1 (Nat.zero_add _) ?_; intro A7 c7 w4 hc7 hcm7 hown7 hb7 hgr7; simp only [Act.put, List.setIfInBounds_toArray, List.set_cons_zero, List.set_cons_succ]; have HB_4 := Lib.hid (HB_3.out.trans ((((Below.refl _ w3).alloc (Nat.le_refl _) _).trans hb7).mono HB_3.out.size)); have HO7 := Lib.hid hown7; have Hs4 : Hid (w3.heap.size ≤ w4.heap.size) := (((Below.refl _ w3).alloc (Nat.le_refl _) (.cells #[] 42)).trans hb7).size; clear hc7 hcm7 hown7 hb7 hgr7)
      | (go_at_call 20; (with_reducible refine (HLow.out _).mono ?_); (rintro e w5 ⟨rfl, hb⟩); have HB_5 := Lib.hid (HB_4.out.trans (hb.mono HB_4.out.size)); have HO8 : Hid (OwnF 42 w5 w3.heap.size (.slice A7 l1 c7) l1 ([] ++ L)) := OwnF.kept HO7.out hb; have Hs5 : Hid (w3.heap.size ≤ w5.heap.size) := Nat.le_trans Hs4.out hb.size; clear hb)
      | ((with_reducible show wpList _ _ _ (⟨some 38, .call _, _, _, _, _⟩ :: _) _ _); refine wp_appF _ rfl _ _ 22 42 rfl Tryd.underlying22 fd_info w3.heap.size _ l1 ([] ++ L) rfl (HO8.out.alloc _) (w5.heap.size + 1) _ 1 1 [(nml, v)] rfl (Fs.one _ _ _ _ _ rfl) (by have := hl50.out; omega) (Nat.le_trans Hs5.out (by simp)) (l1 + 1) rfl ?_; intro A8 c8 w6 hc7 hcm7 hown7 hb7 hgr7; simp only [Act.put, List.setIfInBounds_toArray, List.set_cons_zero, List.set_cons_succ]; have HB_6 := Lib.hid (HB_5.out.trans ((Below.alloc (Below.refl w.heap.size w5) HB_5.out.size _).trans (hb7.mono HB_3.out.size))); obtain ⟨A9, c9, he9, _, _, hf9⟩ := hown7.form; cases he9; rw [List.nil_append, hMs.out] at hf9; have FM_6 := Lib.hid hf9; clear hc7 hcm7 hown7 hb7 hgr7 hf9)
      | (go_at_call 12; (with_reducible refine (HOnlyM.out _ _ _ FM_6.out).mono ?_); (rintro e w7 ⟨rfl, hb⟩); have HB_7 := Lib.hid (HB_6.out.trans (hb.mono HB_6.out.size)); have FM_7 := Lib.hid (FM_6.out.kept hb); clear hb)
      | (go_at_call 8; (with_reducible refine (HGetM.out _ _ _ FM_7.out).mono ?_); (rintro e w8 ⟨rfl, hb⟩); have HB_8 := Lib.hid (HB_7.out.trans (hb.mono HB_7.out.size)); have FM_8 := Lib.hid (FM_7.out.kept hb); clear hb)
      | (go_at_call 10; (with_reducible refine (HSpl.out _ _ _ FM_8.out).mono ?_); (rintro e w9 ⟨A10, c10, rfl, hb⟩); have HB_9 := Lib.hid (HB_8.out.trans (hb.mono HB_8.out.size)); have FM_9 := Lib.hid (FM_8.out.kept hb); clear hb)
      | (go_at_call 21; (with_reducible refine (HPv.out _).mono ?_); (rintro e w10 ⟨A11, c11, rfl, hb⟩); have HB_10 := Lib.hid (HB_9.out.trans (hb.mono HB_9.out.size)); have FM_10 := Lib.hid (FM_9.out.kept hb); clear hb))
    go_ret
    exact ⟨rfl, HB_10.out⟩
  · have hln : (vals M nm).length ≠ 1 := by
      rw [hVM, List.length_append]
      cases h : vals L nm with
      | nil => exact absurd h ht
      | cons a r => simp
    have hb1 : decide (vals L nm ≠ []) = true := decide_eq_true ht
    rw [hb1] at HGetL
    rw [onl_not _ hln, decide_eq_false hln] at HOnlyM
    generalize jn (vals M nm) = Y at *
    generalize jn (vals L nm) = X at *
    have hq : (str []).toList.isEmpty = true := by rw [toList_str]; rfl
    have hq3 : ((str []).toList == (⟨#[]⟩ : ByteArray).toList) = true := by simp [str]
    clear hN hnm hf hc hc2 hL hl1 hLN hLl hLl1 up hLM hjs hMl hMN hMM hVM hb2 hln hb1 ht hnml hM hkn hk50 hv
    go_enter Tryd.func4, Tryd.ntmps4
    go_wp2_with (first
      | (go_at_call 5; (with_reducible refine (HS.out _).mono ?_); (rintro e w1 ⟨rfl, hb⟩); have HB_1 := Lib.hid hb; clear hb)
      | (go_at_call 6; (with_reducible refine (HFew.out _ HB_1.out).mono ?_); (rintro e w2 ⟨A1, c1, rfl, _, _, hf1, hb⟩); have HB_2 := Lib.hid (HB_1.out.trans (hb.mono HB_1.out.size)); have FL_2 := Lib.hid hf1; clear hb)
      | (go_at_call 8; (with_reducible refine (HGetL.out _ _ _ FL_2.out).mono ?_); (rintro e w3 ⟨rfl, hb⟩); have HB_3 := Lib.hid (HB_2.out.trans (hb.mono HB_2.out.size)); have FL_3 := Lib.hid (FL_2.out.kept hb); clear hb)
      | ((with_reducible show wpList _ _ _ (⟨some 32, .call _, _, _, _, _⟩ :: _) _ _); refine wp_appF _ rfl _ _ 22 42 rfl Tryd.underlying22 fd_info w3.heap.size _ 0 [] rfl (ownF_made 42 w3 w3.heap.size (Nat.le_refl _)) w3.heap.size A1 l1 c1 L rfl (FL_3.out.below ((Below.refl _ w3).alloc (Nat.le_refl _) _)) (by have := hl50.out; omega) (by simp) l1 (Nat.zero_add _) ?_; intro A7 c7 w4 hc7 hcm7 hown7 hb7 hgr7; simp only [Act.put, List.setIfInBounds_toArray, List.set_cons_zero, List.set_cons_succ]; have HB_4 := Lib.hid (HB_3.out.trans ((((Below.refl _ w3).alloc (Nat.le_refl _) _).trans hb7).mono HB_3.out.size)); have HO7 := Lib.hid hown7; have Hs4 : Hid (w3.heap.size ≤ w4.heap.size) := (((Below.refl _ w3).alloc (Nat.le_refl _) (.cells #[] 42)).trans hb7).size; clear hc7 hcm7 hown7 hb7 hgr7)
      | (go_at_call 20; (with_reducible refine (HLow.out _).mono ?_); (rintro e w5 ⟨rfl, hb⟩); have HB_5 := Lib.hid (HB_4.out.trans (hb.mono HB_4.out.size)); have HO8 : Hid (OwnF 42 w5 w3.heap.size (.slice A7 l1 c7) l1 ([] ++ L)) := OwnF.kept HO7.out hb; have Hs5 : Hid (w3.heap.size ≤ w5.heap.size) := Nat.le_trans Hs4.out hb.size; clear hb)
      | ((with_reducible show wpList _ _ _ (⟨some 38, .call _, _, _, _, _⟩ :: _) _ _); refine wp_appF _ rfl _ _ 22 42 rfl Tryd.underlying22 fd_info w3.heap.size _ l1 ([] ++ L) rfl (HO8.out.alloc _) (w5.heap.size + 1) _ 1 1 [(nml, v)] rfl (Fs.one _ _ _ _ _ rfl) (by have := hl50.out; omega) (Nat.le_trans Hs5.out (by simp)) (l1 + 1) rfl ?_; intro A8 c8 w6 hc7 hcm7 hown7 hb7 hgr7; simp only [Act.put, List.setIfInBounds_toArray, List.set_cons_zero, List.set_cons_succ]; have HB_6 := Lib.hid (HB_5.out.trans ((Below.alloc (Below.refl w.heap.size w5) HB_5.out.size _).trans (hb7.mono HB_3.out.size))); obtain ⟨A9, c9, he9, _, _, hf9⟩ := hown7.form; cases he9; rw [List.nil_append, hMs.out] at hf9; have FM_6 := Lib.hid hf9; clear hc7 hcm7 hown7 hb7 hgr7 hf9)
      | (go_at_call 12; (with_reducible refine (HOnlyM.out _ _ _ FM_6.out).mono ?_); (rintro e w7 ⟨rfl, hb⟩); have HB_7 := Lib.hid (HB_6.out.trans (hb.mono HB_6.out.size)); have FM_7 := Lib.hid (FM_6.out.kept hb); clear hb)
      | (go_at_call 8; (with_reducible refine (HGetM.out _ _ _ FM_7.out).mono ?_); (rintro e w8 ⟨rfl, hb⟩); have HB_8 := Lib.hid (HB_7.out.trans (hb.mono HB_7.out.size)); have FM_8 := Lib.hid (FM_7.out.kept hb); clear hb))
    go_ret
    exact ⟨rfl, HB_8.out⟩
end Go.Proofs.YtbkblimpolkllaaDoor
