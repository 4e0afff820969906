/-
  What transeptref10.Names, Combined, Split and field.Split answer. No condition but sizes.
-/
import Derived.Test.YtmocjiilamcehaaDoorRa
namespace Go.Proofs.YtmocjiilamcehaaDoor
open Go.RowKit
set_option linter.unusedVariables false
theorem OwnT.down {w : World} {base base' n : Nat} {v : Value} {L : List (List UInt8)} (h : OwnT w base v n L) (hb : base' ≤ base) : OwnT w base' v n L := by
  refine ⟨h.1, ?_⟩
  rcases h.2 with h2 | ⟨g, cap, cur, hv, hg, r⟩
  · exact .inl h2
  · exact .inr ⟨g, cap, cur, hv, by omega, r⟩

/-- The parts of what Get tells. -/
def spt (fs : List (List UInt8 × List UInt8)) (nm : List UInt8) : List (List UInt8) := if vals fs nm = [] then [] else prts (jn (vals fs nm))
theorem spt_no (fs : List (List UInt8 × List UInt8)) (nm : List UInt8) (h : vals fs nm = []) : spt fs nm = [] := if_pos h
theorem spt_yes (fs : List (List UInt8 × List UInt8)) (nm : List UInt8) (h : vals fs nm ≠ []) : spt fs nm = prts (jn (vals fs nm)) := if_neg h
set_option maxHeartbeats 4000000 in
set_option maxRecDepth 100000 in
theorem split_any (fs : List (List UInt8 × List UInt8)) (A : Option Addr) (c : Nat) (nm : List UInt8) (w : World) (hn : fs.length ≤ 1000) (hf : Fs w w.heap.size A fs.length fs) (hN : ∀ f ∈ fs, f.1.length ≤ 9223372036854775807 ∧ f.2.length ≤ 9223372036854775807) (hnm : nm.length ≤ 9223372036854775807) (hj : (jn (vals fs nm)).length ≤ 200000000) : Calls Tryd.prog 22 #[.slice A fs.length c, .string (str nm)] w fun e w' => ∃ A' c', e = .returned (.tuple #[.slice A' (spt fs nm).length c', .bool (decide (vals fs nm ≠ []))]) ∧ OwnT w' w.heap.size (.slice A' (spt fs nm).length c') (spt fs nm).length (spt fs nm) ∧ Below w.heap.size w w' := by
  have HG : Hid (∀ w', w' = w → Calls Tryd.prog 32 #[.slice A fs.length c, .string (str nm)] w' fun e w2 => e = .returned (.tuple #[.string (str (jn (vals fs nm))), .bool (decide (vals fs nm ≠ []))]) ∧ Below w.heap.size w w2) := fun w' h => by subst h; exact get_any fs A c nm w' hn hf hN hnm (by omega)
  by_cases hv : vals fs nm = []
  · rw [spt_no fs nm hv, decide_eq_false (fun h => h hv)]
    rw [decide_eq_false (fun h => h hv)] at HG
    generalize jn (vals fs nm) = X at *
    clear hv hn hf hN hnm hj
    go_enter Tryd.func22, Tryd.ntmps22
    go_wp2_with (first
      | (go_at_call 32; (with_reducible refine (HG.out _ rfl).mono ?_); (rintro e w1 ⟨rfl, hb⟩); have HB1 := Lib.hid hb; clear hb))
    go_ret2
    exact ⟨none, 0, rfl, ownT_nil _ _, HB1.out⟩
  · rw [spt_yes fs nm hv, decide_eq_true hv]
    rw [decide_eq_true hv] at HG
    have HP : Hid (∀ w', Calls Tryd.prog 33 #[.string (str (jn (vals fs nm)))] w' fun e w2 => ∃ A c, e = .returned (.slice A (prts (jn (vals fs nm))).length c) ∧ OwnT w2 w'.heap.size (.slice A (prts (jn (vals fs nm))).length c) (prts (jn (vals fs nm))).length (prts (jn (vals fs nm))) ∧ Below w'.heap.size w' w2) := fun w' => parts_own _ w' (by omega) (by
      have := pt_len (jn (vals fs nm)) 0 []
      unfold prts
      omega)
    generalize jn (vals fs nm) = X at *
    generalize prts X = P at *
    obtain ⟨m, hm⟩ : ∃ m, m = P.length := ⟨_, rfl⟩
    rw [← hm] at HP ⊢
    clear hv hn hf hN hnm hj hm
    go_enter Tryd.func22, Tryd.ntmps22
    go_wp2_with (first
      | (go_at_call 32; (with_reducible refine (HG.out _ rfl).mono ?_); (rintro e w1 ⟨rfl, hb⟩); have HB1 := Lib.hid hb; clear hb)
      | (go_at_call 33; (with_reducible refine (HP.out _).mono ?_); (rintro e w2 ⟨A2, c2, rfl, hown, hb⟩); have HB2 := Lib.hid hb; have HO2 := Lib.hid hown; clear hb hown))
    go_ret2
    exact ⟨A2, c2, rfl, HO2.out.down HB1.out.size, HB1.out.trans (HB2.out.mono HB1.out.size)⟩
set_option maxHeartbeats 4000000 in
set_option maxRecDepth 100000 in
theorem rsplit_any (fs : List (List UInt8 × List UInt8)) (A : Option Addr) (c : Nat) (nm : List UInt8) (w : World) (hn : fs.length ≤ 1000) (hf : Fs w w.heap.size A fs.length fs) (hN : ∀ f ∈ fs, f.1.length ≤ 9223372036854775807 ∧ f.2.length ≤ 9223372036854775807) (hnm : nm.length ≤ 9223372036854775807) (hj : (jn (vals fs nm)).length ≤ 200000000) : Calls Tryd.prog 24 #[.slice A fs.length c, .string (str nm)] w fun e w' => ∃ A' c', e = .returned (.tuple #[.slice A' (spt fs nm).length c', .bool (decide (vals fs nm ≠ []))]) ∧ OwnT w' w.heap.size (.slice A' (spt fs nm).length c') (spt fs nm).length (spt fs nm) ∧ Below w.heap.size w w' := by
  have HG : Hid (∀ w', w' = w → Calls Tryd.prog 35 #[.slice A fs.length c, .string (str nm)] w' fun e w2 => e = .returned (.tuple #[.string (str (jn (vals fs nm))), .bool (decide (vals fs nm ≠ []))]) ∧ Below w.heap.size w w2) := fun w' h => by subst h; exact rget_any fs A c nm w' hn hf hN hnm (by omega)
  by_cases hv : vals fs nm = []
  · rw [spt_no fs nm hv, decide_eq_false (fun h => h hv)]
    rw [decide_eq_false (fun h => h hv)] at HG
    generalize jn (vals fs nm) = X at *
    clear hv hn hf hN hnm hj
    go_enter Tryd.func24, Tryd.ntmps24
    go_wp2_with (first
      | (go_at_call 35; (with_reducible refine (HG.out _ rfl).mono ?_); (rintro e w1 ⟨rfl, hb⟩); have HB1 := Lib.hid hb; clear hb))
    go_ret2
    exact ⟨none, 0, rfl, ownT_nil _ _, HB1.out⟩
  · rw [spt_yes fs nm hv, decide_eq_true hv]
    rw [decide_eq_true hv] at HG
    have HP : Hid (∀ w', Calls Tryd.prog 36 #[.string (str (jn (vals fs nm)))] w' fun e w2 => ∃ A c, e = .returned (.slice A (prts (jn (vals fs nm))).length c) ∧ OwnT w2 w'.heap.size (.slice A (prts (jn (vals fs nm))).length c) (prts (jn (vals fs nm))).length (prts (jn (vals fs nm))) ∧ Below w'.heap.size w' w2) := fun w' => rparts_own _ w' (by omega) (by
      have := pt_len (jn (vals fs nm)) 0 []
      unfold prts
      omega)
    generalize jn (vals fs nm) = X at *
    generalize prts X = P at *
    obtain ⟨m, hm⟩ : ∃ m, m = P.length := ⟨_, rfl⟩
    rw [← hm] at HP ⊢
    clear hv hn hf hN hnm hj hm
    go_enter Tryd.func24, Tryd.ntmps24
    go_wp2_with (first
      | (go_at_call 35; (with_reducible refine (HG.out _ rfl).mono ?_); (rintro e w1 ⟨rfl, hb⟩); have HB1 := Lib.hid hb; clear hb)
      | (go_at_call 36; (with_reducible refine (HP.out _).mono ?_); (rintro e w2 ⟨A2, c2, rfl, hown, hb⟩); have HB2 := Lib.hid hb; have HO2 := Lib.hid hown; clear hb hown))
    go_ret2
    exact ⟨A2, c2, rfl, HO2.out.down HB1.out.size, HB1.out.trans (HB2.out.mono HB1.out.size)⟩
end Go.Proofs.YtmocjiilamcehaaDoor
