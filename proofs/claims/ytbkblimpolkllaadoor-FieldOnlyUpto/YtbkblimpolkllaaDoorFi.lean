/-
  The laws' helper same. No condition but sizes.
-/
import Derived.Test.YtbkblimpolkllaaDoorFh
import Derived.BigQuiet
namespace Go.Proofs.YtbkblimpolkllaaDoor
open Go.RowKit
set_option linter.unusedVariables false

set_option maxHeartbeats 4000000 in
set_option maxRecDepth 100000 in
theorem samef_any (fs gs : List (List UInt8 × List UInt8)) (A B : Option Addr) (c d : Nat) (w : World) (hf : Fs w w.heap.size A fs.length fs) (hg : Fs w w.heap.size B gs.length gs) (hl : fs.length ≤ 1000) : Calls Tryd.prog 17 #[.slice A fs.length c, .slice B gs.length d] w fun e w' => e = .returned (.bool (decide (fs = gs))) ∧ Below w.heap.size w w' := by
  by_cases hlen : fs.length = gs.length
  · have hend : Hid (fs.drop fs.length = gs.drop fs.length) := by show _ = _; rw [List.drop_length, hlen, List.drop_length]
    have HF := Lib.hid hf
    have HG := Lib.hid hg
    have hrow : Hid (∀ k f g, fs[k]? = some f → gs[k]? = some g → (decide (fs.drop k = gs.drop k) = (decide (f = g) && decide (fs.drop (k + 1) = gs.drop (k + 1))))) := fun k f g h1 h2 => by
      obtain ⟨hk1, e1⟩ := List.getElem?_eq_some_iff.1 h1
      obtain ⟨hk2, e2⟩ := List.getElem?_eq_some_iff.1 h2
      rw [List.drop_eq_getElem_cons hk1, List.drop_eq_getElem_cons hk2, e1, e2, ← Bool.decide_and]
      congr 1
      simp
    obtain ⟨R, hR⟩ : ∃ R, R = decide (fs = gs) := ⟨_, rfl⟩
    have HR := Lib.hid hR
    rw [← hR, ← hlen]
    obtain ⟨S, hS⟩ : ∃ S, S = fs.length := ⟨_, rfl⟩
    rw [← hlen] at HG
    rw [← hS] at hend hl HF HG ⊢
    have hne : ((S : Int) != (S : Int)) = false := by simp
    clear hR hS hlen hf hg
    go_enter Tryd.func17, Tryd.ntmps17
    go_wp2_with fail
    go_loopw [5] (fun i wr => ∃ k : Nat, k ≤ S ∧ i = .int .i64 (k : Int) ∧ Below w.heap.size w wr ∧ decide (fs.drop k = gs.drop k) = R) (fun i _ => S - (intOf i).toNat)
    case atStart => exact ⟨0, by omega, rfl, Below.refl _ _, by rw [List.drop_zero, List.drop_zero]; exact HR.out.symm⟩
    case round =>
      obtain ⟨k, hk, rfl, hbl, hA⟩ := hrel
      have HA := Lib.hid hA
      have HB := Lib.hid hbl
      clear hA hbl
      by_cases hlt : k < S
      · have hkS : (k : Int) < (S : Int) := by omega
        obtain ⟨b1, o1, f, rfl, _, hfk, h1, h2⟩ := (HF.out.below HB.out).at_ hlt
        obtain ⟨b2, o2, g, rfl, _, hgk, h3, h4⟩ := (HG.out.below HB.out).at_ hlt
        have HD := Lib.hid (hrow.out k f g hfk hgk)
        obtain ⟨x, y⟩ := f
        obtain ⟨x2, y2⟩ := g
        clear hfk hgk
        have hsz1 : Hid (w.heap.size ≤ wr.heap.size) := HB.out.size
        have hp0 : ((str x).toList == (str x2).toList) = decide (x = x2) := by rw [toList_str, toList_str, Bool.eq_iff_iff]; simp
        have hq0 : ((str y).toList == (str y2).toList) = decide (y = y2) := by rw [toList_str, toList_str, Bool.eq_iff_iff]; simp
        by_cases hp : x = x2
        · by_cases hq : y = y2
          · have q1 : ((str x).toList == (str x2).toList) = true := by rw [hp0]; exact decide_eq_true hp
            have q2 : ((str x).toList != (str x2).toList) = false := by simp [bne, q1]
            have q3 : ((str y).toList == (str y2).toList) = true := by rw [hq0]; exact decide_eq_true hq
            have q4 : ((str y).toList != (str y2).toList) = false := by simp [bne, q3]
            have HE : Hid (decide ((x, y) = (x2, y2)) = true) := decide_eq_true (by rw [hp, hq])
            clear hp hp0 hq0 hq
            go_wp2_with fail
            go_quiet (fail)
            go_wp2_with fail
            go_roundw
            case rel => exact ⟨k + 1, by omega, by go_num, below_drewN HB.out nq, by rw [← HA.out, HD.out, HE.out]; simp⟩
            case measure => simp [intOf]; omega
          · have q1 : ((str x).toList == (str x2).toList) = true := by rw [hp0]; exact decide_eq_true hp
            have q2 : ((str x).toList != (str x2).toList) = false := by simp [bne, q1]
            have q3 : ((str y).toList == (str y2).toList) = false := by rw [hq0]; exact decide_eq_false hq
            have q4 : ((str y).toList != (str y2).toList) = true := by simp [bne, q3]
            have HE : Hid (decide ((x, y) = (x2, y2)) = false) := decide_eq_false (fun e => hq (Prod.mk.inj e).2)
            clear hp hp0 hq0 hq
            go_wp2_with fail
            go_quiet (fail)
            go_wp2_with fail
            go_ret
            refine ⟨?_, below_drewN HB.out nq⟩
            rw [← HA.out, HD.out, HE.out]
            simp
        · have q1 : ((str x).toList == (str x2).toList) = false := by rw [hp0]; exact decide_eq_false hp
          have q2 : ((str x).toList != (str x2).toList) = true := by simp [bne, q1]
          have HE : Hid (decide ((x, y) = (x2, y2)) = false) := decide_eq_false (fun e => hp (Prod.mk.inj e).1)
          clear hp hp0 hq0
          go_wp2_with fail
          go_quiet (fail)
          go_wp2_with fail
          go_ret
          refine ⟨?_, below_drewN HB.out nq⟩
          rw [← HA.out, HD.out, HE.out]
          simp
      · have hkS : ¬ (k : Int) < (S : Int) := by omega
        have hke : Hid (k = S) := by show _ = _; omega
        go_wp2_with fail
        go_ret
        refine ⟨?_, HB.out⟩
        rw [← HA.out, hke.out, hend.out]
        simp
  · have hne : ((fs.length : Int) != (gs.length : Int)) = true := by simp; omega
    have hR : decide (fs = gs) = false := decide_eq_false fun e => hlen (by rw [e])
    rw [hR]
    clear hR hlen hf hg
    go_enter Tryd.func17, Tryd.ntmps17
    go_wp2_with fail
    go_ret
    exact ⟨rfl, Below.refl _ _⟩
end Go.Proofs.YtbkblimpolkllaaDoor
