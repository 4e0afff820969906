/-
  transeptlaw04.FrameBack returns true, whatever it is called with, and turns nothing that was there. Condition: the table's cells hold what the program's text lays.
-/
import Derived.Test.YtknnncdmpfmgkaaDoorBase
namespace Go.Proofs.YtknnncdmpfmgkaaDoor
open Go.RowKit

set_option maxHeartbeats 4000000 in
set_option maxRecDepth 100000 in
theorem back_walk (A : Option Addr) (n c : Nat) (b0 : List (List UInt8)) (A' : Option Addr) (n' c' : Nat) (l : List UInt8) (w : World) (h : Rv w A n b0) (hn : n ≤ 9223372036854775807) (hl : Bs w w.heap.size A' n' l) (hc' : n' ≤ c') (hm' : c' ≤ 9223372036854775807) (ht : Tab w) :
    Calls Tryd.prog 5 #[.slice A n c, .slice A' n' c'] w fun e w' => e = .returned (.bool true) ∧ Below w.heap.size w w' := by
  have hmin : min (n' : Int) 3000 = ((min n' 3000 : Nat) : Int) := by omega
  have hB := hl.take (min n' 3000) (by omega)
  obtain ⟨m, hm⟩ : ∃ m, min n' 3000 = m := ⟨_, rfl⟩
  have hm3 : m ≤ 3000 := by omega
  have hmc : m ≤ c' := by omega
  rw [hm] at hmin hB
  clear hm hl
  obtain ⟨B, hBe⟩ : ∃ B, l.take m = B := ⟨_, rfl⟩
  rw [hBe] at hB
  clear hBe
  have hJ := fewS_join b0
  have HSP := Lib.hid (fewS_split b0)
  have hfin := fewS_fine b0
  have hov := fewS_over b0
  have hfl := (fewS_neat b0).1
  have FE := fun w1 (g : Below w.heap.size w w1) => few_any A n c b0 w1 (h.below g) hn
  generalize fewS b0 = bs at *
  clear h
  go_enter Tryd.func5, Tryd.ntmps5
  go_wp2_with fail
  refine (shown_any w ht).mono ?_
  rintro e w1 ⟨rfl, g1⟩
  go_wp2_with fail
  refine (FE w1 g1).mono ?_
  rintro e w2 ⟨va, vb, rfl, ra, sb, g2⟩
  have G2 : Below w.heap.size w w2 := g1.trans (g2.mono g1.size)
  obtain ⟨Aa, ca, rfl, ha1, ha2, hav⟩ := ra.view
  obtain ⟨Ab, cb, rfl, hb1, hb2, hbv⟩ := sb.view
  clear FE g1 g2 ra sb
  go_wp2_with fail
  refine (join_fit Aa bs.length ca bs w2 (ht.below G2) hav hfin hov).mono ?_
  rintro e w3 ⟨A3, c3, rfl, o3, g3⟩
  have G3 : Below w.heap.size w w3 := G2.trans (g3.mono G2.size)
  obtain ⟨o3a, o3b, o3c⟩ := o3.view
  have hbv3 := hbv.below g3
  clear g3 hav hbv o3 G2
  have SP := splitL_any A3 _ c3 (join bs) w3 (ht.below G3) o3c o3a o3b (by omega)
  rw [HSP.out] at SP
  obtain ⟨J, hJe⟩ : ∃ J, (join bs).length = J := ⟨_, rfl⟩
  rw [hJe] at SP o3a o3c hJ ⊢
  clear hJe
  go_wp2_with fail
  refine SP.mono ?_
  rintro e w4 ⟨v4, rfl, r4, g4⟩
  have G4 : Below w.heap.size w w4 := G3.trans (g4.mono G3.size)
  obtain ⟨A4, c4, rfl, r4a, r4b, r4c⟩ := r4.view
  have hbv4 := hbv3.below g4
  clear SP g4 r4 hbv3 o3c G3
  have SA := same_any A4 bs.length c4 bs Ab bs.length cb bs w4 r4c hbv4 (by omega) (by omega)
  simp only [decide_true] at SA
  go_wp2_with fail
  refine SA.mono ?_
  rintro e w5 ⟨rfl, g5⟩
  have G5 : Below w.heap.size w w5 := G4.trans (g5.mono G4.size)
  clear SA g5 hbv4 r4c G4
  have SQ := splitL_any A' m c' B w5 (ht.below G5) ((hB.below G5).more G5.size) hmc hm' (by omega)
  have hBl := hB.1
  rw [splitL_small (by omega)] at SQ
  have HB2 := Lib.hid (split_back B)
  obtain ⟨r1, hr1⟩ : ∃ r, (splitS B).1 = r := ⟨_, rfl⟩
  obtain ⟨r2, hr2⟩ : ∃ r, (splitS B).2.1 = r := ⟨_, rfl⟩
  obtain ⟨r3, hr3⟩ : ∃ r, (splitS B).2.2 = r := ⟨_, rfl⟩
  have HS : Hid (splitS B = (r1, r2, r3)) := by show splitS B = _; rw [← hr1, ← hr2, ← hr3]
  rw [HS.out] at SQ
  clear hr1 hr2 hr3
  go_wp2_with fail
  refine SQ.mono ?_
  rintro e w6 ⟨v6, rfl, r6, g6⟩
  have G6 : Below w.heap.size w w6 := G5.trans (g6.mono G5.size)
  obtain ⟨A6, c6, rfl, r6a, r6b, r6c⟩ := r6.view
  clear SQ g6 r6 G5
  by_cases hz : r3 = 0
  · subst hz
    obtain ⟨q1, q2, q3, q4⟩ := HB2.out (by rw [HS.out])
    rw [HS.out] at q1 q2 q3 q4
    simp only at q1 q2 q3 q4
    have JF := join_fit A6 r1.length c6 r1 w6 (ht.below G6) r6c ⟨by omega, fun x hx => by have := q4 x hx; omega⟩ (over_false q3 q4 (by rw [q1]; omega))
    rw [q1, hBl] at JF
    clear q1 q2 q3 q4 HB2
    go_wp2_with fail
    refine JF.mono ?_
    rintro e w7 ⟨A7, c7, rfl, o7, g7⟩
    obtain ⟨o7a, o7b, o7c⟩ := o7.view
    have G7 : Below w.heap.size w w7 := G6.trans (g7.mono G6.size)
    have s1 := run_str w7 _ A7 m c7 B o7c
    have s2 := run_str w7 _ A' m c' B (hB.below G7)
    clear JF o7 g7 G6
    go_wp2_with fail
    go_ret
    exact ⟨rfl, G7⟩
  · have hd : ((r3 : Int) != 0) = true := by simp; omega
    clear hz
    go_wp2_with fail
    go_ret
    exact ⟨rfl, G6⟩
end Go.Proofs.YtknnncdmpfmgkaaDoor
