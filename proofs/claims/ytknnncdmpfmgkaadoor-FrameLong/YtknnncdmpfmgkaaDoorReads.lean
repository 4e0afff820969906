/-
  transeptlaw04.FrameReads returns true, whatever it is called with, and turns nothing that was there. Condition: the table's cells hold what the program's text lays.
-/
import Derived.Test.YtknnncdmpfmgkaaDoorBase
namespace Go.Proofs.YtknnncdmpfmgkaaDoor
open Go.RowKit

theorem Own.addr {w : World} {lo : Nat} {A : Option Addr} {n c : Nat} {l : List UInt8} (h : Own w lo (.slice A n c) n l) (hn : 0 < n) : ∃ g, A = some ⟨g, 0, none⟩ ∧ lo ≤ g ∧ g < w.heap.size := by
  rcases h.2 with ⟨_, e2⟩ | ⟨g, cap, cur, e, hg, hh, _⟩
  · omega
  · injection e with e1 e2 e3
    exact ⟨g, e1, hg, (Array.getElem?_eq_some_iff.1 hh).1⟩
/-- A store into a block below lo. -/
theorem Rs.besides {w w' : World} {lo g : Nat} {v : Value} {bs : List (List UInt8)} (h : Rs w lo v bs) (hg : w.grownBy w' (some g)) (hlt : g < lo) : Rs w' lo v bs :=
  h.keep fun k _ _ _ hlo _ e => (hg.block k (Array.getElem?_eq_some_iff.1 e).1 fun e1 => by injection e1; omega).trans e
theorem Strs.besides {w w' : World} {lo g : Nat} {v : Value} {bs : List (List UInt8)} (h : Strs w lo v bs) (hg : w.grownBy w' (some g)) (hlt : g < lo) : Strs w' lo v bs :=
  ownsRow_keepB h fun k _ _ hlo e => (hg.block k (Array.getElem?_eq_some_iff.1 e).1 fun e1 => by injection e1; omega).trans e
/-- A byte of an own row, written over. -/
theorem Own.put {w : World} {lo g n c : Nat} {l : List UInt8} (h : Own w lo (.slice (some ⟨g, 0, none⟩) n c) n l) (k : Nat) (x : UInt8) :
    Own (w.setCell ⟨g, k, none⟩ (vb x)) lo (.slice (some ⟨g, 0, none⟩) n c) n (l.set k x) ∧ w.grownBy (w.setCell ⟨g, k, none⟩ (vb x)) (some g) := by
  have := World.ownsRow.stored h k (vb x)
  rwa [show (vbs l).set k (vb x) = vbs (l.set k x) by simp [vbs, List.map_set]] at this

set_option maxHeartbeats 4000000 in
set_option maxRecDepth 100000 in
theorem reads_walk (A : Option Addr) (n c : Nat) (l : List UInt8) (w : World) (hl : Bs w w.heap.size A n l) (hc : n ≤ c) (hm : c ≤ 9223372036854775807) (ht : Tab w) :
    Calls Tryd.prog 3 #[.slice A n c] w fun e w' => e = .returned (.bool true) ∧ Below w.heap.size w w' := by
  have hmin : min (n : Int) 3000 = ((min n 3000 : Nat) : Int) := by omega
  have hB := hl.take (min n 3000) (by omega)
  obtain ⟨m, hme⟩ : ∃ m, min n 3000 = m := ⟨_, rfl⟩
  have hm3 : m ≤ 3000 := by omega
  have hmc : m ≤ c := by omega
  rw [hme] at hmin hB
  clear hme hl
  obtain ⟨B, hBe⟩ : ∃ B, l.take m = B := ⟨_, rfl⟩
  rw [hBe] at hB
  clear hBe
  have hBl := hB.1
  have RS := fun W => refSplitL_any B W (by omega)
  obtain ⟨r1, hr1⟩ : ∃ r, (splitL B).1 = r := ⟨_, rfl⟩
  obtain ⟨a, hr2⟩ : ∃ r, (splitL B).2.1 = r := ⟨_, rfl⟩
  obtain ⟨er, hr3⟩ : ∃ r, (splitL B).2.2 = r := ⟨_, rfl⟩
  have HS : Hid (splitL B = (r1, a, er)) := by show splitL B = _; rw [← hr1, ← hr2, ← hr3]
  rw [HS.out] at RS
  clear hr1 hr2 hr3
  go_enter Tryd.func3, Tryd.ntmps3
  go_wp2_with fail
  refine (shown_any w ht).mono ?_
  rintro e w1 ⟨rfl, g1⟩
  have hB1 := (hB.below g1).more g1.size
  go_wp2_with (at_builtin; refine wp_appS _ rfl (.tmp 19) (.tmp 20) rfl w1.heap.size _ 0 [] rfl (own_empty w1 w1.heap.size (Nat.le_refl _)) w1.heap.size A m c B rfl (hB1.alloc (Nat.le_refl _) _) (by omega) (by simp) m B (by omega) rfl ?_; intro A2 c2 w2 hc2 hB2 ho2 hb2)
  have G2' : Below w1.heap.size w1 w2 := ((Below.refl _ _).alloc (Nat.le_refl _) _).trans hb2
  have G2 : Below w.heap.size w w2 := g1.trans (G2'.mono g1.size)
  have hm2 := ho2.view.2.1
  have SP := splitL_any A2 m c2 B w2 (ht.below G2) hB2 hc2 hm2 (by omega)
  rw [HS.out] at SP
  clear hb2
  refine SP.mono ?_
  rintro e w3 ⟨v3, rfl, r3, g3⟩
  have G3 : Below w.heap.size w w3 := G2.trans (g3.mono G2.size)
  have cv := run_str w3 _ A m c B (hB.below G3)
  have ho3 := ho2.kept g3
  obtain ⟨A3, c3, rfl⟩ := r3.form
  clear SP hB1 hB2
  go_wp2_with fail
  refine (RS w3).mono ?_
  rintro e w4 ⟨v4, rfl, s4, g4⟩
  have G4 : Below w.heap.size w w4 := G3.trans (g4.mono G3.size)
  have ho4 := ho3.kept g4
  have r4 := r3.below g4
  obtain ⟨A4, c4, rfl⟩ := s4.form
  have cv1 := run_str w4 _ A2 m c2 B ho4.view.2.2
  have cv2 := run_str w4 _ A m c B (hB.below G4)
  have HG : Hid (∀ g, 0 < m → A2 = some ⟨g, 0, none⟩ → w.heap.size ≤ g ∧ g < w2.heap.size ∧ g < w3.heap.size) := fun g h0 e => by
    obtain ⟨g', e', h1, h2⟩ := ho2.addr h0
    rw [e] at e'
    injection e' with e'
    injection e' with e'
    subst e'
    have := g1.size
    have := g3.size
    exact ⟨by omega, h2, by omega⟩
  clear cv RS ho3 ho2 r3 g3 g4 G3 hB
  go_wp2_with fail
  go_loopw [12] (fun i wr => ∃ k : Nat, k ≤ m ∧ i = .int .i64 k ∧ (∃ L, Own wr w1.heap.size (.slice A2 m c2) m L) ∧ Rs wr w2.heap.size (.slice A3 r1.length c3) r1 ∧ Strs wr w3.heap.size (.slice A4 r1.length c4) r1 ∧ Below w.heap.size w wr) (fun i _ => m - (intOf i).toNat)
  case atStart => exact ⟨0, by omega, rfl, ⟨B, ho4⟩, r4, s4, G4⟩
  case round =>
    obtain ⟨k, hk, rfl, ⟨L, hown⟩, hr, hs, hb⟩ := hrel
    clear ho4 r4 s4 G4 cv1 cv2
    by_cases hlt : k < m
    · obtain ⟨g, rfl, hg1, hg2⟩ := hown.addr (by omega)
      obtain ⟨h1, h2, h3⟩ := HG.out g (by omega) rfl
      have hLl := hown.len
      have hcell := World.ownsRow.cellAt hown k (by omega)
      have hfr := World.ownsRow.frozenAt hown k
      obtain ⟨u, hu⟩ : ∃ u, (vbs L)[k]? = some u := ⟨_, List.getElem?_eq_getElem (by rw [vbs_length]; omega)⟩
      rw [hu] at hcell
      obtain ⟨p1, p2⟩ := hown.put k 63
      have hr' := hr.besides p2 h2
      have hs' := hs.besides p2 h3
      have hb' : Below w.heap.size w (wr.setCell ⟨g, k, none⟩ (vb 63)) := hb.setCell (p := ⟨g, k, none⟩) h1 _
      clear hu hown hr hs hb p2
      go_wp2_with fail
      go_roundw
      case rel => exact ⟨k + 1, by omega, by go_num, ⟨_, p1⟩, hr', hs', hb'⟩
      case measure => simp [intOf]; omega
    · obtain rfl : k = m := by omega
      obtain ⟨A5, c5, e5, h5a, h5b, h5c⟩ := hr.view
      injection e5 with e5a e5b e5c
      subst e5a e5c
      obtain ⟨A6, c6, e6, h6a, h6b, h6c⟩ := hs.view
      injection e6 with e6a e6b e6c
      subst e6a e6c
      have SA := same_any A3 r1.length c3 r1 A4 r1.length c4 r1 wr h5c h6c (by omega) (by omega)
      simp only [decide_true] at SA
      clear hr hs hown h5c h6c
      go_wp2_with fail
      refine SA.mono ?_
      rintro e w6 ⟨rfl, g6⟩
      go_wp2_with fail
      go_ret
      exact ⟨rfl, hb.trans (g6.mono hb.size)⟩
end Go.Proofs.YtknnncdmpfmgkaaDoor
