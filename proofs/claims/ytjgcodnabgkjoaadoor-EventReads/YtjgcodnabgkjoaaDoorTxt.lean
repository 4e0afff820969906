/-
  What event.reader.text, small and end do: what is read, where the reader stands behind it, and its error; but for the field that is read nothing else turns. Condition: at most 1000000 bytes.
-/
import Derived.Test.YtjgcodnabgkjoaaDoorNum
namespace Go.Proofs.YtjgcodnabgkjoaaDoor
open Go.RowKit

/-- What text reads at a with the error e: the text (or what was there), the place behind it, the error. -/
def txR (l : List UInt8) (old : List UInt8) (a e : Nat) : List UInt8 × Nat × Nat :=
  if e ≠ 0 then (old, a, e) else ((textS (l.drop a) 4096).1, a + (textS (l.drop a) 4096).2.1, (textS (l.drop a) 4096).2.2)

theorem textS_place (l : List UInt8) (most : Int) : (textS l most).2.1 ≤ l.length ∧ (textS l most).2.2 ≤ 5 := by
  have h := getS_place l
  unfold textS
  split
  · exact ⟨h.1, by simp only; omega⟩
  · split
    · exact ⟨by simp only; omega, by simp⟩
    · split
      · exact ⟨by simp, by simp⟩
      · exact ⟨by simp only; omega, by simp⟩
theorem set_same {C : List Value} {i : Nat} {v : Value} (h : C[i]? = some v) : C.set i v = C := by
  have hi := (List.getElem?_eq_some_iff.1 h)
  rw [← hi.2]
  exact List.set_getElem_self hi.1

set_option maxHeartbeats 2000000 in
theorem rtext_any (g y : Nat) (ty : TypeId) (C : List Value) (i : Nat) (old : List UInt8) (l : List UInt8) (a e : Nat) (w : World) (h : Rdr w g l a e) (hy : g < y) (hY : Blk w y ty C) (hi : C[i]? = some (.string (str old))) :
    Calls Tryd.prog 32 #[.pointer (some ⟨g, 0, none⟩), .pointer (some ⟨y, i, none⟩)] w fun r w' => r = .returned (.tuple #[]) ∧ Rdr w' g l (txR l old a e).2.1 (txR l old a e).2.2 ∧ Blk w' y ty (C.set i (.string (str (txR l old a e).1))) ∧ Chg g y w w' := by
  have hglt := h.lt
  obtain ⟨A, n, c, hB, hbs, hc, hcm, hn, ha⟩ := h
  have c0 := hB.cell (i := 0) rfl
  have c1 := hB.cell (i := 1) rfl
  have c2 := hB.cell (i := 2) rfl
  have f1 := hB.frozen 1
  have f2 := hB.frozen 2
  have hyg : ¬ (y = g) := by omega
  have hgy : ¬ (g = y) := by omega
  by_cases he : e = 0
  · subst he
    have hcut := hbs.cut (k := a) (cap := c) ha hc
    obtain ⟨N, k, E, hr⟩ : ∃ N k E, textS (l.drop a) 4096 = (N, k, E) := ⟨_, _, _, rfl⟩
    have hpl := textS_place (l.drop a) 4096
    have hg : gotText (textS (l.drop a) 4096) = .tuple #[.string (str N), .int .i64 k, .int .i64 E] := by rw [hr]; rfl
    have hnu : txR l old a 0 = (N, a + k, E) := by rw [txR, if_neg (by simp), hr]
    rw [hr, List.length_drop, hbs.1] at hpl
    simp only at hpl
    obtain ⟨hk, hE⟩ := hpl
    rw [hnu]
    obtain ⟨A2, hA2⟩ : ∃ X, (if c = a then A else A.map (·.add a)) = X := ⟨_, rfl⟩
    rw [hA2] at hcut
    have hget := fun W (hW : Kept w W) => text_any A2 (n - a) (c - a) (l.drop a) 4096 W ((hcut.more (Nat.le_of_lt hglt)).below hW |>.more hW.size) (by omega) (by omega) (by omega) (by omega)
    rw [hg] at hget
    have HG := Lib.hid hget
    have HC := Lib.hid hcut
    clear hget hcut hg hnu hr
    go_enter Tryd.func32, Tryd.ntmps32
    go_wp2_with fail
    go_region_held3 (fun W => W.cell? ⟨g, 0, none⟩ = some (.slice A n c) ∧ W.cell? ⟨g, 1, none⟩ = some (.int .i64 (a : Int)) ∧ Kept w W) (first | exact ⟨c0, c1, (Kept.refl w).drew⟩ | exact ⟨d0, d1, hK1⟩) (first | (go_at_call 48; refine (HG.out w.drew (Kept.refl w).drew).mono ?_; rintro e w1 ⟨rfl, hb1⟩; have hK1 : Kept w w1 := (Kept.refl w).drew.step hb1; have D1 := hB.kept hK1; have d0 : w1.cell? ⟨g, 0, none⟩ = some (.slice A n c) := Blk.cell D1 rfl; have d1 : w1.cell? ⟨g, 1, none⟩ = some (.int .i64 (a : Int)) := Blk.cell D1 rfl))
    have d2 : w1.cell? ⟨g, 2, none⟩ = some (.int .i64 ((0 : Nat) : Int)) := Blk.cell D1 rfl
    have e1 := D1.frozen 1
    have e2 := D1.frozen 2
    have Y1 := hY.kept hK1
    have y1 := Y1.cell hi
    have y2 := Y1.frozen i
    have HB := Lib.hid (And.intro hbs hB)
    clear c0 c1 c2 f1 f2 hA2 HG HC hbs hB
    go_wp2_with fail
    go_end0
    refine ⟨rfl, ⟨A, n, c, ?_, ?_, hc, hcm, hn, by omega⟩, ?_, ?_⟩
    · exact ((D1.set 1 (.int .i64 ((a + k : Nat) : Int))).set 2 _).upd (Upd.setCell _ y i _) hgy
    · exact (((HB.out.1.below (hK1.mono (Nat.le_of_lt hglt))).set (Nat.le_refl _) _).set (Nat.le_refl _) _).set (Nat.le_of_lt hy) _
    · exact ((Y1.upd (Upd.setCell _ g 1 _) hyg).upd (Upd.setCell _ g 2 _) hyg).set i _
    · exact (((Chg.of_below hK1).trans (Chg.set1 _ g y 1 _)).trans (Chg.set1 _ g y 2 _)).trans (Chg.set2 _ g y i _)
  · have hnu : txR l old a e = (old, a, e) := by rw [txR, if_pos he]
    rw [hnu, set_same hi]
    have hne : ((e : Int) != 0) = true := by simp; omega
    clear hnu
    go_enter Tryd.func32, Tryd.ntmps32
    go_wp2_with fail
    refine bodyPost_ret (results_none rfl _ _ _) rfl ?_
    exact ⟨rfl, ⟨A, n, c, hB, hbs, hc, hcm, hn, ha⟩, hY, Chg.refl _ _ _⟩

theorem wide_any (b : Nat) (w : World) (hb : b ≤ 1000) : Calls Tryd.prog 42 #[.int .i64 (b : Int)] w fun r w' => r = .returned (.bool (decide (256 < b))) ∧ w = w' := by
  go_enter Tryd.func42, Tryd.ntmps42
  go_wp2_with fail
  go_ret
  exact ⟨by rw [show decide ((256 : Int) < (b : Int)) = decide (256 < b) from decide_eq_decide.2 (by omega)]; rfl, rfl⟩

/-- What small reads: the number, the place behind it, the error. -/
def smR (below : Nat) (l : List UInt8) (a e : Nat) : Nat × Nat × Nat :=
  if 256 < below then
    (tkV l a e 0 ((below - 1) / 256) * 256 + tkV l (tkA l a e 0 ((below - 1) / 256)) (ckE l a e 0 ((below - 1) / 256)) 0 (min 255 (below - 1 - tkV l a e 0 ((below - 1) / 256) * 256)),
     tkA l (tkA l a e 0 ((below - 1) / 256)) (ckE l a e 0 ((below - 1) / 256)) 0 (min 255 (below - 1 - tkV l a e 0 ((below - 1) / 256) * 256)),
     ckE l (tkA l a e 0 ((below - 1) / 256)) (ckE l a e 0 ((below - 1) / 256)) 0 (min 255 (below - 1 - tkV l a e 0 ((below - 1) / 256) * 256)))
  else (tkV l a e 0 (below - 1), tkA l a e 0 (below - 1), ckE l a e 0 (below - 1))
theorem tkV_le (l : List UInt8) (a e least most : Nat) : tkV l a e least most ≤ most := by
  unfold tkV
  split
  · exact (ckE_zero (by assumption)).2.2.2
  · omega

set_option maxHeartbeats 2000000 in
theorem rsmall_any (below : Nat) (hb0 : 0 < below) (hb1 : below ≤ 1000) (g y : Nat) (ty : TypeId) (C : List Value) (i : Nat) (old : Int) (l : List UInt8) (a e : Nat) (w : World) (h : Rdr w g l a e) (hy : g < y) (hY : Blk w y ty C) (hi : C[i]? = some (.int .i64 old)) :
    Calls Tryd.prog 33 #[.pointer (some ⟨g, 0, none⟩), .pointer (some ⟨y, i, none⟩), .int .i64 (below : Int)] w fun r w' => r = .returned (.tuple #[]) ∧ Rdr w' g l (smR below l a e).2.1 (smR below l a e).2.2 ∧ Blk w' y ty (C.set i (.int .i64 ((smR below l a e).1 : Int))) ∧ Chg g y w w' := by
  have hyg : ¬ (y = g) := by omega
  have hgy : ¬ (g = y) := by omega
  have hwd := fun W => wide_any below W hb1
  by_cases hw : 256 < below
  · have hd : decide (256 < below) = true := by simpa using hw
    rw [hd] at hwd
    obtain ⟨last, hlast⟩ : ∃ m : Nat, m = below - 1 := ⟨_, rfl⟩
    have hl1 : (below : Int) - 1 = (last : Int) := by omega
    obtain ⟨q, hq⟩ : ∃ q : Nat, q = last / 256 := ⟨_, rfl⟩
    have hq1 : (last : Int) / 256 = (q : Int) := by omega
    have hqm : q ≤ 3 := by omega
    obtain ⟨V, hV⟩ : ∃ V, V = tkV l a e 0 q := ⟨_, rfl⟩
    obtain ⟨A1, hA1⟩ : ∃ V, V = tkA l a e 0 q := ⟨_, rfl⟩
    obtain ⟨E1, hE1⟩ : ∃ V, V = ckE l a e 0 q := ⟨_, rfl⟩
    have hVq : V ≤ q := by rw [hV]; exact tkV_le _ _ _ _ _
    obtain ⟨M, hM⟩ : ∃ M : Nat, M = min 255 (last - V * 256) := ⟨_, rfl⟩
    have hM1 : min (255 : Int) ((last : Int) - (V : Int) * 256) = (M : Int) := by omega
    have hMm : M ≤ 255 := by omega
    have hsm : smR below l a e = (V * 256 + tkV l A1 E1 0 M, tkA l A1 E1 0 M, ckE l A1 E1 0 M) := by
      rw [smR, if_pos hw, ← hlast, ← hq, ← hV, ← hA1, ← hE1, ← hM]
    have T1 := take_any g l a e 0 q w h (by omega) (by omega)
    rw [← hV, ← hA1, ← hE1] at T1
    rw [hsm]
    have T2 := fun W (hW : Rdr W g l A1 E1) => take_any g l A1 E1 0 M W hW (by omega) (by omega)
    have hV2 : tkV l A1 E1 0 M ≤ M := tkV_le _ _ _ _ _
    generalize tkV l A1 E1 0 M = V2 at T2 hV2
    generalize tkA l A1 E1 0 M = A2 at T2
    generalize ckE l A1 E1 0 M = E2 at T2
    have HT := Lib.hid T2
    clear T2 hsm hM hE1 hA1 hV hq hlast hd
    go_enter Tryd.func33, Tryd.ntmps33
    go_wp2_with fail
    refine (hwd _).mono ?_
    rintro r w1 ⟨rfl, rfl⟩
    go_wp2_with fail
    refine T1.mono ?_
    rintro r w1 ⟨rfl, R1, C1⟩
    go_wp2_with fail
    refine (HT.out _ R1).mono ?_
    rintro r w2 ⟨rfl, R2, C2⟩
    have Y2 := (hY.chg C1 hyg hyg).chg C2 hyg hyg
    have y1 := Y2.cell hi
    have y2 := Y2.frozen i
    clear T1 HT hwd
    go_wp2_with fail
    go_end0
    refine ⟨rfl, R2.chg (Chg.set1 _ y y i _) hy hy, ?_, ((C1.trans C2).two y).trans (Chg.set2 _ g y i _)⟩
    exact Y2.set i (.int .i64 ((V * 256 + V2 : Nat) : Int))
  · have hd : decide (256 < below) = false := by simpa using hw
    rw [hd] at hwd
    obtain ⟨M, hM⟩ : ∃ m : Nat, m = below - 1 := ⟨_, rfl⟩
    have hl1 : (below : Int) - 1 = (M : Int) := by omega
    have hM1 : min (255 : Int) (M : Int) = (M : Int) := by omega
    have hMm : M ≤ 255 := by omega
    have hsm : smR below l a e = (tkV l a e 0 M, tkA l a e 0 M, ckE l a e 0 M) := by
      rw [smR, if_neg hw, ← hM]
    have T1 := take_any g l a e 0 M w h (by omega) (by omega)
    rw [hsm]
    have hV2 : tkV l a e 0 M ≤ M := tkV_le _ _ _ _ _
    generalize tkV l a e 0 M = V2 at T1 hV2
    generalize tkA l a e 0 M = A2 at T1
    generalize ckE l a e 0 M = E2 at T1
    clear hsm hM hd
    go_enter Tryd.func33, Tryd.ntmps33
    go_wp2_with fail
    refine (hwd _).mono ?_
    rintro r w1 ⟨rfl, rfl⟩
    go_wp2_with fail
    refine T1.mono ?_
    rintro r w2 ⟨rfl, R2, C2⟩
    have Y2 := hY.chg C2 hyg hyg
    have y1 := Y2.cell hi
    have y2 := Y2.frozen i
    clear T1 hwd
    go_wp2_with fail
    go_end0
    refine ⟨rfl, R2.chg (Chg.set1 _ y y i _) hy hy, ?_, (C2.two y).trans (Chg.set2 _ g y i _)⟩
    exact Y2.set i (.int .i64 (V2 : Int))

/-- The error at the end: there may be no more. -/
def enE (l : List UInt8) (a e : Nat) : Nat := if e = 0 ∧ a < l.length then 8 else e
set_option maxHeartbeats 1000000 in
theorem end_any (g : Nat) (l : List UInt8) (a e : Nat) (w : World) (h : Rdr w g l a e) :
    Calls Tryd.prog 34 #[.pointer (some ⟨g, 0, none⟩)] w fun r w' => r = .returned (.tuple #[]) ∧ Rdr w' g l a (enE l a e) ∧ Chg g g w w' := by
  obtain ⟨A, n, c, hB, hbs, hc, hcm, hn, ha⟩ := h
  have c0 := hB.cell (i := 0) rfl
  have c1 := hB.cell (i := 1) rfl
  have c2 := hB.cell (i := 2) rfl
  have f2 := hB.frozen 2
  have hlen := hbs.1
  by_cases he : e = 0
  · subst he
    by_cases hs : a < n
    · have hs' : (a : Int) < (n : Int) := by omega
      have HE : Hid (enE l a 0 = 8) := by show _ = _; rw [enE, if_pos ⟨rfl, by omega⟩]
      rw [HE.out]
      clear HE hlen
      go_enter Tryd.func34, Tryd.ntmps34
      go_wp2_with fail
      go_quiet (fail)
      go_wp2_with fail
      go_end0
      refine ⟨rfl, ⟨A, n, c, ?_, ?_, hc, hcm, hn, ha⟩, ?_⟩
      · exact (hB.drewN _).set 2 _
      · exact (hbs.drewN _).set (Nat.le_refl _) _
      · exact (drewN_chg g g w _).trans (Chg.set1 _ g g 2 _)
    · have hs' : decide ((a : Int) < (n : Int)) = false := by simp; omega
      have HE : Hid (enE l a 0 = 0) := by show _ = _; rw [enE, if_neg (by omega)]
      rw [HE.out]
      clear HE hlen
      go_enter Tryd.func34, Tryd.ntmps34
      go_wp2_with fail
      go_quiet (fail)
      go_wp2_with fail
      go_end0
      exact ⟨rfl, ⟨A, n, c, hB.drewN _, hbs.drewN _, hc, hcm, hn, ha⟩, drewN_chg g g w _⟩
  · have HE : Hid (enE l a e = e) := by show _ = _; rw [enE, if_neg (by omega)]
    rw [HE.out]
    have hne : ((e : Int) == 0) = false := by simp; omega
    clear HE hlen
    go_enter Tryd.func34, Tryd.ntmps34
    go_wp2_with fail
    go_quiet (fail)
    go_wp2_with fail
    go_end0
    exact ⟨rfl, ⟨A, n, c, hB.drewN _, hbs.drewN _, hc, hcm, hn, ha⟩, drewN_chg g g w _⟩
end Go.Proofs.YtjgcodnabgkjoaaDoor
