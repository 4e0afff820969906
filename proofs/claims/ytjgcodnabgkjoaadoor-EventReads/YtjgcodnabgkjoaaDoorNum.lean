/-
  What event.reader.number and event.reader.id do: the number that is read, where the reader stands behind it, and its error; nothing else turns. Condition: at most 1000000 bytes.
-/
import Derived.Test.YtjgcodnabgkjoaaDoorReader
import Derived.Test.YtjgcodnabgkjoaaDoorLaw
namespace Go.Proofs.YtjgcodnabgkjoaaDoor
open Go.RowKit

/-- What number reads at a with the error e: the number, the place behind it, the error. -/
def nuR (l : List UInt8) (a e : Nat) : Nat × Nat × Nat := if e ≠ 0 then (0, a, e) else ((getS (l.drop a)).1, a + (getS (l.drop a)).2.1, (getS (l.drop a)).2.2)

theorem getS_place (l : List UInt8) : (getS l).2.1 ≤ l.length ∧ (getS l).2.2 ≤ 3 := by
  have := getF_place l 0 0 (by omega) (by simp)
  simp only [Nat.zero_add] at this
  exact ⟨this.1, this.2.1⟩

set_option maxHeartbeats 2000000 in
theorem rnum_any (g : Nat) (l : List UInt8) (a e : Nat) (w : World) (h : Rdr w g l a e) :
    Calls Tryd.prog 30 #[.pointer (some ⟨g, 0, none⟩)] w fun r w' => r = .returned (.int .u64 ((nuR l a e).1 : Int)) ∧ Rdr w' g l (nuR l a e).2.1 (nuR l a e).2.2 ∧ Chg g g w w' := by
  have hglt := h.lt
  obtain ⟨A, n, c, hB, hbs, hc, hcm, hn, ha⟩ := h
  have c0 := hB.cell (i := 0) rfl
  have c1 := hB.cell (i := 1) rfl
  have c2 := hB.cell (i := 2) rfl
  have f1 := hB.frozen 1
  have f2 := hB.frozen 2
  by_cases he : e = 0
  · subst he
    have hcut := hbs.cut (k := a) (cap := c) ha hc
    obtain ⟨N, k, E, hr⟩ : ∃ N k E, getS (l.drop a) = (N, k, E) := ⟨_, _, _, rfl⟩
    have hpl := getS_place (l.drop a)
    have hg : got (getS (l.drop a)) = .tuple #[.int .u64 N, .int .i64 k, .int .i64 E] := by rw [hr]; rfl
    have hnu : nuR l a 0 = (N, a + k, E) := by rw [nuR, if_neg (by simp), hr]
    rw [hr, List.length_drop, hbs.1] at hpl
    simp only at hpl
    obtain ⟨hk, hE⟩ := hpl
    rw [hnu]
    obtain ⟨A2, hA2⟩ : ∃ X, (if c = a then A else A.map (·.add a)) = X := ⟨_, rfl⟩
    rw [hA2] at hcut
    have hget := fun W (hW : Kept w W) => get_any A2 (n - a) (c - a) (l.drop a) W ((hcut.more (Nat.le_of_lt hglt)).below hW |>.more hW.size) (by omega) (by omega)
    rw [hg] at hget
    have HG := Lib.hid hget
    have HC := Lib.hid hcut
    clear hget hcut hg hnu hr
    go_enter Tryd.func30, Tryd.ntmps30
    go_wp2_with fail
    go_region_held3 (fun W => W.cell? ⟨g, 0, none⟩ = some (.slice A n c) ∧ W.cell? ⟨g, 1, none⟩ = some (.int .i64 (a : Int)) ∧ Kept w W) (first | exact ⟨c0, c1, (Kept.refl w).drew⟩ | exact ⟨d0, d1, hK1⟩) (first | (go_at_call 46; refine (HG.out w.drew (Kept.refl w).drew).mono ?_; rintro e w1 ⟨rfl, hb1⟩; have hK1 : Kept w w1 := (Kept.refl w).drew.step hb1; have D1 := hB.kept hK1; have d0 : w1.cell? ⟨g, 0, none⟩ = some (.slice A n c) := Blk.cell D1 rfl;  have d1 : w1.cell? ⟨g, 1, none⟩ = some (.int .i64 (a : Int)) := Blk.cell D1 rfl))
    have d2 : w1.cell? ⟨g, 2, none⟩ = some (.int .i64 ((0 : Nat) : Int)) := Blk.cell D1 rfl
    have e1 := D1.frozen 1
    have e2 := D1.frozen 2
    have HB := Lib.hid (And.intro hbs hB)
    clear c0 c1 c2 f1 f2 hA2 HG HC hbs hB
    go_wp2_with fail
    go_ret
    refine ⟨rfl, ⟨A, n, c, ?_, ?_, hc, hcm, hn, by omega⟩, ?_⟩
    · exact (D1.set 1 (.int .i64 ((a + k : Nat) : Int))).set 2 _
    · exact ((HB.out.1.below (hK1.mono (Nat.le_of_lt hglt))).set (Nat.le_refl _) _).set (Nat.le_refl _) _
    · exact ((Chg.of_below hK1).trans (Chg.set1 _ g g 1 _)).trans (Chg.set1 _ g g 2 _)
  · have hnu : nuR l a e = (0, a, e) := by rw [nuR, if_pos he]
    rw [hnu]
    have hne : ((e : Int) != 0) = true := by simp; omega
    clear hnu
    go_enter Tryd.func30, Tryd.ntmps30
    go_wp2_with fail
    go_ret
    exact ⟨rfl, ⟨A, n, c, hB, hbs, hc, hcm, hn, ha⟩, Chg.refl _ _ _⟩

/-- What id reads: it looks at the first byte ahead. -/
def idR (fetch : Bool) (l : List UInt8) (a e : Nat) : Nat × Nat × Nat := nuR l a (ckE l a e (if fetch = true then 1 else 0) (if fetch = true then 255 else 0))
set_option maxHeartbeats 1000000 in
theorem id_any (fetch : Bool) (g : Nat) (l : List UInt8) (a e : Nat) (w : World) (h : Rdr w g l a e) :
    Calls Tryd.prog 31 #[.pointer (some ⟨g, 0, none⟩), .bool fetch] w fun r w' => r = .returned (.int .u64 ((idR fetch l a e).1 : Int)) ∧ Rdr w' g l (idR fetch l a e).2.1 (idR fetch l a e).2.2 ∧ Chg g g w w' := by
  cases fetch
  · have e0 : idR false l a e = nuR l a (ckE l a e 0 0) := by simp [idR]
    rw [e0]
    clear e0
    have hck := check_any g l a e 0 0 w h (by omega) (by omega)
    generalize ckE l a e 0 0 = E at hck
    obtain ⟨R, hR⟩ : ∃ R, R = nuR l a E := ⟨_, rfl⟩
    have HN : Hid (∀ W, Rdr W g l a E → Calls Tryd.prog 30 #[.pointer (some ⟨g, 0, none⟩)] W fun r w' => r = .returned (.int .u64 (R.1 : Int)) ∧ Rdr w' g l R.2.1 R.2.2 ∧ Chg g g W w') := by
      intro W hW
      rw [hR]
      exact rnum_any g l a E W hW
    rw [← hR]
    obtain ⟨R1, R2, R3⟩ := R
    simp only at HN
    clear hR h
    go_enter Tryd.func31, Tryd.ntmps31
    go_wp2_with fail
    refine hck.mono ?_
    rintro r w1 ⟨rfl, hr1, hc1⟩
    go_wp2_with fail
    refine (HN.out _ hr1).mono ?_
    rintro r w2 ⟨rfl, hr2, hc2⟩
    go_wp2_with fail
    go_ret
    exact ⟨rfl, hr2, hc1.trans hc2⟩
  · have e0 : idR true l a e = nuR l a (ckE l a e 1 255) := by simp [idR]
    rw [e0]
    clear e0
    have hck := check_any g l a e 1 255 w h (by omega) (by omega)
    generalize ckE l a e 1 255 = E at hck
    obtain ⟨R, hR⟩ : ∃ R, R = nuR l a E := ⟨_, rfl⟩
    have HN : Hid (∀ W, Rdr W g l a E → Calls Tryd.prog 30 #[.pointer (some ⟨g, 0, none⟩)] W fun r w' => r = .returned (.int .u64 (R.1 : Int)) ∧ Rdr w' g l R.2.1 R.2.2 ∧ Chg g g W w') := by
      intro W hW
      rw [hR]
      exact rnum_any g l a E W hW
    rw [← hR]
    obtain ⟨R1, R2, R3⟩ := R
    simp only at HN
    clear hR h
    go_enter Tryd.func31, Tryd.ntmps31
    go_wp2_with fail
    refine hck.mono ?_
    rintro r w1 ⟨rfl, hr1, hc1⟩
    go_wp2_with fail
    refine (HN.out _ hr1).mono ?_
    rintro r w2 ⟨rfl, hr2, hc2⟩
    go_wp2_with fail
    go_ret
    exact ⟨rfl, hr2, hc1.trans hc2⟩
end Go.Proofs.YtjgcodnabgkjoaaDoor
