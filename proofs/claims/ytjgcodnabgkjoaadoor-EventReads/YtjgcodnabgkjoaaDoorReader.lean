/-
  What the reader of events (event.reader) does, step by step: check, take, kind, number, id, text, small, end: what each answers, where the reader stands behind it, and its error; nothing else turns. Condition: at most 1000000 bytes.
-/
import Derived.Test.YtjgcodnabgkjoaaDoorArr
import Derived.Test.YtjgcodnabgkjoaaDoorText
import Derived.Deep.QuietTactic
import Derived.BigQuiet
namespace Go.Proofs.YtjgcodnabgkjoaaDoor
open Go.RowKit

/-- The reader in block g stands at a of the bytes l, with the error e. -/
def Rdr (w : World) (g : Nat) (l : List UInt8) (a e : Nat) : Prop :=
  ∃ A n c, Blk w g 63 [.slice A n c, .int .i64 (a : Int), .int .i64 (e : Int)] ∧ Bs w g A n l ∧ n ≤ c ∧ c ≤ 9223372036854775807 ∧ n ≤ 1000000 ∧ a ≤ n
theorem Rdr.kept {w w' : World} {g : Nat} {l : List UInt8} {a e : Nat} (h : Rdr w g l a e) (hb : Below w.heap.size w w') : Rdr w' g l a e := by
  obtain ⟨A, n, c, h1, h2, h3⟩ := h
  exact ⟨A, n, c, h1.kept hb, h2.below (hb.mono (Nat.le_of_lt h1.lt)), h3⟩
theorem Rdr.chg {w w' : World} {g y z : Nat} {l : List UInt8} {a e : Nat} (h : Rdr w g l a e) (hb : Chg y z w w') (hy : g < y) (hz : g < z) : Rdr w' g l a e := by
  obtain ⟨A, n, c, h1, h2, h3⟩ := h
  exact ⟨A, n, c, h1.chg hb (by omega) (by omega), h2.chg hb (Nat.le_of_lt h1.lt) (by omega) (by omega), h3⟩
theorem Rdr.lt {w : World} {g : Nat} {l : List UInt8} {a e : Nat} (h : Rdr w g l a e) : g < w.heap.size := by
  obtain ⟨A, n, c, h1, _⟩ := h
  exact h1.lt

/-- The error behind a look at the next byte. -/
def ckE (l : List UInt8) (a e least most : Nat) : Nat :=
  if e ≠ 0 then e else if a = l.length then 2 else if (l.getD a 0).toNat < least ∨ most < (l.getD a 0).toNat then 3 else 0

set_option maxHeartbeats 1000000 in
theorem check_any (g : Nat) (l : List UInt8) (a e least most : Nat) (w : World) (h : Rdr w g l a e) (_hl : least ≤ 1000) (_hm : most ≤ 1000) :
    Calls Tryd.prog 47 #[.pointer (some ⟨g, 0, none⟩), .int .i64 (least : Int), .int .i64 (most : Int)] w fun r w' => r = .returned (.bool (decide (ckE l a e least most = 0))) ∧ Rdr w' g l a (ckE l a e least most) ∧ Chg g g w w' := by
  obtain ⟨A, n, c, hB, hbs, hc, hcm, hn, ha⟩ := h
  have c0 := hB.cell (i := 0) rfl
  have c1 := hB.cell (i := 1) rfl
  have c2 := hB.cell (i := 2) rfl
  have f2 := hB.frozen 2
  have hlen := hbs.1
  by_cases he : e = 0
  · subst he
    by_cases hs : a = n
    · subst hs
      have HE : Hid (ckE l a 0 least most = 2) := by show _ = _; rw [ckE, if_neg (by simp), if_pos hlen.symm]
      rw [HE.out]
      clear hlen HE
      go_enter Tryd.func47, Tryd.ntmps47
      go_wp2_with fail
      go_quiet (fail)
      go_wp2_with fail
      go_ret
      refine ⟨rfl, ⟨A, a, c, ?_, ?_, hc, hcm, hn, ha⟩, ?_⟩
      · exact (hB.drewN _).set 2 _
      · exact (hbs.drewN _).set (Nat.le_refl _) _
      · exact (drewN_chg g g w _).trans (Chg.set1 _ g g 2 _)
    · have hlt : a < n := by omega
      obtain ⟨b, off, rfl, hblt, hcell⟩ := hbs.at_ hlt
      obtain ⟨x, hx⟩ : ∃ x, x = l.getD a 0 := ⟨_, rfl⟩
      rw [← hx] at hcell
      obtain ⟨m, hmx⟩ : ∃ m, m = x.toNat := ⟨_, rfl⟩
      have hm256 : m < 256 := by rw [hmx]; exact x.toNat_lt
      have hcm2 : w.cell? ⟨b, off + a, none⟩ = some (.int .u8 (m : Int)) := by rw [hcell, vb, hmx]
      have HE : Hid (ckE l a 0 least most = if m < least ∨ most < m then 3 else 0) := by
        show _ = _
        rw [ckE, if_neg (by simp), if_neg (by omega), ← hx, ← hmx]
      have hne : ((a : Int) == (n : Int)) = false := by simp; omega
      have hlt' : (a : Int) < (n : Int) := by omega
      have HB := Lib.hid hbs
      clear hx hmx hcell hlen hs hbs
      by_cases h1 : m < least
      · rw [HE.out, if_pos (Or.inl h1)]
        clear HE
        go_enter Tryd.func47, Tryd.ntmps47
        go_wp2_with fail
        go_quiet (fail)
        go_wp2_with fail
        go_quiet (fail)
        go_wp2_with fail
        go_ret
        refine ⟨rfl, ⟨some ⟨b, off, none⟩, n, c, ?_, ?_, hc, hcm, hn, ha⟩, ?_⟩
        · exact (hB.drewN _).set 2 _
        · exact (HB.out.drewN _).set (Nat.le_refl _) _
        · exact (drewN_chg g g w _).trans (Chg.set1 _ g g 2 _)
      · by_cases h2 : most < m
        · rw [HE.out, if_pos (Or.inr h2)]
          clear HE
          go_enter Tryd.func47, Tryd.ntmps47
          go_wp2_with fail
          go_quiet (fail)
          go_wp2_with fail
          go_quiet (fail)
          go_wp2_with fail
          go_ret
          refine ⟨rfl, ⟨some ⟨b, off, none⟩, n, c, ?_, ?_, hc, hcm, hn, ha⟩, ?_⟩
          · exact (hB.drewN _).set 2 _
          · exact (HB.out.drewN _).set (Nat.le_refl _) _
          · exact (drewN_chg g g w _).trans (Chg.set1 _ g g 2 _)
        · rw [HE.out, if_neg (by omega)]
          clear HE
          go_enter Tryd.func47, Tryd.ntmps47
          go_wp2_with fail
          go_quiet (fail)
          go_wp2_with fail
          go_quiet (fail)
          go_wp2_with fail
          go_ret
          refine ⟨rfl, ⟨some ⟨b, off, none⟩, n, c, ?_, ?_, hc, hcm, hn, ha⟩, ?_⟩
          · exact hB.drewN _
          · exact HB.out.drewN _
          · exact drewN_chg g g w _
  · have HE : Hid (ckE l a e least most = e) := by show _ = _; rw [ckE, if_pos he]
    rw [HE.out]
    have hne : ((e : Int) != 0) = true := by simp; omega
    have hd : decide (e = 0) = false := by simpa using he
    rw [hd]
    clear HE hlen
    go_enter Tryd.func47, Tryd.ntmps47
    go_wp2_with fail
    go_ret
    exact ⟨rfl, ⟨A, n, c, hB, hbs, hc, hcm, hn, ha⟩, Chg.refl _ _ _⟩

/-- The byte that is taken, and the place behind it. -/
def tkV (l : List UInt8) (a e least most : Nat) : Nat := if ckE l a e least most = 0 then (l.getD a 0).toNat else 0
def tkA (l : List UInt8) (a e least most : Nat) : Nat := if ckE l a e least most = 0 then a + 1 else a
theorem ckE_zero {l : List UInt8} {a e least most : Nat} (h : ckE l a e least most = 0) : e = 0 ∧ a ≠ l.length ∧ least ≤ (l.getD a 0).toNat ∧ (l.getD a 0).toNat ≤ most := by
  unfold ckE at h
  split at h
  · omega
  · split at h
    · omega
    · split at h
      · omega
      · refine ⟨by omega, by omega, by omega, by omega⟩

set_option maxHeartbeats 1000000 in
theorem take_any (g : Nat) (l : List UInt8) (a e least most : Nat) (w : World) (h : Rdr w g l a e) (hl : least ≤ 1000) (hm : most ≤ 1000) :
    Calls Tryd.prog 45 #[.pointer (some ⟨g, 0, none⟩), .int .i64 (least : Int), .int .i64 (most : Int)] w fun r w' => r = .returned (.int .i64 (tkV l a e least most : Int)) ∧ Rdr w' g l (tkA l a e least most) (ckE l a e least most) ∧ Chg g g w w' := by
  have hck := check_any g l a e least most w h hl hm
  by_cases h0 : ckE l a e least most = 0
  · have hv : tkV l a e least most = (l.getD a 0).toNat := by rw [tkV, if_pos h0]
    have ha' : tkA l a e least most = a + 1 := by rw [tkA, if_pos h0]
    have hz := (ckE_zero h0).2.1
    obtain ⟨x, hx⟩ : ∃ x, x = l.getD a 0 := ⟨_, rfl⟩
    obtain ⟨m, hmx⟩ : ∃ m, m = x.toNat := ⟨_, rfl⟩
    have hm256 : m < 256 := by rw [hmx]; exact x.toNat_lt
    rw [hv, ha', ← hx, ← hmx]
    have hd : decide (ckE l a e least most = 0) = true := by simpa using h0
    rw [hd, h0] at hck
    rw [h0]
    have HX := Lib.hid (And.intro hx hmx)
    clear hv ha' h0 h hd hx hmx
    go_enter Tryd.func45, Tryd.ntmps45
    go_wp2_with fail
    refine hck.mono ?_
    rintro r w1 ⟨rfl, ⟨A, n, c, hB, hbs, hc, hcm, hn, ha⟩, hch⟩
    have c0 := hB.cell (i := 0) rfl
    have c1 := hB.cell (i := 1) rfl
    have f1 := hB.frozen 1
    have hlt : a < n := by rw [hbs.1] at hz; omega
    obtain ⟨b, off, rfl, hblt, hcell⟩ := hbs.at_ hlt
    have hcm2 : w1.cell? ⟨b, off + a, none⟩ = some (.int .u8 (m : Int)) := by rw [hcell, vb, ← HX.out.1, HX.out.2]
    have hlt' : (a : Int) < (n : Int) := by omega
    have HB := Lib.hid hbs
    clear hcell hbs hz hck HX
    go_wp2_with fail
    go_quiet (fail)
    go_wp2_with fail
    go_ret
    refine ⟨rfl, ⟨some ⟨b, off, none⟩, n, c, ?_, ?_, hc, hcm, hn, by omega⟩, ?_⟩
    · exact (hB.drewN _).set 1 (.int .i64 ((a : Int) + 1))
    · exact (HB.out.drewN _).set (Nat.le_refl _) _
    · exact (hch.drewN _).trans (Chg.set1 _ g g 1 _)
  · have hv : tkV l a e least most = 0 := by rw [tkV, if_neg h0]
    have ha' : tkA l a e least most = a := by rw [tkA, if_neg h0]
    have hd : decide (ckE l a e least most = 0) = false := by simpa using h0
    rw [hv, ha']
    rw [hd] at hck
    generalize ckE l a e least most = E at hck
    clear hv ha' hd h0 h
    go_enter Tryd.func45, Tryd.ntmps45
    go_wp2_with fail
    refine hck.mono ?_
    rintro r w1 ⟨rfl, hr, hch⟩
    go_wp2_with fail
    go_ret
    exact ⟨rfl, hr, hch⟩

theorem kind_any (g : Nat) (l : List UInt8) (a e : Nat) (w : World) (h : Rdr w g l a e) :
    Calls Tryd.prog 29 #[.pointer (some ⟨g, 0, none⟩)] w fun r w' => r = .returned (.int .i64 (tkV l a e 1 14 : Int)) ∧ Rdr w' g l (tkA l a e 1 14) (ckE l a e 1 14) ∧ Chg g g w w' := by
  have ht := take_any g l a e 1 14 w h (by omega) (by omega)
  generalize tkV l a e 1 14 = V at ht
  generalize tkA l a e 1 14 = A at ht
  generalize ckE l a e 1 14 = E at ht
  go_enter Tryd.func29, Tryd.ntmps29
  go_wp2_with fail
  refine ht.mono ?_
  rintro r w1 ⟨rfl, hr, hch⟩
  go_wp2_with fail
  go_ret
  exact ⟨rfl, hr, hch⟩
end Go.Proofs.YtjgcodnabgkjoaaDoor
