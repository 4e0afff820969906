/-
  transeptlaw02.CrcMixed returns true, whatever three rows of bytes it is called with, and turns nothing that was there. Condition: the table's cells hold what the program's text lays.
-/
import Derived.Test.YtdohfnddffkljaaDoorCuts
import Derived.Laws.OwnMore
import Derived.OwnWalk
import Derived.StillTailTactics
namespace Go.Proofs.YtdohfnddffkljaaDoor
open Go.RowKit

theorem min_four (n n1 n2 k : Nat) (h : k = min (min (min n n1) n2) 500) (W : World) :
    (Builtin.min_ #[3, 3, 3, 3] 3 #[.int .i64 n, .int .i64 n1, .int .i64 n2, .int .i64 500]).run Tryd.prog W = .ok (.int .i64 k) W := by
  have e : ∀ (x y : Int) (W : World), (Builtin.min2 (.int .i64 x) (.int .i64 y)).run Tryd.prog W = .ok (.int .i64 (min x y)) W := fun x y W => by
    have h := Lib.run_min_ints (P := Tryd.prog) W #[3, 3] 3 .i64 .i64 x y
    simpa [Builtin.min_] using h
  simp only [Builtin.min_, List.foldlM_cons, List.foldlM_nil, Sem.run_bind, e, Result.andThen_ok, Sem.run_pure]
  congr 2
  omega

set_option maxHeartbeats 2000000 in
set_option maxRecDepth 100000 in
theorem mixed_walk (A : Option Addr) (n c : Nat) (l : List UInt8) (A1 : Option Addr) (n1 c1 : Nat) (l1 : List UInt8) (A2 : Option Addr) (n2 c2 : Nat) (l2 : List UInt8) (w : World)
    (h : Bs w w.heap.size A n l) (hc : n ≤ c) (hcm : c ≤ 9223372036854775807) (h1 : Bs w w.heap.size A1 n1 l1) (hc1 : n1 ≤ c1) (hcm1 : c1 ≤ 9223372036854775807) (h2 : Bs w w.heap.size A2 n2 l2) (hc2 : n2 ≤ c2) (hcm2 : c2 ≤ 9223372036854775807) (ht : Tab w) :
    Calls Tryd.prog 7 #[.slice A n c, .slice A1 n1 c1, .slice A2 n2 c2] w fun e w' => e = .returned (.bool true) ∧ Below w.heap.size w w' := by
  obtain ⟨k, hk⟩ : ∃ k, k = min (min (min n n1) n2) 500 := ⟨_, rfl⟩
  have hmin := min_four n n1 n2 k hk
  have k0 : k ≤ n := by omega
  have k1 : k ≤ n1 := by omega
  have k2 : k ≤ n2 := by omega
  have k3 : k ≤ 500 := by omega
  have X := h.take k k0
  have Y := h1.take k k1
  have Z := h2.take k k2
  generalize l.take k = x at X
  generalize l1.take k = y at Y
  generalize l2.take k = z at Z
  clear h h1 h2 hk
  obtain ⟨D, hD⟩ : ∃ D, mix (mix x y) z = D := ⟨_, rfl⟩
  have hDl : D.length = k := by rw [← hD, mix_length _ _ (by rw [mix_length _ _ (by rw [X.1, Y.1]), Y.1, Z.1]), Z.1]
  obtain ⟨i, hi, hz, hi1, hi2⟩ := info_parts byte_info
  go_enter Tryd.func7, Tryd.ntmps7
  go_wp2_with fail
  refine (shown_any w ht).mono ?_
  rintro e w1 ⟨rfl, hb1⟩
  have ht1 := ht.below hb1
  have X1 := X.below hb1
  have Y1 := Y.below hb1
  have Z1 := Z.below hb1
  have hz1 := hb1.size
  clear ht X Y Z
  go_wp2_with (at_make; refine wpList_make_full _ rfl _ _ 22 rfl w1.heap.size 5 i _ 1 Tryd.underlying22 hi hz hi1 .i64 .i64 _ _ k rfl rfl rfl rfl (by rw [hi2]; omega) (by unfold maxLen; omega) (Nat.le_refl _) ?_; intro w2 hown2 hgr2)
  have own2 : Own w2 w1.heap.size (.slice (some ⟨w1.heap.size, 0, none⟩) k k) k (List.replicate k 0) := by
    have e : vbs (List.replicate k 0) = (madeCells (Value.int .u8 0).cells (k * 1)).toList := by
      rw [Nat.mul_one]
      exact (by simp [vbs, vb] : vbs (List.replicate k 0) = List.replicate k (.int .u8 0)).trans (toList_madeCells_one _ _).symm
    show w2.ownsRow _ _ _ _ _ _
    rw [e]
    exact hown2
  have bel2 : Below w1.heap.size w1 w2 := (Below.refl _ _).grown hgr2 (Nat.le_refl _) (fun _ h => by cases h)
  clear hown2 hgr2
  go_loopw [10] (fun v wr => ∃ (j : Nat) (xs : List UInt8), j ≤ k ∧ v = .int .i64 j ∧ Own wr w1.heap.size (.slice (some ⟨w1.heap.size, 0, none⟩) k k) k xs ∧ Hid (∀ q, q < j → xs[q]? = D[q]?) ∧ Below w1.heap.size w1 wr) (fun v _ => k - (intOf v).toNat)
  case atStart => exact ⟨0, _, by omega, rfl, own2, fun q hq => absurd hq (by omega), bel2⟩
  case round =>
    obtain ⟨j, xs, hj, rfl, hown, HX, hbr⟩ := hrel
    by_cases hlt : j < k
    · obtain ⟨ga, oa, rfl, hga, ca⟩ := X1.at_ hlt
      obtain ⟨gb, ob, rfl, hgb, cb⟩ := Y1.at_ hlt
      obtain ⟨gc, oc, rfl, hgc, cc⟩ := Z1.at_ hlt
      replace ca := (hbr.cell (p := ⟨ga, oa + j, none⟩) (by show ga < _; omega)).trans ca
      replace cb := (hbr.cell (p := ⟨gb, ob + j, none⟩) (by show gb < _; omega)).trans cb
      replace cc := (hbr.cell (p := ⟨gc, oc + j, none⟩) (by show gc < _; omega)).trans cc
      have hDj : D[j]? = some (x.getD j 0 ^^^ y.getD j 0 ^^^ z.getD j 0) := by
        rw [← hD]
        have e1 : j < x.length := by rw [X1.1]; exact hlt
        have e2 : j < y.length := by rw [Y1.1]; exact hlt
        have e3 : j < z.length := by rw [Z1.1]; exact hlt
        simp [mix, List.getElem?_zipWith, List.getD, List.getElem?_eq_getElem e1, List.getElem?_eq_getElem e2, List.getElem?_eq_getElem e3]
      generalize x.getD j 0 = u1 at ca hDj
      generalize y.getD j 0 = u2 at cb hDj
      generalize z.getD j 0 = u3 at cc hDj
      obtain ⟨u, hu⟩ : ∃ u, u1 ^^^ u2 ^^^ u3 = u := ⟨_, rfl⟩
      rw [hu] at hDj
      have e1 := u8_xor_nat u1.toNat u2.toNat (byte_lt u1) (byte_lt u2)
      have e2 := u8_xor_nat (u1.toNat ^^^ u2.toNat) u3.toNat (Nat.xor_lt_two_pow (n := 8) (byte_lt u1) (byte_lt u2)) (byte_lt u3)
      rw [show u1.toNat ^^^ u2.toNat ^^^ u3.toNat = u.toNat by rw [← hu, UInt8.toNat_xor, UInt8.toNat_xor]] at e2
      simp only [vb] at ca cb cc
      have own3 : Own wr.drew w1.heap.size (.slice (some ⟨w1.heap.size, 0, none⟩) k k) k xs := hown
      have bel3 : Below w1.heap.size w1 wr.drew := hbr.drew
      have hfz := own3.frozenAt j
      have hl : j < xs.length := by rw [hown.len]; exact hlt
      have hcx : wr.drew.cell? ⟨w1.heap.size, j, none⟩ = some (.int .u8 ((xs.getD j 0).toNat : Int)) := by
        rw [own3.cellAt j (by omega)]
        simp [vbs, vb, List.getD, List.getElem?_eq_getElem hl]
      have HS : Hid (Own (wr.drew.setCell ⟨w1.heap.size, j, none⟩ (.int .u8 u.toNat)) w1.heap.size (.slice (some ⟨w1.heap.size, 0, none⟩) k k) k (xs.set j u) ∧ Below w1.heap.size w1 (wr.drew.setCell ⟨w1.heap.size, j, none⟩ (.int .u8 u.toNat))) := by
        have hst := own3.stored j (vb u)
        refine ⟨?_, bel3.grown hst.2 bel3.size (fun q hq => by cases hq; exact Nat.le_refl _)⟩
        show World.ownsRow _ _ _ _ _ _ _
        rw [show vbs (xs.set j u) = (vbs xs).set j (vb u) by simp [vbs, List.map_set]]
        exact hst.1
      have HX2 : Hid (∀ q, q < j + 1 → (xs.set j u)[q]? = D[q]?) := fun q hq => by
        rw [List.getElem?_set]
        by_cases e : j = q
        · subst e
          rw [if_pos rfl, if_pos hl, hDj]
        · rw [if_neg e]
          exact HX.out q (by omega)
      clear hDj hu
      have i1 : (0 : Int) ≤ (j : Int) := by omega
      have i2 : (j : Int) < (k : Int) := by omega
      have i3 : (j : Int) < (n : Int) := by omega
      have i4 : (j : Int) < (n1 : Int) := by omega
      have i5 : (j : Int) < (n2 : Int) := by omega
      go_wp2_with fail
      go_still_tail 17, (by kernel_rfl)
      change wpList _ _ _ _ _ wr.drew
      generalize wr.drew = w3 at HS hcx hfz bel3 own3 ⊢
      go_wp2_with fail
      go_roundw
      case rel => exact ⟨j + 1, xs.set j u, by omega, by go_num, HS.out.1, HX2, HS.out.2⟩
      case measure => simp [intOf]; omega
    · have HE : Hid (xs = D) := by
        show xs = D
        apply List.ext_getElem?
        intro q
        by_cases hq : q < j
        · exact HX.out q hq
        · rw [List.getElem?_eq_none (by rw [hown.len]; omega), List.getElem?_eq_none (by omega)]
      obtain ⟨_, _, ev, _, BX⟩ := hown.form
      injection ev with ev1 ev2 ev3
      subst ev1 ev3
      have htr := (ht1.below hbr)
      have X3 := X1.below' hbr hz1
      have Y3 := Y1.below' hbr hz1
      have Z3 := Z1.below' hbr hz1
      rw [HE.out] at BX
      obtain ⟨s0, q0⟩ : ∃ s, more 0 D = s := ⟨_, rfl⟩
      obtain ⟨s1, q1⟩ : ∃ s, more 0 x = s := ⟨_, rfl⟩
      obtain ⟨s2, q2⟩ : ∃ s, more 0 y = s := ⟨_, rfl⟩
      obtain ⟨s3, q3⟩ : ∃ s, more 0 z = s := ⟨_, rfl⟩
      have l1 : s1 < 4294967296 := by rw [← q1]; exact more_lt _ (by omega)
      have l2 : s2 < 4294967296 := by rw [← q2]; exact more_lt _ (by omega)
      have l3 : s3 < 4294967296 := by rw [← q3]; exact more_lt _ (by omega)
      have e1 := u32_xor_nat s1 s2 l1 l2
      have e2 := u32_xor_nat (s1 ^^^ s2) s3 (xor_lt l1 l2) l3
      rw [show s1 ^^^ s2 ^^^ s3 = s0 by rw [← q0, ← q1, ← q2, ← q3, ← hD]; exact (more_mix x y z (by rw [X1.1, Y1.1]) (by rw [Y1.1, Z1.1])).symm] at e2
      have D0 := Lib.hid fun a => Calls.quiet_of_same (sum_of (c := k) D s0 q0 (htr.drewN a) (BX.drewN a) (by omega))
      have D1 := Lib.hid fun a => Calls.quiet_of_same (sum_of (c := c) x s1 q1 (htr.drewN a) (X3.drewN a) (by omega))
      have D2 := Lib.hid fun a => Calls.quiet_of_same (sum_of (c := c1) y s2 q2 (htr.drewN a) (Y3.drewN a) (by omega))
      have D3 := Lib.hid fun a => Calls.quiet_of_same (sum_of (c := c2) z s3 q3 (htr.drewN a) (Z3.drewN a) (by omega))
      clear q0 q1 q2 q3 BX htr X3 Y3 Z3 hD
      have i1 : (0 : Int) ≤ (k : Int) := by omega
      have i3 : (k : Int) ≤ (c : Int) := by omega
      have i4 : (k : Int) ≤ (c1 : Int) := by omega
      have i5 : (k : Int) ≤ (c2 : Int) := by omega
      go_wp2_with fail
      go_quiet (first
        | (go_at_call 10; with_reducible exact D0.out _)
        | (go_at_call 10; with_reducible exact D1.out _)
        | (go_at_call 10; with_reducible exact D2.out _)
        | (go_at_call 10; with_reducible exact D3.out _))
      go_wp2_with fail
      go_ret
      exact ⟨rfl, below_drewN (hb1.trans (hbr.mono hz1)) _⟩
end Go.Proofs.YtdohfnddffkljaaDoor
