/-
  What sha.stretched answers: the 64 words of a block; nothing that was in memory turns. No condition but that the block has 64 bytes.
-/
import Derived.Test.YtiigmpoopmnnhaaDoorSched
import Derived.StillTailTactics
namespace Go.Proofs.YtiigmpoopmnnhaaDoor
open Go.RowKit

theorem size37 : (Tryd.prog.info? 37).map (·.size) = some 64 := by kernel_rfl
theorem size64 : (Tryd.prog.info? 64).map (·.size) = some 64 := by kernel_rfl
theorem size36 : (Tryd.prog.info? 36).map (·.size) = some 8 := by kernel_rfl
theorem zero64 : (Tryd.prog.info? 64).map (fun i => i.zero) = some (some (.agg (vws (List.replicate 64 0)).toArray)) := by kernel_rfl
theorem zero36 : (Tryd.prog.info? 36).map (fun i => i.zero) = some (some (.agg (vws (List.replicate 8 0)).toArray)) := by kernel_rfl
theorem zero37 : (Tryd.prog.info? 37).map (fun i => i.zero) = some (some (.agg (vbs (List.replicate 64 0)).toArray)) := by kernel_rfl

theorem wrap64 (a : Nat) (h : a < 64) : IntKind.i64.wrap (a : Int) = (a : Int) := by
  rw [IntKind.wrap_i64]
  omega
/-- The words laid so far, and noughts behind them. -/
def laid (b : List UInt8) (k : Nat) : List Value := vws (sch b k ++ List.replicate (64 - k) 0)
theorem laid_length (b : List UInt8) (k : Nat) (hk : k ≤ 64) : (laid b k).length = 64 := by
  simp [laid, vws_length, sch_length]
  omega
theorem laid_get (b : List UInt8) (k j : Nat) (hj : j < k) : (laid b k)[j]? = some (vw ((sch b k).getD j 0)) := by
  have h : j < (sch b k).length := by rw [sch_length]; exact hj
  simp [laid, vws, List.getElem?_append_left, h, List.getD]
theorem laid_set (b : List UInt8) (k x : Nat) (hk : k < 64) (hx : x = if k < 16 then wordAt b (4 * k) else nextW (sch b k) k) : (laid b k).set k (vw x) = laid b (k + 1) := by
  have e : List.replicate (64 - k) (0 : Nat) = 0 :: List.replicate (64 - (k + 1)) 0 := by
    rw [show 64 - k = (64 - (k + 1)) + 1 by omega]
    rfl
  simp only [laid, sch, ← hx, vws, List.map_append]
  rw [e, List.set_append_right _ _ (by simp [sch_length])]
  simp [sch_length]

set_option maxHeartbeats 2000000 in
set_option maxRecDepth 100000 in
theorem stretched_any (b : List UInt8) (w : World) (hb : b.length = 64) : Calls Tryd.prog 29 #[.agg (vbs b).toArray] w fun e w' => e = .returned (.agg (vws (sch b 64)).toArray) ∧ Below w.heap.size w w' := by
  have hb37 : (Tryd.prog.info? 37).map (·.size) = some (vbs b).length := by rw [vbs_length, hb]; exact size37
  go_enter Tryd.func29, Tryd.ntmps29
  go_wp2_with (first
    | (refine wp_box _ rfl 37 (.tmp 0) rfl (vbs b) rfl ?_; intro w1 g1 hB1 hf1)
    | (refine wp_new (o := ⟨some 2, _, _, _, _, _⟩) _ rfl 64 rfl _ zero64 ?_; intro w2 g2 hB2 hf2)
    | (refine wp_new (o := ⟨some 3, _, _, _, _, _⟩) _ rfl 64 rfl _ zero64 ?_; intro w3 g3 hB3 hf3))
  have hz1 := hf1.is
  have hz2 := hf2.is
  have hz3 := hf3.is
  have hs1 := hf1.size
  have hs2 := hf2.size
  have hs3 := hf3.size
  have L1 : g1 < g2 := by omega
  have L2 : g2 < g3 := by omega
  have L3 : w.heap.size = g1 := by omega
  have bel : Below g1 w w3 := by
    have h1 := hf1.below
    have h2 := (hf2.below).mono (B' := g1) (by omega)
    have h3 := (hf3.below).mono (B' := g1) (by omega)
    rw [L3] at h1
    exact (h1.trans h2).trans h3
  have D1 : Blk w3 g1 37 (vbs b) := hf3.blk (hf2.blk hB1)
  have D2 := hf3.blk hB2
  have D3 : Blk w3 g3 64 (laid b 0) := hB3
  have s3 : w3.heap.size = g3 + 1 := hs3
  have HL := Lib.hid (And.intro L1 (And.intro L2 L3))
  clear hB1 hB2 hB3 hf1 hf2 hf3 hz1 hz2 hz3 hs1 hs2 hs3 L1 L2 L3
  go_loopw [5] (fun v wr => ∃ k : Nat, k ≤ 64 ∧ v = .int .i64 k ∧ Blk wr g1 37 (vbs b) ∧ Blk wr g2 64 (vws (List.replicate 64 0)) ∧ Blk wr g3 64 (laid b k) ∧ Below g1 w wr) (fun v _ => 64 - (intOf v).toNat)
  case atStart => exact ⟨0, by omega, rfl, D1, D2, D3, bel⟩
  case round =>
    obtain ⟨k, hk, rfl, E1, E2, E3, belr⟩ := hrel
    by_cases hlt : k < 64
    · by_cases h16 : k < 16
      · obtain ⟨q, hq, e4⟩ : ∃ q : Nat, 4 * k = q ∧ (4 : Int) * (k : Int) = (q : Int) := ⟨4 * k, rfl, by omega⟩
        go_wp2_with (refine wp_get _ rfl 37 (.tmp 1) rfl _ 0 (vbs b) _ rfl E1.whole Tryd.underlying37 rfl hb37 ?_)
        refine (wordAt_any b q wr hb (by omega)).mono ?_
        rintro e w5 ⟨rfl, hb5⟩
        have F1 := E1.kept hb5
        have F2 := E2.kept hb5
        have F3 := E3.kept hb5
        have belr5 : Below g1 w w5 := belr.trans (hb5.mono (Nat.le_of_lt E1.lt))
        have cx := F3.cell (List.getElem?_eq_getElem (by rw [laid_length b k hk]; exact hlt))
        have fz := F3.frozen k
        have HQ := Lib.hid hq
        clear hq hb5
        go_wp2_with fail
        go_roundw
        case rel =>
          obtain ⟨L1, L2, L3⟩ := HL.out
          refine ⟨k + 1, by omega, by go_num, F1.upd (Upd.setCell ..) (by omega), F2.upd (Upd.setCell ..) (by omega), ?_, belr5.trans ((Upd.setCell ..).below (by omega))⟩
          rw [← laid_set b k (wordAt b q) hlt (by rw [if_pos h16, HQ.out])]
          exact F3.set k _
        case measure => simp [intOf]; omega
      · obtain ⟨a16, h16a⟩ : ∃ a, k = a + 16 := ⟨k - 16, by omega⟩
        obtain ⟨a15, h15a⟩ : ∃ a, k = a + 15 := ⟨k - 15, by omega⟩
        obtain ⟨a7, h7a⟩ : ∃ a, k = a + 7 := ⟨k - 7, by omega⟩
        obtain ⟨a2, h2a⟩ : ∃ a, k = a + 2 := ⟨k - 2, by omega⟩
        have c16 := E3.cell (laid_get b k a16 (by omega))
        have c15 := E3.cell (laid_get b k a15 (by omega))
        have c7 := E3.cell (laid_get b k a7 (by omega))
        have c2 := E3.cell (laid_get b k a2 (by omega))
        have l16 := sch_lt b (i := k) (j := a16) (by omega)
        have l15 := sch_lt b (i := k) (j := a15) (by omega)
        have l7 := sch_lt b (i := k) (j := a7) (by omega)
        have l2 := sch_lt b (i := k) (j := a2) (by omega)
        have HN : Hid (nextW (sch b k) k = add (add (add ((sch b k).getD a16 0) (mixS ((sch b k).getD a15 0) 7 18 3)) ((sch b k).getD a7 0)) (mixS ((sch b k).getD a2 0) 17 19 10)) := by
          show nextW (sch b k) k = _
          unfold nextW
          rw [show k - 16 = a16 by omega, show k - 15 = a15 by omega, show k - 7 = a7 by omega, show k - 2 = a2 by omega]
        rw [vw] at c16 c15 c7 c2
        generalize (sch b k).getD a16 0 = x16 at *
        generalize (sch b k).getD a15 0 = x15 at *
        generalize (sch b k).getD a7 0 = x7 at *
        generalize (sch b k).getD a2 0 = x2 at *
        have e16 : (k : Int) - 16 = (a16 : Int) := by omega
        have e15 : (k : Int) - 15 = (a15 : Int) := by omega
        have e7 : (k : Int) - 7 = (a7 : Int) := by omega
        have e2 : (k : Int) - 2 = (a2 : Int) := by omega
        have i16 : (a16 : Int) < 64 := by omega
        have i15 : (a15 : Int) < 64 := by omega
        have i7 : (a7 : Int) < 64 := by omega
        have i2 : (a2 : Int) < 64 := by omega
        have j16 := wrap64 a16 (by omega)
        have j15 := wrap64 a15 (by omega)
        have j7 := wrap64 a7 (by omega)
        have j2 := wrap64 a2 (by omega)
        have M1 := fun w => mixedS_any x15 7 18 3 w l15 (by omega) (by omega) (by omega)
        have M2 := fun w => mixedS_any x2 17 19 10 w l2 (by omega) (by omega) (by omega)
        have m1 := mixS_lt 7 18 3 l15
        have m2 := mixS_lt 17 19 10 l2
        generalize mixS x15 7 18 3 = y15 at *
        generalize mixS x2 17 19 10 = y2 at *
        have a1 : ((x16 : Int) + (y15 : Int)) % 4294967296 = ((add x16 y15 : Nat) : Int) := by simp [add]
        have a2' : (((add x16 y15 : Nat) : Int) + (x7 : Int)) % 4294967296 = ((add (add x16 y15) x7 : Nat) : Int) := by simp [add]
        have a3 : (((add (add x16 y15) x7 : Nat) : Int) + (y2 : Int)) % 4294967296 = ((add (add (add x16 y15) x7) y2 : Nat) : Int) := by simp [add]
        generalize add (add (add x16 y15) x7) y2 = z3 at *
        generalize add (add x16 y15) x7 = z2 at *
        generalize add x16 y15 = z1 at *
        have cx := E3.cell (List.getElem?_eq_getElem (by rw [laid_length b k hk]; exact hlt))
        have fz := E3.frozen k
        have HM1 := Lib.hid M1
        have HM2 := Lib.hid M2
        have HK := Lib.hid (And.intro hlt h16)
        clear h16a h15a h7a h2a M1 M2 m1 m2 l16 l15 l7 l2
        go_wp2_with fail
        refine wp_region_still_tail 23 (by kernel_rfl) (by kernel_rfl) ?_
        simp only [List.take_succ_cons, List.take_zero, List.drop_succ_cons, List.drop_zero]
        repeat still_step
        still_call (HM1.out _)
        repeat still_step
        still_call (HM2.out _)
        repeat still_step
        refine wpStill_nil ?_
        change wpList _ _ _ _ _ wr.drew
        have HR : Hid (Blk (wr.drew.setCell ⟨g3, k, none⟩ (.int .u32 z3)) g3 64 (laid b (k + 1)) ∧ Upd g3 wr.drew (wr.drew.setCell ⟨g3, k, none⟩ (.int .u32 z3))) := by
          refine ⟨?_, Upd.setCell ..⟩
          rw [← laid_set b k z3 hlt (by rw [if_neg h16, HN.out])]
          exact E3.drew.set k _
        replace E1 := E1.drew
        replace E2 := E2.drew
        replace belr := belr.drew
        replace cx : wr.drew.cell? _ = _ := cx
        replace fz : wr.drew.frozen? _ = _ := fz
        generalize wr.drew = w5 at *
        go_wp2_with fail
        go_roundw
        case rel =>
          obtain ⟨L1, L2, L3⟩ := HL.out
          exact ⟨k + 1, by omega, by go_num, E1.upd HR.out.2 (by omega), E2.upd HR.out.2 (by omega), HR.out.1, belr.trans (HR.out.2.below (by omega))⟩
        case measure => simp [intOf]; omega
    · have hk64 : k = 64 := by omega
      subst hk64
      have e64 : laid b 64 = vws (sch b 64) := by simp [laid]
      rw [e64] at E3
      have z64 : (Tryd.prog.info? 64).map (·.size) = some (vws (sch b 64)).length := by rw [vws_length, sch_length]; exact size64
      have n64 : (vws (sch b 64)).length = (vws (List.replicate 64 0)).length := by simp [vws_length, sch_length]
      have o64 := vws_one (sch b 64)
      obtain ⟨V, hV⟩ : ∃ V, V = vws (sch b 64) := ⟨_, rfl⟩
      rw [← hV] at E3 z64 n64 o64
      have HV := Lib.hid hV
      clear hV e64
      go_wp2_with (first
        | (refine wp_get _ rfl 64 (.tmp 3) rfl _ 0 V _ rfl E3.whole Tryd.underlying64 rfl z64 ?_)
        | (refine wp_putAll _ rfl 64 (.tmp 2) (.tmp 40) rfl _ _ _ V rfl rfl E2 n64 z64 o64 ?_; intro w6 F2 U6))
      refine ret_cell 2 64 rfl g2 V _ rfl F2.whole Tryd.underlying64 rfl z64 rfl ⟨by rw [HV.out], ?_⟩
      obtain ⟨L1, L2, L3⟩ := HL.out
      rw [L3]
      exact belr.trans (U6.below (by omega))
end Go.Proofs.YtiigmpoopmnnhaaDoor
