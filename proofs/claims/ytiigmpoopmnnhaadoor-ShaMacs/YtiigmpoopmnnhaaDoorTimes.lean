/-
  What transeptref03.times answers: a product; nothing that was in memory turns. Conditions: words are words, and there are at most twenty.
-/
import Derived.Test.YtiigmpoopmnnhaaDoorMore
import Derived.Test.YtiigmpoopmnnhaaDoorNums
import Derived.BigQuiet
import Derived.Deep.QuietTactic
namespace Go.Proofs.YtiigmpoopmnnhaaDoor
open Go.RowKit

def v64 (x : Nat) : Value := .int .u64 (x : Int)
def v64s (l : List Nat) : List Value := l.map v64
theorem v64s_length (l : List Nat) : (v64s l).length = l.length := by simp [v64s]
theorem v64s_get (l : List Nat) (j : Nat) (h : j < l.length) : (v64s l)[j]? = some (v64 (l.getD j 0)) := by
  simp [v64s, List.getD, List.getElem?_eq_getElem h]
theorem v64s_set (l : List Nat) (j x : Nat) : (v64s l).set j (v64 x) = v64s (l.set j x) := by simp [v64s, List.map_set]
theorem Upd.drewN {b : Nat} {w w' : World} (h : Upd b w w') (k : Nat) : Upd b w (w'.drewN k) := ⟨h.os, h.tape, h.output, h.size, h.block⟩
theorem zero73 : (Tryd.prog.info? 73).map (fun i => i.zero) = some (some (.agg ([.slice none 0 0] : List Value).toArray)) := by kernel_rfl
theorem size73 : (Tryd.prog.info? 73).map (·.size) = some 1 := by kernel_rfl
theorem build73 (A : Option Addr) (n c : Nat) (w : World) : (Instr.build 73 #[(0, .slice A n c)]).run Tryd.prog w = .ok (.agg ([.slice A n c] : List Value).toArray) w := by kernel_rfl
theorem word_info : (Tryd.prog.info? 38).map (fun i => (i.zero, i.size, i.bytes)) = some (some (.int .u64 0), 1, 8) := by kernel_rfl

theorem make5 (w : World) : (Instr.makeSlice 58 (.int .i64 5) (.int .i64 5)).run Tryd.prog w = .ok (.slice (some ⟨w.heap.size, 0, none⟩) 5 5) (w.alloc (.cells (v64s (List.replicate 5 0)).toArray 38)) := by kernel_rfl
theorem make8 (w : World) : (Instr.makeSlice 58 (.int .i64 8) (.int .i64 8)).run Tryd.prog w = .ok (.slice (some ⟨w.heap.size, 0, none⟩) 8 8) (w.alloc (.cells (v64s (List.replicate 8 0)).toArray 38)) := by kernel_rfl
/-- 'make([]uint64, n)'. -/
theorem wp_make64s {ops : Array Oper} {rest : List Oper} {o : Oper} {a : Act} {Q : Exit → Act → World → Prop} (w : World) (hgd : o.guard = none) (x y : Operand) (ho : o.op = .makeSlice 58 x y) (n : Nat) (hx : a.eval x = .int .i64 (n : Int)) (hy : a.eval y = .int .i64 (n : Int)) (hn : n = 5 ∨ n = 8)
    (h : ∀ g w', Blk w' g 38 (v64s (List.replicate n 0)) → Fresh w w' g → wpList Tryd.prog ops Q rest (a.put o.dst (.slice (some ⟨g, 0, none⟩) n n)) w') : wpList Tryd.prog ops Q (o :: rest) a w := by
  have h := h w.heap.size (w.alloc (.cells (v64s (List.replicate n 0)).toArray 38)) (Blk.new w 38 _) (Fresh.alloc w _)
  refine wpList_plain hgd fun K hK => ?_
  have hrun : (Instr.makeSlice 58 (.int .i64 (n : Int)) (.int .i64 (n : Int))).run Tryd.prog w = .ok (.slice (some ⟨w.heap.size, 0, none⟩) n n) (w.alloc (.cells (v64s (List.replicate n 0)).toArray 38)) := by
    rcases hn with rfl | rfl
    · exact make5 w
    · exact make8 w
  unfold Oper.wp execOp
  simp only [ho, hx, hy, Sem.run_bind, hrun, Result.andThen_ok, Sem.run_pure]
  exact hK _ _ h

/-- A number in memory: a struct's one field, a slice of words. -/
def bigv (g n : Nat) : Value := .agg ([.slice (some ⟨g, 0, none⟩) n n] : List Value).toArray

theorem prod_lt (la lb : List Nat) (k : Nat) (ha : small la) (hb : small lb) (hk : k ≤ la.length) : val (la.take k) * val lb < 4294967296 ^ (la.length + lb.length + 1) := by
  have h1 := val_lt (la.take k) (small_take ha k)
  have h2 := val_lt lb hb
  have hl : (la.take k).length = k := by simp; omega
  rw [hl] at h1
  have h3 : 4294967296 ^ k ≤ 4294967296 ^ la.length := Nat.pow_le_pow_right (by omega) hk
  have h4 : val (la.take k) * val lb < 4294967296 ^ la.length * 4294967296 ^ lb.length := Nat.mul_lt_mul'' (by omega) h2
  have h5 : 4294967296 ^ (la.length + lb.length + 1) = 4294967296 ^ la.length * 4294967296 ^ lb.length * 4294967296 := by rw [Nat.pow_succ, Nat.pow_add]
  rw [h5]
  omega

set_option maxHeartbeats 1000000 in
set_option maxRecDepth 100000 in
theorem times_any (ga na gb nb : Nat) (la lb : List Nat) (w : World) (hA : Blk w ga 38 (v64s la)) (hB : Blk w gb 38 (v64s lb)) (ea : la.length = na) (eb : lb.length = nb) (sa : small la) (sb : small lb) (hM : na + nb + 1 = 5 ∨ na + nb + 1 = 8) :
    Calls Tryd.prog 36 #[bigv ga na, bigv gb nb] w fun e w' => ∃ g lo, e = .returned (bigv g (na + nb + 1)) ∧ Blk w' g 38 (v64s lo) ∧ lo.length = na + nb + 1 ∧ small lo ∧ val lo = val la * val lb ∧ Below w.heap.size w w' := by
  unfold bigv
  obtain ⟨M, hMM⟩ : ∃ M, M = na + nb + 1 := ⟨_, rfl⟩
  rw [← hMM] at hM ⊢
  have eM : (na : Int) + (nb : Int) + 1 = (M : Int) := by omega
  have lM : M ≤ 8 := by omega
  have ln : na ≤ 8 := by omega
  have lm : nb ≤ 8 := by omega
  have HM := Lib.hid hM
  have HMM := Lib.hid hMM
  clear hM hMM
  have b73 := build73
  have z73 : (Tryd.prog.info? 73).map (·.size) = some ([.slice none 0 0] : List Value).length := size73
  have o73 : ∀ gW : Nat, ∀ u ∈ ([.slice (some ⟨gW, 0, none⟩) M M] : List Value), u.oneCell' = true := fun gW u hu => by
    rw [List.mem_singleton] at hu
    rw [hu]
    rfl
  go_enter Tryd.func36, Tryd.ntmps36
  go_wp2_with (first
    | ((with_reducible show wpList _ _ _ _ _ _); first
      | ((with_reducible show wpList _ _ _ (⟨some 2, _, _, _, _, _⟩ :: _) _ _); refine wp_box (o := ⟨some 2, _, _, _, _, _⟩) _ rfl 73 (.tmp 0) rfl [.slice (some ⟨ga, 0, none⟩) na na] rfl ?_; intro w1 g2 B1 hf1; simp only [Act.put, List.setIfInBounds_toArray, List.set_cons_zero, List.set_cons_succ])
      | ((with_reducible show wpList _ _ _ (⟨some 3, _, _, _, _, _⟩ :: _) _ _); refine wp_box (o := ⟨some 3, _, _, _, _, _⟩) _ rfl 73 (.tmp 1) rfl [.slice (some ⟨gb, 0, none⟩) nb nb] rfl ?_; intro w2 g3 B2 hf2; simp only [Act.put, List.setIfInBounds_toArray, List.set_cons_zero, List.set_cons_succ])
      | ((with_reducible show wpList _ _ _ (⟨some 4, _, _, _, _, _⟩ :: _) _ _); refine wp_new (o := ⟨some 4, _, _, _, _, _⟩) _ rfl 73 rfl _ zero73 ?_; intro w3 g4 B3 hf3; have ca := (hf3.blk (hf2.blk B1)).cell (i := 0) rfl; have cb := (hf3.blk B2).cell (i := 0) rfl; simp only [Act.put, List.setIfInBounds_toArray, List.set_cons_zero, List.set_cons_succ])
      | ((with_reducible show wpList _ _ _ (⟨some 20, _, _, _, _, _⟩ :: _) _ _); refine wp_make64s _ rfl _ _ rfl M rfl rfl HM.out ?_; intro gW w4 BW hf4; simp only [Act.put, List.setIfInBounds_toArray, List.set_cons_zero, List.set_cons_succ])
      | ((with_reducible show wpList _ _ _ (⟨some 21, _, _, _, _, _⟩ :: _) _ _); refine wp_build1 _ rfl 73 0 (.tmp 20) rfl _ rfl _ (b73 _ _ _ _) ?_; simp only [Act.put, List.setIfInBounds_toArray, List.set_cons_zero, List.set_cons_succ])
      | ((with_reducible show wpList _ _ _ (⟨some 5, _, _, _, _, _⟩ :: _) _ _); refine wp_new (o := ⟨some 5, _, _, _, _, _⟩) _ rfl 73 rfl _ zero73 ?_; intro w5 g5 B5 hf5; simp only [Act.put, List.setIfInBounds_toArray, List.set_cons_zero, List.set_cons_succ])
      | ((with_reducible show wpList _ _ _ (⟨none, _, _, _, _, _⟩ :: _) _ _); refine wp_putAll _ rfl 73 (.tmp 5) (.tmp 21) rfl g5 73 _ [.slice (some ⟨gW, 0, none⟩) M M] rfl rfl B5 rfl z73 (o73 gW) ?_; intro w6 D5 U6; simp only [Act.put])))
  have q1 := hf1.is
  have q2 := hf1.size
  have q3 := hf2.is
  have q4 := hf2.size
  have q5 := hf3.is
  have q6 := hf3.size
  have q7 := hf4.is
  have q8 := hf4.size
  have q9 := hf5.is
  have q10 := hf5.size
  have q11 := hA.lt
  have q12 := hB.lt
  have bel : Below w.heap.size w w6 := ((((hf1.below.trans (hf2.below.mono (by omega))).trans (hf3.below.mono (by omega))).trans (hf4.below.mono (by omega))).trans (hf5.below.mono (by omega))).trans (U6.below (by omega))
  have DA := hA.kept bel
  have DB := hB.kept bel
  have D2 := (hf5.blk (hf4.blk (hf3.blk (hf2.blk B1)))).upd U6 (by omega)
  have D3 := (hf5.blk (hf4.blk (hf3.blk B2))).upd U6 (by omega)
  have D4 := (hf5.blk (hf4.blk B3)).upd U6 (by omega)
  have DW := (hf5.blk BW).upd U6 (by omega)
  have HG : Hid (w.heap.size ≤ gW ∧ ga ≠ gW ∧ gb ≠ gW ∧ g2 ≠ gW ∧ g3 ≠ gW ∧ g4 ≠ gW ∧ g5 ≠ gW) := by refine ⟨?_, ?_, ?_, ?_, ?_, ?_, ?_⟩ <;> omega
  have HG4 : Hid (w.heap.size ≤ g4 ∧ gW ≠ g4) := by refine ⟨?_, ?_⟩ <;> omega
  clear q1 q2 q3 q4 q5 q6 q7 q8 q9 q10 q11 q12 hf1 hf2 hf3 hf4 hf5 B1 B2 B3 BW B5 U6 ca cb hA hB
  have v0 : val (List.replicate M 0) = val (la.take 0) * val lb := by simp [val_replicate, val]
  have HV0 := Lib.hid v0
  clear v0
  go_loopw [6] (fun v wr => ∃ (i : Nat) (o : List Nat), v = .int .i64 i ∧ i ≤ na ∧ o.length = M ∧ small o ∧ Hid (val o = val (la.take i) * val lb) ∧ Blk wr gW 38 (v64s o) ∧ Upd gW w6 wr) (fun v _ => na - (intOf v).toNat)
  case atStart => exact ⟨0, List.replicate M 0, rfl, by omega, by simp, small_replicate M, HV0, DW, Upd.refl _ _⟩
  case round =>
    obtain ⟨i, o, rfl, hi, ho, so, HV, EW, UU⟩ := hrel
    obtain ⟨n0, nA, nB, n2, n3, n4, n5⟩ := HG.out
    have c2 := (D2.upd UU n2).cell (i := 0) rfl
    have c3 := (D3.upd UU n3).cell (i := 0) rfl
    by_cases hlt : i < na
    · go_wp2_with fail
      have HI0 : Hid (val o + 0 * 4294967296 ^ (i + 0) = val o + la.getD i 0 * val (lb.take 0) * 4294967296 ^ i) := by show _ = _; simp [val]
      go_loopw [7, 8] (fun x y ws => ∃ (cy k : Nat) (o' : List Nat), x = .int .u64 cy ∧ y = .int .i64 k ∧ k ≤ nb ∧ cy < 4294967296 ∧ o'.length = M ∧ small o' ∧ Hid (val o' + cy * 4294967296 ^ (i + k) = val o + la.getD i 0 * val (lb.take k) * 4294967296 ^ i) ∧ Blk ws gW 38 (v64s o') ∧ Upd gW w6 ws) (fun _ y _ => nb - (intOf y).toNat)
      case atStart => exact ⟨0, 0, o, rfl, rfl, by omega, by omega, ho, so, HI0, EW, UU⟩
      case round =>
        rename_i wr0 _ _ _ _
        obtain ⟨cy, k, o', rfl, rfl, hk, hcy, ho', so', HI, EW', UU'⟩ := hrel
        clear c2 c3
        have c2 := (D2.upd UU' n2).cell (i := 0) rfl
        have c3 := (D3.upd UU' n3).cell (i := 0) rfl
        have c5 := (D5.upd UU' n5).cell (i := 0) rfl
        by_cases hkl : k < nb
        · obtain ⟨j, hj⟩ : ∃ j, j = i + k := ⟨_, rfl⟩
          have jM : j < M := by have := HMM.out; omega
          have cx := EW'.cell (v64s_get o' j (by omega))
          have cA := (DA.upd UU' nA).cell (v64s_get la i (by omega))
          have cB := (DB.upd UU' nB).cell (v64s_get lb k (by omega))
          have lx := small_getD so' j
          have lA := small_getD sa i
          have lB := small_getD sb k
          have HS := Lib.hid (mul_step o' i k cy (la.getD i 0) (lb.getD k 0) (val o) (val (lb.take k)) (by omega) HI.out)
          have HT := Lib.hid (val_take lb k (by omega))
          rw [← hj] at HS
          have e1 : (i : Int) + (k : Int) = (j : Int) := by omega
          rw [v64] at cx cA cB
          generalize o'.getD j 0 = x at *
          generalize la.getD i 0 = av at *
          generalize lb.getD k 0 = bv at *
          have hN := step_small lx lA lB hcy
          obtain ⟨ab, hab⟩ : ∃ ab, ab = av * bv := ⟨_, rfl⟩
          have e2 : (av : Int) * (bv : Int) = (ab : Int) := by rw [hab]; rfl
          rw [← hab] at hN HS
          obtain ⟨s1, hs1⟩ : ∃ s, s = x + ab := ⟨_, rfl⟩
          have e3 : (x : Int) + (ab : Int) = (s1 : Int) := by omega
          obtain ⟨N, hNN⟩ : ∃ N, N = x + ab + cy := ⟨_, rfl⟩
          have e4 : (s1 : Int) + (cy : Int) = (N : Int) := by omega
          rw [← hNN] at HS hN
          have l1 : (ab : Int) < 18446744073709551616 := by omega
          have l2 : (s1 : Int) < 18446744073709551616 := by omega
          have l3 : (N : Int) < 18446744073709551616 := by omega
          obtain ⟨rm, hrm⟩ : ∃ r, r = N % 4294967296 := ⟨_, rfl⟩
          obtain ⟨qt, hqt⟩ : ∃ r, r = N / 4294967296 := ⟨_, rfl⟩
          have e5 : (N : Int) % 4294967296 = (rm : Int) := by omega
          have e6 : (N : Int) / 4294967296 = (qt : Int) := by omega
          rw [← hrm, ← hqt] at HS
          have lr : rm < 4294967296 := by omega
          have lq : qt < 4294967296 := by omega
          have lC : j < (v64s o').length := by rw [v64s_length]; omega
          have HJ := Lib.hid hj
          clear hj hab hs1 hNN hrm hqt hN
          go_wp2_with fail
          go_quiet (fail)
          replace EW' := EW'.drewN nq
          replace UU' := UU'.drewN nq
          replace c5 : (wr.drewN nq).cell? ⟨g5, 0, none⟩ = _ := c5
          clear c2 c3 cx cA cB
          generalize wr.drewN nq = w7 at *
          clear nq
          go_wp2_with ((with_reducible show wpList _ _ _ (⟨none, _, _, _, _, _⟩ :: _) _ _); refine wp_set _ rfl 38 (.tmp 64) (.tmp 63) rfl gW j 38 _ _ rfl rfl rfl rfl EW' lC size38 ?_; intro w8 F8 U8; simp only [Act.put])
          go_roundw
          case rel =>
            refine ⟨qt, k + 1, o'.set j rm, rfl, by go_num, by omega, lq, by simp [ho'], small_set so' j rm lr, ?_, ?_, UU'.trans U8⟩
            · show _ = _
              rw [HT.out, ← Nat.add_assoc, ← HJ.out]
              exact HS.out
            · rw [← v64s_set, v64, ← e5]
              exact F8
          case measure => simp [intOf]; omega
        · have hkb : k = nb := by omega
          subst hkb
          have HV2 : Hid (val o' + cy * 4294967296 ^ (i + k) = val (la.take (i + 1)) * val lb) := by
            show _ = _
            have et : lb.take k = lb := List.take_of_length_le (by omega)
            rw [HI.out, et, HV.out, val_take la i (by omega)]
            simp only [Nat.add_mul]
            ac_rfl
          obtain ⟨j, hj⟩ : ∃ j, j = i + k := ⟨_, rfl⟩
          have e1 : (i : Int) + (k : Int) = (j : Int) := by omega
          have jM : j ≤ M := by have := HMM.out; omega
          rw [← hj] at HV2
          have HP : Hid (val (la.take (i + 1)) * val lb < 4294967296 ^ M) := by
            show _ < _
            have := prod_lt la lb (i + 1) sa sb (by omega)
            rw [HMM.out]
            rwa [ea, eb] at this
          clear hj HI HI0
          go_wp2_with fail
          go_loopw [7, 10] (fun x y ws => ∃ (cy at_ : Nat) (o' : List Nat), x = .int .u64 cy ∧ y = .int .i64 at_ ∧ at_ ≤ M ∧ cy < 4294967296 ∧ o'.length = M ∧ small o' ∧ Hid (val o' + cy * 4294967296 ^ at_ = val (la.take (i + 1)) * val lb) ∧ Blk ws gW 38 (v64s o') ∧ Upd gW w6 ws) (fun _ y _ => M - (intOf y).toNat)
          case atStart => exact ⟨cy, j, o', rfl, rfl, jM, hcy, ho', so', HV2, EW', UU'⟩
          case round =>
            obtain ⟨cz, t, p, rfl, rfl, htM, hcz, hp, sp, HW, EW2, UU2⟩ := hrel
            clear c2 c3 c5
            have c5 := (D5.upd UU2 n5).cell (i := 0) rfl
            by_cases hpos : 0 < cz
            · have hroom := carry_room p t cz _ hpos HW.out (by rw [hp]; exact HP.out)
              have tM : t < M := by omega
              have cx := EW2.cell (v64s_get p t hroom)
              have lx := small_getD sp t
              have HS := Lib.hid (carry_step p t cz _ hroom HW.out)
              rw [v64] at cx
              generalize p.getD t 0 = x at *
              obtain ⟨N, hNN⟩ : ∃ N, N = x + cz := ⟨_, rfl⟩
              have e4 : (x : Int) + (cz : Int) = (N : Int) := by omega
              rw [← hNN] at HS
              have l3 : (N : Int) < 18446744073709551616 := by omega
              obtain ⟨rm, hrm⟩ : ∃ r, r = N % 4294967296 := ⟨_, rfl⟩
              obtain ⟨qt, hqt⟩ : ∃ r, r = N / 4294967296 := ⟨_, rfl⟩
              have e5 : (N : Int) % 4294967296 = (rm : Int) := by omega
              have e6 : (N : Int) / 4294967296 = (qt : Int) := by omega
              rw [← hrm, ← hqt] at HS
              have lr : rm < 4294967296 := by omega
              have lq : qt < 4294967296 := by omega
              have lC : t < (v64s p).length := by rw [v64s_length]; exact hroom
              clear hNN hrm hqt hroom
              go_wp2_with ((with_reducible show wpList _ _ _ (⟨none, _, _, _, _, _⟩ :: _) _ _); refine wp_set _ rfl 38 (.tmp 86) (.tmp 85) rfl gW t 38 _ _ rfl rfl rfl rfl EW2 lC size38 ?_; intro w8 F8 U8; simp only [Act.put])
              go_roundw
              case rel =>
                refine ⟨qt, t + 1, p.set t rm, rfl, by go_num, by omega, lq, by simp [hp], small_set sp t rm lr, HS, ?_, UU2.trans U8⟩
                rw [← v64s_set, v64, ← e5]
                exact F8
              case measure => simp [intOf]; omega
            · have hz0 : cz = 0 := by omega
              subst hz0
              have HW0 : Hid (val p = val (la.take (i + 1)) * val lb) := by
                have := HW.out
                rw [Nat.zero_mul, Nat.add_zero] at this
                exact this
              go_wp2_with fail
              go_roundw
              case rel => exact ⟨i + 1, p, by go_num, by omega, hp, sp, HW0, EW2, UU2⟩
              case measure => simp [intOf]; omega
    · have hin : i = na := by omega
      subst hin
      have HVe : Hid (val o = val la * val lb) := by
        have := HV.out
        rw [List.take_of_length_le (by omega)] at this
        exact this
      have C5 := D5.upd UU n5
      have C4 := D4.upd UU n4
      obtain ⟨m0, m1⟩ := HG4.out
      go_wp2_with (first
        | ((with_reducible show wpList _ _ _ (⟨some 91, _, _, _, _, _⟩ :: _) _ _); refine wp_get _ rfl 73 (.tmp 5) rfl g5 0 _ _ rfl C5.whole Tryd.underlying73 rfl z73 ?_; simp only [Act.put, List.setIfInBounds_toArray, List.set_cons_zero, List.set_cons_succ])
        | ((with_reducible show wpList _ _ _ (⟨none, _, _, _, _, _⟩ :: _) _ _); refine wp_putAll _ rfl 73 (.tmp 4) (.tmp 91) rfl g4 73 _ _ rfl rfl C4 rfl z73 (o73 gW) ?_; intro w8 F8 U8; simp only [Act.put])
        | ((with_reducible show bodyPost _ _ _ _ _ _); refine ret_cell 4 73 rfl g4 _ _ rfl F8.whole Tryd.underlying73 rfl z73 rfl ?_))
      refine ⟨gW, o, rfl, EW.upd U8 m1, ho, so, HVe.out, ?_⟩
      exact (bel.trans (UU.below n0)).trans (U8.below m0)
end Go.Proofs.YtiigmpoopmnnhaaDoor
