/-
  What State.Sum and sha.Sum answer: the digest of the bytes; nothing that was in memory turns. Conditions: the tables hold what the program's text lays; there are at most 1000000000 bytes.
-/
import Derived.Test.YtiigmpoopmnnhaaDoorEnding
namespace Go.Proofs.YtiigmpoopmnnhaaDoor
open Go.RowKit

theorem size25 : (Tryd.prog.info? 25).map (·.size) = some 32 := by kernel_rfl
theorem zero25 : (Tryd.prog.info? 25).map (fun i => i.zero) = some (some (.agg (vbs (List.replicate 32 0)).toArray)) := by kernel_rfl
theorem field40 (ws : List Nat) (t : List UInt8) (n : Nat) (hw : ws.length = 8) (w : World) : (Instr.field 40 (.agg (cells3 ws t n).toArray) 0).run Tryd.prog w = .ok (.agg (vws ws).toArray) w := by
  have hagg : (isAgg 36).run Tryd.prog w = .ok true w := by
    unfold isAgg
    rw [Sem.run_bind, run_underlying Tryd.underlying36 w]
    rfl
  have he : (cells3 ws t n).take 8 = vws ws := by
    have h1 : (vws ws).length = 8 := by rw [vws_length, hw]
    simp only [cells3]
    rw [List.append_assoc, List.take_append_of_le_length (by omega), List.take_of_length_le (by omega)]
  simp [Instr.field, run_underlying Tryd.underlying40, asAgg, part, hagg, he]

/-- The digest's first k bytes, and noughts behind them. -/
def digk (ws : List Nat) (k : Nat) : List Value := vbs ((dig ws).take k ++ List.replicate (32 - k) 0)
theorem digk_length (ws : List Nat) (k : Nat) (hk : k ≤ 32) : (digk ws k).length = 32 := by
  have := dig_length ws
  simp [digk, vbs_length]
  omega
theorem digk_set (ws : List Nat) (k : Nat) (hk : k < 32) : (digk ws k).set k (vb (UInt8.ofNat (ws.getD (k / 4) 0 / 2 ^ (24 - 8 * (k % 4))))) = digk ws (k + 1) := by
  have hl : k < (dig ws).length := by rw [dig_length]; exact hk
  have e : (dig ws)[k] = UInt8.ofNat (ws.getD (k / 4) 0 / 2 ^ (24 - 8 * (k % 4))) := by simp [dig]
  have e2 : List.replicate (32 - k) (0 : UInt8) = 0 :: List.replicate (32 - (k + 1)) 0 := by
    rw [show 32 - k = (32 - (k + 1)) + 1 by omega]
    rfl
  have e3 : ((dig ws).take k).length = k := by simp; omega
  simp only [digk, vbs, List.map_append, List.take_succ_eq_append_getElem hl, e, e2]
  rw [List.set_append_right _ _ (by simp; omega)]
  simp only [List.length_map, e3, Nat.sub_self, List.map_cons, List.set_cons_zero]
  simp
theorem digk_all (ws : List Nat) : digk ws 32 = vbs (dig ws) := by
  have := dig_length ws
  simp [digk, List.take_of_length_le, this]
theorem digk_none (ws : List Nat) : digk ws 0 = vbs (List.replicate 32 0) := by simp [digk]

set_option maxHeartbeats 4000000 in
set_option maxRecDepth 100000 in
theorem stateSum_any (l : List UInt8) (w : World) (ht : Tab w) (hl : l.length ≤ 1000000000) :
    Calls Tryd.prog 16 #[.agg (stc l).toArray] w fun e w' => e = .returned (.agg (vbs (digest l)).toArray) ∧ Below w.heap.size w w' := by
  have z40 : (Tryd.prog.info? 40).map (·.size) = some (stc l).length := by rw [stc_length]; exact size40
  have hat := cells3_at (n := l.length) (ws := (wordsOf l).list) (t := tailOf l) rfl (tailOf_length l)
  obtain ⟨ws, hws⟩ : ∃ ws : E8, ws = wordsOf (l ++ ending l.length) := ⟨_, rfl⟩
  have hwk : ws.ok := by rw [hws]; exact wordsOf_ok _
  have HD : Hid (digest l = dig ws.list) := by show _ = _; rw [hws]; rfl
  have EN := fun w => ending_any l.length w (by omega)
  have lE : (ending l.length).length ≤ 72 := by
    rw [ending_length]
    have := zerosFor_le l.length
    omega
  have MO := fun (A : Option Addr) (c : Nat) (w : World) (h1 : Tab w) (h2 : Bs w w.heap.size A (ending l.length).length (ending l.length)) (h3 : (ending l.length).length ≤ c) (h4 : c ≤ 9223372036854775807) =>
    more_any l A (ending l.length).length c (ending l.length) w h1 h2 h3 h4 (by omega)
  have FI := field40 ws.list (tailOf (l ++ ending l.length)) (l ++ ending l.length).length rfl
  have hst : stc (l ++ ending l.length) = cells3 ws.list (tailOf (l ++ ending l.length)) (l ++ ending l.length).length := by rw [hws]; rfl
  rw [hst] at MO
  clear hst hws
  generalize cells3 ws.list (tailOf (l ++ ending l.length)) (l ++ ending l.length).length = V at MO FI
  generalize ending l.length = E at *
  obtain ⟨NE, hNE⟩ : ∃ N, N = E.length := ⟨_, rfl⟩
  rw [← hNE] at MO EN lE
  clear hNE
  have hS1 : stc l = cells3 (wordsOf l).list (tailOf l) l.length := rfl
  rw [← hS1] at hat
  clear hS1
  generalize l.length = n at *
  generalize stc l = C at *
  have hw36 : (Tryd.prog.info? 36).map (·.size) = some (vws ws.list).length := size36
  go_enter Tryd.func16, Tryd.ntmps16
  go_wp2_with (first
    | ((with_reducible show wpList _ _ _ _ _ _); first
      | (refine wp_box _ rfl 40 (.tmp 0) rfl C rfl ?_; intro w1 g1 hB1 hf1; simp only [Act.put, List.setIfInBounds_toArray, List.set_cons_zero, List.set_cons_succ])
      | (refine wp_new _ rfl 25 rfl _ zero25 ?_; intro w2 g2 hB2 hf2; simp only [Act.put, List.setIfInBounds_toArray, List.set_cons_zero, List.set_cons_succ])))
  have hz1 := hf1.is
  have hz2 := hf2.is
  have hs1 := hf1.size
  have hs2 := hf2.size
  have bel : Below w.heap.size w w2 := hf1.below.trans (hf2.below.mono (by omega))
  have D1 := hf2.blk hB1
  have T2 := ht.below bel
  have LB : Hid (w.heap.size ≤ g1 ∧ g1 < g2 ∧ w2.heap.size = g2 + 1) := by refine ⟨?_, ?_, ?_⟩ <;> omega
  clear hz1 hz2 hs1 hs2 hf1 hf2 hB1
  have hS0 : Kept w2 w2.drew := (Kept.refl w2).drew
  have cN := D1.cell hat
  refine Code.wp_mono (Q := fun e a' w' => e = .normal ∧ ∃ g3 A c, a' = ⟨#[.agg C.toArray, .pointer (some ⟨g1, 0, none⟩), .pointer (some ⟨g2, 0, none⟩), .pointer (some ⟨g3, 0, none⟩), undef, undef, .agg C.toArray, .pointer (some ⟨g1, 72, none⟩), .int .u64 (n : Int), .slice A NE c, .agg V.toArray, .agg (vws ws.list).toArray, undef, undef, undef, undef, undef, undef, undef, undef, undef, undef, undef, undef, undef, undef, undef, undef, undef], []⟩ ∧ Kept w2 w' ∧ w2.heap.size ≤ g3 ∧ Blk w' g3 36 (vws ws.list)) ?imp ?reg
  case reg =>
    refine wp_region_held_drew (S := fun W => Kept w2 W) (by kernel_rfl) hS0 (fun hS => ?_)
    refine wpAnyH_take (i := 0) (oi := ⟨some 6, _, _, _, _, _⟩) (v := _) rfl (by kernel_rfl) (by kernel_rfl) (by kernel_rfl) (fun _ _ _ h => by cases h.1) (yieldsIf_load_mid (by rfl) 40 (.tmp 1) rfl g1 0 rfl C _ (fun W hW => (D1.kept hW).whole) Tryd.underlying40 rfl z40) hS ?_
    simp only [Act.put, List.setIfInBounds_toArray, List.set_cons_zero, List.set_cons_succ]
    refine wpAnyH_take (i := 1) (oi := ⟨some 7, _, _, _, _, _⟩) (v := ?va1) rfl (by kernel_rfl) (by kernel_rfl) (by kernel_rfl) (fun _ _ _ h => by cases h.1) (Or.inl ⟨by rfl, ?ya1⟩) hS ?ra1
    case ya1 => intro W hW; go_simp; first | done | with_reducible rfl
    simp only [Act.put, List.setIfInBounds_toArray, List.set_cons_zero, List.set_cons_succ]
    refine wpAnyH_take (i := 2) (oi := ⟨some 8, _, _, _, _, _⟩) (v := ?va2) rfl (by kernel_rfl) (by kernel_rfl) (by kernel_rfl) (fun _ _ _ h => by cases h.1) (Or.inl ⟨by rfl, ?ya2⟩) hS ?ra2
    case ya2 => intro W hW; have cW := (D1.kept hW).cell hat; go_simp; first | done | with_reducible rfl
    simp only [Act.put, List.setIfInBounds_toArray, List.set_cons_zero, List.set_cons_succ]
    have hK0 := hS
    refine wpAnyH_ready (rs := [3, 6]) (by kernel_rfl) (by simp) ?_
    refine (AllReadyH.cons (o := ⟨some 9, _, _, _, _, _⟩) rfl (fun K hK => ?_) (AllReadyH.cons (o := ⟨some 3, _, _, _, _, _⟩) rfl (fun K hK => ?_) AllReadyH.nil))
    · go_simp
      refine (EN _).mono ?_
      rintro e w4 ⟨A, c, rfl, hc1, hc2, hA, hb4⟩
      have hK4 : Kept w2 w4 := hK0.step hb4
      refine hK.out _ _ hK4 (fun _ => ?_)
      clear hK K
      try simp only [Act.put, List.setIfInBounds_toArray, List.set_cons_zero, List.set_cons_succ]
      refine wpAnyH_ready (rs := [4, 6]) (by kernel_rfl) (by simp) ?_
      refine (AllReadyH.cons (o := ⟨some 10, _, _, _, _, _⟩) rfl (fun K hK => ?_) (AllReadyH.cons (o := ⟨some 3, _, _, _, _, _⟩) rfl (fun K hK => ?_) AllReadyH.nil))
      · go_simp
        refine (MO A c _ (T2.below hK4) hA hc1 hc2).mono ?_
        rintro e w5 ⟨rfl, hb5⟩
        have hK5 : Kept w2 w5 := hK4.step hb5
        refine hK.out _ _ hK5 (fun _ => ?_)
        clear hK K
        try simp only [Act.put, List.setIfInBounds_toArray, List.set_cons_zero, List.set_cons_succ]
        refine wpAnyH_take (i := 5) (oi := ⟨some 11, _, _, _, _, _⟩) (v := ?vb5) rfl (by kernel_rfl) (by kernel_rfl) (by kernel_rfl) (fun _ _ _ h => by cases h.1) (Or.inl ⟨by rfl, ?yb5⟩) hK5 ?rb5
        case yb5 => intro W hW; have f1 := FI W; go_simp; first | done | with_reducible rfl
        simp only [Act.put, List.setIfInBounds_toArray, List.set_cons_zero, List.set_cons_succ]
        refine wpAnyH_ready (rs := [6]) (by kernel_rfl) (by simp) ?_
        refine (AllReadyH.cons (o := ⟨some 3, _, _, _, _, _⟩) rfl (fun K hK => ?_) AllReadyH.nil)
        refine step_new _ rfl 36 rfl _ zero36 ?_
        intro w6 g3 B6 F6
        have hK6 : Kept w2 w6 := hK5.step F6.below
        have G3 : w2.heap.size ≤ g3 := by rw [F6.is]; exact hK5.size
        refine hK.out _ _ hK6 (fun _ => ?_)
        clear hK K
        simp only [Act.put, List.setIfInBounds_toArray, List.set_cons_zero, List.set_cons_succ]
        refine wpAnyH_ready (rs := [7]) (by kernel_rfl) (by simp) ?_
        refine (AllReadyH.cons (o := ⟨none, _, _, _, _, _⟩) rfl (fun K hK => ?_) AllReadyH.nil)
        refine step_putAll _ rfl 36 (.tmp 3) (.tmp 11) rfl g3 36 _ (vws ws.list) rfl rfl B6 rfl hw36 (vws_one _) ?_
        intro w9 B9 U9
        have hK9 : Kept w2 w9 := hK6.base (U9.below G3)
        refine hK.out _ _ hK9 (fun _ => ?_)
        clear hK K
        refine wpAnyH_done (by kernel_rfl) ?_ _
        exact ⟨rfl, g3, A, c, rfl, hK9, G3, B9⟩
      · refine step_new _ rfl 36 rfl _ zero36 ?_
        intro w5 g3 B5 F5
        have hK5 : Kept w2 w5 := hK4.step F5.below
        have G3 : w2.heap.size ≤ g3 := by rw [F5.is]; exact hK4.size
        have hA5 := (hA.below F5.below).more F5.below.size
        refine hK.out _ _ hK5 (fun _ => ?_)
        clear hK K
        simp only [Act.put, List.setIfInBounds_toArray, List.set_cons_zero, List.set_cons_succ]
        refine wpAnyH_ready (rs := [4]) (by kernel_rfl) (by simp) ?_
        refine (AllReadyH.cons (o := ⟨some 10, _, _, _, _, _⟩) rfl (fun K hK => ?_) AllReadyH.nil)
        go_simp
        refine (MO A c _ (T2.below hK5) hA5 hc1 hc2).mono ?_
        rintro e w6 ⟨rfl, hb6⟩
        have hK6 : Kept w2 w6 := hK5.step hb6
        have B6 := B5.kept hb6
        refine hK.out _ _ hK6 (fun _ => ?_)
        clear hK K
        try simp only [Act.put, List.setIfInBounds_toArray, List.set_cons_zero, List.set_cons_succ]
        refine wpAnyH_take (i := 5) (oi := ⟨some 11, _, _, _, _, _⟩) (v := ?vc5) rfl (by kernel_rfl) (by kernel_rfl) (by kernel_rfl) (fun _ _ _ h => by cases h.1) (Or.inl ⟨by rfl, ?yc5⟩) hK6 ?rc5
        case yc5 => intro W hW; have f1 := FI W; go_simp; first | done | with_reducible rfl
        simp only [Act.put, List.setIfInBounds_toArray, List.set_cons_zero, List.set_cons_succ]
        refine wpAnyH_ready (rs := [7]) (by kernel_rfl) (by simp) ?_
        refine (AllReadyH.cons (o := ⟨none, _, _, _, _, _⟩) rfl (fun K hK => ?_) AllReadyH.nil)
        refine step_putAll _ rfl 36 (.tmp 3) (.tmp 11) rfl g3 36 _ (vws ws.list) rfl rfl B6 rfl hw36 (vws_one _) ?_
        intro w9 B9 U9
        have hK9 : Kept w2 w9 := hK6.base (U9.below G3)
        refine hK.out _ _ hK9 (fun _ => ?_)
        clear hK K
        refine wpAnyH_done (by kernel_rfl) ?_ _
        exact ⟨rfl, g3, A, c, rfl, hK9, G3, B9⟩
    · refine step_new _ rfl 36 rfl _ zero36 ?_
      intro w4 g3 B4 F4
      have hK4 : Kept w2 w4 := hK0.step F4.below
      have G3 : w2.heap.size ≤ g3 := by rw [F4.is]; exact hK0.size
      refine hK.out _ _ hK4 (fun _ => ?_)
      clear hK K
      simp only [Act.put, List.setIfInBounds_toArray, List.set_cons_zero, List.set_cons_succ]
      refine wpAnyH_ready (rs := [3]) (by kernel_rfl) (by simp) ?_
      refine (AllReadyH.cons (o := ⟨some 9, _, _, _, _, _⟩) rfl (fun K hK => ?_) AllReadyH.nil)
      go_simp
      refine (EN _).mono ?_
      rintro e w5 ⟨A, c, rfl, hc1, hc2, hA, hb5⟩
      have hK5 : Kept w2 w5 := hK4.step hb5
      have B5 := B4.kept hb5
      refine hK.out _ _ hK5 (fun _ => ?_)
      clear hK K
      try simp only [Act.put, List.setIfInBounds_toArray, List.set_cons_zero, List.set_cons_succ]
      refine wpAnyH_ready (rs := [4]) (by kernel_rfl) (by simp) ?_
      refine (AllReadyH.cons (o := ⟨some 10, _, _, _, _, _⟩) rfl (fun K hK => ?_) AllReadyH.nil)
      go_simp
      refine (MO A c _ (T2.below hK5) hA hc1 hc2).mono ?_
      rintro e w6 ⟨rfl, hb6⟩
      have hK6 : Kept w2 w6 := hK5.step hb6
      have B6 := B5.kept hb6
      refine hK.out _ _ hK6 (fun _ => ?_)
      clear hK K
      try simp only [Act.put, List.setIfInBounds_toArray, List.set_cons_zero, List.set_cons_succ]
      refine wpAnyH_take (i := 5) (oi := ⟨some 11, _, _, _, _, _⟩) (v := ?vd5) rfl (by kernel_rfl) (by kernel_rfl) (by kernel_rfl) (fun _ _ _ h => by cases h.1) (Or.inl ⟨by rfl, ?yd5⟩) hK6 ?rd5
      case yd5 => intro W hW; have f1 := FI W; go_simp; first | done | with_reducible rfl
      simp only [Act.put, List.setIfInBounds_toArray, List.set_cons_zero, List.set_cons_succ]
      refine wpAnyH_ready (rs := [7]) (by kernel_rfl) (by simp) ?_
      refine (AllReadyH.cons (o := ⟨none, _, _, _, _, _⟩) rfl (fun K hK => ?_) AllReadyH.nil)
      refine step_putAll _ rfl 36 (.tmp 3) (.tmp 11) rfl g3 36 _ (vws ws.list) rfl rfl B6 rfl hw36 (vws_one _) ?_
      intro w9 B9 U9
      have hK9 : Kept w2 w9 := hK6.base (U9.below G3)
      refine hK.out _ _ hK9 (fun _ => ?_)
      clear hK K
      refine wpAnyH_done (by kernel_rfl) ?_ _
      exact ⟨rfl, g3, A, c, rfl, hK9, G3, B9⟩
  case imp =>
    rintro e a' w4 ⟨rfl, g3, A, c, rfl, hK4, G3, B3⟩
    have belr : Below w.heap.size w w4 := bel.trans (hK4.mono bel.size)
    have E2 := hB2.kept hK4
    obtain ⟨L1, L2, L3⟩ := LB.out
    have L4 : g2 < g3 := by omega
    clear hK4 hS0 T2 D1 cN bel hB2 z40 MO FI EN G3 LB L3
    go_wp2_with (first
      | ((with_reducible show wpList _ _ _ _ _ _); first
        | (refine wp_new _ rfl 25 rfl _ zero25 ?_; intro w5 g4 B4 hf4; simp only [Act.put, List.setIfInBounds_toArray, List.set_cons_zero, List.set_cons_succ])))
    have E5 := hf4.blk E2
    have B5 := hf4.blk B3
    have bel5 : Below w.heap.size w w5 := belr.trans (hf4.below.mono belr.size)
    have L5 : g3 < g4 := by
      have := B3.lt
      have := hf4.is
      omega
    have HLL : Hid (w.heap.size ≤ g1 ∧ g1 < g2 ∧ g2 < g3 ∧ g3 < g4) := ⟨L1, L2, L4, L5⟩
    have B4' : Blk w5 g4 25 (digk ws.list 0) := by rw [digk_none]; exact B4
    clear B4 hf4 B3 belr E2 L1 L2 L4 L5
    go_loopw [12] (fun v wr => ∃ k : Nat, k ≤ 32 ∧ v = .int .i64 k ∧ Blk wr g2 25 (vbs (List.replicate 32 0)) ∧ Blk wr g3 36 (vws ws.list) ∧ Blk wr g4 25 (digk ws.list k) ∧ Below w.heap.size w wr) (fun v _ => 32 - (intOf v).toNat)
    case atStart => exact ⟨0, by omega, rfl, E5, B5, B4', bel5⟩
    case round =>
      obtain ⟨k, hk, rfl, C2, C3, C4, belr⟩ := hrel
      by_cases hlt : k < 32
      · have h4 : k / 4 < 8 := by omega
        have cx := C3.cell (list_get ws (k / 4) h4)
        have lx := list_getD_lt hwk (k / 4)
        have HS := Lib.hid (digk_set ws.list k hlt)
        rw [vw] at cx
        generalize ws.list.getD (k / 4) 0 = x at *
        obtain ⟨sh, hsh⟩ : ∃ sh, 24 - 8 * (k % 4) = sh := ⟨_, rfl⟩
        rw [hsh] at HS
        obtain ⟨a, ha⟩ : ∃ a, k / 4 = a := ⟨_, rfl⟩
        rw [ha] at cx h4
        obtain ⟨r, hr⟩ : ∃ r, k % 4 = r := ⟨_, rfl⟩
        have e1 : (k : Int) / 4 = (a : Int) := by omega
        have e2 : (k : Int) % 4 = (r : Int) := by omega
        have e3 : (24 : Int) - 8 * (r : Int) = (sh : Int) := by omega
        have ls : sh ≤ 24 := by omega
        have lr : r < 4 := by omega
        obtain ⟨y, hy, e4⟩ : ∃ y : Nat, x / 2 ^ sh = y ∧ (x : Int) / 2 ^ sh = (y : Int) := ⟨_, rfl, by simp⟩
        rw [hy] at HS
        have e5 := byte_int y
        rw [vb] at HS
        generalize (UInt8.ofNat y).toNat = z at *
        have lC := digk_length ws.list k hk
        have lC' : k < (digk ws.list k).length := by rw [lC]; exact hlt
        have i1 : (a : Int) < 8 := by omega
        clear hsh ha hr hy lC
        go_wp2_with (first
          | ((with_reducible show wpList _ _ _ _ _ _); first
            | (refine wp_set _ rfl 5 (.tmp 26) (.tmp 25) rfl g4 k 25 _ _ rfl rfl rfl rfl C4 lC' size5 ?_; intro w6 F4 U6; simp only [Act.put])))
        go_roundw
        case rel =>
          obtain ⟨L1, L2, L4, L5⟩ := HLL.out
          refine ⟨k + 1, by omega, by go_num, C2.upd U6 (by omega), C3.upd U6 (by omega), ?_, belr.trans (U6.below (by omega))⟩
          rw [← HS.out, ← e5]
          exact F4
        case measure => simp [intOf]; omega
      · have hk32 : k = 32 := by omega
        subst hk32
        rw [digk_all] at C4
        have HV : Hid (vbs (dig ws.list) = vbs (digest l)) := by show _ = _; rw [HD.out]
        have z25 : (Tryd.prog.info? 25).map (·.size) = some (vbs (dig ws.list)).length := by rw [vbs_length, dig_length]; exact size25
        have n25 : (vbs (dig ws.list)).length = (vbs (List.replicate 32 0)).length := by rw [vbs_length, dig_length]; rfl
        have o25 := vbs_one (dig ws.list)
        obtain ⟨L1, L2, L4, L5⟩ := HLL.out
        generalize vbs (dig ws.list) = V8 at *
        go_wp2_with (first
          | ((with_reducible show wpList _ _ _ _ _ _); first
            | (refine wp_get _ rfl 25 (.tmp 4) rfl _ 0 V8 _ rfl C4.whole Tryd.underlying25 rfl z25 ?_; simp only [Act.put, List.setIfInBounds_toArray, List.set_cons_zero, List.set_cons_succ])
            | (refine wp_putAll _ rfl 25 (.tmp 2) (.tmp 28) rfl g2 25 _ V8 rfl rfl C2 n25 z25 o25 ?_; intro w6 F3 U6; simp only [Act.put]))
          | ((with_reducible show bodyPost _ _ _ _ _ _); refine ret_cell 2 25 rfl g2 V8 _ rfl F3.whole Tryd.underlying25 rfl z25 rfl ⟨?_, belr.trans (U6.below (by omega))⟩; rw [HV.out]))

set_option maxHeartbeats 1000000 in
theorem sum_any (A : Option Addr) (n c : Nat) (l : List UInt8) (w : World) (ht : Tab w) (h : Bs w w.heap.size A n l) (hc : n ≤ c) (hcm : c ≤ 9223372036854775807) (hn : n ≤ 1000000000) :
    Calls Tryd.prog 11 #[.slice A n c] w fun e w' => e = .returned (.agg (vbs (digest l)).toArray) ∧ Below w.heap.size w w' := by
  have hl := h.1
  have z25 : (Tryd.prog.info? 25).map (·.size) = some (vbs (digest l)).length := by rw [vbs_length, digest_length]; exact size25
  have n25 : (vbs (digest l)).length = (vbs (List.replicate 32 0)).length := by rw [vbs_length, digest_length]; rfl
  have o25 := vbs_one (digest l)
  have ST := start_any
  have MO := fun w h1 h2 => more_any [] A n c l w h1 h2 hc hcm (by simp; omega)
  have SU := fun w h1 => stateSum_any l w h1 (by omega)
  rw [List.nil_append] at MO
  generalize vbs (digest l) = V at *
  generalize stc l = S1 at *
  generalize stc [] = S0 at *
  go_enter Tryd.func11, Tryd.ntmps11
  go_wp2_with (first
    | ((with_reducible show wpList _ _ _ _ _ _); first
      | (refine wp_new _ rfl 25 rfl _ zero25 ?_; intro w1 g1 B1 hf1; simp only [Act.put, List.setIfInBounds_toArray, List.set_cons_zero, List.set_cons_succ])))
  refine (ST w1 (ht.below hf1.below)).mono ?_
  rintro e w2 ⟨rfl, hb2⟩
  have bel2 : Below w.heap.size w w2 := hf1.below.trans (hb2.mono hf1.below.size)
  go_wp2_with fail
  refine (MO w2 (ht.below bel2) ((h.below bel2).more bel2.size)).mono ?_
  rintro e w3 ⟨rfl, hb3⟩
  have bel3 : Below w.heap.size w w3 := bel2.trans (hb3.mono bel2.size)
  go_wp2_with fail
  refine (SU w3 (ht.below bel3)).mono ?_
  rintro e w4 ⟨rfl, hb4⟩
  have bel4 : Below w.heap.size w w4 := bel3.trans (hb4.mono bel3.size)
  have B4 := ((B1.kept hb2).kept hb3).kept hb4
  go_wp2_with (first
    | ((with_reducible show wpList _ _ _ _ _ _); first
      | (refine wp_putAll _ rfl 25 (.tmp 2) (.tmp 6) rfl g1 25 _ V rfl rfl B4 n25 z25 o25 ?_; intro w6 F3 U6; simp only [Act.put]))
    | ((with_reducible show bodyPost _ _ _ _ _ _); refine ret_cell 2 25 rfl g1 V _ rfl F3.whole Tryd.underlying25 rfl z25 rfl ⟨rfl, bel4.trans (U6.below (Nat.le_of_eq hf1.is.symm))⟩))
end Go.Proofs.YtiigmpoopmnnhaaDoor
