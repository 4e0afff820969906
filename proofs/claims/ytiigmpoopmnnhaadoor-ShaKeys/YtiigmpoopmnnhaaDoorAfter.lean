/-
  What eight.after answers: the eight words that a block makes; nothing that was in memory turns. Conditions: the tables hold what the program's text lays; the block has 64 bytes.
-/
import Derived.Test.YtiigmpoopmnnhaaDoorRounds
namespace Go.Proofs.YtiigmpoopmnnhaaDoor
open Go.RowKit

section
variable {ops : Array Oper} {o : Oper} {a : Act} {K : Act → World → Prop} {Q : Exit → Act → World → Prop} {E : Prop}
/-- 'var x T' inside a region that draws its order. -/
theorem step_new (w : World) (hgd : o.guard = none) (t : TypeId) (ho : o.op = .alloc t) (Z : List Value) (hz : (Tryd.prog.info? t).map (fun i => i.zero) = some (some (.agg Z.toArray)))
    (h : ∀ w' g, Blk w' g t Z → Fresh w w' g → K (a.put o.dst (.pointer (some ⟨g, 0, none⟩))) w') :
    if Region.wanted o (yielded ops a.tmps) = true then Oper.wp Tryd.prog o a w K Q else E := by
  have hw : Region.wanted o (yielded ops a.tmps) = true := by simp [Region.wanted, hgd]
  rw [if_pos hw]
  have h := h (w.alloc (.cells Z.toArray t)) _ (Blk.new w t Z) (Fresh.alloc w _)
  have hzv : ∀ w, (zeroValue t).run Tryd.prog w = .ok (.agg Z.toArray) w := by
    intro w
    cases hq : Tryd.prog.info? t with
    | none => simp [hq] at hz
    | some i =>
      simp [hq] at hz
      simp [zeroValue, typeInfo, hq, hz]
  unfold Oper.wp execOp
  simp only [ho, Instr.alloc, Sem.run_bind, hzv, Result.andThen_ok, Sem.run_pure, newVar, newRow, newObj, Value.cells]
  exact h
/-- A whole array is stored into its variable. -/
theorem step_putAll (w : World) (hgd : o.guard = none) (t : TypeId) (x y : Operand) (ho : o.op = .store t x y) (b : Nat) (t0 : TypeId) (C cs : List Value)
    (hx : a.eval x = .pointer (some ⟨b, 0, none⟩)) (hy : a.eval y = .agg cs.toArray) (hb : Blk w b t0 C) (hn : cs.length = C.length) (hi : (Tryd.prog.info? t).map (·.size) = some cs.length) (h1 : ∀ u ∈ cs, u.oneCell' = true)
    (h : ∀ w', Blk w' b t0 cs → Upd b w w' → K (a.put o.dst undef) w') : if Region.wanted o (yielded ops a.tmps) = true then Oper.wp Tryd.prog o a w K Q else E := by
  have hw : Region.wanted o (yielded ops a.tmps) = true := by simp [Region.wanted, hgd]
  rw [if_pos hw]
  have e : C.take 0 ++ cs ++ C.drop (0 + cs.length) = cs := by
    rw [List.drop_eq_nil_of_le (by omega)]
    simp
  have hw' := setCells_blk b t0 cs 0 w C hb (by omega)
  rw [e] at hw'
  exact wp_store_mid t x y ho b 0 cs.toArray hx hy (by simpa using hb.there (o := 0) (n := cs.length) (by omega)) (by simpa using hi) (all_oneCell_toArray h1) (h _ hw' (Upd.setCells b cs 0 w))
end

/-- The eight words, the first k of them with what is added. -/
def addk (s r : E8) (k : Nat) : List Nat := (plus s r).list.take k ++ s.list.drop k
theorem lt8 {k : Nat} (h : k < 8) : k = 0 ∨ k = 1 ∨ k = 2 ∨ k = 3 ∨ k = 4 ∨ k = 5 ∨ k = 6 ∨ k = 7 := by omega
theorem addk_get (s r : E8) (k : Nat) (h : k < 8) : (vws (addk s r k))[k]? = some (vw (s.list.getD k 0)) := by
  rcases lt8 h with rfl | rfl | rfl | rfl | rfl | rfl | rfl | rfl <;> rfl
theorem addk_set (s r : E8) (k : Nat) (h : k < 8) : (vws (addk s r k)).set k (vw (add (s.list.getD k 0) (r.list.getD k 0))) = vws (addk s r (k + 1)) := by
  rcases lt8 h with rfl | rfl | rfl | rfl | rfl | rfl | rfl | rfl <;> rfl
theorem addk_all (s r : E8) : addk s r 8 = (plus s r).list := rfl

set_option maxHeartbeats 2000000 in
set_option maxRecDepth 100000 in
theorem after_any (s : E8) (b : List UInt8) (w : World) (ht : Tab w) (hs : s.ok) (hb : b.length = 64) :
    Calls Tryd.prog 24 #[.agg (vws s.list).toArray, .agg (vbs b).toArray] w fun e w' => e = .returned (.agg (vws (after s b).list).toArray) ∧ Below w.heap.size w w' := by
  have hb37 : (Tryd.prog.info? 37).map (·.size) = some (vbs b).length := by rw [vbs_length, hb]; exact size37
  have hs36 : (Tryd.prog.info? 36).map (·.size) = some (vws s.list).length := size36
  obtain ⟨r, hr⟩ : ∃ r, r = rounds s (sch b 64) 64 := ⟨_, rfl⟩
  have HA : Hid (after s b = plus s r) := by show _ = _; rw [hr]; rfl
  have hrk : r.ok := by rw [hr]; exact rounds_ok hs _ _
  have hr36 : (Tryd.prog.info? 36).map (·.size) = some (vws r.list).length := size36
  have ST := fun w => stretched_any b w hb
  have RN := fun w (h : Tab w) => rounded_any (sch b 64) s w h (sch_length b 64) (fun i hi => sch_lt b hi) hs
  rw [← hr] at RN
  clear hr
  generalize vws (sch b 64) = V at ST RN
  go_enter Tryd.func24, Tryd.ntmps24
  go_wp2_with (first
    | (refine wp_box _ rfl 36 (.tmp 0) rfl (vws s.list) rfl ?_; intro w1 g1 hB1 hf1)
    | (refine wp_box _ rfl 37 (.tmp 1) rfl (vbs b) rfl ?_; intro w2 g2 hB2 hf2)
    | (refine wp_new _ rfl 36 rfl _ zero36 ?_; intro w3 g3 hB3 hf3))
  have hz1 := hf1.is
  have hz2 := hf2.is
  have hz3 := hf3.is
  have hs1 := hf1.size
  have hs2 := hf2.size
  have hs3 := hf3.size
  have bel : Below w.heap.size w w3 := (hf1.below.trans (hf2.below.mono (by omega))).trans (hf3.below.mono (by omega))
  have D1 := hf3.blk (hf2.blk hB1)
  have D2 := hf3.blk hB2
  have T3 := ht.below bel
  have LB : Hid (w.heap.size ≤ g1 ∧ g1 < g2 ∧ g2 < g3 ∧ w3.heap.size = g3 + 1) := by refine ⟨?_, ?_, ?_, ?_⟩ <;> omega
  clear hz1 hz2 hz3 hs1 hs2 hs3 hf1 hf2 hf3 hB1 hB2 ht
  have hS0 : Kept w3 w3.drew := (Kept.refl w3).drew
  refine Code.wp_mono (Q := fun e a' w' => e = .normal ∧ ∃ g5, a' = ⟨#[.agg (vws s.list).toArray, .agg (vbs b).toArray, .pointer (some ⟨g1, 0, none⟩), .pointer (some ⟨g2, 0, none⟩), .pointer (some ⟨g3, 0, none⟩), .pointer (some ⟨g5, 0, none⟩), undef, undef, .agg (vbs b).toArray, .agg V.toArray, .agg (vws s.list).toArray, .agg (vws r.list).toArray, undef, undef, undef, undef, undef, undef, undef, undef, undef, undef, undef, undef, undef], []⟩ ∧ Kept w3 w' ∧ w3.heap.size ≤ g5 ∧ Blk w' g5 36 (vws r.list)) ?imp ?reg
  case reg =>
    refine wp_region_held_drew (S := fun W => Kept w3 W) (by kernel_rfl) hS0 (fun hS => ?_)
    refine wpAnyH_take (i := 0) (oi := ⟨some 8, _, _, _, _, _⟩) (v := _) rfl (by kernel_rfl) (by kernel_rfl) (by kernel_rfl) (fun _ _ _ h => by cases h.1) (yieldsIf_load_mid (by rfl) 37 (.tmp 3) rfl g2 0 rfl (vbs b) _ (fun W hW => (D2.kept hW).whole) Tryd.underlying37 rfl hb37) hS ?_
    simp only [Act.put, List.setIfInBounds_toArray, List.set_cons_zero, List.set_cons_succ]
    refine wpAnyH_take (i := 2) (oi := ⟨some 10, _, _, _, _, _⟩) (v := _) rfl (by kernel_rfl) (by kernel_rfl) (by kernel_rfl) (fun _ _ _ h => by cases h.1) (yieldsIf_load_mid (by rfl) 36 (.tmp 2) rfl g1 0 rfl (vws s.list) _ (fun W hW => (D1.kept hW).whole) Tryd.underlying36 rfl hs36) hS ?_
    simp only [Act.put, List.setIfInBounds_toArray, List.set_cons_zero, List.set_cons_succ]
    have hK0 := hS
    refine wpAnyH_ready (rs := [1, 4]) (by kernel_rfl) (by simp) ?_
    refine (AllReadyH.cons (o := ⟨some 9, _, _, _, _, _⟩) rfl (fun K hK => ?_) (AllReadyH.cons (o := ⟨some 5, _, _, _, _, _⟩) rfl (fun K hK => ?_) AllReadyH.nil))
    · go_simp
      refine (ST _).mono ?_
      rintro e w4 ⟨rfl, hb4⟩
      have hK4 : Kept w3 w4 := hK0.step hb4
      refine hK.out _ _ hK4 (fun _ => ?_)
      clear hK K
      try simp only [Act.put, List.setIfInBounds_toArray, List.set_cons_zero, List.set_cons_succ]
      refine wpAnyH_ready (rs := [3, 4]) (by kernel_rfl) (by simp) ?_
      refine (AllReadyH.cons (o := ⟨some 11, _, _, _, _, _⟩) rfl (fun K hK => ?_) (AllReadyH.cons (o := ⟨some 5, _, _, _, _, _⟩) rfl (fun K hK => ?_) AllReadyH.nil))
      · go_simp
        refine (RN _ (T3.below hK4)).mono ?_
        rintro e w5 ⟨rfl, hb5⟩
        have hK5 : Kept w3 w5 := hK4.step hb5
        refine hK.out _ _ hK5 (fun _ => ?_)
        clear hK K
        try simp only [Act.put, List.setIfInBounds_toArray, List.set_cons_zero, List.set_cons_succ]
        refine wpAnyH_ready (rs := [4]) (by kernel_rfl) (by simp) ?_
        refine (AllReadyH.cons (o := ⟨some 5, _, _, _, _, _⟩) rfl (fun K hK => ?_) AllReadyH.nil)
        refine step_new _ rfl 36 rfl _ zero36 ?_
        intro w6 g5 B6 F6
        have hK6 : Kept w3 w6 := hK5.step F6.below
        have G5 : w3.heap.size ≤ g5 := by rw [F6.is]; exact hK5.size
        refine hK.out _ _ hK6 (fun _ => ?_)
        clear hK K
        simp only [Act.put, List.setIfInBounds_toArray, List.set_cons_zero, List.set_cons_succ]
        refine wpAnyH_ready (rs := [5]) (by kernel_rfl) (by simp) ?_
        refine (AllReadyH.cons (o := ⟨none, _, _, _, _, _⟩) rfl (fun K hK => ?_) AllReadyH.nil)
        refine step_putAll _ rfl 36 (.tmp 5) (.tmp 11) rfl g5 36 _ (vws r.list) rfl rfl B6 rfl hr36 (vws_one _) ?_
        intro w9 B9 U9
        have hK9 : Kept w3 w9 := hK6.base (U9.below G5)
        refine hK.out _ _ hK9 (fun _ => ?_)
        clear hK K
        refine wpAnyH_done (by kernel_rfl) ?_ _
        exact ⟨rfl, g5, rfl, hK9, G5, B9⟩
      · refine step_new _ rfl 36 rfl _ zero36 ?_
        intro w5 g5 B5 F5
        have hK5 : Kept w3 w5 := hK4.step F5.below
        have G5 : w3.heap.size ≤ g5 := by rw [F5.is]; exact hK4.size
        refine hK.out _ _ hK5 (fun _ => ?_)
        clear hK K
        simp only [Act.put, List.setIfInBounds_toArray, List.set_cons_zero, List.set_cons_succ]
        refine wpAnyH_ready (rs := [3]) (by kernel_rfl) (by simp) ?_
        refine (AllReadyH.cons (o := ⟨some 11, _, _, _, _, _⟩) rfl (fun K hK => ?_) AllReadyH.nil)
        go_simp
        refine (RN _ (T3.below hK5)).mono ?_
        rintro e w6 ⟨rfl, hb6⟩
        have hK6 : Kept w3 w6 := hK5.step hb6
        have B6 := B5.kept hb6
        refine hK.out _ _ hK6 (fun _ => ?_)
        clear hK K
        try simp only [Act.put, List.setIfInBounds_toArray, List.set_cons_zero, List.set_cons_succ]
        refine wpAnyH_ready (rs := [5]) (by kernel_rfl) (by simp) ?_
        refine (AllReadyH.cons (o := ⟨none, _, _, _, _, _⟩) rfl (fun K hK => ?_) AllReadyH.nil)
        refine step_putAll _ rfl 36 (.tmp 5) (.tmp 11) rfl g5 36 _ (vws r.list) rfl rfl B6 rfl hr36 (vws_one _) ?_
        intro w9 B9 U9
        have hK9 : Kept w3 w9 := hK6.base (U9.below G5)
        refine hK.out _ _ hK9 (fun _ => ?_)
        clear hK K
        refine wpAnyH_done (by kernel_rfl) ?_ _
        exact ⟨rfl, g5, rfl, hK9, G5, B9⟩
    · refine step_new _ rfl 36 rfl _ zero36 ?_
      intro w4 g5 B4 F4
      have hK4 : Kept w3 w4 := hK0.step F4.below
      have G5 : w3.heap.size ≤ g5 := by rw [F4.is]; exact hK0.size
      refine hK.out _ _ hK4 (fun _ => ?_)
      clear hK K
      simp only [Act.put, List.setIfInBounds_toArray, List.set_cons_zero, List.set_cons_succ]
      refine wpAnyH_ready (rs := [1]) (by kernel_rfl) (by simp) ?_
      refine (AllReadyH.cons (o := ⟨some 9, _, _, _, _, _⟩) rfl (fun K hK => ?_) AllReadyH.nil)
      go_simp
      refine (ST _).mono ?_
      rintro e w5 ⟨rfl, hb5⟩
      have hK5 : Kept w3 w5 := hK4.step hb5
      have B5 := B4.kept hb5
      refine hK.out _ _ hK5 (fun _ => ?_)
      clear hK K
      try simp only [Act.put, List.setIfInBounds_toArray, List.set_cons_zero, List.set_cons_succ]
      refine wpAnyH_ready (rs := [3]) (by kernel_rfl) (by simp) ?_
      refine (AllReadyH.cons (o := ⟨some 11, _, _, _, _, _⟩) rfl (fun K hK => ?_) AllReadyH.nil)
      go_simp
      refine (RN _ (T3.below hK5)).mono ?_
      rintro e w6 ⟨rfl, hb6⟩
      have hK6 : Kept w3 w6 := hK5.step hb6
      have B6 := B5.kept hb6
      refine hK.out _ _ hK6 (fun _ => ?_)
      clear hK K
      try simp only [Act.put, List.setIfInBounds_toArray, List.set_cons_zero, List.set_cons_succ]
      refine wpAnyH_ready (rs := [5]) (by kernel_rfl) (by simp) ?_
      refine (AllReadyH.cons (o := ⟨none, _, _, _, _, _⟩) rfl (fun K hK => ?_) AllReadyH.nil)
      refine step_putAll _ rfl 36 (.tmp 5) (.tmp 11) rfl g5 36 _ (vws r.list) rfl rfl B6 rfl hr36 (vws_one _) ?_
      intro w9 B9 U9
      have hK9 : Kept w3 w9 := hK6.base (U9.below G5)
      refine hK.out _ _ hK9 (fun _ => ?_)
      clear hK K
      refine wpAnyH_done (by kernel_rfl) ?_ _
      exact ⟨rfl, g5, rfl, hK9, G5, B9⟩
  case imp =>
    rintro e a' w4 ⟨rfl, g5, rfl, hK4, G5, B5⟩
    have E1 := D1.kept hK4
    have E3 := hB3.kept hK4
    have belr : Below w.heap.size w w4 := bel.trans (hK4.mono bel.size)
    have n36 : (vws s.list).length = 8 := rfl
    clear hK4 G5 T3 hB3 D1 D2 hS0 bel hb37 ST RN
    go_wp2_with (refine wp_get _ rfl 36 (.tmp 5) rfl _ 0 (vws r.list) _ rfl B5.whole Tryd.underlying36 rfl hr36 ?_)
    clear B5
    go_loopw [13] (fun v wr => ∃ k : Nat, k ≤ 8 ∧ v = .int .i64 k ∧ Blk wr g1 36 (vws (addk s r k)) ∧ Blk wr g3 36 (vws (List.replicate 8 0)) ∧ Below w.heap.size w wr) (fun v _ => 8 - (intOf v).toNat)
    case atStart => exact ⟨0, by omega, rfl, E1, E3, belr⟩
    case round =>
      obtain ⟨k, hk, rfl, C1, C3, bel4⟩ := hrel
      by_cases hlt : k < 8
      · have cx := C1.cell (addk_get s r k hlt)
        have fz := C1.frozen k
        have hx := list_get r k hlt
        have e1 := add_int (s.list.getD k 0) (r.list.getD k 0)
        have HS := Lib.hid (addk_set s r k hlt)
        rw [vw] at cx hx
        generalize add (s.list.getD k 0) (r.list.getD k 0) = y at *
        generalize s.list.getD k 0 = x1 at *
        generalize r.list.getD k 0 = x2 at *
        go_wp2_with (refine wp_index _ rfl 36 (.tmp 12) (.tmp 13) rfl 8 34 _ Tryd.underlying36 Tryd.underlying34 rfl size34 (vws r.list) rfl k rfl hlt _ hx ?_)
        go_roundw
        case rel =>
          obtain ⟨L1, L2, L3, L4⟩ := LB.out
          refine ⟨k + 1, by omega, by go_num, ?_, C3.upd (Upd.setCell ..) (by omega), bel4.trans ((Upd.setCell ..).below L1)⟩
          rw [← HS.out]
          exact C1.set k _
        case measure => simp [intOf]; omega
      · have hk8 : k = 8 := by omega
        subst hk8
        rw [addk_all] at C1
        have HP : Hid (vws (plus s r).list = vws (after s b).list) := by show _ = _; rw [HA.out]
        have z36 : (Tryd.prog.info? 36).map (·.size) = some (vws (plus s r).list).length := size36
        have o36 := vws_one (plus s r).list
        have m36 : (vws (plus s r).list).length = (vws (List.replicate 8 0)).length := rfl
        generalize vws (plus s r).list = V8 at *
        go_wp2_with (first
          | (refine wp_get _ rfl 36 (.tmp 2) rfl _ 0 V8 _ rfl C1.whole Tryd.underlying36 rfl z36 ?_)
          | (refine wp_putAll _ rfl 36 (.tmp 4) (.tmp 24) rfl g3 36 _ V8 rfl rfl C3 m36 z36 o36 ?_; intro w6 F3 U6))
        refine ret_cell 4 36 rfl g3 V8 _ rfl F3.whole Tryd.underlying36 rfl z36 rfl ⟨by rw [HP.out], ?_⟩
        obtain ⟨L1, L2, L3, L4⟩ := LB.out
        exact bel4.trans (U6.below (by omega))
end Go.Proofs.YtiigmpoopmnnhaaDoor
