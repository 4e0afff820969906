/-
  What State.More answers: the state of the bytes so far and of those behind them; nothing that was in memory turns. Conditions: the tables hold what the program's text lays; there are at most 2000000000 bytes.
-/
import Derived.Test.YtiigmpoopmnnhaaDoorState
namespace Go.Proofs.YtiigmpoopmnnhaaDoor
open Go.RowKit

theorem size5 : (Tryd.prog.info? 5).map (·.size) = some 1 := by kernel_rfl

theorem slice37 (w : World) (g q : Nat) (h : q < 64) : (Instr.sliceAt 37 (.pointer (some ⟨g, 8, none⟩)) (some (.int .u64 (q : Int))) none none).run Tryd.prog w = .ok (.slice (some ⟨g, 8 + q, none⟩) (64 - q) (64 - q)) w := by
  have h1 : ¬ (64 = q) := by omega
  have hsz : (sizeOf 5).run Tryd.prog w = .ok 1 w := by
    have := size5
    cases hq : Tryd.prog.info? 5 with
    | none => simp [hq] at this
    | some i =>
      simp [hq] at this
      simp [sizeOf, typeInfo, hq, this]
  have h2 : q ≤ 64 := by omega
  simp [Instr.sliceAt, run_underlying Tryd.underlying37, Instr.sureAddr, Instr.sliceBounds, Instr.sliceBound, asIntOf, hsz, h1, h2, Addr.add_lit]
theorem slice25 (w : World) (g : Nat) : (Instr.sliceAt 25 (.pointer (some ⟨g, 0, none⟩)) none none none).run Tryd.prog w = .ok (.slice (some ⟨g, 0, none⟩) 32 32) w := by
  kernel_rfl
theorem slice37a (w : World) (g : Nat) : (Instr.sliceAt 37 (.pointer (some ⟨g, 0, none⟩)) none none none).run Tryd.prog w = .ok (.slice (some ⟨g, 0, none⟩) 64 64) w := by
  kernel_rfl

/-- copy into a block that is known whole, of whatever slice of bytes. -/
theorem wp_copy {ops : Array Oper} {rest : List Oper} {o : Oper} {a : Act} {Q : Exit → Act → World → Prop} (w : World) (hgd : o.guard = none) (d s : Operand)
    (ho : o.op = .call { callee := .builtin .copy, args := #[d, s], argTypes := #[22, 22] }) (g off dl dc : Nat) (hd : a.eval d = .slice (some ⟨g, off, none⟩) dl dc)
    (A : Option Addr) (n c B : Nat) (l : List UInt8) (hs : a.eval s = .slice A n c) (hr : Bs w B A n l) (m : Nat) (hm : min n dl = m) (t : TypeId) (C : List Value) (hb : Blk w g t C) (hlen : off + m ≤ C.length)
    (h : ∀ w', Blk w' g t (C.take off ++ vbs (l.take m) ++ C.drop (off + (vbs (l.take m)).length)) → Upd g w w' → wpList Tryd.prog ops Q rest (a.put o.dst (.int .i64 (m : Int))) w') : wpList Tryd.prog ops Q (o :: rest) a w := by
  have hl : (l.take m).length = m := by
    rw [List.length_take, hr.1]
    omega
  have hv : (vbs (l.take m)).length = m := by rw [vbs_length, hl]
  have key : ∃ w', (Builtin.copy_ #[22, 22] o.type #[.slice (some ⟨g, off, none⟩) dl dc, .slice A n c]).run Tryd.prog w = .ok (.int .i64 (m : Int)) w' ∧ Blk w' g t (C.take off ++ vbs (l.take m) ++ C.drop (off + (vbs (l.take m)).length)) ∧ Upd g w w' := by
    rcases A with _ | ad
    · obtain ⟨rfl, rfl⟩ := hr.nil_
      have h0 : m = 0 := by omega
      subst h0
      refine ⟨w, run_copy_none (P := Tryd.prog) w 22 22 o.type 5 _ _ dl dc 0 c Tryd.underlying22 size5 (by simp), by simpa [vbs] using hb, Upd.refl g w⟩
    · have hc := run_copy_cells (P := Tryd.prog) w 22 22 o.type 5 g off dl dc ad n c (vbs (l.take m)) Tryd.underlying22 size5 (by rw [hv]; exact hm.symm)
        (fun j u hu => by
          obtain ⟨x, hx, rfl⟩ := vbs_get hu
          have hj : j < m := by
            have := (List.getElem?_eq_some_iff.1 hx).1
            omega
          obtain ⟨b, o', e, _, hcc⟩ := hr.2 (by omega)
          injection e with e
          subst e
          rw [Addr.add_lit]
          refine hcc j x ?_
          rw [List.getElem?_take_of_lt hj] at hx
          exact hx)
        (fun j hj => (hb.there hlen j (by omega)).1) (fun j hj => (hb.there hlen j (by omega)).2) (vbs_one _)
      rw [hv] at hc
      exact ⟨_, hc, setCells_blk g t _ off w C hb (by omega), Upd.setCells g _ off w⟩
  obtain ⟨w', hrun, h1, h2⟩ := key
  refine wpList_plain hgd fun K hK => ?_
  unfold Oper.wp execOp
  simp only [ho, resolve, invoke, builtin, Sem.run_bind, Sem.run_pure, Result.andThen_ok, List.map_toArray, List.map_cons, List.map_nil, hd, hs, hrun]
  exact hK _ _ (h w' h1 h2)

/-- One cell of a block that is known whole is stored. -/
theorem wp_set {ops : Array Oper} {rest : List Oper} {o : Oper} {a : Act} {Q : Exit → Act → World → Prop} (w : World) (hgd : o.guard = none) (t : TypeId) (x y : Operand) (ho : o.op = .store t x y) (b i : Nat) (t0 : TypeId) (C : List Value) (v : Value)
    (hx : a.eval x = .pointer (some ⟨b, i, none⟩)) (hy : a.eval y = v) (hv : v.cells = #[v]) (h1 : v.oneCell' = true) (hb : Blk w b t0 C) (hi : i < C.length) (hsz : (Tryd.prog.info? t).map (·.size) = some 1)
    (h : ∀ w', Blk w' b t0 (C.set i v) → Upd b w w' → wpList Tryd.prog ops Q rest (a.put o.dst undef) w') : wpList Tryd.prog ops Q (o :: rest) a w := by
  refine wpList_plain hgd fun K hK => ?_
  have hst := run_storeCells_cells (P := Tryd.prog) b i [v] 0 w (fun j hj => (hb.there (o := i) (n := 1) (by omega) j (by simpa using hj)).1) (fun j hj => (hb.there (o := i) (n := 1) (by omega) j (by simpa using hj)).2) (by simpa using h1)
  have hrun : (storeVar t ⟨b, i, none⟩ v).run Tryd.prog w = .ok () (w.setCell ⟨b, i, none⟩ v) := by
    cases hq : Tryd.prog.info? t with
    | none => simp [hq] at hsz
    | some k =>
      have hs : k.size = 1 := by simpa [hq] using hsz
      simpa [storeVar, sizeOf, typeInfo, hq, hv, hs, World.setCells] using hst
  unfold Oper.wp execOp
  simp only [ho, hx, hy, Instr.storeAt, Instr.sureAddr, Sem.run_bind, Sem.run_pure, Result.andThen_ok, hrun]
  exact hK _ _ (h _ (hb.set i v) (Upd.setCell w b i v))
theorem size38 : (Tryd.prog.info? 38).map (·.size) = some 1 := by kernel_rfl

set_option maxHeartbeats 4000000 in
set_option maxRecDepth 100000 in
theorem more_any (l : List UInt8) (A : Option Addr) (n c : Nat) (b : List UInt8) (w : World) (ht : Tab w) (h : Bs w w.heap.size A n b) (hc : n ≤ c) (hcm : c ≤ 9223372036854775807) (hsz : l.length + n ≤ 2000000000) :
    Calls Tryd.prog 17 #[.agg (stc l).toArray, .slice A n c] w fun e w' => e = .returned (.agg (stc (l ++ b)).toArray) ∧ Below w.heap.size w w' := by
  have y40 := zero40
  have hZ : (cells3 (List.replicate 8 0) (List.replicate 64 0) 0).length = 73 := cells3_length _ (by simp) (by simp)
  generalize cells3 (List.replicate 8 0) (List.replicate 64 0) 0 = Z at y40 hZ
  go_enter Tryd.func17, Tryd.ntmps17
  go_wp2_with (first
    | ((with_reducible show wpList _ _ _ _ _ _); first
      | (refine wp_box _ rfl 40 (.tmp 0) rfl (stc l) rfl ?_; intro w1 g1 hB1 hf1; simp only [Act.put, List.setIfInBounds_toArray, List.set_cons_zero, List.set_cons_succ])
      | (refine wp_new _ rfl 40 rfl _ y40 ?_; intro w2 g2 hB2 hf2; simp only [Act.put, List.setIfInBounds_toArray, List.set_cons_zero, List.set_cons_succ])))
  have hz1 := hf1.is
  have hz2 := hf2.is
  have hs1 := hf1.size
  have hs2 := hf2.size
  have bel : Below w.heap.size w w2 := hf1.below.trans (hf2.below.mono (by omega))
  have D1 := hf2.blk hB1
  have T2 := ht.below bel
  have S2 := h.below bel
  have LB : Hid (w.heap.size ≤ g1 ∧ g1 < g2) := by refine ⟨?_, ?_⟩ <;> omega
  have HL : Hid (l ++ b = l ++ b) := rfl
  have HSZ : Hid (l.length + b.length ≤ 2000000000) := by show _ ≤ _; rw [h.1]; exact hsz
  clear hz1 hz2 hs1 hs2 hf1 hf2 hB1 h y40 hsz
  go_loopw [1] (fun v wr => ∃ (A' : Option Addr) (n' c' : Nat) (L r : List UInt8), v = .slice A' n' c' ∧ n' ≤ c' ∧ c' ≤ 9223372036854775807 ∧ Bs wr w.heap.size A' n' r ∧ Hid (L ++ r = l ++ b) ∧ Blk wr g1 40 (stc L) ∧ Blk wr g2 40 Z ∧ Tab wr ∧ Below w.heap.size w wr) (fun v _ => match v with | .slice _ n' _ => n' | _ => 0)
  case atStart => exact ⟨A, n, c, l, b, rfl, hc, hcm, S2, HL, D1, hB2, T2, bel⟩
  case round =>
    obtain ⟨A', n', c', L, r, rfl, hc', hcm', S, HLr, E1, E2, TR, belr⟩ := hrel
    by_cases hpos : 0 < n'
    · have hl1 : L.length + n' ≤ 2000000000 := by
        have h1 := congrArg List.length HLr.out
        have h2 := HSZ.out
        have h3 := S.1
        simp at h1
        omega
      replace E1 : Blk wr g1 40 (cells3 (wordsOf L).list (tailOf L) L.length) := E1
      have cN := E1.cell (cells3_at rfl (tailOf_length L))
      have lC := cells3_length L.length (ws := (wordsOf L).list) (t := tailOf L) rfl (tailOf_length L)
      obtain ⟨N, hN⟩ : ∃ N, N = L.length := ⟨_, rfl⟩
      rw [← hN] at cN E1 lC hl1
      obtain ⟨q, hq, hq2⟩ : ∃ q, N % 64 = q ∧ q < 64 := ⟨_, rfl, Nat.mod_lt _ (by omega)⟩
      obtain ⟨m, hm, hm1, hm2, hm3⟩ : ∃ m, min n' (64 - q) = m ∧ 0 < m ∧ m ≤ n' ∧ q + m ≤ 64 := ⟨_, rfl, by omega, by omega, by omega⟩
      have e1 : (N : Int) % 64 = (q : Int) := by omega
      have i1 : (q : Int) < 64 := by omega
      have i2 : ¬ (64 = q) := by omega
      have hsl := slice37 wr g1 q hq2
      have hrl : (r.take m).length = m := by
        rw [List.length_take, S.1]
        omega
      obtain ⟨T3, hT3⟩ : ∃ T, T = (tailOf L).take q ++ r.take m ++ (tailOf L).drop (q + (r.take m).length) := ⟨_, rfl⟩
      have lT3 : T3.length = 64 := by
        have := tailOf_length L
        rw [hT3]
        simp [hrl]
        have := S.1
        omega
      have HK3 : Hid (∀ w3, Blk w3 g1 40 (List.take (8 + q) (cells3 (wordsOf L).list (tailOf L) N) ++ vbs (List.take m r) ++ List.drop (8 + q + (vbs (List.take m r)).length) (cells3 (wordsOf L).list (tailOf L) N)) → Blk w3 g1 40 (cells3 (wordsOf L).list T3 N)) := by
        intro w3 h3
        rw [cells3_copy rfl (tailOf_length L) (r.take m) q (by omega)] at h3
        rw [hT3]
        exact h3
      have HC72 : Hid (∀ w3, Blk w3 g1 40 (cells3 (wordsOf L).list T3 N) → w3.cell? ⟨g1, 72, none⟩ = some (.int .u64 (N : Int))) := fun w3 h3 => h3.cell (cells3_at rfl lT3)
      obtain ⟨A2, hA2⟩ : ∃ X, (if c' = m then A' else A'.map (fun x => x.add m)) = X := ⟨_, rfl⟩
      obtain ⟨n2, hn2⟩ : ∃ X, n' - m = X := ⟨_, rfl⟩
      obtain ⟨c2, hc2⟩ : ∃ X, c' - m = X := ⟨_, rfl⟩
      have S2' := S.cut (k := m) (cap := c') hm2 hc'
      rw [hA2, hn2] at S2'
      obtain ⟨N2, hN2⟩ : ∃ X, N + m = X := ⟨_, rfl⟩
      have eN : (N : Int) + (m : Int) = (N2 : Int) := by omega
      have lN2 : N2 ≤ 2000000000 := by omega
      obtain ⟨q2, hq2'⟩ : ∃ X, N2 % 64 = X := ⟨_, rfl⟩
      have eq2 : (N2 : Int) % 64 = (q2 : Int) := by omega
      have HN2 : Hid (∀ w4, Blk w4 g1 40 ((cells3 (wordsOf L).list T3 N).set 72 (.int .u64 (N2 : Int))) → Blk w4 g1 40 (cells3 (wordsOf L).list T3 N2)) := fun w4 h4 => by
        rwa [cells3_size rfl lT3] at h4
      have HD72 : Hid (∀ w3, Blk w3 g1 40 (cells3 (wordsOf L).list T3 N2) → w3.cell? ⟨g1, 72, none⟩ = some (.int .u64 (N2 : Int))) := fun w3 h3 => h3.cell (cells3_at rfl lT3)
      have lC3 : 72 < (cells3 (wordsOf L).list T3 N).length := by rw [cells3_length _ rfl lT3]; omega
      have HRL : Hid ((L ++ r.take m) ++ r.drop m = l ++ b) := by
        show _ = _
        rw [List.append_assoc, List.take_append_drop]
        exact HLr.out
      have HLN : Hid ((L ++ r.take m).length = N2) := by
        show _ = _
        rw [List.length_append, hrl, ← hN, hN2]
      have HTL : Hid (T3 = (tailOf L).take (L.length % 64) ++ r.take m ++ (tailOf L).drop (L.length % 64 + (r.take m).length)) := by
        show _ = _
        rw [← hN, hq]
        exact hT3
      have HQ := Lib.hid (And.intro hN (And.intro hq (And.intro hrl (And.intro hN2 (And.intro hq2' (And.intro hn2 hc2))))))
      have HM := Lib.hid (And.intro hm (And.intro hm2 hm3))
      have cond : q2 = 0 ↔ q + m = 64 := by omega
      have HCL : Hid (n2 ≤ c2 ∧ c2 ≤ 9223372036854775807 ∧ n2 < n') := by
        refine ⟨?_, ?_, ?_⟩ <;> omega
      clear hN hq hm hrl hT3 hN2 hq2' HLr
      by_cases hfull : q + m = 64
      · have q0 : q2 = 0 := cond.2 hfull
        subst q0
        clear cond
        have HWF : Hid (wordsOf (L ++ r.take m) = after (wordsOf L) T3 ∧ tailOf (L ++ r.take m) = List.replicate 64 0) := by
          obtain ⟨a1, a2, a3, _⟩ := HQ.out
          refine ⟨?_, tail_full L _ (by rw [← a1, a2, a3]; exact hfull)⟩
          rw [words_full L _ (by rw [← a1, a2, a3]; exact hfull), ← HTL.out]
        have z36 : (Tryd.prog.info? 36).map (·.size) = some (vws (wordsOf L).list).length := size36
        have z36' : (Tryd.prog.info? 36).map (·.size) = some (vws (after (wordsOf L) T3).list).length := size36
        have z37 : (Tryd.prog.info? 37).map (·.size) = some (vbs T3).length := by rw [vbs_length, lT3]; exact size37
        have z37' : (Tryd.prog.info? 37).map (·.size) = some (vbs (List.replicate 64 0)).length := size37
        have lC4 : 0 + (vws (after (wordsOf L) T3).list).length ≤ (cells3 (wordsOf L).list T3 N2).length := by rw [cells3_length _ rfl lT3]; show 0 + 8 ≤ 73; omega
        have lC5 : 8 + (vbs (List.replicate 64 0)).length ≤ (cells3 (after (wordsOf L) T3).list T3 N2).length := by rw [cells3_length _ rfl lT3, vbs_length]; simp
        have AF := after_any (wordsOf L) T3
        go_wp2_with (first
          | ((with_reducible show wpList _ _ _ _ _ _); first
            | (refine wp_copy _ rfl (.tmp 13) (.tmp 14) rfl g1 (8 + q) _ _ rfl A' n' c' _ r rfl S m HM.out.1 40 _ E1 (by rw [lC]; omega) ?_; intro w3 E3 U3; replace E3 := HK3.out w3 E3; have cN3 := HC72.out w3 E3; simp only [Act.put, List.setIfInBounds_toArray, List.set_cons_zero, List.set_cons_succ])
            | (refine wp_set _ rfl 38 (.tmp 24) (.tmp 23) rfl g1 72 40 _ _ rfl rfl rfl rfl E3 lC3 size38 ?_; intro w4 E4 U4; replace E4 := HN2.out w4 E4; have cN4 := HD72.out w4 E4; simp only [Act.put])
            | (refine wp_get _ rfl 36 (.tmp 29) rfl g1 0 _ _ rfl (cells3_rwords E4) Tryd.underlying36 rfl z36 ?_; simp only [Act.put, List.setIfInBounds_toArray, List.set_cons_zero, List.set_cons_succ])
            | (refine wp_get _ rfl 37 (.tmp 31) rfl g1 8 _ _ rfl (cells3_rtail rfl E4) Tryd.underlying37 rfl z37 ?_; simp only [Act.put, List.setIfInBounds_toArray, List.set_cons_zero, List.set_cons_succ])))
        obtain ⟨L1, L2⟩ := LB.out
        have bel4 : Below w.heap.size w w4 := (belr.trans (U3.below L1)).trans (U4.below L1)
        refine (AF w4 (ht.below bel4) (wordsOf_ok L) lT3).mono ?_
        rintro e w5 ⟨rfl, hb5⟩
        have E5 := E4.kept hb5
        have F5 := ((E2.upd U3 (by omega)).upd U4 (by omega)).kept hb5
        have bel5 : Below w.heap.size w w5 := bel4.trans (hb5.mono bel4.size)
        have S5 := S2'.keep (w' := w5) (fun b' o' hb' => by
          rw [bel5.cell (p := ⟨b', o', none⟩) hb', belr.cell (p := ⟨b', o', none⟩) hb'])
        clear cN3 cN4 E3 E4 U3 U4 hb5 bel4 cN hsl S S2' E1 E2
        go_wp2_with (first
          | ((with_reducible show wpList _ _ _ _ _ _); first
            | (refine wp_put _ rfl 36 (.tmp 34) (.tmp 33) rfl g1 0 40 _ _ rfl rfl E5 lC4 z36' (vws_one _) ?_; intro w6 E6 U6; rw [cells3_words rfl _ rfl] at E6; simp only [Act.put])
            | (refine wp_build0 _ rfl 37 rfl _ (build37 _) ?_; simp only [Act.put, List.setIfInBounds_toArray, List.set_cons_zero, List.set_cons_succ])
            | (refine wp_put _ rfl 37 (.tmp 36) (.tmp 35) rfl g1 8 40 _ _ rfl rfl E6 lC5 z37' (vbs_one _) ?_; intro w7 E7 U7; rw [cells3_tail rfl lT3 _ (by simp)] at E7; simp only [Act.put])))
        go_roundw
        case rel =>
          have E8' : Blk w7 g1 40 (stc (L ++ r.take m)) := by
            unfold stc
            rw [HWF.out.1, HWF.out.2, HLN.out]
            exact E7
          have bel7 : Below w.heap.size w w7 := (bel5.trans (U6.below L1)).trans (U7.below L1)
          exact ⟨A2, n2, c2, L ++ r.take m, r.drop m, rfl, HCL.out.1, HCL.out.2.1, S5.keep (fun b' o' hb' => by rw [bel7.cell (p := ⟨b', o', none⟩) hb', bel5.cell (p := ⟨b', o', none⟩) hb']), HRL, E8', (F5.upd U6 (by omega)).upd U7 (by omega), ht.below bel7, bel7⟩
        case measure =>
          simp
          exact HCL.out.2.2
      · have q0 : ¬ q2 = 0 := fun h0 => hfull (cond.1 h0)
        clear cond
        have HWF : Hid (wordsOf (L ++ r.take m) = wordsOf L ∧ tailOf (L ++ r.take m) = T3) := by
          obtain ⟨a1, a2, a3, _⟩ := HQ.out
          refine ⟨words_less L _ (by rw [← a1, a2, a3]; omega), ?_⟩
          rw [tail_less L _ (by rw [← a1, a2, a3]; omega), ← HTL.out]
        go_wp2_with (first
          | ((with_reducible show wpList _ _ _ _ _ _); first
            | (refine wp_copy _ rfl (.tmp 13) (.tmp 14) rfl g1 (8 + q) _ _ rfl A' n' c' _ r rfl S m HM.out.1 40 _ E1 (by rw [lC]; omega) ?_; intro w3 E3 U3; replace E3 := HK3.out w3 E3; have cN3 := HC72.out w3 E3; simp only [Act.put, List.setIfInBounds_toArray, List.set_cons_zero, List.set_cons_succ])
            | (refine wp_set _ rfl 38 (.tmp 24) (.tmp 23) rfl g1 72 40 _ _ rfl rfl rfl rfl E3 lC3 size38 ?_; intro w4 E4 U4; replace E4 := HN2.out w4 E4; have cN4 := HD72.out w4 E4; simp only [Act.put])))
        go_roundw
        case rel =>
          obtain ⟨L1, L2⟩ := LB.out
          have E8' : Blk w4 g1 40 (stc (L ++ r.take m)) := by
            unfold stc
            rw [HWF.out.1, HWF.out.2, HLN.out]
            exact E4
          have bel7 : Below w.heap.size w w4 := (belr.trans (U3.below L1)).trans (U4.below L1)
          exact ⟨A2, n2, c2, L ++ r.take m, r.drop m, rfl, HCL.out.1, HCL.out.2.1, S2'.keep (fun b' o' hb' => by rw [bel7.cell (p := ⟨b', o', none⟩) hb', belr.cell (p := ⟨b', o', none⟩) hb']), HRL, E8', (E2.upd U3 (by omega)).upd U4 (by omega), ht.below bel7, bel7⟩
        case measure =>
          simp
          exact HCL.out.2.2
    · have hn0 : n' = 0 := by omega
      have HV : Hid (stc L = stc (l ++ b)) := by
        have h1 := S.1
        rw [hn0] at h1
        have h2 := List.eq_nil_of_length_eq_zero h1
        have h3 := HLr.out
        rw [h2, List.append_nil] at h3
        show _ = _
        rw [h3]
      have z40 : (Tryd.prog.info? 40).map (·.size) = some (stc L).length := by rw [stc_length]; exact size40
      have n40 : (stc L).length = Z.length := by rw [stc_length, hZ]
      have o40 : ∀ u ∈ stc L, u.oneCell' = true := cells3_one _ _ _
      obtain ⟨L1, L2⟩ := LB.out
      obtain ⟨V, hV⟩ : ∃ V, V = stc L := ⟨_, rfl⟩
      rw [← hV] at z40 n40 o40 E1 HV
      clear hV
      subst hn0
      go_wp2_with (first
        | ((with_reducible show wpList _ _ _ _ _ _); first
          | (refine wp_get _ rfl 40 (.tmp 2) rfl _ 0 V _ rfl E1.whole Tryd.underlying40 rfl z40 ?_; simp only [Act.put, List.setIfInBounds_toArray, List.set_cons_zero, List.set_cons_succ])
          | (refine wp_putAll _ rfl 40 (.tmp 4) (.tmp 37) rfl g2 40 _ V rfl rfl E2 n40 z40 o40 ?_; intro w6 F3 U6; simp only [Act.put]))
        | ((with_reducible show bodyPost _ _ _ _ _ _); refine ret_cell 4 40 rfl g2 V _ rfl F3.whole Tryd.underlying40 rfl z40 rfl ⟨?_, belr.trans (U6.below (by omega))⟩; rw [HV.out]))
end Go.Proofs.YtiigmpoopmnnhaaDoor
