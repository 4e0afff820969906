/-
  What transeptref11.Of answers, and the laws' helpers quoted, of, shown. No condition but sizes.
-/
import Derived.Test.YtmocjiilamcehaaDoorEd
import Derived.OrdersHeld
import Derived.BigQuiet
namespace Go.Proofs.YtmocjiilamcehaaDoor
open Go.RowKit
set_option linter.unusedVariables false

/-- append of headers inside a region that draws its order. -/
theorem step_appF {ops : Array Oper} {o : Oper} {a : Act} {K : Act → World → Prop} {Q : Exit → Act → World → Prop} {E : Prop} (w : World) (hgd : o.guard = none) (s x : Operand) (S T : TypeId)
    (ho : o.op = .call { callee := .builtin .append, args := #[s, x], argTypes := #[S, S] })
    (hS : Tryd.prog.underlying S = some (.slice T)) (hT : (Tryd.prog.info? T).map (fun i => (i.zero, i.size, i.bytes)) = some (some (.agg #[.string ⟨#[]⟩, .string ⟨#[]⟩]), 2, 32))
    (base : Nat) (v : Value) (n : Nat) (fs : List (List UInt8 × List UInt8)) (hs : a.eval s = v) (hown : OwnF T w base v n fs)
    (B : Nat) (A : Option Addr) (m c : Nat) (gs : List (List UInt8 × List UInt8)) (hx : a.eval x = .slice A m c) (hr : Fs w B A m gs) (hsz : n + m ≤ 1000000000) (hbase : base ≤ w.heap.size)
    (N : Nat) (hN : n + m = N)
    (h : ∀ A' c' w', N ≤ c' → c' ≤ maxLen → OwnF T w' base (.slice A' N c') N (fs ++ gs) → Below base w w' → K (a.put o.dst (.slice A' N c')) w') :
    if Region.wanted o (yielded ops a.tmps) = true then Oper.wp Tryd.prog o a w K Q else E := by
  have hw : Region.wanted o (yielded ops a.tmps) = true := by simp [Region.wanted, hgd]
  rw [if_pos hw]
  subst hN
  obtain ⟨v', w', hrun, h2, h3, h5⟩ := run_appF S T hS hT w base o.type v n fs hown B A m c gs hr hsz hbase
  obtain ⟨A', c', rfl, hc, hm, _⟩ := h2.form
  unfold Oper.wp execOp
  simp only [ho, resolve, invoke, builtin, Sem.run_bind, Sem.run_pure, Result.andThen_ok, List.map_toArray, List.map_cons, List.map_nil, hs, hx, hrun]
  exact h A' c' w' hc hm h2 h3
theorem Fs.new (T : TypeId) (w : World) (fs : List (List UInt8 × List UInt8)) (a : Array Value) (ha : a = (fcs fs).toArray) (n : Nat) (hn : fs.length = n) : Fs (w.alloc (.cells a T)) (w.alloc (.cells a T)).heap.size (some ⟨w.heap.size, 0, none⟩) n fs := by
  subst ha
  refine ⟨hn, fun _ => ⟨w.heap.size, 0, rfl, by simp, fun j f hj => ?_⟩⟩
  obtain ⟨h1, h2⟩ := fcs_at fs j f hj
  rw [cell_of_row _ _ _ _ _ _ (heap_alloc_new w _), cell_of_row _ _ _ _ _ _ (heap_alloc_new w _)]
  simp only [Nat.zero_add, List.getElem?_toArray]
  exact ⟨h1, h2⟩
set_option maxHeartbeats 4000000 in
set_option maxRecDepth 100000 in
theorem rof_any (fs : List (List UInt8 × List UInt8)) (A : Option Addr) (c : Nat) (w : World) (hn : fs.length ≤ 1000) (hf : Fs w w.heap.size A fs.length fs) (hN : ∀ f ∈ fs, f.1.length ≤ 9223372036854775807 ∧ f.2.length ≤ 9223372036854775807) (hj : (jn (vals fs ctn)).length ≤ 200000000) : Calls Tryd.prog 11 #[.slice A fs.length c] w fun e w' => e = .returned (.tuple #[.string (str (ofS (spt fs ctn))), .bool (ofB (spt fs ctn))]) ∧ Below w.heap.size w w' := by
  have HSp : Hid (∀ w', w' = w → Calls Tryd.prog 24 #[.slice A fs.length c, .string ⟨#[99, 111, 110, 116, 101, 110, 116, 45, 116, 121, 112, 101]⟩] w' fun e w2 => ∃ A' c', e = .returned (.tuple #[.slice A' (spt fs ctn).length c', .bool (decide (vals fs ctn ≠ []))]) ∧ OwnT w2 w.heap.size (.slice A' (spt fs ctn).length c') (spt fs ctn).length (spt fs ctn) ∧ Below w.heap.size w w2) := fun w' hb => by subst hb; exact rsplit_any fs A c ctn w' hn hf hN (by decide) hj
  have HLen : Hid (∀ p ∈ spt fs ctn, p.length ≤ 4611686018427387904) := fun p hp => Nat.le_trans (spt_mem_len fs ctn p hp) (by omega)
  have HEs : Hid (∀ (p : List UInt8) (w' : World), p.length ≤ 4611686018427387904 → Calls Tryd.prog 9 #[.string (str p)] w' fun e w2 => e = .returned (.tuple #[.string (str (esS p)), .bool (esB p)]) ∧ Below w'.heap.size w' w2) := fun p w' h => ress_any p w' h
  have hMax : (spt fs ctn).length ≤ 1000000000 := by
    by_cases hv : vals fs ctn = []
    · rw [spt_no fs ctn hv]; simp
    · have := pt_len (jn (vals fs ctn)) 0 []
      rw [spt_yes fs ctn hv]; unfold prts; omega
  generalize decide (vals fs ctn ≠ []) = isV at *
  clear hn hf hN hj
  obtain ⟨L, hL⟩ : ∃ L, L = spt fs ctn := ⟨_, rfl⟩
  rw [← hL] at HSp HLen hMax ⊢
  clear hL
  obtain ⟨m, hm⟩ : ∃ m, m = L.length := ⟨_, rfl⟩
  rw [← hm] at HSp hMax
  have HT : Hid (∀ (k : Nat) p, L[k]? = some p → ofS (L.take (k + 1)) = if gd p then esS p else ofS (L.take k)) := fun k p h => by rw [take_snoc L k p h, ofS_snoc]
  have Hin : Hid (∀ k, k < m → ∃ p, L[k]? = some p ∧ p.length ≤ 4611686018427387904) := fun k hk => by
    have h : L[k]? = some (L[k]'(by omega)) := List.getElem?_eq_getElem (by omega)
    exact ⟨_, h, HLen.out _ (List.mem_of_getElem? h)⟩
  have HAll : Hid (L.take m = L) := by show _ = _; rw [hm, List.take_length]
  clear hm
  go_enter Tryd.func11, Tryd.ntmps11
  go_wp2_with (first
    | (go_at_call 24; (with_reducible refine (HSp.out _ rfl).mono ?_); (rintro e w1 ⟨A1, c1, rfl, hown, hb⟩); have HB1 := Lib.hid hb; have HO1 := Lib.hid hown; clear hb hown HSp))
  go_loopw [7, 6] (fun i o wr => ∃ k : Nat, k ≤ m ∧ i = .int .i64 (k : Int) ∧ o = .string (str (ofS (L.take k))) ∧ Below w1.heap.size w1 wr) (fun i _ _ => m - (intOf i).toNat)
  case atStart => exact ⟨0, by omega, rfl, rfl, Below.refl _ _⟩
  case round =>
    obtain ⟨k, hk, rfl, rfl, hb⟩ := hrel
    have HB2 := Lib.hid hb
    clear hb
    by_cases hlt : k < m
    · have hkS : (k : Int) < (m : Int) := by omega
      obtain ⟨p, hp, hpl⟩ := Hin.out k hlt
      have HTk := HT.out k p hp
      obtain ⟨A2, c2, he, hc2, hm2, hf2⟩ := HO1.out.form
      have he3 := he
      injection he3 with he1 he4 he2
      subst he1 he2
      clear he he4
      obtain ⟨g, rfl, _, hg, hcell⟩ := hf2 (by omega)
      have d0 : wr.cell? ⟨g, k, none⟩ = some (.string (str p)) := (HB2.out.cell (p := ⟨g, k, none⟩) hg).trans (hcell k p hp)
      have HE := Lib.hid (HEs.out p wr hpl)
      clear hf2 hcell hg hp
      obtain ⟨R, hR⟩ : ∃ R, R = decide (esS p = [42, 47, 42]) := ⟨_, rfl⟩
      have hq : ((str (esS p)).toList == [42, 47, 42]) = R := by rw [toList_str, hR, Bool.eq_iff_iff, beq_iff_eq, decide_eq_true_iff]
      have HG2 : gd p = (esB p && !R) := by rw [hR, ← decide_not]; rfl
      clear hR
      generalize esS p = z at *
      generalize esB p = b at *
      obtain ⟨o1, ho1⟩ : ∃ o, o = ofS (L.take k) := ⟨_, rfl⟩
      obtain ⟨o2, ho2⟩ : ∃ o, o = ofS (L.take (k + 1)) := ⟨_, rfl⟩
      rw [← ho1, ← ho2] at HTk
      rw [← ho1]
      have HO2 := Lib.hid ho2
      clear ho1 ho2
      cases b
      · have HX : Hid (o2 = o1) := by show _ = _; rw [HTk, HG2]; rfl
        clear HTk HG2
        go_wp2_with (first
        | (go_at_call 9; (with_reducible refine (HE.out).mono ?_); (rintro e w4 ⟨rfl, hb⟩); have HB4 := Lib.hid hb; clear hb))
        go_roundw
        case rel => exact ⟨k + 1, by omega, by go_num, by rw [← HO2.out, HX.out], HB2.out.trans (HB4.out.mono HB2.out.size)⟩
        case measure => simp [intOf]; omega
      · cases R
        · have HX : Hid (o2 = z) := by show _ = _; rw [HTk, HG2]; rfl
          clear HTk HG2
          go_wp2_with (first
        | (go_at_call 9; (with_reducible refine (HE.out).mono ?_); (rintro e w4 ⟨rfl, hb⟩); have HB4 := Lib.hid hb; clear hb))
          go_roundw
          case rel => exact ⟨k + 1, by omega, by go_num, by rw [← HO2.out, HX.out], HB2.out.trans (HB4.out.mono HB2.out.size)⟩
          case measure => simp [intOf]; omega
        · have HX : Hid (o2 = o1) := by show _ = _; rw [HTk, HG2]; rfl
          clear HTk HG2
          go_wp2_with (first
        | (go_at_call 9; (with_reducible refine (HE.out).mono ?_); (rintro e w4 ⟨rfl, hb⟩); have HB4 := Lib.hid hb; clear hb))
          go_roundw
          case rel => exact ⟨k + 1, by omega, by go_num, by rw [← HO2.out, HX.out], HB2.out.trans (HB4.out.mono HB2.out.size)⟩
          case measure => simp [intOf]; omega
    · have hkS : ¬ (k : Int) < (m : Int) := by omega
      have hke : k = m := by omega
      rw [hke, HAll.out]
      have HN := ofS_ne L
      have hemp : (str (ofS L)).toList.isEmpty = !(ofB L) := by
        rw [toList_str, ← HN]
        cases ofS L <;> simp
      have hkS2 : ¬ (m : Int) < (m : Int) := by omega
      cases hB : ofB L
      · rw [hB] at hemp
        have HBh := Lib.hid hB
        clear hB HN hlt
        go_wp2_with fail
        go_ret2
        rw [HBh.out]
        exact ⟨rfl, HB1.out.trans (HB2.out.mono HB1.out.size)⟩
      · rw [hB] at hemp
        have HBh := Lib.hid hB
        clear hB HN hlt
        go_wp2_with fail
        go_ret2
        rw [HBh.out]
        exact ⟨rfl, HB1.out.trans (HB2.out.mono HB1.out.size)⟩
/-- Has a text a comma, or a quote? -/
def qtd (l : List UInt8) : Bool := l.any fun x => x == 44 || x == 34
theorem qtd_no (l : List UInt8) : qtd l = false ↔ (44 : UInt8) ∉ l ∧ (34 : UInt8) ∉ l := by
  rw [qtd, List.any_eq_false]
  constructor
  · intro h
    exact ⟨fun e => by have := h _ e; simp at this, fun e => by have := h _ e; simp at this⟩
  · intro h x hx e
    rw [Bool.or_eq_true, beq_iff_eq, beq_iff_eq] at e
    rcases e with rfl | rfl
    · exact h.1 hx
    · exact h.2 hx
set_option maxHeartbeats 4000000 in
set_option maxRecDepth 100000 in
theorem quoted_any (l : List UInt8) (w : World) (hl : l.length ≤ 9223372036854775807) : Calls Tryd.prog 14 #[.string (str l)] w fun e w' => e = .returned (.bool (qtd l)) ∧ w' = w := by
  have hsz := str_size l
  have hgb : Hid (∀ k, k < l.length → ∀ h, ((str l)[k]'h).toNat = (l.getD k 0).toNat) := fun k hk h => str_at l k hk h
  have hdr : Hid (∀ k, k < l.length → qtd (l.drop k) = ((l.getD k 0 == 44 || l.getD k 0 == 34) || qtd (l.drop (k + 1)))) := fun k hk => by rw [drop_at l k hk]; rfl
  have hend : Hid (qtd (l.drop l.length) = false) := by show _ = _; rw [List.drop_length]; rfl
  have h44 := Lib.hid (uInj 44 44 rfl)
  have h34 := Lib.hid (uInj 34 34 rfl)
  obtain ⟨R, hR⟩ : ∃ R, R = qtd l := ⟨_, rfl⟩
  have HR := Lib.hid hR
  obtain ⟨S, hS⟩ : ∃ S, S = l.length := ⟨_, rfl⟩
  rw [← hR]
  rw [← hS] at hsz hgb hdr hend hl
  clear hS hR
  go_enter Tryd.func14, Tryd.ntmps14
  go_wp2_with fail
  go_loop [3] (fun i => ∃ k : Nat, k ≤ S ∧ i = .int .i64 (k : Int) ∧ qtd (l.drop k) = R) (fun i => S - (intOf i).toNat)
  case atStart => exact ⟨0, by omega, rfl, by rw [List.drop_zero]; exact HR.out.symm⟩
  case round =>
    obtain ⟨k, hk, rfl, hA⟩ := hrel
    have HA := Lib.hid hA
    clear hA
    by_cases hlt : k < S
    · have hkS : (k : Int) < (S : Int) := by omega
      have HG := hgb.out k hlt
      have HD := hdr.out k hlt
      obtain ⟨x, hx⟩ : ∃ x, x = l.getD k 0 := ⟨_, rfl⟩
      rw [← hx] at HG HD
      have hb := h44.out x
      have hb2 := h34.out x
      obtain ⟨b, hbb⟩ : ∃ b, b = x.toNat := ⟨_, rfl⟩
      rw [← hbb] at HG hb hb2
      have HD := Lib.hid HD
      clear hx hbb
      by_cases he : b = 44
      · have hc : ((b : Int) == 44) = true := by simp [he]
        have HX := Lib.hid (hb.1 he)
        clear hb hb2 he
        go_wp2_with fail
        go_ret
        refine ⟨?_, rfl⟩
        rw [← HA.out, HD.out, HX.out]
        simp
      · have hc : ((b : Int) == 44) = false := by simp; omega
        by_cases he2 : b = 34
        · have hc2 : ((b : Int) == 34) = true := by simp [he2]
          have HX := Lib.hid (hb2.1 he2)
          clear hb hb2 he he2
          go_wp2_with fail
          go_ret
          refine ⟨?_, rfl⟩
          rw [← HA.out, HD.out, HX.out]
          simp
        · have hc2 : ((b : Int) == 34) = false := by simp; omega
          have HX : Hid ((x == 44 || x == 34) = false) := by
            show _ = _
            rw [Bool.or_eq_false_iff, beq_eq_false_iff_ne, beq_eq_false_iff_ne]
            exact ⟨fun e => he (hb.2 e), fun e => he2 (hb2.2 e)⟩
          clear hb hb2 he he2
          go_wp2_with fail
          go_round
          case rel => exact ⟨k + 1, by omega, by go_num, by rw [← HA.out, HD.out, HX.out]; rfl⟩
          case measure => simp [intOf]; omega
    · have hkS : ¬ (k : Int) < (S : Int) := by omega
      have hke : Hid (k = S) := by show _ = _; omega
      go_wp2_with fail
      go_ret
      refine ⟨?_, rfl⟩
      rw [← HA.out, hke.out, hend.out]
      rfl
set_option maxHeartbeats 4000000 in
set_option maxRecDepth 100000 in
theorem lof_any (fs : List (List UInt8 × List UInt8)) (A : Option Addr) (c : Nat) (w : World) (hn : fs.length ≤ 100) (hf : Fs w w.heap.size A fs.length fs) : Calls Tryd.prog 12 #[.slice A fs.length c] w fun e w' => ∃ A' c', e = .returned (.slice A' fs.length c') ∧ OwnF 48 w' w.heap.size (.slice A' fs.length c') fs.length fs ∧ Below w.heap.size w w' := by
  have HF := Lib.hid hf
  have HE : Hid (fs.take fs.length = fs) := List.take_length
  obtain ⟨S, hS⟩ : ∃ S, S = fs.length := ⟨_, rfl⟩
  rw [← hS] at hn HF HE ⊢
  have HT : Hid (∀ (k : Nat) f, fs[k]? = some f → fs.take k ++ [f] = fs.take (k + 1)) := fun k f h => (take_snoc fs k f h).symm
  clear hf hS
  go_enter Tryd.func12, Tryd.ntmps12
  go_wp2_with fail
  go_loopw [4, 3] (fun i o wr => ∃ (k : Nat) (A1 : Option Addr) (c1 : Nat), k ≤ S ∧ i = .int .i64 (k : Int) ∧ o = .slice A1 k c1 ∧ OwnF 48 wr w.heap.size (.slice A1 k c1) k (fs.take k) ∧ Kept w wr) (fun i _ _ => S - (intOf i).toNat)
  case atStart => exact ⟨0, _, _, by omega, rfl, rfl, ownF_nil _ _ _, Kept.refl w⟩
  case round =>
    obtain ⟨k, A1, c1, hk, rfl, rfl, hof, hkp⟩ := hrel
    have HO := Lib.hid hof
    have HKw := Lib.hid hkp
    have Hk9 : Hid (k ≤ 1000) := by show _ ≤ _; omega
    clear hof hkp
    by_cases hlt : k < S
    · have hkS : (k : Int) < (S : Int) := by omega
      have hk100 : (k : Int) < 100 := by omega
      obtain ⟨b, off, f, rfl, hb, hfk, h0, h1⟩ := HF.out.at_ hlt
      have HTk := Lib.hid (HT.out k f hfk)
      obtain ⟨p, q⟩ := f
      have HC0 := Lib.hid h0
      have HC1 := Lib.hid h1
      have hbl : Hid (b < w.heap.size) := hb
      clear hb hfk h0 h1
      go_wp2_with fail
      refine wp_region_held_drew (S := fun W => Kept w W) (by kernel_rfl) (HKw.out.drew) (fun hS => ?_)
      refine wpAnyH_take (i := 0) (oi := ⟨some 15, _, _, _, _, _⟩) (v := ?vb0) rfl (by kernel_rfl) (by kernel_rfl) (by kernel_rfl) (fun _ _ _ h => h) (Or.inl ⟨by rfl, ?yb0⟩) hS ?rb0
      case yb0 => intro W hW; go_simp; first | done | with_reducible rfl
      simp only [Act.put, List.setIfInBounds_toArray, List.set_cons_zero, List.set_cons_succ]
      refine wpAnyH_take (i := 1) (oi := ⟨some 16, _, _, _, _, _⟩) (v := ?vb1) rfl (by kernel_rfl) (by kernel_rfl) (by kernel_rfl) (fun _ _ _ h => h) (Or.inl ⟨by rfl, ?yb1⟩) hS ?rb1
      case yb1 => intro W hW; go_simp; first | done | with_reducible rfl
      simp only [Act.put, List.setIfInBounds_toArray, List.set_cons_zero, List.set_cons_succ]
      refine wpAnyH_take (i := 2) (oi := ⟨some 17, _, _, _, _, _⟩) (v := ?vb2) rfl (by kernel_rfl) (by kernel_rfl) (by kernel_rfl) (fun _ _ _ h => h) (Or.inl ⟨by rfl, ?yb2⟩) hS ?rb2
      case yb2 => intro W hW; go_simp; first | done | with_reducible rfl
      simp only [Act.put, List.setIfInBounds_toArray, List.set_cons_zero, List.set_cons_succ]
      refine wpAnyH_take (i := 3) (oi := ⟨some 18, _, _, _, _, _⟩) (v := ?vb3) rfl (by kernel_rfl) (by kernel_rfl) (by kernel_rfl) (fun _ _ _ h => h) (Or.inl ⟨by rfl, ?yb3⟩) hS ?rb3
      case yb3 => intro W hW; go_simp; first | done | with_reducible rfl
      simp only [Act.put, List.setIfInBounds_toArray, List.set_cons_zero, List.set_cons_succ]
      refine wpAnyH_take (i := 4) (oi := ⟨some 19, _, _, _, _, _⟩) (v := ?vb4) rfl (by kernel_rfl) (by kernel_rfl) (by kernel_rfl) (fun _ _ _ h => h) (Or.inl ⟨by rfl, ?yb4⟩) hS ?rb4
      case yb4 => intro W hW; go_simp; first | done | with_reducible rfl
      simp only [Act.put, List.setIfInBounds_toArray, List.set_cons_zero, List.set_cons_succ]
      refine wpAnyH_take (i := 5) (oi := ⟨some 20, _, _, _, _, _⟩) (v := ?vb5) rfl (by kernel_rfl) (by kernel_rfl) (by kernel_rfl) (fun _ _ _ h => h) (Or.inl ⟨by rfl, ?yb5⟩) hS ?rb5
      case yb5 => intro W hW; have d0 : W.cell? ⟨b, off + k * 2, none⟩ = some (.string (str p)) := (hW.cell (p := ⟨b, off + k * 2, none⟩) hbl.out).trans HC0.out; go_simp; first | done | with_reducible rfl
      simp only [Act.put, List.setIfInBounds_toArray, List.set_cons_zero, List.set_cons_succ]
      refine wpAnyH_take (i := 6) (oi := ⟨some 21, _, _, _, _, _⟩) (v := ?vb6) rfl (by kernel_rfl) (by kernel_rfl) (by kernel_rfl) (fun _ _ _ h => h) (Or.inl ⟨by rfl, ?yb6⟩) hS ?rb6
      case yb6 => intro W hW; go_simp; first | done | with_reducible rfl
      simp only [Act.put, List.setIfInBounds_toArray, List.set_cons_zero, List.set_cons_succ]
      refine wpAnyH_take (i := 7) (oi := ⟨some 22, _, _, _, _, _⟩) (v := ?vb7) rfl (by kernel_rfl) (by kernel_rfl) (by kernel_rfl) (fun _ _ _ h => h) (Or.inl ⟨by rfl, ?yb7⟩) hS ?rb7
      case yb7 => intro W hW; go_simp; first | done | with_reducible rfl
      simp only [Act.put, List.setIfInBounds_toArray, List.set_cons_zero, List.set_cons_succ]
      refine wpAnyH_take (i := 8) (oi := ⟨some 23, _, _, _, _, _⟩) (v := ?vb8) rfl (by kernel_rfl) (by kernel_rfl) (by kernel_rfl) (fun _ _ _ h => h) (Or.inl ⟨by rfl, ?yb8⟩) hS ?rb8
      case yb8 => intro W hW; go_simp; first | done | with_reducible rfl
      simp only [Act.put, List.setIfInBounds_toArray, List.set_cons_zero, List.set_cons_succ]
      refine wpAnyH_take (i := 9) (oi := ⟨some 24, _, _, _, _, _⟩) (v := ?vb9) rfl (by kernel_rfl) (by kernel_rfl) (by kernel_rfl) (fun _ _ _ h => h) (Or.inl ⟨by rfl, ?yb9⟩) hS ?rb9
      case yb9 => intro W hW; go_simp; first | done | with_reducible rfl
      simp only [Act.put, List.setIfInBounds_toArray, List.set_cons_zero, List.set_cons_succ]
      refine wpAnyH_take (i := 10) (oi := ⟨some 25, _, _, _, _, _⟩) (v := ?vb10) rfl (by kernel_rfl) (by kernel_rfl) (by kernel_rfl) (fun _ _ _ h => h) (Or.inl ⟨by rfl, ?yb10⟩) hS ?rb10
      case yb10 => intro W hW; have d1 : W.cell? ⟨b, off + k * 2 + 1, none⟩ = some (.string (str q)) := (hW.cell (p := ⟨b, off + k * 2 + 1, none⟩) hbl.out).trans HC1.out; go_simp; first | done | with_reducible rfl
      simp only [Act.put, List.setIfInBounds_toArray, List.set_cons_zero, List.set_cons_succ]
      refine wpAnyH_take (i := 11) (oi := ⟨some 26, _, _, _, _, _⟩) (v := ?vb11) rfl (by kernel_rfl) (by kernel_rfl) (by kernel_rfl) (fun _ _ _ h => h) (Or.inl ⟨by rfl, ?yb11⟩) hS ?rb11
      case yb11 => intro W hW; go_simp; first | done | with_reducible rfl
      simp only [Act.put, List.setIfInBounds_toArray, List.set_cons_zero, List.set_cons_succ]
      refine wpAnyH_ready (rs := [12]) (by kernel_rfl) (by simp) ?_
      refine (AllReadyH.cons (o := ⟨some 27, _, _, _, _, _⟩) rfl (fun K hK => ?_) AllReadyH.nil)
      go_simp
      refine hK.out _ _ (hS.alloc _) (fun hSn => ?_)
      clear hK K hS
      have hS := hSn
      clear hSn
      try simp only [Act.put, List.setIfInBounds_toArray, List.set_cons_zero, List.set_cons_succ]
      refine wpAnyH_ready (rs := [13]) (by kernel_rfl) (by simp) ?_
      refine (AllReadyH.cons (o := ⟨some 28, _, _, _, _, _⟩) rfl (fun K hK => ?_) AllReadyH.nil)
      refine step_appF _ rfl _ _ 28 48 rfl Tryd.underlying28 rd_info w.heap.size _ k (fs.take k) rfl ((OwnF.kept HO.out (Below.refl _ _).drew).alloc _) (wr.drew.heap.size + 1) _ 1 1 [(p, q)] rfl (Fs.one _ _ _ _ _ rfl) (by have := Hk9.out; omega) (Nat.le_trans HKw.out.size (by simp)) (k + 1) rfl ?_
      intro A7 c7 w7 hc7 hcm7 hown7 hb7
      refine hK.out _ _ (hS.base hb7) (fun hSn => ?_)
      clear hK K hS
      have hS := hSn
      clear hSn
      try simp only [Act.put, List.setIfInBounds_toArray, List.set_cons_zero, List.set_cons_succ]
      have HO7 := Lib.hid hown7
      have HKw7 := Lib.hid (((HKw.out.drew).alloc _).base hb7)
      clear hc7 hcm7 hown7 hb7
      refine wpAnyH_take (i := 14) (oi := ⟨some 3, _, _, _, _, _⟩) (v := ?vb14) rfl (by kernel_rfl) (by kernel_rfl) (by kernel_rfl) (fun _ _ _ h => h) (Or.inl ⟨by rfl, ?yb14⟩) hS ?rb14
      case yb14 => intro W hW; go_simp; first | done | with_reducible rfl
      simp only [Act.put, List.setIfInBounds_toArray, List.set_cons_zero, List.set_cons_succ]
      refine wpAnyH_done (by kernel_rfl) ?_ _
      go_wp2_with fail
      go_roundw
      case rel => exact ⟨k + 1, A7, c7, by omega, by go_num, rfl, by rw [← HTk.out]; exact HO7.out, HKw7.out⟩
      case measure => simp [intOf]; omega
    · have hkS : ¬ (k : Int) < (S : Int) := by omega
      have hke : Hid (k = S) := by show _ = _; omega
      go_wp2_with fail
      go_ret
      have ho := HO.out
      rw [hke.out, HE.out] at ho
      exact ⟨A1, c1, by rw [hke.out]; rfl, ho, HKw.out⟩
def fsM : List (List UInt8 × List UInt8) := [([67, 111, 110, 116, 101, 110, 116, 45, 84, 121, 112, 101], [97, 47, 98, 44, 32, 42, 47, 42])]
theorem fsM_of : ofS (spt fsM ctn) = [97, 47, 98] ∧ ofB (spt fsM ctn) = true ∧ (jn (vals fsM ctn)).length ≤ 200000000 := by decide +kernel
theorem es_shown : esS [84, 101, 120, 116, 47, 72, 84, 77, 76, 59, 32, 99, 104, 97, 114, 115, 101, 116, 61, 120] = [116, 101, 120, 116, 47, 104, 116, 109, 108] ∧ esB [84, 101, 120, 116, 47, 72, 84, 77, 76, 59, 32, 99, 104, 97, 114, 115, 101, 116, 61, 120] = true ∧ esB [116, 101, 120, 116] = false := by decide +kernel
set_option maxHeartbeats 4000000 in
set_option maxRecDepth 100000 in
theorem shown_any (w : World) : Calls Tryd.prog 7 #[] w fun e w' => e = .returned (.bool true) ∧ Below w.heap.size w w' := by
  have H1 : Hid (∀ w', Calls Tryd.prog 8 #[.string ⟨#[84, 101, 120, 116, 47, 72, 84, 77, 76, 59, 32, 99, 104, 97, 114, 115, 101, 116, 61, 120]⟩] w' fun e w2 => e = .returned (.tuple #[.string ⟨#[116, 101, 120, 116, 47, 104, 116, 109, 108]⟩, .bool true]) ∧ Below w'.heap.size w' w2) := fun w' => by
    have h := ess_any [84, 101, 120, 116, 47, 72, 84, 77, 76, 59, 32, 99, 104, 97, 114, 115, 101, 116, 61, 120] w' (by decide)
    rw [es_shown.1, es_shown.2.1] at h
    exact h
  have H2 : Hid (∀ w', Calls Tryd.prog 8 #[.string ⟨#[116, 101, 120, 116]⟩] w' fun e w2 => e = .returned (.tuple #[.string ⟨#[]⟩, .bool false]) ∧ Below w'.heap.size w' w2) := fun w' => by
    have h := ess_any [116, 101, 120, 116] w' (by decide)
    rw [esS_no es_shown.2.2, es_shown.2.2] at h
    exact h
  have H3 : Hid (∀ W : World, Calls Tryd.prog 10 #[.slice (some ⟨W.heap.size, 0, none⟩) 1 1] (W.alloc (.cells #[.string ⟨#[67, 111, 110, 116, 101, 110, 116, 45, 84, 121, 112, 101]⟩, .string ⟨#[97, 47, 98, 44, 32, 42, 47, 42]⟩] 35)) fun e w2 => e = .returned (.tuple #[.string ⟨#[97, 47, 98]⟩, .bool true]) ∧ Below (W.alloc (.cells #[.string ⟨#[67, 111, 110, 116, 101, 110, 116, 45, 84, 121, 112, 101]⟩, .string ⟨#[97, 47, 98, 44, 32, 42, 47, 42]⟩] 35)).heap.size (W.alloc (.cells #[.string ⟨#[67, 111, 110, 116, 101, 110, 116, 45, 84, 121, 112, 101]⟩, .string ⟨#[97, 47, 98, 44, 32, 42, 47, 42]⟩] 35)) w2) := fun W => by
    have h := of_any fsM (some ⟨W.heap.size, 0, none⟩) 1 (W.alloc (.cells #[.string ⟨#[67, 111, 110, 116, 101, 110, 116, 45, 84, 121, 112, 101]⟩, .string ⟨#[97, 47, 98, 44, 32, 42, 47, 42]⟩] 35)) (by decide) (Fs.new 35 W fsM _ rfl 1 rfl) (by decide) fsM_of.2.2
    rw [fsM_of.1, fsM_of.2.1] at h
    exact h
  have hq1 : ((⟨#[116, 101, 120, 116, 47, 104, 116, 109, 108]⟩ : ByteArray).toList == (⟨#[116, 101, 120, 116, 47, 104, 116, 109, 108]⟩ : ByteArray).toList) = true := by simp
  go_enter Tryd.func7, Tryd.ntmps7
  go_wp2_with (first
    | (go_at_call 8; (with_reducible refine (H1.out _).mono ?_); (rintro e w1 ⟨rfl, hb⟩); have HB1 := Lib.hid hb; clear hb H1)
    | (go_at_call 8; (with_reducible refine (H2.out _).mono ?_); (rintro e w2 ⟨rfl, hb⟩); have HB2 := Lib.hid (HB1.out.trans (hb.mono HB1.out.size)); clear hb H2)
    | (go_at_call 10; (with_reducible refine (H3.out _).mono ?_); (rintro e w3 ⟨rfl, hb⟩); have HB3 := Lib.hid ((HB2.out.alloc HB2.out.size _).trans (hb.mono (Nat.le_trans HB2.out.size (by simp)))); clear hb H3))
  go_ret
  exact ⟨rfl, HB3.out⟩
end Go.Proofs.YtmocjiilamcehaaDoor
