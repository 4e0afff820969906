/-
  token.Lower and Fold, transeptref09.Same; rows of texts. No condition.
-/
import Derived.Test.YtonchnmcklgpoaaGreatDoorTa
import Derived.BigQuiet
namespace Go.Proofs.YtonchnmcklgpoaaGreatDoor
open Go.RowKit
set_option linter.unusedVariables false

set_option linter.unusedVariables false
theorem uInj (c : UInt8) (m : Nat) (hm : m = c.toNat) : ∀ b : UInt8, b.toNat = m ↔ b = c := fun b => ⟨fun h => UInt8.toNat.inj (by rw [h, hm]), fun h => by rw [h, hm]⟩
theorem has_cons (c x : UInt8) (r : List UInt8) : (x :: r).contains c = (c == x || r.contains c) := by rw [List.contains_cons]
set_option linter.unusedVariables false
theorem str_data (s : ByteArray) : str s.data.toList = s := by
  apply ByteArray.ext
  simp [str]
section
variable {ops : Array Oper} {rest : List Oper} {o : Oper} {a : Act} {Q : Exit → Act → World → Prop}
theorem wp_neS (w : World) (hgd : Region.wanted o (yielded ops a.tmps) = true) (x y : Operand) (ho : o.op = .binOp .neq 9 x y 9) (l m : List UInt8)
    (hx : a.eval x = .string (str l)) (hy : a.eval y = .string (str m)) (b : Bool) (hb : b = true ↔ l ≠ m)
    (h : wpList Tryz.prog ops Q rest (a.put o.dst (.bool b)) w) : wpList Tryz.prog ops Q (o :: rest) a w :=
  wpList_step fun K hK => by
    rw [if_pos hgd]
    have h3 : ((str l).toList == (str m).toList) = !b := by
      rw [toList_str, toList_str, Bool.eq_iff_iff, beq_iff_eq]
      cases b
      · simp at hb ⊢; exact hb
      · simp at hb ⊢; exact hb
    have h1 : (binOp .neq 9 (.string (str l)) (.string (str m))).run Tryz.prog w = .ok (.bool b) w := by
      simp only [binOp, Op.stringOp]
      simp [h3]
    have h2 : (eqGuard .neq 9 x y (.string (str l)) (.string (str m))).run Tryz.prog w = .ok () w := by simp [eqGuard]
    unfold Oper.wp execOp
    simp only [ho, hx, hy, Sem.run_bind, h1, h2, Result.andThen_ok, Sem.run_pure]
    exact hK _ _ h
end
theorem mk_len (f : UInt8 → UInt8) (l : List UInt8) : ∀ k, ((fun k => (l.take k).map f ++ l.drop k) k).length = l.length := fun k => by
  show (List.map f (l.take k) ++ l.drop k).length = _
  rw [List.length_append, List.length_map, ← List.length_append, List.take_append_drop]
theorem mk_at (f : UInt8 → UInt8) (l : List UInt8) : ∀ k, k < l.length → ((fun k => (l.take k).map f ++ l.drop k) k).getD k 0 = l.getD k 0 := fun k hk => by
  have h1 : ((l.take k).map f).length = k := by rw [List.length_map, List.length_take]; omega
  show (List.map f (l.take k) ++ l.drop k).getD k 0 = _
  rw [List.getD_eq_getElem?_getD, List.getElem?_append_right (by omega), h1, Nat.sub_self, List.getElem?_drop, Nat.add_zero, List.getD_eq_getElem?_getD]
theorem mk_set (f : UInt8 → UInt8) (l : List UInt8) : ∀ k, k < l.length → ((fun k => (l.take k).map f ++ l.drop k) k).set k (f (l.getD k 0)) = (fun k => (l.take k).map f ++ l.drop k) (k + 1) := fun k hk => by
  have h1 : ((l.take k).map f).length = k := by rw [List.length_map, List.length_take]; omega
  show (List.map f (l.take k) ++ l.drop k).set k _ = List.map f (l.take (k + 1)) ++ l.drop (k + 1)
  rw [List.set_append_right _ _ (by omega), h1, Nat.sub_self, drop_at l k hk, List.set_cons_zero, List.take_succ_eq_append_getElem hk, List.map_append, List.append_assoc]
  simp [List.getD, List.getElem?_eq_getElem hk]
theorem lwc_x (c : UInt8) : lwc c = if 65 ≤ c.toNat ∧ c.toNat ≤ 90 then UInt8.ofNat (c.toNat + 32) else c := by
  refine u8_all (P := fun c => lwc c = if 65 ≤ c.toNat ∧ c.toNat ≤ 90 then UInt8.ofNat (c.toNat + 32) else c) ?_ c
  decide +kernel
theorem xor32 : ∀ c : UInt8, bits .xor .u8 (c.toNat : Int) 32 = ((c ^^^ 32).toNat : Int) := by
  refine fun c => u8_all (P := fun c => bits .xor .u8 (c.toNat : Int) 32 = ((c ^^^ 32).toNat : Int)) ?_ c
  decide +kernel
theorem lwc_xor : ∀ c : UInt8, 65 ≤ c.toNat ∧ c.toNat ≤ 90 → lwc c = c ^^^ 32 := by
  refine fun c => u8_all (P := fun c => 65 ≤ c.toNat ∧ c.toNat ≤ 90 → lwc c = c ^^^ 32) ?_ c
  decide +kernel
theorem upc_xor : ∀ c : UInt8, 97 ≤ c.toNat ∧ c.toNat ≤ 122 → upc c = c ^^^ 32 := by
  refine fun c => u8_all (P := fun c => 97 ≤ c.toNat ∧ c.toNat ≤ 122 → upc c = c ^^^ 32) ?_ c
  decide +kernel
set_option maxHeartbeats 4000000 in
set_option maxRecDepth 100000 in
theorem lower_any (l : List UInt8) (w : World) (hl : l.length ≤ 9223372036854775807) : Calls Tryz.prog 29 #[.string (str l)] w fun e w' => e = .returned (.string (str (l.map lwc))) ∧ Below w.heap.size w w' := by
  obtain ⟨cap, w1, hcv, hcap, hcap2, hwb, hb1⟩ := conv_bytes w l (by omega)
  obtain ⟨S, hS⟩ : ∃ S, S = l.length := ⟨_, rfl⟩
  obtain ⟨g, hg⟩ : ∃ g, g = w.heap.size := ⟨_, rfl⟩
  rw [← hg] at hcv hwb
  have HG : Hid (w.heap.size ≤ g) := by show _ ≤ _; omega
  obtain ⟨M, hM⟩ : ∃ M : Nat → List UInt8, M = fun k => (l.take k).map lwc ++ l.drop k := ⟨_, rfl⟩
  have HL : Hid (∀ k, (M k).length = S) := by rw [hM, hS]; exact mk_len lwc l
  have HA : Hid (∀ k, k < S → (M k).getD k 0 = l.getD k 0) := by rw [hM, hS]; exact mk_at lwc l
  have HN : Hid (∀ k, k < S → (M k).set k (lwc (l.getD k 0)) = M (k + 1)) := by rw [hM, hS]; exact mk_set lwc l
  have H0 : Hid (M 0 = l) := by show _ = _; rw [hM]; simp
  have HE : Hid (M S = l.map lwc) := by show _ = _; rw [hM, hS]; simp
  rw [← hS] at hcv hcap hl
  have hwb' := Lib.hid hwb
  have hb1' := Lib.hid hb1
  clear hM hS hg hwb hb1
  go_enter Tryz.func29, Tryz.ntmps29
  go_wp2_with fail
  go_loopw [10] (fun i wr => ∃ k : Nat, k ≤ S ∧ i = .int .i64 (k : Int) ∧ Wb wr g (M k) ∧ Kept w wr) (fun i _ => S - (intOf i).toNat)
  case atStart => exact ⟨0, by omega, rfl, by rw [H0.out]; exact hwb'.out, hb1'.out⟩
  case round =>
    obtain ⟨k, hk, rfl, hW, hkp⟩ := hrel
    by_cases hlt : k < S
    · have hkS : (k : Int) < (S : Int) := by omega
      have hkc : k < (M k).length := by rw [HL.out]; exact hlt
      have hcell := hW.cell hkc
      have hfz := hW.frozen hkc
      have hst := hW.set hkc (lwc (l.getD k 0))
      rw [HN.out k hlt] at hst
      rw [HA.out k hlt] at hcell
      obtain ⟨c, hc⟩ : ∃ c, c = l.getD k 0 := ⟨_, rfl⟩
      rw [← hc] at hcell hst
      have hsame : (M k).set k (lwc c) = M (k + 1) := by rw [hc]; exact HN.out k hlt
      have hid : (M k).set k c = M k := by
        have h1 := HA.out k hlt
        rw [← hc] at h1
        rw [← h1, List.getD_eq_getElem?_getD, List.getElem?_eq_getElem hkc]
        simp
      have hc256 : c.toNat < 256 := c.toNat_lt
      obtain ⟨m, hm⟩ : ∃ m, m = c.toNat := ⟨_, rfl⟩
      unfold vb at hcell
      rw [← hm] at hcell hc256
      by_cases h1 : 65 ≤ m ∧ m ≤ 90
      · have b1 : (65 : Int) ≤ (m : Int) := by omega
        have b2 : (m : Int) ≤ 90 := by omega
        have hv : vb (lwc c) = .int .u8 ((m + 32 : Nat) : Int) := by
          have e : (UInt8.ofNat (m + 32)).toNat = m + 32 := by rw [UInt8.toNat_ofNat']; omega
          rw [lwc_x, ← hm, if_pos h1, vb, e]
        obtain ⟨b, hbv⟩ : ∃ b, b = m + 32 := ⟨_, rfl⟩
        obtain ⟨a, ha⟩ : ∃ a, a = m - 65 := ⟨_, rfl⟩
        have hw1 : IntKind.u8.wrap ((m : Int) - 65) = (a : Int) := by rw [ha]; simp [IntKind.wrap, IntKind.signed, IntKind.bits]; omega
        have hw2 : IntKind.u8.wrap ((a : Int) + 97) = (b : Int) := by rw [ha, hbv]; simp [IntKind.wrap, IntKind.signed, IntKind.bits]; omega
        rw [← hbv] at hv
        clear ha
        rw [hv] at hst
        have hst' := Lib.hid hst
        have hkp2 := Lib.hid (below_setCell hkp g k (.int .u8 (b : Int)) HG.out)
        clear hv hW hkp hsame hid hc hm hbv h1 hkc hc256 hst
        go_wp2_with fail
        go_roundw
        case rel => exact ⟨k + 1, by omega, by go_num, hst'.out, hkp2.out⟩
        case measure => simp [intOf]; omega
      · have hv : lwc c = c := by unfold lwc; rw [if_neg (by rw [← hm]; exact h1)]
        have hW2 : Hid (Wb wr g (M (k + 1))) := by
          show Wb _ _ _
          rw [← hsame, hv, hid]
          exact hW
        have hkp2 := Lib.hid hkp
        by_cases h2 : 65 ≤ m
        · have b1 : (65 : Int) ≤ (m : Int) := by omega
          have b2 : ¬ (m : Int) ≤ 90 := by omega
          clear hv hW hkp hsame hid hc hm h1 hkc hc256 hst hfz
          go_wp2_with fail
          go_roundw
          case rel => exact ⟨k + 1, by omega, by go_num, hW2.out, hkp2.out⟩
          case measure => simp [intOf]; omega
        · have b1 : ¬ (65 : Int) ≤ (m : Int) := by omega
          clear hv hW hkp hsame hid hc hm h1 hkc hc256 hst hfz
          go_wp2_with fail
          go_roundw
          case rel => exact ⟨k + 1, by omega, by go_num, hW2.out, hkp2.out⟩
          case measure => simp [intOf]; omega
    · have hkS : ¬ (k : Int) < (S : Int) := by omega
      have hk' : k = S := by omega
      have hbs := hW.bs
      rw [HL.out, hk', HE.out] at hbs
      have hkp2 := Lib.hid hkp
      have hbs' := Lib.hid hbs
      clear hW hkp hk' hlt hbs
      go_wp2_with ((with_reducible show wpList _ _ _ (⟨some 29, .convert _ _ _, _, _, _, _⟩ :: _) _ _); refine wp_str _ rfl (.tmp 28) rfl _ (some ⟨g, 0, none⟩) _ cap _ rfl hbs'.out ?_; simp only [Act.put, List.setIfInBounds_toArray, List.set_cons_zero, List.set_cons_succ])
      go_ret
      exact ⟨rfl, hkp2.out⟩
set_option maxHeartbeats 4000000 in
set_option maxRecDepth 100000 in
theorem fold_any (a b : List UInt8) (w : World) (ha : a.length ≤ 9223372036854775807) (hb : b.length ≤ 9223372036854775807) : Calls Tryz.prog 34 #[.string (str a), .string (str b)] w fun e w' => e = .returned (.bool (decide (low a = low b))) ∧ Below w.heap.size w w' := by
  have HA : Hid (∀ w', Calls Tryz.prog 29 #[.string (str a)] w' fun e w2 => e = .returned (.string (str (low a))) ∧ Below w'.heap.size w' w2) := fun w' => lower_any a w' ha
  have HB : Hid (∀ w', Calls Tryz.prog 29 #[.string (str b)] w' fun e w2 => e = .returned (.string (str (low b))) ∧ Below w'.heap.size w' w2) := fun w' => lower_any b w' hb
  obtain ⟨R, hR⟩ : ∃ R, R = decide (low a = low b) := ⟨_, rfl⟩
  have HR : Hid (R = true ↔ low a = low b) := by show _ ↔ _; rw [hR]; simp
  rw [← hR]
  clear hR
  generalize low a = x at *
  generalize low b = y at *
  go_enter Tryz.func34, Tryz.ntmps34
  go_wp2_with (first
    | (go_at_call 29; (with_reducible refine (HA.out _).mono ?_); (rintro e w1 ⟨rfl, hb1⟩; have HW := Lib.hid hb1; clear hb1))
    | (go_at_call 29; (with_reducible refine (HB.out _).mono ?_); (rintro e w2 ⟨rfl, hb2⟩))
    | ((with_reducible show wpList _ _ _ (⟨some 9, .binOp _ _ _ _ _, _, _, _, _⟩ :: _) _ _); refine wp_eqS _ rfl (.tmp 6) (.tmp 8) rfl x y rfl rfl R (HR.out) ?_; simp only [Act.put, List.setIfInBounds_toArray, List.set_cons_zero, List.set_cons_succ]))
  go_ret
  exact ⟨rfl, HW.out.trans (hb2.mono HW.out.size)⟩
set_option linter.unusedVariables false
theorem lit_cell9 (w : World) (p : List UInt8) : ∀ (q : List UInt8) (j : Nat) (r : List UInt8), ([q] : List (List UInt8))[j]? = some r → (w.alloc (.cells #[.string (str q)] 9)).cell? ⟨w.heap.size, 0 + j, none⟩ = some (vstr r) := by
  intro q j r h
  cases j with
  | zero =>
    simp at h
    subst h
    exact (Blk.new w 9 [vstr q]).cell rfl
  | succ j => simp at h
theorem lit_one (w : World) (p : List UInt8) (g : Nat) (hg : g = w.heap.size) : ∀ (j : Nat) (r : List UInt8), ([p] : List (List UInt8))[j]? = some r → (w.alloc (.cells #[.string (str p)] 9)).cell? ⟨g, 0 + j, none⟩ = some (vstr r) := by
  rw [hg]
  exact lit_cell9 w p p
theorem Ps.new (w : World) (L : List (List UInt8)) (a : Array Value) (h : a = (L.map vstr).toArray) : Ps (w.alloc (.cells a 9)) w.heap.size L := by
  subst h
  exact ⟨by simp, fun j p hj => (Blk.new w 9 (L.map vstr)).cell (by rw [List.getElem?_map, hj]; rfl)⟩
theorem Ps.at_ {w : World} {g j : Nat} {ps : List (List UInt8)} {p : List UInt8} (h : Ps w g ps) (hj : ps[j]? = some p) : w.cell? ⟨g, j, none⟩ = some (.string (str p)) := h.2 j p hj
theorem drop_row (L : List (List UInt8)) (k : Nat) (hk : k < L.length) : L.drop k = L.getD k [] :: L.drop (k + 1) := by
  rw [List.drop_eq_getElem_cons hk, List.getD_eq_getElem?_getD, List.getElem?_eq_getElem hk]
  rfl
theorem row_at (L : List (List UInt8)) (k : Nat) (hk : k < L.length) : L[k]? = some (L.getD k []) := by
  rw [List.getD_eq_getElem?_getD, List.getElem?_eq_getElem hk]
  rfl
set_option linter.unusedVariables false
theorem cell_lt {w : World} {g k : Nat} {v : Value} (h : w.cell? ⟨g, k, none⟩ = some v) : g < w.heap.size := by
  rcases Nat.lt_or_ge g w.heap.size with h1 | h1
  · exact h1
  · simp [World.cell?, Array.getElem?_eq_none h1] at h
set_option maxHeartbeats 4000000 in
set_option maxRecDepth 100000 in
theorem same_any (ps qs : List (List UInt8)) (A B : Option Addr) (c d : Nat) (w : World) (hp : ∀ j x, ps[j]? = some x → ∃ g, A = some ⟨g, 0, none⟩ ∧ w.cell? ⟨g, j, none⟩ = some (vstr x)) (hq : ∀ j x, qs[j]? = some x → ∃ g, B = some ⟨g, 0, none⟩ ∧ w.cell? ⟨g, j, none⟩ = some (vstr x)) (hc : ps.length ≤ c) (hd : qs.length ≤ d) (hpl : ps.length ≤ 1000000000) : Calls Tryz.prog 16 #[.slice A ps.length c, .slice B qs.length d] w fun e w' => e = .returned (.bool (decide (ps = qs))) ∧ Below w.heap.size w w' := by
  by_cases hlen : ps.length = qs.length
  · have hend : Hid (ps.drop ps.length = qs.drop ps.length) := by show _ = _; rw [List.drop_length, hlen, List.drop_length]
    have hrow : Hid (∀ k, k < ps.length → ∃ x y g h, A = some ⟨g, 0, none⟩ ∧ B = some ⟨h, 0, none⟩ ∧ w.cell? ⟨g, k, none⟩ = some (.string (str x)) ∧ w.cell? ⟨h, k, none⟩ = some (.string (str y)) ∧ (decide (ps.drop k = qs.drop k) = (decide (x = y) && decide (ps.drop (k + 1) = qs.drop (k + 1))))) := fun k hk => by
      obtain ⟨g, hA, h1⟩ := hp k _ (row_at ps k hk)
      obtain ⟨h, hB, h2⟩ := hq k _ (row_at qs k (by omega))
      refine ⟨_, _, g, h, hA, hB, h1, h2, ?_⟩
      rw [drop_row ps k hk, drop_row qs k (by omega), ← Bool.decide_and]
      congr 1
      simp
    obtain ⟨R, hR⟩ : ∃ R, R = decide (ps = qs) := ⟨_, rfl⟩
    have HR := Lib.hid hR
    rw [← hR, ← hlen]
    obtain ⟨S, hS⟩ : ∃ S, S = ps.length := ⟨_, rfl⟩
    rw [← hS] at hrow hend hpl ⊢
    have hne : ((S : Int) != (S : Int)) = false := by simp
    clear hR hS hlen hp hq hc hd
    go_enter Tryz.func16, Tryz.ntmps16
    go_wp2_with fail
    go_loopw [5] (fun i wr => ∃ k : Nat, k ≤ S ∧ i = .int .i64 (k : Int) ∧ Below w.heap.size w wr ∧ (∀ g j, g < w.heap.size → wr.cell? ⟨g, j, none⟩ = w.cell? ⟨g, j, none⟩) ∧ decide (ps.drop k = qs.drop k) = R) (fun i _ => S - (intOf i).toNat)
    case atStart => exact ⟨0, by omega, rfl, Below.refl _ _, fun _ _ _ => rfl, by rw [List.drop_zero, List.drop_zero]; exact HR.out.symm⟩
    case round =>
      obtain ⟨k, hk, rfl, hbl, hcl, hA⟩ := hrel
      have HA := Lib.hid hA
      have HB := Lib.hid hbl
      clear hA hbl
      by_cases hlt : k < S
      · have hkS : (k : Int) < (S : Int) := by omega
        obtain ⟨x, y, g, h, rfl, rfl, h1, h2, hD⟩ := hrow.out k hlt
        have h1' := (hcl g k (cell_lt h1)).trans h1
        have h2' := (hcl h k (cell_lt h2)).trans h2
        have HC := Lib.hid hcl
        have HD := Lib.hid hD
        clear hcl h1 h2 hD
        have hsz1 : Hid (w.heap.size ≤ wr.heap.size) := HB.out.size
        have hq0 : ((str x).toList == (str y).toList) = decide (x = y) := by rw [toList_str, toList_str, Bool.eq_iff_iff]; simp
        by_cases hxy : x = y
        · have HE : Hid (decide (x = y) = true) := decide_eq_true hxy
          have hq1 : ((str x).toList == (str y).toList) = true := by rw [hq0]; exact HE.out
          have hq2 : ((str x).toList != (str y).toList) = false := by simp [bne, hq1]
          clear hxy hq0
          go_wp2_with fail
          go_quiet (fail)
          go_wp2_with fail
          go_roundw
          case rel => exact ⟨k + 1, by omega, by go_num, below_drewN HB.out nq, fun g' j hg => HC.out g' j hg, by rw [← HA.out, HD.out, HE.out]; simp⟩
          case measure => simp [intOf]; omega
        · have HE : Hid (decide (x = y) = false) := decide_eq_false hxy
          have hq1 : ((str x).toList == (str y).toList) = false := by rw [hq0]; exact HE.out
          have hq2 : ((str x).toList != (str y).toList) = true := by simp [bne, hq1]
          clear hxy hq0
          go_wp2_with fail
          go_quiet (fail)
          go_wp2_with fail
          go_ret
          refine ⟨?_, below_drewN HB.out nq⟩
          rw [← HA.out, HD.out, HE.out]
          simp
      · have hkS : ¬ (k : Int) < (S : Int) := by omega
        have hke : Hid (k = S) := by show _ = _; omega
        clear hcl
        go_wp2_with fail
        go_ret
        refine ⟨?_, HB.out⟩
        rw [← HA.out, hke.out, hend.out]
        simp
  · have hne : ((ps.length : Int) != (qs.length : Int)) = true := by simp; omega
    have hR : decide (ps = qs) = false := decide_eq_false fun e => hlen (by rw [e])
    rw [hR]
    clear hR hlen hp hq
    go_enter Tryz.func16, Tryz.ntmps16
    go_wp2_with fail
    go_ret
    exact ⟨rfl, Below.refl _ _⟩
theorem ps_same {w : World} {g c : Nat} {ps : List (List UInt8)} (h : Ps w g ps) : ∀ (j : Nat) (x : List UInt8), ps[j]? = some x → ∃ g', (some ⟨g, 0, none⟩ : Option Addr) = some ⟨g', 0, none⟩ ∧ w.cell? ⟨g', j, none⟩ = some (vstr x) := fun j x hj => ⟨g, rfl, h.2 j x hj⟩
end Go.Proofs.YtonchnmcklgpoaaGreatDoor
