/-
  What event.Right answers; nothing that was there turns. Condition: the table of kinds holds what the program's text lays.
-/
import Derived.Test.YtjgcodnabgkjoaaDoorRt
namespace Go.Proofs.YtjgcodnabgkjoaaDoor
open Go.RowKit

/-- The table's cells. -/
def tabc : List Value := (List.range 15).flatMap fun k => havc (hav k)
/-- The table lies where the program has it. -/
def Tab (w : World) : Prop := 0 < w.heap.size ∧ w.rangeAt 0 0 tabc
theorem Tab.below {w w' : World} {B : Nat} (h : Tab w) (hb : Below B w w') (hB : 0 < B) : Tab w' :=
  ⟨Nat.lt_of_lt_of_le h.1 hb.size, fun j v hv => (hb.cell (p := ⟨0, 0 + j, none⟩) hB).trans (h.2 j v hv)⟩
theorem Tab.kept {w w' : World} (h : Tab w) (hb : Below w.heap.size w w') : Tab w' := h.below hb h.1
theorem Tab.chg {w w' : World} {x y : Nat} (h : Tab w) (hc : Chg x y w w') (hx : 0 < x) (hy : 0 < y) : Tab w' := h.below (hc.below (B := 1) (by have := h.1; omega) hx hy) (by omega)
theorem tab_row : ∀ k, k < 15 → ∀ j, j < 5 → (havc (hav k))[j]? = tabc[k * 5 + j]? := by
  intro k hk j hj
  match k, hk with
  | 0, _ | 1, _ | 2, _ | 3, _ | 4, _ | 5, _ | 6, _ | 7, _ | 8, _ | 9, _ | 10, _ | 11, _ | 12, _ | 13, _ | 14, _ =>
    match j, hj with
    | 0, _ | 1, _ | 2, _ | 3, _ | 4, _ => rfl
theorem Tab.row {w : World} (h : Tab w) {k : Nat} (hk : k < 15) : w.rangeAt 0 (k * 5) (havc (hav k)) := by
  intro j v hv
  have hj : j < 5 := by
    have := (List.getElem?_eq_some_iff.1 hv).1
    rwa [havc_length (hav_ok k)] at this
  have := h.2 (k * 5 + j) v (by rw [← tab_row k hk j hj]; exact hv)
  rwa [Nat.zero_add] at this
theorem size47 : (Tryd.prog.info? 47).map (·.size) = some 5 := by kernel_rfl
theorem size24 : (Tryd.prog.info? 24).map (·.size) = some 10 := by kernel_rfl
theorem size47' (k : Nat) : (Tryd.prog.info? 47).map (·.size) = some (havc (hav k)).length := by rw [havc_length (hav_ok k)]; exact size47
theorem size24' {e : Ev} (h : EvOk e) : (Tryd.prog.info? 24).map (·.size) = some (evc e).length := by rw [evc_length h]; exact size24
theorem zero47 : (Tryd.prog.info? 47).map (fun i => i.zero) = some (some (.agg (havc (hav 0)).toArray)) := by kernel_rfl
def ev0 : Ev := ⟨0, 0, 0, [[], [], [], []], [0, 0, 0]⟩
theorem ev0_ok : EvOk ev0 := ⟨rfl, rfl⟩
theorem zero24 : (Tryd.prog.info? 24).map (fun i => i.zero) = some (some (.agg (evc ev0).toArray)) := by kernel_rfl

/-- A whole struct is read, be the operation guarded or not. -/
theorem wp_getG {ops : Array Oper} {rest : List Oper} {o : Oper} {a : Act} {Q : Exit → Act → World → Prop} (w : World) (hgd : Region.wanted o (yielded ops a.tmps) = true) (t : TypeId) (x : Operand) (ho : o.op = .load t x) (b off : Nat) (cs : List Value) (d : TypeDesc)
    (hx : a.eval x = .pointer (some ⟨b, off, none⟩)) (hc : w.rangeAt b off cs) (hu : Tryd.prog.underlying t = some d) (hd : d.isRow = true) (hi : (Tryd.prog.info? t).map (·.size) = some cs.length)
    (h : wpList Tryd.prog ops Q rest (a.put o.dst (.agg cs.toArray)) w) : wpList Tryd.prog ops Q (o :: rest) a w :=
  wpList_step fun K hK => by
    rw [if_pos hgd]
    exact wp_load_mid t x ho b off hx cs d hc hu hd hi (hK _ _ h)

/-- Is the event right? -/
def rightE (e : Ev) : Bool := decide (1 ≤ e.kind ∧ e.kind ≤ 14) && ((hav e.kind.toNat).fetch == decide (e.id ≠ 0)) && rightT (hav e.kind.toNat).texts e.ts && rightN (hav e.kind.toNat).bl e.ns
theorem evc_kind (e : Ev) : (evc e)[0]? = some (.int .i64 e.kind) := rfl
theorem evc_id (e : Ev) : (evc e)[2]? = some (.int .u64 (e.id : Int)) := rfl

set_option maxHeartbeats 4000000 in
set_option maxRecDepth 100000 in
theorem right_any (e : Ev) (he : EvOk e) (hsz : ∀ t ∈ e.ts, t.length ≤ 1000000) (w : World) (ht : Tab w) :
    Calls Tryd.prog 15 #[.agg (evc e).toArray] w fun r w' => r = .returned (.bool (rightE e)) ∧ Below w.heap.size w w' := by
  obtain ⟨R, hR⟩ : ∃ R, R = rightE e := ⟨_, rfl⟩
  rw [← hR]
  have HR := Lib.hid hR
  clear hR
  by_cases h1 : e.kind < 1
  · have hR1 : R = false := by rw [HR.out, rightE]; simp; omega
    have d1 : decide (e.kind < 1) = true := by simpa using h1
    have kc := evc_kind e
    obtain ⟨C, hC⟩ : ∃ C, C = evc e := ⟨_, rfl⟩
    rw [← hC] at kc ⊢
    generalize e.kind = K at *
    rw [hR1]
    clear hC HR hR1
    go_enter Tryd.func15, Tryd.ntmps15
    go_wp2_with (first
      | ((with_reducible show wpList _ _ _ (⟨some 1, _, _, _, _, _⟩ :: _) _ _); refine wp_box _ rfl 24 (.tmp 0) rfl C rfl ?_; intro w1 ge hB1 hf1; have c1 := hB1.cell kc; simp only [Act.put, List.setIfInBounds_toArray, List.set_cons_zero, List.set_cons_succ]))
    go_ret
    exact ⟨rfl, hf1.below⟩
  · by_cases h2 : 14 < e.kind
    · have hR1 : R = false := by rw [HR.out, rightE]; simp; omega
      have d1 : decide (e.kind < 1) = false := by simpa using h1
      have d2 : decide (14 < e.kind) = true := by simpa using h2
      have kc := evc_kind e
      obtain ⟨C, hC⟩ : ∃ C, C = evc e := ⟨_, rfl⟩
      rw [← hC] at kc ⊢
      generalize e.kind = K at *
      rw [hR1]
      clear hC HR hR1
      go_enter Tryd.func15, Tryd.ntmps15
      go_wp2_with (first
        | ((with_reducible show wpList _ _ _ (⟨some 1, _, _, _, _, _⟩ :: _) _ _); refine wp_box _ rfl 24 (.tmp 0) rfl C rfl ?_; intro w1 ge hB1 hf1; have c1 := hB1.cell kc; simp only [Act.put, List.setIfInBounds_toArray, List.set_cons_zero, List.set_cons_succ]))
      go_ret
      exact ⟨rfl, hf1.below⟩
    · obtain ⟨k, hk⟩ : ∃ k : Nat, e.kind = (k : Int) := ⟨e.kind.toNat, by omega⟩
      have hk1 : ¬ k < 1 := by omega
      have hk2 : ¬ 14 < k := by omega
      have hk3 : (k : Int) < 15 := by omega
      have hk15 : k < 15 := by omega
      have hd1 : decide ((k : Int) < 1) = false := by simp; omega
      have hd2 : decide ((14 : Int) < (k : Int)) = false := by simp; omega
      have hkn : e.kind.toNat = k := by omega
      have hRk : R = ((((hav k).fetch == decide (e.id ≠ 0)) && rightT (hav k).texts e.ts) && rightN (hav k).bl e.ns) := by
        have hd : decide (1 ≤ e.kind ∧ e.kind ≤ 14) = true := by simp; omega
        rw [HR.out, rightE, hd, hkn, Bool.true_and]
      have HK := Lib.hid hRk
      have kc : (evc e)[0]? = some (.int .i64 (k : Int)) := by rw [evc_kind, hk]
      have ic := evc_id e
      have RT := fun W => rightTexts_any (hav k) (hav_ok k) e he hsz W
      have RN := fun W => rightNumbers_any (hav k) (hav_ok k) e he W
      generalize rightT (hav k).texts e.ts = Rt at *
      generalize rightN (hav k).bl e.ns = Rn at *
      obtain ⟨f, hf⟩ : ∃ f, f = (hav k).fetch := ⟨_, rfl⟩
      rw [← hf] at HK
      have HF := Lib.hid hf
      have z47 := size47' k
      have z24 := size24' he
      have hl47 : (havc (hav k)).length = (havc (hav 0)).length := by rw [havc_length (hav_ok k), havc_length (hav_ok 0)]
      have y47 := zero47
      generalize havc (hav 0) = Z at *
      clear hRk hkn hk h1 h2 hf
      obtain ⟨C, hC⟩ : ∃ C, C = evc e := ⟨_, rfl⟩
      rw [← hC] at kc ic z24 RT RN ⊢
      obtain ⟨i, hi⟩ : ∃ i, i = e.id := ⟨_, rfl⟩
      rw [← hi] at ic HK
      clear hC hi HR
      cases f
      all_goals by_cases hi0 : i = 0
      · have hi' : ((i : Int) != 0) = false := by simp; omega
        have hRf : R = (Rt && Rn) := by rw [HK.out]; simp [hi0]
        have HRf := Lib.hid hRf
        clear hRf hi0
        go_enter Tryd.func15, Tryd.ntmps15
        go_wp2_with (first
          | ((with_reducible show wpList _ _ _ (⟨some 1, _, _, _, _, _⟩ :: _) _ _); refine wp_box _ rfl 24 (.tmp 0) rfl C rfl ?_; intro w1 ge hB1 hf1; have c1 := hB1.cell kc; have i1 := hB1.cell ic; have t1 := ht.kept hf1.below; simp only [Act.put, List.setIfInBounds_toArray, List.set_cons_zero, List.set_cons_succ])
          | ((with_reducible show wpList _ _ _ (⟨some 15, _, _, _, _, _⟩ :: _) _ _); refine wp_getG _ (by rfl) 47 (.tmp 14) rfl 0 (k * 5) (havc (hav k)) _ rfl (t1.row hk15) Tryd.underlying47 rfl z47 ?_; simp only [Act.put, List.setIfInBounds_toArray, List.set_cons_zero, List.set_cons_succ])
          | ((with_reducible show wpList _ _ _ (⟨some 3, _, _, _, _, _⟩ :: _) _ _); refine wp_new _ rfl 47 rfl _ y47 ?_; intro w2 gh hB2 hf2; have hB3 := hf2.blk hB1; simp only [Act.put, List.setIfInBounds_toArray, List.set_cons_zero, List.set_cons_succ])
          | ((with_reducible show wpList _ _ _ (⟨none, _, _, _, _, _⟩ :: _) _ _); refine wp_putAll _ rfl 47 (.tmp 3) (.tmp 15) rfl gh 47 _ (havc (hav k)) rfl rfl hB2 hl47 z47 (havc_one _) ?_; intro w3 hB4 hU4; have hB5 := hB3.upd hU4 (by have a1 := hf2.is; have a2 := hB1.lt; omega); have c5 := hB5.cell kc; have i5 := hB5.cell ic; have f5 : w3.cell? ⟨gh, 0, none⟩ = some (.bool false) := (by rw [HF.out]; exact hB4.cell rfl); simp only [Act.put])
          | ((with_reducible show wpList _ _ _ (⟨some 23, _, _, _, _, _⟩ :: _) _ _); refine wp_getG _ (by rfl) 47 (.tmp 3) rfl gh 0 (havc (hav k)) _ rfl hB4.whole Tryd.underlying47 rfl z47 ?_; simp only [Act.put, List.setIfInBounds_toArray, List.set_cons_zero, List.set_cons_succ])
          | ((with_reducible show wpList _ _ _ (⟨some 24, _, _, _, _, _⟩ :: _) _ _); refine wp_getG _ (by rfl) 24 (.tmp 1) rfl ge 0 C _ rfl hB5.whole Tryd.underlying24 rfl z24 ?_; simp only [Act.put, List.setIfInBounds_toArray, List.set_cons_zero, List.set_cons_succ]))
        refine (RT w3).mono ?_
        rintro r w4 ⟨rfl, hb4⟩
        have bel3 : Below w.heap.size w w3 := (hf1.below.trans (hf2.below.mono hf1.below.size)).trans (hU4.below (by have a1 := hf2.is; have a2 := hf1.below.size; omega))
        have bel4 := bel3.trans (hb4.mono bel3.size)
        replace hB4 := hB4.kept hb4
        replace hB5 := hB5.kept hb4
        clear c5 i5 f5 hU4 hB3 hB2 hB1 c1 i1 t1 hb4
        cases Rt
        · go_wp2_with fail
          go_ret
          exact ⟨by rw [HRf.out]; rfl, bel4⟩
        · go_wp2_with (first
            | ((with_reducible show wpList _ _ _ (⟨some 28, _, _, _, _, _⟩ :: _) _ _); refine wp_getG _ (by rfl) 47 (.tmp 3) rfl gh 0 (havc (hav k)) _ rfl hB4.whole Tryd.underlying47 rfl z47 ?_; simp only [Act.put, List.setIfInBounds_toArray, List.set_cons_zero, List.set_cons_succ])
            | ((with_reducible show wpList _ _ _ (⟨some 29, _, _, _, _, _⟩ :: _) _ _); refine wp_getG _ (by rfl) 24 (.tmp 1) rfl ge 0 C _ rfl hB5.whole Tryd.underlying24 rfl z24 ?_; simp only [Act.put, List.setIfInBounds_toArray, List.set_cons_zero, List.set_cons_succ]))
          refine (RN w4).mono ?_
          rintro r w5 ⟨rfl, hb5⟩
          go_wp2_with fail
          go_ret
          exact ⟨by rw [HRf.out]; rfl, bel4.trans (hb5.mono bel4.size)⟩
      · have hi' : ((i : Int) != 0) = true := by simp; omega
        have hRf : R = false := by rw [HK.out]; simp [hi0]
        have HRf := Lib.hid hRf
        clear hRf hi0
        go_enter Tryd.func15, Tryd.ntmps15
        go_wp2_with (first
          | ((with_reducible show wpList _ _ _ (⟨some 1, _, _, _, _, _⟩ :: _) _ _); refine wp_box _ rfl 24 (.tmp 0) rfl C rfl ?_; intro w1 ge hB1 hf1; have c1 := hB1.cell kc; have i1 := hB1.cell ic; have t1 := ht.kept hf1.below; simp only [Act.put, List.setIfInBounds_toArray, List.set_cons_zero, List.set_cons_succ])
          | ((with_reducible show wpList _ _ _ (⟨some 15, _, _, _, _, _⟩ :: _) _ _); refine wp_getG _ (by rfl) 47 (.tmp 14) rfl 0 (k * 5) (havc (hav k)) _ rfl (t1.row hk15) Tryd.underlying47 rfl z47 ?_; simp only [Act.put, List.setIfInBounds_toArray, List.set_cons_zero, List.set_cons_succ])
          | ((with_reducible show wpList _ _ _ (⟨some 3, _, _, _, _, _⟩ :: _) _ _); refine wp_new _ rfl 47 rfl _ y47 ?_; intro w2 gh hB2 hf2; have hB3 := hf2.blk hB1; simp only [Act.put, List.setIfInBounds_toArray, List.set_cons_zero, List.set_cons_succ])
          | ((with_reducible show wpList _ _ _ (⟨none, _, _, _, _, _⟩ :: _) _ _); refine wp_putAll _ rfl 47 (.tmp 3) (.tmp 15) rfl gh 47 _ (havc (hav k)) rfl rfl hB2 hl47 z47 (havc_one _) ?_; intro w3 hB4 hU4; have hB5 := hB3.upd hU4 (by have a1 := hf2.is; have a2 := hB1.lt; omega); have c5 := hB5.cell kc; have i5 := hB5.cell ic; have f5 : w3.cell? ⟨gh, 0, none⟩ = some (.bool false) := (by rw [HF.out]; exact hB4.cell rfl); simp only [Act.put])
          | ((with_reducible show wpList _ _ _ (⟨some 23, _, _, _, _, _⟩ :: _) _ _); refine wp_getG _ (by rfl) 47 (.tmp 3) rfl gh 0 (havc (hav k)) _ rfl hB4.whole Tryd.underlying47 rfl z47 ?_; simp only [Act.put, List.setIfInBounds_toArray, List.set_cons_zero, List.set_cons_succ])
          | ((with_reducible show wpList _ _ _ (⟨some 24, _, _, _, _, _⟩ :: _) _ _); refine wp_getG _ (by rfl) 24 (.tmp 1) rfl ge 0 C _ rfl hB5.whole Tryd.underlying24 rfl z24 ?_; simp only [Act.put, List.setIfInBounds_toArray, List.set_cons_zero, List.set_cons_succ]))
        go_ret
        exact ⟨by rw [HRf.out]; rfl, (hf1.below.trans (hf2.below.mono hf1.below.size)).trans (hU4.below (by have a1 := hf2.is; have a2 := hf1.below.size; omega))⟩
      · have hi' : ((i : Int) != 0) = false := by simp; omega
        have hRf : R = false := by rw [HK.out]; simp [hi0]
        have HRf := Lib.hid hRf
        clear hRf hi0
        go_enter Tryd.func15, Tryd.ntmps15
        go_wp2_with (first
          | ((with_reducible show wpList _ _ _ (⟨some 1, _, _, _, _, _⟩ :: _) _ _); refine wp_box _ rfl 24 (.tmp 0) rfl C rfl ?_; intro w1 ge hB1 hf1; have c1 := hB1.cell kc; have i1 := hB1.cell ic; have t1 := ht.kept hf1.below; simp only [Act.put, List.setIfInBounds_toArray, List.set_cons_zero, List.set_cons_succ])
          | ((with_reducible show wpList _ _ _ (⟨some 15, _, _, _, _, _⟩ :: _) _ _); refine wp_getG _ (by rfl) 47 (.tmp 14) rfl 0 (k * 5) (havc (hav k)) _ rfl (t1.row hk15) Tryd.underlying47 rfl z47 ?_; simp only [Act.put, List.setIfInBounds_toArray, List.set_cons_zero, List.set_cons_succ])
          | ((with_reducible show wpList _ _ _ (⟨some 3, _, _, _, _, _⟩ :: _) _ _); refine wp_new _ rfl 47 rfl _ y47 ?_; intro w2 gh hB2 hf2; have hB3 := hf2.blk hB1; simp only [Act.put, List.setIfInBounds_toArray, List.set_cons_zero, List.set_cons_succ])
          | ((with_reducible show wpList _ _ _ (⟨none, _, _, _, _, _⟩ :: _) _ _); refine wp_putAll _ rfl 47 (.tmp 3) (.tmp 15) rfl gh 47 _ (havc (hav k)) rfl rfl hB2 hl47 z47 (havc_one _) ?_; intro w3 hB4 hU4; have hB5 := hB3.upd hU4 (by have a1 := hf2.is; have a2 := hB1.lt; omega); have c5 := hB5.cell kc; have i5 := hB5.cell ic; have f5 : w3.cell? ⟨gh, 0, none⟩ = some (.bool true) := (by rw [HF.out]; exact hB4.cell rfl); simp only [Act.put])
          | ((with_reducible show wpList _ _ _ (⟨some 23, _, _, _, _, _⟩ :: _) _ _); refine wp_getG _ (by rfl) 47 (.tmp 3) rfl gh 0 (havc (hav k)) _ rfl hB4.whole Tryd.underlying47 rfl z47 ?_; simp only [Act.put, List.setIfInBounds_toArray, List.set_cons_zero, List.set_cons_succ])
          | ((with_reducible show wpList _ _ _ (⟨some 24, _, _, _, _, _⟩ :: _) _ _); refine wp_getG _ (by rfl) 24 (.tmp 1) rfl ge 0 C _ rfl hB5.whole Tryd.underlying24 rfl z24 ?_; simp only [Act.put, List.setIfInBounds_toArray, List.set_cons_zero, List.set_cons_succ]))
        go_ret
        exact ⟨by rw [HRf.out]; rfl, (hf1.below.trans (hf2.below.mono hf1.below.size)).trans (hU4.below (by have a1 := hf2.is; have a2 := hf1.below.size; omega))⟩
      · have hi' : ((i : Int) != 0) = true := by simp; omega
        have hRf : R = (Rt && Rn) := by rw [HK.out]; simp [hi0]
        have HRf := Lib.hid hRf
        clear hRf hi0
        go_enter Tryd.func15, Tryd.ntmps15
        go_wp2_with (first
          | ((with_reducible show wpList _ _ _ (⟨some 1, _, _, _, _, _⟩ :: _) _ _); refine wp_box _ rfl 24 (.tmp 0) rfl C rfl ?_; intro w1 ge hB1 hf1; have c1 := hB1.cell kc; have i1 := hB1.cell ic; have t1 := ht.kept hf1.below; simp only [Act.put, List.setIfInBounds_toArray, List.set_cons_zero, List.set_cons_succ])
          | ((with_reducible show wpList _ _ _ (⟨some 15, _, _, _, _, _⟩ :: _) _ _); refine wp_getG _ (by rfl) 47 (.tmp 14) rfl 0 (k * 5) (havc (hav k)) _ rfl (t1.row hk15) Tryd.underlying47 rfl z47 ?_; simp only [Act.put, List.setIfInBounds_toArray, List.set_cons_zero, List.set_cons_succ])
          | ((with_reducible show wpList _ _ _ (⟨some 3, _, _, _, _, _⟩ :: _) _ _); refine wp_new _ rfl 47 rfl _ y47 ?_; intro w2 gh hB2 hf2; have hB3 := hf2.blk hB1; simp only [Act.put, List.setIfInBounds_toArray, List.set_cons_zero, List.set_cons_succ])
          | ((with_reducible show wpList _ _ _ (⟨none, _, _, _, _, _⟩ :: _) _ _); refine wp_putAll _ rfl 47 (.tmp 3) (.tmp 15) rfl gh 47 _ (havc (hav k)) rfl rfl hB2 hl47 z47 (havc_one _) ?_; intro w3 hB4 hU4; have hB5 := hB3.upd hU4 (by have a1 := hf2.is; have a2 := hB1.lt; omega); have c5 := hB5.cell kc; have i5 := hB5.cell ic; have f5 : w3.cell? ⟨gh, 0, none⟩ = some (.bool true) := (by rw [HF.out]; exact hB4.cell rfl); simp only [Act.put])
          | ((with_reducible show wpList _ _ _ (⟨some 23, _, _, _, _, _⟩ :: _) _ _); refine wp_getG _ (by rfl) 47 (.tmp 3) rfl gh 0 (havc (hav k)) _ rfl hB4.whole Tryd.underlying47 rfl z47 ?_; simp only [Act.put, List.setIfInBounds_toArray, List.set_cons_zero, List.set_cons_succ])
          | ((with_reducible show wpList _ _ _ (⟨some 24, _, _, _, _, _⟩ :: _) _ _); refine wp_getG _ (by rfl) 24 (.tmp 1) rfl ge 0 C _ rfl hB5.whole Tryd.underlying24 rfl z24 ?_; simp only [Act.put, List.setIfInBounds_toArray, List.set_cons_zero, List.set_cons_succ]))
        refine (RT w3).mono ?_
        rintro r w4 ⟨rfl, hb4⟩
        have bel3 : Below w.heap.size w w3 := (hf1.below.trans (hf2.below.mono hf1.below.size)).trans (hU4.below (by have a1 := hf2.is; have a2 := hf1.below.size; omega))
        have bel4 := bel3.trans (hb4.mono bel3.size)
        replace hB4 := hB4.kept hb4
        replace hB5 := hB5.kept hb4
        clear c5 i5 f5 hU4 hB3 hB2 hB1 c1 i1 t1 hb4
        cases Rt
        · go_wp2_with fail
          go_ret
          exact ⟨by rw [HRf.out]; rfl, bel4⟩
        · go_wp2_with (first
            | ((with_reducible show wpList _ _ _ (⟨some 28, _, _, _, _, _⟩ :: _) _ _); refine wp_getG _ (by rfl) 47 (.tmp 3) rfl gh 0 (havc (hav k)) _ rfl hB4.whole Tryd.underlying47 rfl z47 ?_; simp only [Act.put, List.setIfInBounds_toArray, List.set_cons_zero, List.set_cons_succ])
            | ((with_reducible show wpList _ _ _ (⟨some 29, _, _, _, _, _⟩ :: _) _ _); refine wp_getG _ (by rfl) 24 (.tmp 1) rfl ge 0 C _ rfl hB5.whole Tryd.underlying24 rfl z24 ?_; simp only [Act.put, List.setIfInBounds_toArray, List.set_cons_zero, List.set_cons_succ]))
          refine (RN w4).mono ?_
          rintro r w5 ⟨rfl, hb5⟩
          go_wp2_with fail
          go_ret
          exact ⟨by rw [HRf.out]; rfl, bel4.trans (hb5.mono bel4.size)⟩
end Go.Proofs.YtjgcodnabgkjoaaDoor
