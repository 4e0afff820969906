/-
  transeptlaw03.ShaForks returns true, whatever bytes it is called with, and turns nothing that was there. Condition: the tables hold what the program's text lays.
-/
import Derived.Test.YtiigmpoopmnnhaaDoorNothing
namespace Go.Proofs.YtiigmpoopmnnhaaDoor
open Go.RowKit

section
variable {ops : Array Oper} {rest : List Oper} {o : Oper} {a : Act} {Q : Exit → Act → World → Prop}
/-- A guarded read of a whole array, where the guard holds. -/
theorem wpG_get (w : World) (hw : Region.wanted o (yielded ops a.tmps) = true) (t : TypeId) (x : Operand) (ho : o.op = .load t x) (b off : Nat) (cs : List Value) (d : TypeDesc)
    (hx : a.eval x = .pointer (some ⟨b, off, none⟩)) (hc : w.rangeAt b off cs) (hu : Tryd.prog.underlying t = some d) (hd : d.isRow = true) (hi : (Tryd.prog.info? t).map (·.size) = some cs.length)
    (h : wpList Tryd.prog ops Q rest (a.put o.dst (.agg cs.toArray)) w) : wpList Tryd.prog ops Q (o :: rest) a w :=
  wpList_step fun K hK => by
    rw [if_pos hw]
    exact wp_load_mid t x ho b off hx cs d hc hu hd hi (hK _ _ h)
/-- A guarded append, where the guard holds. -/
theorem wpG_appS (w : World) (hw : Region.wanted o (yielded ops a.tmps) = true) (s x : Operand)
    (ho : o.op = .call { callee := .builtin .append, args := #[s, x], argTypes := #[22, 22] })
    (base : Nat) (v : Value) (n : Nat) (l : List UInt8) (hs : a.eval s = v) (hown : Own w base v n l)
    (B : Nat) (A : Option Addr) (m c : Nat) (k : List UInt8) (hx : a.eval x = .slice A m c) (hr : Bs w B A m k) (hsz : n + m ≤ 1000000000) (hbase : base ≤ w.heap.size)
    (N : Nat) (L : List UInt8) (hN : n + m = N) (hL : l ++ k = L)
    (h : ∀ A' c' w', N ≤ c' → Bs w' w'.heap.size A' N L → Own w' base (.slice A' N c') N L → Below base w w' → wpList Tryd.prog ops Q rest (a.put o.dst (.slice A' N c')) w') : wpList Tryd.prog ops Q (o :: rest) a w :=
  wpList_step fun K hK => by
    rw [if_pos hw]
    subst hN hL
    obtain ⟨v', w', hrun, h2, h3⟩ := run_app w base o.type v n l hown B A m c k hr hsz hbase
    obtain ⟨A', c', rfl, h4, h5⟩ := h2.form
    unfold Oper.wp execOp
    simp only [ho, resolve, invoke, builtin, Sem.run_bind, Sem.run_pure, Result.andThen_ok, List.map_toArray, List.map_cons, List.map_nil, hs, hx, hrun]
    exact hK _ _ (h A' c' w' h4 h5 h2 h3)
end

set_option maxHeartbeats 8000000 in
set_option maxRecDepth 100000 in
theorem forks_walk (A : Option Addr) (n c : Nat) (l : List UInt8) (A1 : Option Addr) (n1 c1 : Nat) (l1 : List UInt8) (A2 : Option Addr) (n2 c2 : Nat) (l2 : List UInt8) (w : World)
    (h : Bs w w.heap.size A n l) (hc : n ≤ c) (hcm : c ≤ 9223372036854775807) (h1 : Bs w w.heap.size A1 n1 l1) (hc1 : n1 ≤ c1) (hcm1 : c1 ≤ 9223372036854775807) (h2 : Bs w w.heap.size A2 n2 l2) (hc2 : n2 ≤ c2) (hcm2 : c2 ≤ 9223372036854775807) (ht : Tab w) :
    Calls Tryd.prog 6 #[.slice A n c, .slice A1 n1 c1, .slice A2 n2 c2] w fun e w' => e = .returned (.bool true) ∧ Below w.heap.size w w' := by
  obtain ⟨m, hm, ma, mb⟩ : ∃ m : Nat, min (n : Int) 300 = (m : Int) ∧ m ≤ n ∧ m ≤ 300 := ⟨min n 300, by omega, by omega, by omega⟩
  obtain ⟨m1, hm1, ma1, mb1⟩ : ∃ m : Nat, min (n1 : Int) 200 = (m : Int) ∧ m ≤ n1 ∧ m ≤ 200 := ⟨min n1 200, by omega, by omega, by omega⟩
  obtain ⟨m2, hm2, ma2, mb2⟩ : ∃ m : Nat, min (n2 : Int) 200 = (m : Int) ∧ m ≤ n2 ∧ m ≤ 200 := ⟨min n2 200, by omega, by omega, by omega⟩
  replace h := h.take m ma
  replace h1 := h1.take m1 ma1
  replace h2 := h2.take m2 ma2
  generalize l.take m = T at h
  generalize l1.take m1 = X at h1
  generalize l2.take m2 = Y at h2
  have t0 := h.1
  have t1 := h1.1
  have t2 := h2.1
  have gd := guard25
  have eq0 := eqSelf (digest T) (digest_length T)
  have eq1 := eqSelf (digest (T ++ X)) (digest_length _)
  have eq2 := eqSelf (digest (T ++ Y)) (digest_length _)
  have z0 : (Tryd.prog.info? 40).map (·.size) = some (stc T).length := by rw [stc_length]; exact size40
  have z1 : (Tryd.prog.info? 40).map (·.size) = some (stc (T ++ X)).length := by rw [stc_length]; exact size40
  have z2 : (Tryd.prog.info? 40).map (·.size) = some (stc (T ++ Y)).length := by rw [stc_length]; exact size40
  have lz : (cells3 (List.replicate 8 0) (List.replicate 64 0) 0).length = 73 := cells3_length _ (by simp) (by simp)
  have k0 : (stc T).length = (cells3 (List.replicate 8 0) (List.replicate 64 0) 0).length := by rw [stc_length, lz]
  have k1 : (stc (T ++ X)).length = (cells3 (List.replicate 8 0) (List.replicate 64 0) 0).length := by rw [stc_length, lz]
  have k2 : (stc (T ++ Y)).length = (cells3 (List.replicate 8 0) (List.replicate 64 0) 0).length := by rw [stc_length, lz]
  have o0 : ∀ u ∈ stc T, u.oneCell' = true := cells3_one _ _ _
  have o1 : ∀ u ∈ stc (T ++ X), u.oneCell' = true := cells3_one _ _ _
  have o2 : ∀ u ∈ stc (T ++ Y), u.oneCell' = true := cells3_one _ _ _
  have y40 := zero40
  have ST := start_any
  have M0 := fun w p1 p2 => more_any [] A m c T w p1 p2 (by omega) hcm (by simp; omega)
  have M1 := fun w p1 p2 => more_any T A1 m1 c1 X w p1 p2 (by omega) hcm1 (by omega)
  have M2 := fun w p1 p2 => more_any T A2 m2 c2 Y w p1 p2 (by omega) hcm2 (by omega)
  have U0 := fun w p1 => stateSum_any T w p1 (by omega)
  have U1 := fun w p1 => stateSum_any (T ++ X) w p1 (by simp; omega)
  have U2 := fun w p1 => stateSum_any (T ++ Y) w p1 (by simp; omega)
  have Z0 := fun w p1 p2 => sum_any A m c T w p1 p2 (by omega) hcm (by omega)
  have Z1 := fun A' c' w p1 p2 q1 q2 => sum_any A' (m + m1) c' (T ++ X) w p1 p2 q1 q2 (by omega)
  have Z2 := fun A' c' w p1 p2 q1 q2 => sum_any A' (m + m2) c' (T ++ Y) w p1 p2 q1 q2 (by omega)
  rw [List.nil_append] at M0
  generalize vbs (digest T) = V0 at *
  generalize vbs (digest (T ++ X)) = V1 at *
  generalize vbs (digest (T ++ Y)) = V2 at *
  generalize stc T = S0 at *
  generalize stc (T ++ X) = S1 at *
  generalize stc (T ++ Y) = S2 at *
  generalize stc [] = S9 at *
  generalize cells3 (List.replicate 8 0) (List.replicate 64 0) 0 = Z at k0 k1 k2 y40
  clear lz
  go_enter Tryd.func6, Tryd.ntmps6
  go_wp2_with fail
  refine (shown_any w ht).mono ?_
  rintro e w1 ⟨rfl, hb1⟩
  go_wp2_with fail
  refine (ST w1 (ht.below hb1)).mono ?_
  rintro e w2 ⟨rfl, hb2⟩
  have b2 : Below w.heap.size w w2 := hb1.trans (hb2.mono hb1.size)
  clear hb1 hb2
  go_wp2_with fail
  refine (M0 w2 (ht.below b2) ((h.below b2).more b2.size)).mono ?_
  rintro e w3 ⟨rfl, hb3⟩
  have b3 : Below w.heap.size w w3 := b2.trans (hb3.mono b2.size)
  clear b2 hb3
  go_wp2_with (first
    | ((with_reducible show wpList _ _ _ _ _ _); first
      | (refine wp_new (o := ⟨some 8, _, _, _, _, _⟩) _ rfl 40 rfl _ y40 ?_; intro w4 g1 B4 hf4; simp only [Act.put, List.setIfInBounds_toArray, List.set_cons_zero, List.set_cons_succ])
      | (refine wp_putAll _ rfl 40 (.tmp 8) (.tmp 29) rfl g1 40 _ _ rfl rfl B4 k0 z0 o0 ?_; intro w5 B5 U5; have b5 : Below w.heap.size w w5 := (b3.trans (hf4.below.mono b3.size)).trans (U5.below (by have := b3.size; have := hf4.is; omega)); simp only [Act.put])
      | (refine wp_get (o := ⟨some 30, _, _, _, _, _⟩) _ rfl 40 (.tmp 8) rfl g1 0 _ _ rfl B5.whole Tryd.underlying40 rfl z0 ?_; simp only [Act.put, List.setIfInBounds_toArray, List.set_cons_zero, List.set_cons_succ])))
  clear hf4 U5 B4 b3
  refine (M1 w5 (ht.below b5) ((h1.below b5).more b5.size)).mono ?_
  rintro e w6 ⟨rfl, hb6⟩
  have b6 : Below w.heap.size w w6 := b5.trans (hb6.mono b5.size)
  have B6 := B5.kept hb6
  clear hb6 B5 b5
  go_wp2_with (first
    | ((with_reducible show wpList _ _ _ _ _ _); first
      | (refine wp_new (o := ⟨some 9, _, _, _, _, _⟩) _ rfl 40 rfl _ y40 ?_; intro w7 g2 C7 hf7; simp only [Act.put, List.setIfInBounds_toArray, List.set_cons_zero, List.set_cons_succ])
      | (refine wp_putAll _ rfl 40 (.tmp 9) (.tmp 32) rfl g2 40 _ _ rfl rfl C7 k1 z1 o1 ?_; intro w8 C8 U8; have b8 : Below w.heap.size w w8 := (b6.trans (hf7.below.mono b6.size)).trans (U8.below (by have := b6.size; have := hf7.is; omega)); have B8 := (hf7.blk B6).upd U8 (by have := B6.lt; have := hf7.is; omega); simp only [Act.put])
      | (refine wp_get (o := ⟨some 33, _, _, _, _, _⟩) _ rfl 40 (.tmp 8) rfl g1 0 _ _ rfl B8.whole Tryd.underlying40 rfl z0 ?_; simp only [Act.put, List.setIfInBounds_toArray, List.set_cons_zero, List.set_cons_succ])))
  clear hf7 U8 C7 b6 B6
  refine (M2 w8 (ht.below b8) ((h2.below b8).more b8.size)).mono ?_
  rintro e w9 ⟨rfl, hb9⟩
  have b9 : Below w.heap.size w w9 := b8.trans (hb9.mono b8.size)
  have B9 := B8.kept hb9
  have C9 := C8.kept hb9
  clear hb9 B8 C8 b8
  go_wp2_with (first
    | ((with_reducible show wpList _ _ _ _ _ _); first
      | (refine wp_new (o := ⟨some 10, _, _, _, _, _⟩) _ rfl 40 rfl _ y40 ?_; intro w10 g3 D10 hf10; simp only [Act.put, List.setIfInBounds_toArray, List.set_cons_zero, List.set_cons_succ])
      | (refine wp_putAll _ rfl 40 (.tmp 10) (.tmp 35) rfl g3 40 _ _ rfl rfl D10 k2 z2 o2 ?_; intro w11 D11 U11; have b11 : Below w.heap.size w w11 := (b9.trans (hf10.below.mono b9.size)).trans (U11.below (by have := b9.size; have := hf10.is; omega)); have B11 := (hf10.blk B9).upd U11 (by have := B9.lt; have := hf10.is; omega); have C11 := (hf10.blk C9).upd U11 (by have := C9.lt; have := hf10.is; omega); simp only [Act.put])
      | (refine wpG_get (o := ⟨some 38, _, _, _, _, _⟩) _ rfl 40 (.tmp 9) rfl g2 0 _ _ rfl C11.whole Tryd.underlying40 rfl z1 ?_; simp only [Act.put, List.setIfInBounds_toArray, List.set_cons_zero, List.set_cons_succ])))
  clear hf10 U11 D10 b9 B9 C9
  refine (U1 w11 (ht.below b11)).mono ?_
  rintro e w12 ⟨rfl, hb12⟩
  have b12 : Below w.heap.size w w12 := b11.trans (hb12.mono b11.size)
  have B12 := B11.kept hb12
  have C12 := C11.kept hb12
  have D12 := D11.kept hb12
  clear hb12 B11 C11 D11 b11
  have s12 := b12.size
  have hT := (h.below b12).more s12
  have hX := (h1.below b12).more s12
  go_wp2_with (first
    | ((with_reducible show wpList _ _ _ _ _ _); first
      | (refine wpG_appS (o := ⟨some 42, _, _, _, _, _⟩) _ rfl (.tmp 40) (.tmp 41) rfl w12.heap.size _ 0 [] rfl (own_empty _ _ (Nat.le_refl _)) w12.heap.size _ m _ T rfl (hT.alloc (Nat.le_refl _) _) (by omega) (by simp) m T (by omega) rfl ?_; intro A3 c3 w13 hc3 hS3 hO3 hbel3; have K13 : Kept w12 w13 := ((Below.refl _ _).alloc (Nat.le_refl _) _).trans hbel3; simp only [Act.put, List.setIfInBounds_toArray, List.set_cons_zero, List.set_cons_succ])
      | (refine wpG_appS (o := ⟨some 44, _, _, _, _, _⟩) _ rfl (.tmp 42) (.tmp 43) rfl w12.heap.size _ m T rfl hO3 w12.heap.size _ m1 _ X rfl (hX.below K13) (by omega) K13.size (m + m1) (T ++ X) rfl rfl ?_; intro A4 c4 w14 hc4 hS4 hO4 hbel4; have K14 : Kept w12 w14 := K13.base hbel4; simp only [Act.put, List.setIfInBounds_toArray, List.set_cons_zero, List.set_cons_succ])))
  refine (Z1 A4 c4 w14 (ht.below (b12.trans (K14.mono s12))) hS4 hc4 hO4.capmax).mono ?_
  rintro e w15 ⟨rfl, hb15⟩
  have K15 : Kept w12 w15 := K14.step hb15
  have b15 : Below w.heap.size w w15 := b12.trans (K15.mono s12)
  have B15 := B12.kept K15
  have D15 := D12.kept K15
  clear hb15 K14 K13 hS3 hO3 hbel3 hS4 hO4 hbel4 hT hX B12 C12 D12 K15
  go_wp2_with (first
    | ((with_reducible show wpList _ _ _ _ _ _); first
      | (refine wpG_get (o := ⟨some 49, _, _, _, _, _⟩) _ rfl 40 (.tmp 10) rfl g3 0 _ _ rfl D15.whole Tryd.underlying40 rfl z2 ?_; simp only [Act.put, List.setIfInBounds_toArray, List.set_cons_zero, List.set_cons_succ])))
  refine (U2 w15 (ht.below b15)).mono ?_
  rintro e w16 ⟨rfl, hb16⟩
  have b16 : Below w.heap.size w w16 := b15.trans (hb16.mono b15.size)
  have B16 := B15.kept hb16
  clear hb16 B15 D15 b15
  have s16 := b16.size
  have hT := (h.below b16).more s16
  have hY := (h2.below b16).more s16
  go_wp2_with (first
    | ((with_reducible show wpList _ _ _ _ _ _); first
      | (refine wpG_appS (o := ⟨some 53, _, _, _, _, _⟩) _ rfl (.tmp 51) (.tmp 52) rfl w16.heap.size _ 0 [] rfl (own_empty _ _ (Nat.le_refl _)) w16.heap.size _ m _ T rfl (hT.alloc (Nat.le_refl _) _) (by omega) (by simp) m T (by omega) rfl ?_; intro A5 c5 w17 hc5 hS5 hO5 hbel5; have K17 : Kept w16 w17 := ((Below.refl _ _).alloc (Nat.le_refl _) _).trans hbel5; simp only [Act.put, List.setIfInBounds_toArray, List.set_cons_zero, List.set_cons_succ])
      | (refine wpG_appS (o := ⟨some 55, _, _, _, _, _⟩) _ rfl (.tmp 53) (.tmp 54) rfl w16.heap.size _ m T rfl hO5 w16.heap.size _ m2 _ Y rfl (hY.below K17) (by omega) K17.size (m + m2) (T ++ Y) rfl rfl ?_; intro A6 c6 w18 hc6 hS6 hO6 hbel6; have K18 : Kept w16 w18 := K17.base hbel6; simp only [Act.put, List.setIfInBounds_toArray, List.set_cons_zero, List.set_cons_succ])))
  refine (Z2 A6 c6 w18 (ht.below (b16.trans (K18.mono s16))) hS6 hc6 hO6.capmax).mono ?_
  rintro e w19 ⟨rfl, hb19⟩
  have K19 : Kept w16 w19 := K18.step hb19
  have b19 : Below w.heap.size w w19 := b16.trans (K19.mono s16)
  have B19 := B16.kept K19
  clear hb19 K18 K17 hS5 hO5 hbel5 hS6 hO6 hbel6 hT hY B16 K19
  go_wp2_with (first
    | ((with_reducible show wpList _ _ _ _ _ _); first
      | (refine wpG_get (o := ⟨some 60, _, _, _, _, _⟩) _ rfl 40 (.tmp 8) rfl g1 0 _ _ rfl B19.whole Tryd.underlying40 rfl z0 ?_; simp only [Act.put, List.setIfInBounds_toArray, List.set_cons_zero, List.set_cons_succ])))
  refine (U0 w19 (ht.below b19)).mono ?_
  rintro e w20 ⟨rfl, hb20⟩
  have b20 : Below w.heap.size w w20 := b19.trans (hb20.mono b19.size)
  go_wp2_with fail
  refine (Z0 w20 (ht.below b20) ((h.below b20).more b20.size)).mono ?_
  rintro e w21 ⟨rfl, hb21⟩
  have b21 : Below w.heap.size w w21 := b20.trans (hb21.mono b20.size)
  go_wp2_with fail
  go_ret
  exact ⟨rfl, b21⟩
end Go.Proofs.YtiigmpoopmnnhaaDoor
