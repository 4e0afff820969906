/-
  transeptlaw02.CrcOne returns true, whatever bytes, number and byte it is called with, and turns nothing that was there. Condition: the table's cells hold what the program's text lays.
-/
import Derived.Test.YtdohfnddffkljaaDoorCuts
import Derived.Laws.OwnMore
import Derived.OwnWalk
import Derived.Lib.SmallJoins
import Derived.BigRegion
namespace Go.Proofs.YtdohfnddffkljaaDoor
open Go.RowKit

theorem set_parts (l : List UInt8) (k : Nat) (o : UInt8) (h : k < l.length) : l.set k o = l.take k ++ o :: l.drop (k + 1) := by
  rw [List.set_eq_take_append_cons_drop, if_pos h]
theorem own_parts (l : List UInt8) (k : Nat) (h : k < l.length) : l = l.take k ++ l.getD k 0 :: l.drop (k + 1) := by
  have e : l.getD k 0 = l[k] := by simp [List.getD, List.getElem?_eq_getElem h]
  rw [e, ← List.drop_eq_getElem_cons h, List.take_append_drop]
theorem more_set (l : List UInt8) (k : Nat) (o : UInt8) (h : k < l.length) : more 0 (l.set k o) = more 0 l ↔ o = l.getD k 0 := by
  rw [more_iff, set_parts l k o h]
  conv => lhs; rhs; rw [own_parts l k h]
  exact run_at _ _ _ _ _ (by decide)
theorem more_swap (l : List UInt8) (k : Nat) (h : k + 1 < l.length) : more 0 ((l.set k (l.getD (k + 1) 0)).set (k + 1) (l.getD k 0)) = more 0 l ↔ l.getD k 0 = l.getD (k + 1) 0 := by
  have e1 : (l.set k (l.getD (k + 1) 0)).set (k + 1) (l.getD k 0) = l.take k ++ l.getD (k + 1) 0 :: l.getD k 0 :: l.drop (k + 2) := by
    rw [set_parts l k _ (by omega)]
    apply List.ext_getElem?
    intro i
    have hl : (l.take k).length = k := by simp; omega
    rw [List.getElem?_set, List.getElem?_append, List.getElem?_append, hl, List.length_append, hl]
    by_cases a : i < k
    · rw [if_pos a, if_pos a, if_neg (by omega)]
    · rw [if_neg a, if_neg a]
      by_cases b : i = k
      · subst b
        rw [if_neg (by omega), Nat.sub_self]
        rfl
      · by_cases c : i = k + 1
        · subst c
          rw [if_pos rfl, if_pos (by simp; omega), show k + 1 - k = 1 by omega]
          rfl
        · obtain ⟨j, rfl⟩ : ∃ j, i = k + 2 + j := ⟨i - (k + 2), by omega⟩
          rw [if_neg (by omega), show k + 2 + j - k = j + 1 + 1 by omega]
          simp only [List.getElem?_cons_succ, List.getElem?_drop]
          congr 1
          omega
  have e2 : l = l.take k ++ l.getD k 0 :: l.getD (k + 1) 0 :: l.drop (k + 2) := by
    have h1 := own_parts l k (by omega)
    have h2 := own_parts (l.drop (k + 1)) 0 (by simp; omega)
    rw [List.take_zero, List.nil_append, List.drop_drop] at h2
    have h3 : (l.drop (k + 1)).getD 0 0 = l.getD (k + 1) 0 := by simp [List.getD, List.getElem?_drop]
    rw [h3] at h2
    rw [h2] at h1
    exact h1
  rw [more_iff, e1]
  conv => lhs; rhs; rw [e2]
  exact run_at2 _ _ _ _ _ (by decide)

/-- append, where what comes back has a byte at least: it begins a row. -/
theorem wp_appO {ops : Array Oper} {rest : List Oper} {o : Oper} {a : Act} {Q : Exit → Act → World → Prop} (w : World) (hgd : o.guard = none) (s x : Operand)
    (ho : o.op = .call { callee := .builtin .append, args := #[s, x], argTypes := #[22, 22] })
    (base : Nat) (v : Value) (n : Nat) (l : List UInt8) (hs : a.eval s = v) (hown : Own w base v n l)
    (B : Nat) (A : Option Addr) (m c : Nat) (k : List UInt8) (hx : a.eval x = .slice A m c) (hr : Bs w B A m k) (hsz : n + m ≤ 1000000000) (hbase : base ≤ w.heap.size)
    (N : Nat) (L : List UInt8) (hN : n + m = N) (hL : l ++ k = L) (hpos : 0 < N)
    (h : ∀ g c' w', base ≤ g → Bs w' w'.heap.size (some ⟨g, 0, none⟩) N L → Own w' base (.slice (some ⟨g, 0, none⟩) N c') N L → Below base w w' → wpList Tryd.prog ops Q rest (a.put o.dst (.slice (some ⟨g, 0, none⟩) N c')) w') : wpList Tryd.prog ops Q (o :: rest) a w := by
  refine wp_appS w hgd s x ho base v n l hs hown B A m c k hx hr hsz hbase N L hN hL fun A' c' w' _ hB hO hb => ?_
  rcases hO.2 with ⟨_, h0⟩ | ⟨g, cap, cur, hv, hg, _⟩
  · omega
  · injection hv with e1 e2 e3
    subst e1 e3
    exact h g c' w' hg hB hO hb
theorem own_empty_at (w : World) (base g : Nat) (hg : g = w.heap.size) (hb : base ≤ w.heap.size) : Own (w.alloc (.cells #[] 5)) base (.slice (some ⟨g, 0, none⟩) 0 0) 0 [] := by
  subst hg
  exact own_empty w base hb
/-- A byte of a row of the call's own. -/
theorem own_cell {w : World} {base g N c : Nat} {L : List UInt8} (h : Own w base (.slice (some ⟨g, 0, none⟩) N c) N L) (j : Nat) (hj : j < N) : w.cell? ⟨g, j, none⟩ = some (.int .u8 ((L.getD j 0).toNat : Int)) := by
  have hl : j < L.length := by rw [h.len]; exact hj
  rw [World.ownsRow.cellAt h j (by omega)]
  simp [vbs, vb, List.getD, List.getElem?_eq_getElem hl]
theorem own_set {w : World} {base g N c : Nat} {L : List UInt8} (h : Own w base (.slice (some ⟨g, 0, none⟩) N c) N L) (j : Nat) (u : UInt8) : Own (w.setCell ⟨g, j, none⟩ (.int .u8 u.toNat)) base (.slice (some ⟨g, 0, none⟩) N c) N (L.set j u) := by
  have hst := (World.ownsRow.stored h j (vb u)).1
  show World.ownsRow _ _ _ _ _ _ _
  rw [show vbs (L.set j u) = (vbs L).set j (vb u) by simp [vbs, List.map_set]]
  exact hst
theorem own_bs {w : World} {base g N c : Nat} {L : List UInt8} (h : Own w base (.slice (some ⟨g, 0, none⟩) N c) N L) : Bs w w.heap.size (some ⟨g, 0, none⟩) N L := by
  obtain ⟨_, _, ev, _, hB⟩ := h.form
  injection ev with e1
  subst e1
  exact hB

set_option maxHeartbeats 2000000 in
set_option maxRecDepth 100000 in
theorem one_walk (A : Option Addr) (n c : Nat) (l : List UInt8) (at_ : Int) (o : UInt8) (w : World) (h : Bs w w.heap.size A n l) (hc : n ≤ c) (hcm : c ≤ 9223372036854775807) (ht : Tab w) :
    Calls Tryd.prog 5 #[.slice A n c, .int .i64 at_, .int .u8 o.toNat] w fun e w' => e = .returned (.bool true) ∧ Below w.heap.size w w' := by
  obtain ⟨m, hm, hm1, hm2⟩ : ∃ k : Nat, min (n : Int) 1000 = (k : Int) ∧ k ≤ n ∧ k ≤ 1000 := ⟨min n 1000, by omega, by omega, by omega⟩
  have hcut := h.take m hm1
  obtain ⟨T, hT⟩ : ∃ T, T = l.take m := ⟨_, rfl⟩
  rw [← hT] at hcut
  clear hT h
  obtain ⟨L, hL⟩ : ∃ L : List UInt8, [3, 5] ++ T = L := ⟨_, rfl⟩
  obtain ⟨N, hN⟩ : ∃ N, 2 + m = N := ⟨_, rfl⟩
  have hLN : L.length = N := by rw [← hL, ← hN, List.length_append, hcut.1]; rfl
  obtain ⟨q, hq, hq1⟩ : ∃ q : Nat, bits .and .i64 at_ 65535 = (q : Int) ∧ q ≤ 65535 := ⟨(at_ % 65536).toNat, by rw [i64_and65535]; omega, by omega⟩
  obtain ⟨k, hk⟩ : ∃ k, q % (N - 1) = k := ⟨_, rfl⟩
  have hk2 : k < N - 1 := by rw [← hk]; exact Nat.mod_lt _ (by omega)
  have e1 : (q : Int) % ((N : Int) - 1) = (k : Int) := by
    rw [show (N : Int) - 1 = ((N - 1 : Nat) : Int) by omega, ← hk]
    rfl
  clear hk
  go_enter Tryd.func5, Tryd.ntmps5
  go_wp2_with fail
  refine (shown_any w ht).mono ?_
  rintro e w1 ⟨rfl, hb1⟩
  have hz1 := hb1.size
  have hB1 := hcut.below hb1
  have hlit : ∀ W : World, Own (W.alloc (.cells #[.int .u8 3, .int .u8 5] 5)) W.heap.size (.slice (some ⟨W.heap.size, 0, none⟩) 2 2) 2 [3, 5] := fun W => World.ownsRow_lit W #[.int .u8 3, .int .u8 5] 2 (Nat.le_refl _) (by decide) rfl
  have hLit := Lib.hid hlit
  clear hlit
  have n1 : (N : Int) - 1 ≠ 0 := by omega
  have i1 : (0 : Int) ≤ (k : Int) := by omega
  have i2 : (k : Int) < (N : Int) := by omega
  have i3 : (k : Int) + 1 < (N : Int) := by omega
  go_wp2_with (first
    | (at_builtin; refine wp_appO _ rfl (.tmp 12) (.tmp 17) rfl w1.heap.size _ 2 [3, 5] rfl (hLit.out w1) w.heap.size _ m _ T rfl (hB1.alloc hz1 _) (by omega) (by simp) N L hN hL (by omega) ?_; intro g2 c2 w2 hg2 hS2 hO2 hbel2; have hb2 : Below w.heap.size w w2 := (hb1.alloc hz1 _).trans (hbel2.mono hz1); have ht2 := ht.below hb2; clear hbel2)
    | (at_builtin; refine wp_appO _ rfl (.tmp 25) (.tmp 26) rfl w2.heap.size _ 0 [] rfl (own_empty _ _ (Nat.le_refl _)) w2.heap.size _ N _ L rfl (hS2.alloc (Nat.le_refl _) _) (by omega) (by simp) N L (by omega) rfl (by omega) ?_; intro g3 c3 w3 hg3 _ hO3 hbel3; have hd3 : Below w2.heap.size w2 w3 := ((Below.refl _ _).alloc (Nat.le_refl _) _).trans hbel3; have hf3 := World.ownsRow.frozenAt hO3 k; have hc3 := own_cell hO3 k (by omega); have hO3s := own_set hO3 k o; have hd3s := hd3.setCell (p := ⟨g3, k, none⟩) hg3 (.int .u8 o.toNat); have hz3 := hd3.size; clear hbel3)
    | (at_builtin; refine wp_appO _ rfl (.tmp 32) (.tmp 33) rfl w3.heap.size _ 0 [] rfl (own_empty_at _ _ w3.heap.size (by simp) (by simp)) w2.heap.size _ N _ L rfl ((hS2.below hd3s).alloc (by simp; omega) _) (by omega) (by simp) N L (by omega) rfl (by omega) ?_; intro g4 c4 w4 hg4 _ hO4 hbel4))
  have hz2 : w2.heap.size ≤ w3.heap.size := hz3
  have hd4 : Below w3.heap.size (w3.setCell ⟨g3, k, none⟩ (.int .u8 o.toNat)) w4 := ((Below.refl _ _).alloc (by simp) _).trans hbel4
  clear hbel4 hd3 hO3 hf3 hc3
  have hsz : (w3.setCell ⟨g3, k, none⟩ (.int .u8 o.toNat)).heap.size = w3.heap.size := by simp
  generalize w3.setCell ⟨g3, k, none⟩ (.int .u8 o.toNat) = w3s at hd3s hO3s hd4 hsz
  have own5 : Own w4.drew w3.heap.size (.slice (some ⟨g4, 0, none⟩) N c4) N L := hO4
  have hd5 : Below w3.heap.size w3s w4.drew := hd4.drew
  have f1 := World.ownsRow.frozenAt own5 k
  have f2 := World.ownsRow.frozenAt own5 (k + 1)
  have x1 := own_cell own5 k (by omega)
  have x2 := own_cell own5 (k + 1) (by omega)
  have own6 := own_set own5 k (L.getD (k + 1) 0)
  have own7 := own_set own6 (k + 1) (L.getD k 0)
  have hd7 := (hd5.setCell (p := ⟨g4, k, none⟩) hg4 (.int .u8 (L.getD (k + 1) 0).toNat)).setCell (p := ⟨g4, k + 1, none⟩) hg4 (.int .u8 (L.getD k 0).toNat)
  have HQ : Hid (more 0 ((L.set k (L.getD (k + 1) 0)).set (k + 1) (L.getD k 0)) = more 0 L ↔ L.getD k 0 = L.getD (k + 1) 0) := more_swap L k (by omega)
  have HP : Hid (more 0 (L.set k o) = more 0 L ↔ o = L.getD k 0) := more_set L k o (by omega)
  have hL2 := fun j (hj : j < N) => own_cell hO2 j hj
  have y1 := hL2 k (by omega)
  have y2 := hL2 (k + 1) (by omega)
  have f3 : (w4.setCell ⟨g4, k, none⟩ (.int .u8 (L.getD (k + 1) 0).toNat)).drew.frozen? ⟨g4, k + 1, none⟩ = false := World.ownsRow.frozenAt own6 (k + 1)
  have x3 : (w4.setCell ⟨g4, k, none⟩ (.int .u8 (L.getD (k + 1) 0).toNat)).drew.cell? ⟨g4, k + 1, none⟩ = _ := own_cell own6 (k + 1) (by omega)
  clear own6
  generalize (L.set k (L.getD (k + 1) 0)).set (k + 1) (L.getD k 0) = LY at own7 HQ
  generalize (L.set k (L.getD (k + 1) 0)).getD (k + 1) 0 = v at x3
  generalize L.getD k 0 = p at own7 HQ HP x1 hd7 y1
  generalize L.getD (k + 1) 0 = r at own7 HQ x2 hd7 y2 f3 x3
  clear hL2
  have e2 : IntKind.i64.wrap ((k : Int) + 1) = (k : Int) + 1 := IntWalk.i64_in _ (by omega)
  have e3 : (0 : Int) ≤ (k : Int) + 1 := by omega
  go_region
  have own8 : Own ((w4.setCell ⟨g4, k, none⟩ (.int .u8 r.toNat)).setCell ⟨g4, k + 1, none⟩ (.int .u8 p.toNat)).drew w3.heap.size (.slice (some ⟨g4, 0, none⟩) N c4) N LY := own7
  have hd8 : Below w3.heap.size w3s ((w4.setCell ⟨g4, k, none⟩ (.int .u8 r.toNat)).setCell ⟨g4, k + 1, none⟩ (.int .u8 p.toNat)).drew := hd7
  clear own7 hd7 x1 x2 x3 f1 f2 f3 own5 hd5 hd4 hO4
  generalize ((w4.setCell ⟨g4, k, none⟩ (.int .u8 r.toNat)).setCell ⟨g4, k + 1, none⟩ (.int .u8 p.toNat)).drew = w5 at own8 hd8 ⊢
  have hb5 : Below w2.heap.size w2 w5 := hd3s.trans (hd8.mono hz2)
  have BY := own_bs own8
  have BX := own_bs (hO3s.kept (by rw [hsz]; exact hd8))
  have BL := hS2.below hb5
  have ht5 := ht2.below hb5
  have g2l := World.block_lt_of_cell? w2 _ y1
  replace y1 := (hb5.cell (p := ⟨g2, k, none⟩) g2l).trans y1
  replace y2 := (hb5.cell (p := ⟨g2, k + 1, none⟩) g2l).trans y2
  obtain ⟨s0, q0⟩ : ∃ s, more 0 L = s := ⟨_, rfl⟩
  obtain ⟨s1, q1⟩ : ∃ s, more 0 (L.set k o) = s := ⟨_, rfl⟩
  obtain ⟨s2, q2⟩ : ∃ s, more 0 LY = s := ⟨_, rfl⟩
  obtain ⟨t, t1, t2⟩ := eq_dec (p := s1) (q := s0) (b := o.toNat) (c := p.toNat) (by rw [← q1, ← q0, UInt8.toNat_inj]; exact HP.out)
  obtain ⟨u, u1, u2⟩ := eq_dec (p := s2) (q := s0) (b := p.toNat) (c := r.toNat) (by rw [← q2, ← q0, UInt8.toNat_inj]; exact HQ.out)
  have hN9 : N ≤ 1000000000 := by omega
  have D0 := Lib.hid fun a => Calls.quiet_of_same (sum_of (c := c2) L s0 q0 (ht5.drewN a) (BL.drewN a) hN9)
  have D1 := Lib.hid fun a => Calls.quiet_of_same (sum_of (c := c3) (L.set k o) s1 q1 (ht5.drewN a) (BX.drewN a) hN9)
  have D2 := Lib.hid fun a => Calls.quiet_of_same (sum_of (c := c4) LY s2 q2 (ht5.drewN a) (BY.drewN a) hN9)
  have hfin : Below w.heap.size w w5 := hb2.trans (hb5.mono hb2.size)
  clear q0 q1 q2 BY BX BL ht5 hb5 own8 hd8 hd3s hO3s hS2 hO2 hb2 hb1 hB1 hcut HP HQ
  cases t <;> cases u
  all_goals
    go_wp2_with fail
    go_quiet (first
      | (go_at_call 10; with_reducible exact D1.out _)
      | (go_at_call 10; with_reducible exact D0.out _)
      | (go_at_call 10; with_reducible exact D2.out _))
    go_wp2_with fail
    go_ret
    exact ⟨rfl, below_drewN hfin _⟩
end Go.Proofs.YtdohfnddffkljaaDoor
