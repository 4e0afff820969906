/-
  The walk of transeptlaw05.EventReads: true, for all bytes; nothing that was there turns. Condition: the table of kinds holds what the program's text lays.
-/
import Derived.Test.YtjgcodnabgkjoaaDoorYld
import Derived.Test.YtjgcodnabgkjoaaDoorRefDec
import Derived.Laws.OwnMore
namespace Go.Proofs.YtjgcodnabgkjoaaDoor
open Go.RowKit

theorem Own.addr {w : World} {lo : Nat} {A : Option Addr} {n c : Nat} {l : List UInt8} (h : Own w lo (.slice A n c) n l) (hn : 0 < n) : ∃ g, A = some ⟨g, 0, none⟩ ∧ lo ≤ g ∧ g < w.heap.size := by
  rcases h.2 with ⟨_, e2⟩ | ⟨g, cap, cur, e, hg, hh, _⟩
  · omega
  · injection e with e1 e2 e3
    exact ⟨g, e1, hg, (Array.getElem?_eq_some_iff.1 hh).1⟩
/-- A byte of an own row, written over. -/
theorem Own.put {w : World} {lo g n c : Nat} {l : List UInt8} (h : Own w lo (.slice (some ⟨g, 0, none⟩) n c) n l) (k : Nat) (x : UInt8) :
    Own (w.setCell ⟨g, k, none⟩ (vb x)) lo (.slice (some ⟨g, 0, none⟩) n c) n (l.set k x) ∧ Upd g w (w.setCell ⟨g, k, none⟩ (vb x)) := by
  have := (World.ownsRow.stored h k (vb x)).1
  rw [show (vbs l).set k (vb x) = vbs (l.set k x) by simp [vbs, List.map_set]] at this
  exact ⟨this, Upd.setCell w g k (vb x)⟩

theorem own_bs {w : World} {lo n c : Nat} {A : Option Addr} {l : List UInt8} (h : Own w lo (.slice A n c) n l) : Bs w w.heap.size A n l := by
  obtain ⟨A', c', e, _, hb⟩ := h.form
  injection e with e1 _ _
  subst e1
  exact hb

set_option maxHeartbeats 8000000 in
set_option maxRecDepth 100000 in
theorem reads_walk (A : Option Addr) (n c : Nat) (l : List UInt8) (w : World) (ht : Tab w) (h : Bs w w.heap.size A n l) (hc : n ≤ c) (_hcm : c ≤ 9223372036854775807) :
    Calls Tryd.prog 4 #[.slice A n c] w fun r w' => r = .returned (.bool true) ∧ Below w.heap.size w w' := by
  obtain ⟨m, hm⟩ : ∃ m : Nat, m = min n 6000 := ⟨_, rfl⟩
  have km : min (n : Int) 6000 = (m : Int) := by omega
  have jm : (m : Int) ≤ (c : Int) := by omega
  have hm6 : m ≤ 6000 := by omega
  have hB := h.take m (by omega)
  obtain ⟨B, hBe⟩ : ∃ L, L = l.take m := ⟨_, rfl⟩
  rw [← hBe] at hB
  have hBm := hB.1
  have y24 := zero24
  have vok := dV_ok B
  have zV := size24' vok
  have hlV : (evc (dV B)).length = (evc ev0).length := by rw [evc_length vok, evc_length ev0_ok]
  have oV := evc_one (dV B)
  have DL := fun A' c' W (hW : Tab W) (hB : Bs W W.heap.size A' m B) h1 h2 => decode_any A' m c' B W hW hB h1 h2 (by omega)
  have RD := fun W => refDecode_any B (by omega) W
  simp only [gotE] at RD
  obtain ⟨V, hV⟩ : ∃ V, V = dV B := ⟨_, rfl⟩
  obtain ⟨a, ha⟩ : ∃ a, a = dA B := ⟨_, rfl⟩
  obtain ⟨er, her⟩ : ∃ a, a = dE B := ⟨_, rfl⟩
  rw [← hV, ← ha, ← her] at DL RD
  rw [← hV] at vok zV hlV oV
  have eqV : evEq V V = true := evEq_self V
  have HDL := Lib.hid DL
  have HRD := Lib.hid RD
  clear DL RD hm hBe ha her hV h
  go_enter Tryd.func4, Tryd.ntmps4
  go_wp2_with fail
  refine (shown_any w ht).mono ?_
  rintro r w1 ⟨rfl, b1⟩
  have t1 := ht.kept b1
  have s1 := (hB.below b1).more b1.size
  go_wp2_with (at_builtin; refine wp_appS _ rfl (.tmp 19) (.tmp 20) rfl w1.heap.size _ 0 [] rfl (own_empty w1 w1.heap.size (Nat.le_refl _)) w1.heap.size A m c B rfl (s1.alloc (Nat.le_refl _) _) (by omega) (by simp) m B (by omega) rfl ?_; intro A2 c2 w2 hc2 hB2 ho2 hb2)
  have e2 : Below w1.heap.size w1 w2 := ((Below.refl _ _).alloc (Nat.le_refl _) _).trans hb2
  have b2 : Below w.heap.size w w2 := b1.trans (e2.mono b1.size)
  have t2 := t1.kept e2
  have HCA := Lib.hid (Own.cap ho2)
  have HG : Hid (∀ g, 0 < m → A2 = some ⟨g, 0, none⟩ → w.heap.size ≤ g ∧ g < w2.heap.size) := fun g h0 e => by
    obtain ⟨g', e', h1, h2⟩ := ho2.addr h0
    rw [e] at e'
    injection e' with e'
    injection e' with e'
    subst e'
    have := b1.size
    exact ⟨by omega, h2⟩
  clear hb2 e2 t1 s1
  refine (HDL.out A2 c2 w2 t2 hB2 hc2 HCA.out).mono ?_
  rintro r w3 ⟨rfl, e3⟩
  have b3 := b2.trans (e3.mono b2.size)
  have ho3 := ho2.kept e3
  have z3 := e3.size
  clear HDL e3 ho2 hB2 t2
  go_wp2_with (first
    | ((with_reducible show wpList _ _ _ (⟨some 5, _, _, _, _, _⟩ :: _) _ _); refine wp_new _ rfl 24 rfl _ y24 ?_; intro w4 g5 hB4 hf4; simp only [Act.put, List.setIfInBounds_toArray, List.set_cons_zero, List.set_cons_succ])
    | ((with_reducible show wpList _ _ _ (⟨none, .store 24 (.tmp 5) _, _, _, _, _⟩ :: _) _ _); refine wp_putAll _ rfl 24 (.tmp 5) (.tmp 25) rfl g5 24 _ (evc V) rfl rfl hB4 hlV zV oV ?_; intro w5 X5 hU5; have b5 : Below w.heap.size w w5 := (b3.trans (hf4.below.mono b3.size)).trans (hU5.below (by have := hf4.is; have := b3.size; omega)); have s5 := hB.below b5; simp only [Act.put])
    | ((with_reducible show wpList _ _ _ (⟨some 30, _, _, _, _, _⟩ :: _) _ _); refine wp_strG _ (by rfl) (.tmp 29) rfl _ A m c B rfl s5 ?_; simp only [Act.put, List.setIfInBounds_toArray, List.set_cons_zero, List.set_cons_succ]))
  have ho5 := (ho3.kept hf4.below).upd hB4 (by decide) hU5
  have hg5 : w2.heap.size ≤ g5 ∧ w.heap.size ≤ g5 := by have := hf4.is; have := b3.size; exact ⟨by omega, by omega⟩
  clear b3 ho3 hB4 hf4 hU5 s5 z3
  refine (HRD.out w5).mono ?_
  rintro r w6 ⟨rfl, e6⟩
  have b6 := b5.trans (e6.mono b5.size)
  have ho6 := ho5.kept e6
  have X6 := X5.kept e6
  clear HRD e6 b5 ho5 X5
  go_wp2_with (first
    | ((with_reducible show wpList _ _ _ (⟨some 8, _, _, _, _, _⟩ :: _) _ _); refine wp_new _ rfl 24 rfl _ y24 ?_; intro w7 g8 hB7 hf7; simp only [Act.put, List.setIfInBounds_toArray, List.set_cons_zero, List.set_cons_succ])
    | ((with_reducible show wpList _ _ _ (⟨none, .store 24 (.tmp 8) _, _, _, _, _⟩ :: _) _ _); refine wp_putAll _ rfl 24 (.tmp 8) (.tmp 32) rfl g8 24 _ (evc V) rfl rfl hB7 hlV zV oV ?_; intro w8 X8 hU8; have b8 : Below w.heap.size w w8 := (b6.trans (hf7.below.mono b6.size)).trans (hU8.below (by have := hf7.is; have := b6.size; omega)); have s8 := hB.below b8; have ho8 := (ho6.kept hf7.below).upd hB7 (by decide) hU8; have o8 := own_bs ho8; simp only [Act.put])
    | ((with_reducible show wpList _ _ _ (⟨some 36, _, _, _, _, _⟩ :: _) _ _); refine wp_strG _ (by rfl) (.tmp 35) rfl _ A2 m c2 B rfl o8 ?_; simp only [Act.put, List.setIfInBounds_toArray, List.set_cons_zero, List.set_cons_succ])
    | ((with_reducible show wpList _ _ _ (⟨some 38, _, _, _, _, _⟩ :: _) _ _); refine wp_strG _ (by rfl) (.tmp 37) rfl _ A m c B rfl s8 ?_; simp only [Act.put, List.setIfInBounds_toArray, List.set_cons_zero, List.set_cons_succ])
    | ((with_reducible show wpList _ _ _ (⟨some 39, _, _, _, _, _⟩ :: _) _ _); refine wp_eqS _ (by rfl) (.tmp 36) (.tmp 38) rfl B B rfl rfl true (by simp) ?_; simp only [Act.put, List.setIfInBounds_toArray, List.set_cons_zero, List.set_cons_succ]))
  have Y8 := (X6.kept hf7.below).upd hU8 (by have := hf7.is; have := X6.lt; omega)
  have hg8 : w2.heap.size ≤ g8 ∧ w.heap.size ≤ g8 := by have := hf7.is; have := X6.lt; exact ⟨by omega, by omega⟩
  clear b6 ho6 X6 hB7 hf7 hU8 s8 o8
  go_loopw [12] (fun i wr => ∃ k : Nat, k ≤ m ∧ i = .int .i64 k ∧ (∃ L, Own wr w1.heap.size (.slice A2 m c2) m L) ∧ Blk wr g5 24 (evc V) ∧ Blk wr g8 24 (evc V) ∧ Below w.heap.size w wr) (fun i _ => m - (intOf i).toNat)
  case atStart => exact ⟨0, by omega, rfl, ⟨B, ho8⟩, Y8, X8, b8⟩
  case round =>
    obtain ⟨k, hk, rfl, ⟨L, hown⟩, Y, X, hb⟩ := hrel
    clear ho8 Y8 X8 b8
    by_cases hlt : k < m
    · obtain ⟨g, rfl, hg1, hg2⟩ := hown.addr (by omega)
      obtain ⟨h1, h2⟩ := HG.out g (by omega) rfl
      have hLl := hown.len
      have hcell := World.ownsRow.cellAt hown k (by omega)
      have hfr := World.ownsRow.frozenAt hown k
      obtain ⟨u, hu⟩ : ∃ u, (vbs L)[k]? = some u := ⟨_, List.getElem?_eq_getElem (by rw [vbs_length]; omega)⟩
      rw [hu] at hcell
      obtain ⟨p1, p2⟩ := hown.put k 63
      have Y' := Y.upd p2 (by omega)
      have X' := X.upd p2 (by omega)
      have hb' : Below w.heap.size w (wr.setCell ⟨g, k, none⟩ (vb 63)) := hb.trans (p2.below h1)
      clear hu hown Y X hb p2
      go_wp2_with fail
      go_roundw
      case rel => exact ⟨k + 1, by omega, by go_num, ⟨_, p1⟩, Y', X', hb'⟩
      case measure => simp [intOf]; omega
    · obtain rfl : k = m := by omega
      clear hown HG
      go_wp2_with (first
        | ((with_reducible show wpList _ _ _ (⟨some 51, _, _, _, _, _⟩ :: _) _ _); refine wp_getG _ (by rfl) 24 (.tmp 5) rfl g5 0 (evc V) _ rfl Y.whole Tryd.underlying24 rfl zV ?_; simp only [Act.put, List.setIfInBounds_toArray, List.set_cons_zero, List.set_cons_succ])
        | ((with_reducible show wpList _ _ _ (⟨some 52, _, _, _, _, _⟩ :: _) _ _); refine wp_getG _ (by rfl) 24 (.tmp 8) rfl g8 0 (evc V) _ rfl X.whole Tryd.underlying24 rfl zV ?_; simp only [Act.put, List.setIfInBounds_toArray, List.set_cons_zero, List.set_cons_succ])
        | ((with_reducible show wpList _ _ _ (⟨some 53, _, _, _, _, _⟩ :: _) _ _); refine wp_eqE _ (by rfl) (.tmp 51) (.tmp 52) rfl V V vok vok rfl rfl true eqV ?_; simp only [Act.put, List.setIfInBounds_toArray, List.set_cons_zero, List.set_cons_succ]))
      go_ret
      exact ⟨rfl, hb⟩
end Go.Proofs.YtjgcodnabgkjoaaDoor
