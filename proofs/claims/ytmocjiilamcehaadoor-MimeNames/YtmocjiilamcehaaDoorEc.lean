/-
  slices.Backward over texts, and mime.Of. No condition but sizes.
-/
import Derived.Test.YtmocjiilamcehaaDoorEb
import Derived.Test.YtmocjiilamcehaaDoorRc
import Derived.RangeFuncNested
import Derived.RangeFuncBound
import Derived.RangeFuncCalls
import Derived.RangeFuncLeaves
import Derived.Shelf.Abstract
import Derived.Shelf.RegionOpen
import Derived.WalkKit
import Derived.OwnWalkIn
import Derived.TacticsInMore
import Derived.LoopNIn
import Derived.LoopIn
namespace Go.Proofs.YtmocjiilamcehaaDoor
open Go.RowKit Go.Shelf
attribute [local go_sem] Oper.semAt_some
set_option linter.unusedVariables false

theorem pt_mem_len : ∀ (l : List UInt8) (q : Nat) (cur : List UInt8), ∀ p ∈ pt l q cur, p.length ≤ cur.length + l.length
  | [], q, cur, p, h => by
    have e : p = tg cur := by cases q <;> simpa [pt] using h
    have := tS_len cur G2
    rw [e]
    show (Lib.trimS cur G2).length ≤ _
    simpa using this
  | c :: r, 0, cur, p, h => by
    have h1 := pt_mem_len r 1 (cur ++ [c]) p
    have h2 := pt_mem_len r 0 [] p
    have h3 := pt_mem_len r 0 (cur ++ [c]) p
    simp only [pt] at h
    simp only [List.length_append, List.length_cons, List.length_nil] at h1 h2 h3 ⊢
    split at h
    · have := h1 h; omega
    · split at h
      · rcases List.mem_cons.1 h with e | h
        · have h4 : (Lib.trimS cur G2).length ≤ cur.length := tS_len cur G2
          rw [e]
          show (Lib.trimS cur G2).length ≤ _
          omega
        · have := h2 h; omega
      · have := h3 h; omega
  | c :: r, 1, cur, p, h => by
    have h1 := pt_mem_len r 2 (cur ++ [c]) p
    have h2 := pt_mem_len r 0 (cur ++ [c]) p
    have h3 := pt_mem_len r 1 (cur ++ [c]) p
    simp only [pt] at h
    simp only [List.length_append, List.length_cons, List.length_nil] at h1 h2 h3 ⊢
    split at h
    · have := h1 h; omega
    · split at h
      · have := h2 h; omega
      · have := h3 h; omega
  | c :: r, q + 2, cur, p, h => by
    have h1 := pt_mem_len r 1 (cur ++ [c]) p
    simp only [pt] at h
    simp only [List.length_append, List.length_cons, List.length_nil] at h1 ⊢
    have := h1 h; omega
theorem prts_mem_len (l : List UInt8) : ∀ p ∈ prts l, p.length ≤ l.length := fun p h => by
  have := pt_mem_len l 0 [] p h
  simpa using this
theorem spt_mem_len (fs : List (List UInt8 × List UInt8)) (nm : List UInt8) : ∀ p ∈ spt fs nm, p.length ≤ (jn (vals fs nm)).length := by
  intro p h
  by_cases hv : vals fs nm = []
  · rw [spt_no fs nm hv] at h; cases h
  · rw [spt_yes fs nm hv] at h; exact prts_mem_len _ p h
set_option maxHeartbeats 400000 in
theorem back_any (A : Option Addr) (n c : Nat) (w : World) : Calls Tryd.prog 23 #[.slice A n c] w fun e w' => e = .returned (.func (.func 34) #[] #[.pointer (some ⟨w.heap.size, 0, none⟩)]) ∧ w' = w.alloc (.cells #[.slice A n c] 41) := by
  have hmf : ∀ (fn : Fn) (first cap : Array Value) (w : World), (Instr.makeFunc fn first cap).run Tryd.prog w = .ok (.func fn first cap) w := fun _ _ _ _ => rfl
  go_enter Tryd.func23, Tryd.ntmps23
  go_wp2_with fail
  go_ret
  exact ⟨rfl, rfl⟩
/-- A part, and its place. -/
abbrev Prt := { x : Nat × List UInt8 // x.2.length ≤ 4611686018427387904 }
def Prt.txt (x : Prt) : List UInt8 := x.1.2
set_option maxHeartbeats 1000000 in
set_option maxRecDepth 100000 in
theorem back1_in (m l Bn n₀ : Nat) (A : Option Addr) (n c : Nat) (L : List (List UInt8)) (hL : ∀ p ∈ L, p.length ≤ 4611686018427387904) (hn : L.length = n) (hm : n ≤ 9223372036854775807) (hB : Bn < n₀)
    (J Jx : List Prt → World → Prop)
    (hY : ∀ pre x W, J pre W → pre.length < n → YieldAt Fence.wide (m - 1) Tryd.prog l #[.int .i64 (x.1.1 : Int), .string (str x.1.2)] W fun e W' => (e = .returned (.bool true) ∧ J (pre ++ [x]) W' ∧ Below n₀ W W') ∨ (e = .returned (.bool false) ∧ Jx (pre ++ [x]) W'))
    (W : World) (hBn : W.cell? ⟨Bn, 0, none⟩ = some (.slice A n c)) (hT : 0 < n → ∃ g, A = some ⟨g, 0, none⟩ ∧ g < n₀ ∧ ∀ j p, L[j]? = some p → W.cell? ⟨g, j, none⟩ = some (.string (str p))) (h0 : J [] W) :
    CallsIn Fence.wide m Tryd.prog 34 #[.func (.yield l) #[] #[], .pointer (some ⟨Bn, 0, none⟩)] W fun e W' => (∃ v, e = .returned v) ∧
      ((∃ xs, xs.map Prt.txt = L.reverse ∧ J xs W') ∨ (∃ pre, pre.map Prt.txt <+: L.reverse ∧ Jx pre W')) := by
  have HY := Lib.hid hY
  have HT := Lib.hid hT
  have HL : Hid (∀ (j : Nat) (p : List UInt8), L[j]? = some p → p.length ≤ 4611686018427387904) := fun j p h => hL p (List.mem_of_getElem? h)
  have Hat : Hid (∀ j, j < n → ∃ p, L[j]? = some p ∧ L.drop j = p :: L.drop (j + 1)) := fun j hj => ⟨L[j], List.getElem?_eq_getElem (by omega), List.drop_eq_getElem_cons (by omega)⟩
  have Hend : Hid (L.drop n = []) := List.drop_eq_nil_of_le (by omega)
  have HBn := Lib.hid hBn
  have hBn2 := hBn
  clear hY hT hL hn hBn
  refine callsIn_of_wp Tryd.func34 rfl trivial ?_ rfl
  simp only [Tryd.ntmps34, List.size_toArray, List.length_cons, List.length_nil, Nat.reduceAdd, Nat.reduceSub, Array.replicate_succ, Array.replicate_zero, List.push_toArray, List.append_toArray, List.nil_append, List.cons_append]
  gi_wp2
  gi_loopw [3] (fun v wr => ∃ (j : Nat) (pre : List Prt), j ≤ n ∧ v = .int .i64 ((j : Int) - 1) ∧ pre.map Prt.txt = (L.drop j).reverse ∧ pre.length + j = n ∧ J pre wr ∧ Below n₀ W wr) (fun v _ => (intOf v + 1).toNat)
  case atStart => exact ⟨n, [], Nat.le_refl _, rfl, by rw [Hend.out]; rfl, by simp, h0, Below.refl _ _⟩
  case round =>
    obtain ⟨j, pre, hj, rfl, hpre, hlen, hJ, hb⟩ := hrel
    have HP := Lib.hid hpre
    have HB1 := Lib.hid hb
    have Hl := Lib.hid hlen
    clear hpre hb hlen hBn2
    have hBr : wr.cell? ⟨Bn, 0, none⟩ = some (.slice A n c) := (HB1.out.cell (p := ⟨Bn, 0, none⟩) hB).trans HBn.out
    cases j with
    | zero =>
      rw [show ((0 : Nat) : Int) - 1 = -1 from rfl]
      gi_wp2
      go_end0
      exact ⟨⟨_, rfl⟩, .inl ⟨pre, by rw [HP.out, List.drop_zero], hJ⟩⟩
    | succ j1 =>
      rw [show ((j1 + 1 : Nat) : Int) - 1 = (j1 : Int) by omega]
      obtain ⟨p, hp, hd⟩ := Hat.out j1 (by omega)
      obtain ⟨g, rfl, hg, hc⟩ := HT.out (by omega)
      have hcp : wr.cell? ⟨g, j1, none⟩ = some (.string (str p)) := (HB1.out.cell (p := ⟨g, j1, none⟩) hg).trans (hc j1 p hp)
      obtain ⟨fn, tmps, assign, body, hy, hR⟩ := HY.out pre ⟨(j1, p), HL.out j1 p hp⟩ wr hJ (by have := Hl.out; omega)
      have HD : Hid ((L.drop j1).reverse = (L.drop (j1 + 1)).reverse ++ [p]) := by show _ = _; rw [hd, List.reverse_cons]
      have hlt : (j1 : Int) < (n : Int) := by omega
      have hge : (0 : Int) ≤ (j1 : Int) := by omega
      dsimp only at hy
      clear hd hc hJ
      gi_wp2
      refine ⟨(fun h => by cases h), hR.mono ?_⟩
      rintro e W3 (⟨rfl, hJ3, hk3⟩ | ⟨rfl, hJx3⟩)
      · gi_wp2
        refine ⟨⟨j1, _, by omega, by go_num, ?_, ?_, hJ3, HB1.out.trans hk3⟩, ?_⟩
        · rw [List.map_append, HP.out, HD.out]; rfl
        · have := Hl.out; simp; omega
        · simp [intOf]
      · gi_wp2
        refine bodyPost_ret (results_none rfl _ _ _) rfl ?_
        refine ⟨⟨_, rfl⟩, .inr ⟨_, ?_, hJx3⟩⟩
        rw [List.map_append, HP.out, show List.map Prt.txt [(⟨(j1, p), HL.out j1 p hp⟩ : Prt)] = [p] from rfl, ← HD.out]
        rw [← List.take_append_drop j1 L, List.reverse_append]
        simp
theorem back_stops (m Bn n₀ : Nat) (A : Option Addr) (n c : Nat) (L : List (List UInt8)) (hL : ∀ p ∈ L, p.length ≤ 4611686018427387904) (hn : L.length = n) (hm : n ≤ 9223372036854775807) (w : World) (hB : Bn < n₀) (hn0 : n₀ ≤ w.heap.size)
    (hBn : w.cell? ⟨Bn, 0, none⟩ = some (.slice A n c)) (hT : 0 < n → ∃ g, A = some ⟨g, 0, none⟩ ∧ g < n₀ ∧ ∀ j p, L[j]? = some p → w.cell? ⟨g, j, none⟩ = some (.string (str p))) :
    SeqStopsK Fence.wide m Tryd.prog 34 #[.pointer (some ⟨Bn, 0, none⟩)] (fun x : Prt => #[.int .i64 (x.1.1 : Int), .string (str x.1.2)]) (Below n₀) (fun xs => xs.map Prt.txt = L.reverse) (fun pre => pre.map Prt.txt <+: L.reverse) n w := fun l J Jx W hW _ _ hY h0 =>
  back1_in m l Bn n₀ A n c L hL hn hm hB J Jx hY W ((hW.cell (p := ⟨Bn, 0, none⟩) (by show Bn < _; omega)).trans hBn) (fun h => by
    obtain ⟨g, e, hg, hc⟩ := hT h
    exact ⟨g, e, hg, fun j p hj => (hW.cell (p := ⟨g, j, none⟩) (by show g < _; omega)).trans (hc j p hj)⟩) h0
end Go.Proofs.YtmocjiilamcehaaDoor
