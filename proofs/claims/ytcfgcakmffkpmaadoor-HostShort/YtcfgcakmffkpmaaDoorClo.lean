/-
  What the closure of host.brackets does: pieces to base sixteen with colons between, onto the text that it holds; nothing else turns. Condition: the library's tables; at most eight pieces.
-/
import Derived.Test.YtcfgcakmffkpmaaDoorLr
namespace Go.Proofs.YtcfgcakmffkpmaaDoor
open Go.RowKit

/-- Numbers to base sixteen with colons between. -/
def hxs (x : Nat → Nat) : Nat → List UInt8
  | 0 => []
  | k + 1 => hxs x k ++ (if k = 0 then [] else [58]) ++ hexL (x k)
theorem hexL_len4 (u : Nat) (h : u < 65536) : (hexL u).length ≤ 4 := by
  rw [hexL]
  split
  · simp
  · rw [hexL]
    split
    · simp
    · rw [hexL]
      split
      · simp
      · rw [hexL]
        split
        · simp
        · omega
theorem hxs_len (x : Nat → Nat) (hx : ∀ i, x i < 65536) : ∀ k, (hxs x k).length ≤ 5 * k
  | 0 => by simp [hxs]
  | k + 1 => by
    have ih := hxs_len x hx k
    have h1 := hexL_len4 (x k) (hx k)
    rw [hxs, List.length_append, List.length_append]
    split
    · simp
      omega
    · simp
      omega
theorem Own.upd {w w' : World} {B n g : Nat} {v : Value} {l : List UInt8} {t : TypeId} {C : List Value} (h : Own w B v n l) (hu : Upd g w w') (hg : Blk w g t C) (ht : t ≠ 5) : Own w' B v n l := by
  refine ⟨h.1, ?_⟩
  rcases h.2 with h2 | ⟨k, cap, cur, hv, hk, hh, r⟩
  · exact .inl h2
  · refine .inr ⟨k, cap, cur, hv, hk, ?_, r⟩
    rw [hu.block k (fun e => ?_)]
    · exact hh
    · subst e
      have h2 : w.heap[k]? = some (.cells C.toArray t (0, 0)) := hg
      rw [h2] at hh
      cases hh
      exact ht rfl
theorem size39 : (Tryd.prog.info? 39).map (·.size) = some 1 := by kernel_rfl

/-- What the closure holds: the pieces' block, its text's variable and row. -/
structure Cl (w0 : World) (g1 g3 : Nat) (C : List Value) (w : World) (v : Value) (n : Nat) (L : List UInt8) : Prop where
  kept : Kept w0 w
  arr : Blk w g1 38 C
  var : Blk w g3 39 [v]
  own : Own w w0.heap.size v n L
theorem Cl.cell {w0 : World} {g1 g3 : Nat} {C : List Value} {w : World} {v : Value} {n : Nat} {L : List UInt8} (h : Cl w0 g1 g3 C w v n L) : w.cell? ⟨g3, 0, none⟩ = some v := h.var.cell rfl
theorem Cl.num {w0 : World} {g1 g3 : Nat} {C : List Value} {w : World} {v : Value} {n : Nat} {L : List UInt8} (h : Cl w0 g1 g3 C w v n L) {k x : Nat} (hx : C[k]? = some (.int .u16 (x : Int))) : w.cell? ⟨g1, k, none⟩ = some (.int .u16 (x : Int)) := h.arr.cell hx

set_option maxHeartbeats 8000000 in
set_option maxRecDepth 100000 in
theorem clo_any (w0 : World) (ht : Tabs w0) (g1 g3 : Nat) (hg3 : w0.heap.size ≤ g3) (C : List Value) (x : Nat → Nat) (hx : ∀ i, x i < 65536) (o n c : Nat) (hn : n ≤ 8) (hC : ∀ j, j < n → C[o + j]? = some (.int .u16 (x j : Int)))
    (A : Option Addr) (hA : 0 < n → A = some ⟨g1, o, none⟩) (w : World) (v : Value) (N : Nat) (L : List UInt8) (hN : N ≤ 1000) (h : Cl w0 g1 g3 C w v N L) :
    Calls Tryd.prog 46 #[.slice A n c, .pointer (some ⟨g3, 0, none⟩)] w fun e w' => e = .returned (.tuple #[]) ∧ ∃ v', Cl w0 g1 g3 C w' v' (N + (hxs x n).length) (L ++ hxs x n) := by
  have HT := Lib.hid ht
  have HC := Lib.hid hC
  have HX := Lib.hid hx
  have hlen : Hid (∀ k, k ≤ n → (hxs x k).length ≤ 40) := fun k hk => by have := hxs_len x hx k; omega
  have HA := Lib.hid hA
  clear ht hC hx hA
  go_enter Tryd.func46, Tryd.ntmps46
  go_wp2_with fail
  go_loopw [7] (fun i wr => ∃ (k : Nat) (v' : Value), k ≤ n ∧ i = .int .i64 (k : Int) ∧ Cl w0 g1 g3 C wr v' (N + (hxs x k).length) (L ++ hxs x k)) (fun i _ => n - (intOf i).toNat)
  case atStart => exact ⟨0, v, by omega, rfl, by simpa [hxs] using h⟩
  case round =>
    obtain ⟨k, v', hk, rfl, hcl⟩ := hrel
    clear h
    have hLl := hlen.out k hk
    obtain ⟨M, hM⟩ : ∃ M, M = L ++ hxs x k := ⟨_, rfl⟩
    obtain ⟨NM, hNM⟩ : ∃ NM, NM = N + (hxs x k).length := ⟨_, rfl⟩
    rw [← hM, ← hNM] at hcl
    have hNM9 : NM ≤ 1040 := by omega
    have HMM := Lib.hid (And.intro hM hNM)
    clear hM hNM hLl
    by_cases hlt : k < n
    · have hki : (k : Int) < (n : Int) := by omega
      obtain ⟨y, hy⟩ : ∃ y, y = x k := ⟨_, rfl⟩
      have hcn := hcl.num (HC.out k hlt)
      have hy9 := HX.out k
      rw [← hy] at hcn hy9
      have hAA := HA.out (by omega)
      subst hAA
      have hnext : Hid (hxs x (k + 1) = hxs x k ++ (if k = 0 then [] else [58]) ++ hexL y) := by show _ = _; rw [hxs, hy]
      have hcv := hcl.cell
      have hkz := hcl.kept.size
      obtain ⟨A', c', rfl, hc', hs'⟩ := hcl.own.form
      have hwr : IntKind.u64.wrap (y : Int) = (y : Int) := by rw [IntKind.wrap_u64]; omega
      clear hy hs' hc'
      by_cases hk0 : k = 0
      · have hk0i : ¬ (0 : Int) < (k : Int) := by omega
        have hap := Lib.hid (append16 w0.heap.size NM y hy9 _ M wr hcl.own hkz (by omega) (HT.out.kp hcl.kept))
        have hn2 : Hid (hxs x (k + 1) = hxs x k ++ hexL y) := by show _ = _; rw [hnext.out, if_pos hk0]; simp
        have HK0 := Lib.hid hk0
        clear hnext hk0
        go_wp2_with (first
          | (go_at_call 47; with_reducible refine hap.out.mono ?_; rintro e w5 ⟨v5, rfl, hown5, hb5, hkb5⟩; obtain ⟨A5, c5, rfl, hc5, hs5⟩ := hown5.form; have bv5 := hcl.var.but hkb5 (by decide))
          | ((with_reducible show wpList _ _ _ (⟨none, .store 39 (.tmp 1) _, _, _, _, _⟩ :: _) _ _); refine wp_set _ rfl 39 (.tmp 1) (.tmp 20) rfl g3 0 39 _ _ rfl rfl rfl rfl bv5 (by simp) size39 ?_; intro w6 B6 U6; simp only [Act.put]))
        go_roundw
        case rel =>
          have hne : g1 ≠ g3 := by
            intro e
            subst e
            have h1 : wr.heap[g1]? = _ := hcl.arr
            have h2 : wr.heap[g1]? = _ := hcl.var
            rw [h1] at h2
            cases h2
          refine ⟨k + 1, _, by omega, by go_num, (hcl.kept.base hb5).base (U6.below hg3), ((hcl.arr.but hkb5 (by decide)).upd U6 hne), B6, ?_⟩
          rw [hn2.out, List.length_append, ← Nat.add_assoc, ← HMM.out.2, ← List.append_assoc, ← HMM.out.1]
          exact hown5.upd U6 bv5 (by decide)
        case measure => simp [intOf]; omega
      · have hk0i : (0 : Int) < (k : Int) := by omega
        have hn2 : Hid (hxs x (k + 1) = hxs x k ++ ([58] ++ hexL y)) := by show _ = _; rw [hnext.out, if_neg hk0]; simp
        clear hnext
        have hne : Hid (g1 ≠ g3) := by
          intro e
          subst e
          have h1 : wr.heap[g1]? = _ := hcl.arr
          have h2 : wr.heap[g1]? = _ := hcl.var
          rw [h1] at h2
          cases h2
        go_wp2_with (first
          | (at_builtin; refine wp_appK _ rfl (.tmp 14) (.tmp 15) rfl w0.heap.size _ NM M rfl (hcl.own.alloc _) (wr.heap.size + 1) _ 1 1 [58] rfl (Bs.one' _ _ _ rfl) (by omega) (by simp; omega) ?_; intro v4 w4 hown4 hb4 hkb4; obtain ⟨A4, c4, rfl, hc4, hs4⟩ := hown4.form; have bv4 := (hcl.var.alloc _).but hkb4 (by decide); have ba4 := (hcl.arr.alloc _).but hkb4 (by decide); have hkp4 := hcl.kept.base (((Below.refl _ _).alloc hkz _).trans hb4))
          | ((with_reducible show wpList _ _ _ (⟨none, .store 39 (.tmp 1) (.tmp 16), _, _, _, _⟩ :: _) _ _); refine wp_set _ rfl 39 (.tmp 1) (.tmp 16) rfl g3 0 39 _ _ rfl rfl rfl rfl bv4 (by simp) size39 ?_; intro w5 B5 U5; simp only [Act.put]; have hkp5 := hkp4.base (U5.below hg3); have hown5 := hown4.upd U5 bv4 (by decide); have ba5 := ba4.upd U5 hne.out; have hz5 := hkp5.size; have hcv5 := B5.cell (i := 0) rfl)
          | (go_at_call 47; with_reducible refine (append16 w0.heap.size (NM + 1) y hy9 _ (M ++ [58]) w5 hown5 hz5 (by omega) (HT.out.kp hkp5)).mono ?_; rintro e w6 ⟨v6, rfl, hown6, hb6, hkb6⟩; obtain ⟨A6, c6, rfl, hc6, hs6⟩ := hown6.form; have bv6 := B5.but hkb6 (by decide))
          | ((with_reducible show wpList _ _ _ (⟨none, .store 39 (.tmp 1) (.tmp 20), _, _, _, _⟩ :: _) _ _); refine wp_set _ rfl 39 (.tmp 1) (.tmp 20) rfl g3 0 39 _ _ rfl rfl rfl rfl bv6 (by simp) size39 ?_; intro w7 B7 U7; simp only [Act.put]))
        go_roundw
        case rel =>
          refine ⟨k + 1, _, by omega, by go_num, (hkp5.base hb6).base (U7.below hg3), ((ba5.but hkb6 (by decide)).upd U7 hne.out), B7, ?_⟩
          have e1 : N + (hxs x (k + 1)).length = NM + 1 + (hexL y).length := by
            rw [hn2.out, List.length_append, HMM.out.2]
            simp
            omega
          have e2 : L ++ hxs x (k + 1) = M ++ [58] ++ hexL y := by
            rw [hn2.out, HMM.out.1]
            simp
          rw [e1, e2]
          exact hown6.upd U7 bv6 (by decide)
        case measure => simp [intOf]; omega
    · have hk' : Hid (k = n) := by show k = n; omega
      have hki : ¬ (k : Int) < (n : Int) := by omega
      clear hk hlt
      go_wp2_with fail
      go_end0
      refine ⟨rfl, v', ?_⟩
      have e1 := HMM.out.1
      have e2 := HMM.out.2
      rw [hk'.out] at e1 e2
      rw [← e1, ← e2]
      exact hcl
end Go.Proofs.YtcfgcakmffkpmaaDoor
