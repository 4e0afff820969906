/-
  What host.dotted answers: an IPv4 as it is written; nothing that was there turns. Condition: the library's tables.
-/
import Derived.Test.YtcfgcakmffkpmaaDoorApp
namespace Go.Proofs.YtcfgcakmffkpmaaDoor
open Go.RowKit

theorem Tabs.kp {w w' : World} (h : Tabs w) (hb : Kept w w') : Tabs w' := h.kept hb
/-- Numbers to base ten with dots between. -/
def tx (b : Nat → Nat) : Nat → List UInt8
  | 0 => []
  | k + 1 => tx b k ++ (if k = 0 then [] else [46]) ++ Lib.decDigits (b k)
/-- The bytes of an address, the highest first. -/
def byt (n i : Nat) : Nat := n / 256 ^ (3 - i) % 256
def text4 (n : Nat) : List UInt8 := tx (byt n) 4

theorem dec_len256 : ∀ u, u < 256 → (Lib.decDigits u).length ≤ 3 := by
  intro u hu
  rw [Lib.decDigits]
  split
  · simp
  · rw [Lib.decDigits]
    split
    · simp
    · rw [Lib.decDigits]
      split
      · simp
      · omega
theorem tx_len (b : Nat → Nat) (hb : ∀ i, b i < 256) : ∀ k, (tx b k).length ≤ 4 * k
  | 0 => by simp [tx]
  | k + 1 => by
    have ih := tx_len b hb k
    have h1 := dec_len256 (b k) (hb k)
    rw [tx, List.length_append, List.length_append]
    split
    · simp
      omega
    · simp
      omega
theorem byt_lt (n i : Nat) : byt n i < 256 := Nat.mod_lt _ (by omega)
theorem type89 : (Tryd.prog.info? 89).map (fun i => i.zero) = some (some (.agg [.int .u8 0, .int .u8 0, .int .u8 0, .int .u8 0].toArray)) := by kernel_rfl
theorem size89 : (Tryd.prog.info? 89).map (·.size) = some 4 := by kernel_rfl
theorem size5 : (Tryd.prog.info? 5).map (·.size) = some 1 := by kernel_rfl

def vnt (b : Nat → Nat) : List Value := [.int .u8 (b 0 : Int), .int .u8 (b 1 : Int), .int .u8 (b 2 : Int), .int .u8 (b 3 : Int)]
theorem vnt_get (b : Nat → Nat) (k : Nat) (h : k < 4) : (vnt b)[k]? = some (.int .u8 (b k : Int)) := by
  match k, h with
  | 0, _ => rfl
  | 1, _ => rfl
  | 2, _ => rfl
  | 3, _ => rfl

set_option maxHeartbeats 8000000 in
set_option maxRecDepth 100000 in
theorem dotted_any (n : Nat) (w : World) (ht : Tabs w) : Calls Tryd.prog 36 #[.int .u32 (n : Int)] w fun e w' => e = .returned (.string (str (text4 n))) ∧ Below w.heap.size w w' := by
  have hb := byt_lt n
  have h0 : IntKind.u8.wrap ((n : Int) / 16777216) = (byt n 0 : Int) := by rw [IntKind.wrap_u8]; simp [byt]
  have h1 : IntKind.u8.wrap ((n : Int) / 65536) = (byt n 1 : Int) := by rw [IntKind.wrap_u8]; simp [byt]
  have h2 : IntKind.u8.wrap ((n : Int) / 256) = (byt n 2 : Int) := by rw [IntKind.wrap_u8]; simp [byt]
  have h3 : IntKind.u8.wrap (n : Int) = (byt n 3 : Int) := by rw [IntKind.wrap_u8]; simp [byt]
  obtain ⟨b, hbb⟩ : ∃ b, b = byt n := ⟨_, rfl⟩
  obtain ⟨R, hR⟩ : ∃ R, R = text4 n := ⟨_, rfl⟩
  have hT : Hid (R = tx b 4) := by show _ = _; rw [hR, hbb]; rfl
  rw [← hbb] at hb h0 h1 h2 h3
  rw [← hR]
  clear hbb hR
  have HT := Lib.hid ht
  have HB := Lib.hid hb
  clear ht hb
  go_enter Tryd.func36, Tryd.ntmps36
  go_wp2_with (first
    | ((with_reducible show wpList _ _ _ (⟨some 3, .alloc _, _, _, _, _⟩ :: _) _ _); refine wp_new _ rfl 89 rfl _ type89 ?_; intro w1 g B1 F1; simp only [Act.put, List.setIfInBounds_toArray, List.set_cons_zero, List.set_cons_succ])
    | ((with_reducible show wpList _ _ _ (⟨none, .store 89 (.tmp 3) _, _, _, _, _⟩ :: _) _ _); refine wp_putAll _ rfl 89 (.tmp 3) (.tmp 18) rfl g 89 _ (vnt b) rfl rfl B1 rfl size89 (by simp [vnt, Value.oneCell']) ?_; intro w2 B2 U2; simp only [Act.put])
    | ((with_reducible show wpList _ _ _ (⟨some 20, .load 89 _, _, _, _, _⟩ :: _) _ _); refine wp_get _ rfl 89 (.tmp 3) rfl g 0 (vnt b) _ rfl (B2.alloc _).whole Tryd.underlying89 rfl size89 ?_; simp only [Act.put, List.setIfInBounds_toArray, List.set_cons_zero, List.set_cons_succ]))
  have hk2 : Hid (Kept w w2) := F1.below.trans (U2.below (by rw [F1.is]; exact Nat.le_refl _))
  have hz2 : w.heap.size ≤ w2.heap.size := hk2.out.size
  have hown0 : Own (w2.alloc (.cells #[] 5)) w.heap.size _ 0 [] := own_empty w2 w.heap.size hz2
  have b4 : Kept w (w2.alloc (.cells #[] 5)) := hk2.out.alloc _
  have hlen : Hid (∀ k, k ≤ 4 → (tx b k).length ≤ 16) := fun k hk => by have := tx_len b HB.out k; omega
  clear F1 U2 B2 hz2
  go_loopw [21, 4] (fun i v wr => ∃ k : Nat, k ≤ 4 ∧ i = .int .i64 (k : Int) ∧ Kept w wr ∧ Own wr w.heap.size v (tx b k).length (tx b k)) (fun i _ _ => 4 - (intOf i).toNat)
  case atStart => exact ⟨0, by omega, rfl, b4, hown0⟩
  case round =>
    obtain ⟨k, hk, rfl, hkp, hown⟩ := hrel
    clear hown0 b4
    have hLl := hlen.out k hk
    obtain ⟨L, hL⟩ : ∃ L, L = tx b k := ⟨_, rfl⟩
    obtain ⟨NL, hNL⟩ : ∃ NL, NL = (tx b k).length := ⟨_, rfl⟩
    rw [← hNL] at hown hLl
    rw [← hL] at hown
    have hkz := hkp.size
    have HL := Lib.hid (And.intro hL hNL)
    clear hL hNL
    by_cases hlt : k < 4
    · have hki : (k : Int) < 4 := by omega
      have hbk := HB.out k
      have hget := vnt_get b k hlt
      obtain ⟨c, hc⟩ : ∃ c, c = b k := ⟨_, rfl⟩
      rw [← hc] at hbk hget
      have hnext : Hid (tx b (k + 1) = L ++ (if k = 0 then [] else [46]) ++ Lib.decDigits c) := by show _ = _; rw [tx, HL.out.1, hc]
      have HGet := Lib.hid hget
      clear hc hget
      by_cases hk0 : k = 0
      · have hk0i : ¬ (0 : Int) < (k : Int) := by omega
        have hap := Lib.hid (append10 w.heap.size NL c (by omega) _ L wr hown hkz (by omega) (HT.out.kept hkp))
        have hn2 : Hid (tx b (k + 1) = L ++ Lib.decDigits c) := by show _ = _; rw [hnext.out, if_pos hk0]; simp
        clear hnext
        go_wp2_with (first
          | ((with_reducible show wpList _ _ _ (⟨some 24, .index _ _ _, _, _, _, _⟩ :: _) _ _); refine wp_index _ rfl 89 _ _ rfl 4 5 _ Tryd.underlying89 Tryd.underlying5 rfl size5 (vnt b) rfl k rfl hlt _ HGet.out ?_; simp only [Act.put, List.setIfInBounds_toArray, List.set_cons_zero, List.set_cons_succ])
          | (go_at_call 47; with_reducible refine hap.out.mono ?_; rintro e w5 ⟨v5, rfl, hown5, hb5⟩))
        go_roundw
        case rel =>
          refine ⟨k + 1, by omega, by go_num, hkp.base hb5, ?_⟩
          rw [hn2.out, List.length_append, ← HL.out.2.trans (congrArg List.length HL.out.1.symm)]
          exact hown5
        case measure => simp [intOf]; omega
      · have hk0i : (0 : Int) < (k : Int) := by omega
        have hn2 : Hid (tx b (k + 1) = (L ++ [46]) ++ Lib.decDigits c) := by show _ = _; rw [hnext.out, if_neg hk0]
        clear hnext
        go_wp2_with (first
          | ((with_reducible show wpList _ _ _ (⟨some 24, .index _ _ _, _, _, _, _⟩ :: _) _ _); refine wp_index _ rfl 89 _ _ rfl 4 5 _ Tryd.underlying89 Tryd.underlying5 rfl size5 (vnt b) rfl k rfl hlt _ HGet.out ?_; simp only [Act.put, List.setIfInBounds_toArray, List.set_cons_zero, List.set_cons_succ])
          | (at_builtin; refine wp_app _ rfl (.tmp 27) (.tmp 28) rfl w.heap.size _ NL L rfl (hown.alloc _) (wr.heap.size + 1) _ 1 1 [46] rfl (Bs.one' _ _ _ rfl) (by omega) (by simp; omega) ?_; intro v4 w4 hown4 hb4; have hkp4 := hkp.base (((Below.refl _ _).alloc hkz _).trans hb4); have hz4 := hkp4.size)
          | (go_at_call 47; with_reducible refine (append10 w.heap.size (NL + 1) c (by omega) v4 (L ++ [46]) w4 hown4 hz4 (by omega) (HT.out.kp hkp4)).mono ?_; rintro e w5 ⟨v5, rfl, hown5, hb5⟩))
        go_roundw
        case rel =>
          refine ⟨k + 1, by omega, by go_num, hkp4.base hb5, ?_⟩
          rw [hn2.out, List.length_append, List.length_append, ← HL.out.2.trans (congrArg List.length HL.out.1.symm)]
          exact hown5
        case measure => simp [intOf]; omega
    · have hk' : Hid (k = 4) := by show k = 4; omega
      have hki : ¬ (k : Int) < 4 := by omega
      clear hk hlt
      obtain ⟨A, cc, rfl, hcc, hs⟩ := hown.form
      have hst := run_str wr _ A NL cc L hs
      go_wp2_with fail
      go_ret
      refine ⟨?_, hkp⟩
      rw [hT.out, HL.out.1, hk'.out]
      rfl
end Go.Proofs.YtcfgcakmffkpmaaDoor
