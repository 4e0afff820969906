/-
  transeptlaw02.CrcCuts returns true, whatever bytes and numbers it is called with, and turns nothing that was there. Condition: the table's cells hold what the program's text lays.
-/
import Derived.Test.YtdohfnddffkljaaDoorFours
import Derived.Deep.QuietTactic
import Derived.BigQuiet
namespace Go.Proofs.YtdohfnddffkljaaDoor
open Go.RowKit

theorem i64_and65535 (n : Int) : bits .and .i64 n 65535 = n % 65536 := by
  have h1 : (BitVec.ofInt 64 65535).toNat = 2 ^ 16 - 1 := by decide
  have key : (BitVec.ofInt 64 n &&& BitVec.ofInt 64 65535).toNat = (n % ((2 ^ 64 : Nat) : Int)).toNat % 2 ^ 16 := by
    rw [BitVec.toNat_and, BitVec.toNat_ofInt, h1, Nat.and_two_pow_sub_one_eq_mod]
  show IntKind.i64.wrap ((BitVec.ofInt 64 n &&& BitVec.ofInt 64 65535).toNat : Nat) = n % 65536
  rw [key, IntKind.wrap_i64]
  omega
theorem below_drewN {B : Nat} {w w1 : World} (h : Below B w w1) (k : Nat) : Below B w (w1.drewN k) := ⟨h.os, h.tape, h.output, h.size, h.block⟩
theorem Tab.drewN {w : World} (h : Tab w) (k : Nat) : Tab (w.drewN k) := h

set_option maxHeartbeats 2000000 in
set_option maxRecDepth 100000 in
theorem cuts_walk (A : Option Addr) (n c : Nat) (l : List UInt8) (one two : Int) (w : World) (h : Bs w w.heap.size A n l) (hc : n ≤ c) (hcm : c ≤ 9223372036854775807) (ht : Tab w) :
    Calls Tryd.prog 4 #[.slice A n c, .int .i64 one, .int .i64 two] w fun e w' => e = .returned (.bool true) ∧ Below w.heap.size w w' := by
  obtain ⟨m, hm, hm1, hm2⟩ : ∃ k : Nat, min (n : Int) 2000 = (k : Int) ∧ k ≤ n ∧ k ≤ 2000 := ⟨min n 2000, by omega, by omega, by omega⟩
  have hcut := h.take m hm1
  obtain ⟨T, hT⟩ : ∃ T, T = l.take m := ⟨_, rfl⟩
  rw [← hT] at hcut
  clear hT h
  obtain ⟨p, hp, hp1⟩ : ∃ q : Nat, bits .and .i64 one 65535 = (q : Int) ∧ q ≤ 65535 := ⟨(one % 65536).toNat, by rw [i64_and65535]; omega, by omega⟩
  obtain ⟨q, hq, hq1⟩ : ∃ q : Nat, bits .and .i64 two 65535 = (q : Int) ∧ q ≤ 65535 := ⟨(two % 65536).toNat, by rw [i64_and65535]; omega, by omega⟩
  obtain ⟨i, hi⟩ : ∃ i, p % (m + 1) = i := ⟨_, rfl⟩
  have hi2 : i < m + 1 := by rw [← hi]; exact Nat.mod_lt _ (by omega)
  obtain ⟨d, hd⟩ : ∃ d, q % (m - i + 1) = d := ⟨_, rfl⟩
  have hd2 : d < m - i + 1 := by rw [← hd]; exact Nat.mod_lt _ (by omega)
  have e1 : (p : Int) % ((m : Int) + 1) = (i : Int) := by
    rw [show (m : Int) + 1 = ((m + 1 : Nat) : Int) by omega, ← hi]
    rfl
  have e2 : (q : Int) % ((m : Int) - (i : Int) + 1) = (d : Int) := by
    rw [show (m : Int) - (i : Int) + 1 = ((m - i + 1 : Nat) : Int) by omega, ← hd]
    rfl
  clear hi hd
  obtain ⟨k, hk⟩ : ∃ k, k = i + d := ⟨_, rfl⟩
  have e3 : (i : Int) + (d : Int) = (k : Int) := by omega
  have k1 : i ≤ k := by omega
  have k2 : k ≤ m := by omega
  have k3 : m ≤ c := by omega
  clear hk hd2 hi2
  go_enter Tryd.func4, Tryd.ntmps4
  go_wp2_with fail
  refine (shown_any w ht).mono ?_
  rintro e w1 ⟨rfl, hb1⟩
  have hB1 := hcut.below hb1
  have ht1 := ht.below hb1
  go_wp2_with fail
  simp only [e1, e2]
  have i1 : (0 : Int) ≤ (i : Int) := by omega
  have i2 : (i : Int) ≤ (c : Int) := by omega
  have i3 : (0 : Int) ≤ (k : Int) := by omega
  have i4 : (k : Int) ≤ (c : Int) := by omega
  have i5 : (i : Int) ≤ (k : Int) := by omega
  have i6 : (k : Int) ≤ (m : Int) := by omega
  have i7 : (m : Int) ≤ (c : Int) := by omega
  have i8 : (0 : Int) ≤ (m : Int) := by omega
  have B1 := hB1.take i (by omega)
  have B2 := (hB1.take k (by omega)).cut (k := i) (cap := c) (by omega) (by omega)
  have B3 := hB1.cut (k := k) (cap := c) (by omega) (by omega)
  obtain ⟨s1, h1⟩ : ∃ s, more 0 (T.take i) = s := ⟨_, rfl⟩
  obtain ⟨s2, h2⟩ : ∃ s, more s1 ((T.take k).drop i) = s := ⟨_, rfl⟩
  obtain ⟨s3, h3⟩ : ∃ s, more s2 (T.drop k) = s := ⟨_, rfl⟩
  have h4 : more 0 T = s3 := by
    rw [← h3, ← h2, ← h1, ← more_append, ← more_append]
    congr 1
    have hk : (T.take k).take i = T.take i := by rw [List.take_take, Nat.min_eq_left k1]
    rw [← hk, ← List.append_assoc, List.take_append_drop, List.take_append_drop]
  have l1 : s1 < 4294967296 := by rw [← h1]; exact more_lt _ (by omega)
  have l2 : s2 < 4294967296 := by rw [← h2]; exact more_lt _ l1
  obtain ⟨A2, a2⟩ : ∃ X, (if c = i then A else A.map (fun x => x.add i)) = X := ⟨_, rfl⟩
  obtain ⟨A3, a3⟩ : ∃ X, (if c = k then A else A.map (fun x => x.add k)) = X := ⟨_, rfl⟩
  obtain ⟨n2, b2⟩ : ∃ X, k - i = X := ⟨_, rfl⟩
  obtain ⟨n3, b3⟩ : ∃ X, m - k = X := ⟨_, rfl⟩
  rw [a2, b2] at B2
  rw [a3, b3] at B3
  generalize (T.take k).drop i = L2 at B2 h2
  generalize T.drop k = L3 at B3 h3
  generalize T.take i = L1 at B1 h1
  have n2l : n2 ≤ 1000000000 := by omega
  have n3l : n3 ≤ 1000000000 := by omega
  have H1 := Lib.hid h1
  have H2 := Lib.hid h2
  have H3 := Lib.hid h3
  have H4 := Lib.hid h4
  clear h1 h2 h3 h4
  have C1 := fun x => Calls.quiet_of_same (sum_of (c := c) L1 s1 H1.out (ht1.drewN x) (B1.drewN x) (by omega))
  have C2 := fun x => Calls.quiet_of_same (more_of (c := c - i) s1 l1 L2 s2 H2.out (ht1.drewN x) (B2.drewN x) n2l)
  have C3 := fun x => Calls.quiet_of_same (more_of (c := c - k) s2 l2 L3 s3 H3.out (ht1.drewN x) (B3.drewN x) n3l)
  have C4 := fun x => Calls.quiet_of_same (sum_of (c := c) T s3 H4.out (ht1.drewN x) (hB1.drewN x) (by omega))
  have D1 := Lib.hid C1
  have D2 := Lib.hid C2
  have D3 := Lib.hid C3
  have D4 := Lib.hid C4
  clear C1 C2 C3 C4 H1 H2 H3 H4 B1 B2 B3 ht1
  go_quiet (first
    | (go_at_call 10; with_reducible exact D1.out _)
    | (go_at_call 12; with_reducible exact D2.out _)
    | (go_at_call 12; with_reducible exact D3.out _)
    | (go_at_call 10; with_reducible exact D4.out _))
  go_wp2_with fail
  go_ret
  exact ⟨rfl, below_drewN hb1 _⟩
end Go.Proofs.YtdohfnddffkljaaDoor
