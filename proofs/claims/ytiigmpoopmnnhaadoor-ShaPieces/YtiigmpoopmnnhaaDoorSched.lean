/-
  What sha.wordAt and sha.stretched answer: the words of the plain mathematics; nothing that was in memory turns. No condition but that the block has 64 bytes.
-/
import Derived.Test.YtiigmpoopmnnhaaDoorArr
import Derived.Test.YtiigmpoopmnnhaaDoorWord
import Derived.BigQuiet
import Derived.Deep.QuietTactic
namespace Go.Proofs.YtiigmpoopmnnhaaDoor
open Go.RowKit

theorem below_drewN {B : Nat} {w w1 : World} (h : Below B w w1) (k : Nat) : Below B w (w1.drewN k) := ⟨h.os, h.tape, h.output, h.size, h.block⟩

theorem or4 (a b c d : Nat) (hb : b < 256) (hc : c < 256) (hd : d < 256) :
    a * 16777216 ||| b * 65536 ||| c * 256 ||| d = ((a * 256 + b) * 256 + c) * 256 + d := by
  have h1 : a * 16777216 ||| b * 65536 = (a * 256 + b) * 65536 := by
    have := Nat.two_pow_add_eq_or_of_lt (i := 24) (b := b * 65536) (by omega) a
    rw [show a * 16777216 = 2 ^ 24 * a by omega, ← this]
    omega
  have h2 : (a * 256 + b) * 65536 ||| c * 256 = ((a * 256 + b) * 256 + c) * 256 := by
    have := Nat.two_pow_add_eq_or_of_lt (i := 16) (b := c * 256) (by omega) (a * 256 + b)
    rw [show (a * 256 + b) * 65536 = 2 ^ 16 * (a * 256 + b) by omega, ← this]
    omega
  have h3 : ((a * 256 + b) * 256 + c) * 256 ||| d = ((a * 256 + b) * 256 + c) * 256 + d := by
    have := Nat.two_pow_add_eq_or_of_lt (i := 8) (b := d) (by omega) ((a * 256 + b) * 256 + c)
    rw [show ((a * 256 + b) * 256 + c) * 256 = 2 ^ 8 * ((a * 256 + b) * 256 + c) by omega, ← this]
  rw [h1, h2, h3]

theorem or_lt {a b : Nat} (ha : a < 4294967296) (hb : b < 4294967296) : a ||| b < 4294967296 := Nat.or_lt_two_pow (n := 32) ha hb

set_option maxHeartbeats 1000000 in
set_option maxRecDepth 100000 in
theorem wordAt_any (b : List UInt8) (k : Nat) (w : World) (hb : b.length = 64) (hk : k + 3 < 64) : Calls Tryd.prog 32 #[.agg (vbs b).toArray, .int .i64 k] w fun e w' => e = .returned (.int .u32 (wordAt b k : Int)) ∧ Below w.heap.size w w' := by
  have HW : Hid (wordAt b k = byteAt b k * 16777216 ||| byteAt b (k + 1) * 65536 ||| byteAt b (k + 2) * 256 ||| byteAt b (k + 3)) := by
    show wordAt b k = _
    rw [or4 _ _ _ _ (byteAt_lt _ _) (byteAt_lt _ _) (byteAt_lt _ _)]
    rfl
  have c0 := vbs_getD b k (by omega)
  have c1 := vbs_getD b (k + 1) (by omega)
  have c2 := vbs_getD b (k + 2) (by omega)
  have c3 := vbs_getD b (k + 3) (by omega)
  have l0 := byteAt_lt b k
  have l1 := byteAt_lt b (k + 1)
  have l2 := byteAt_lt b (k + 2)
  have l3 := byteAt_lt b (k + 3)
  unfold byteAt at *
  rw [vb] at c0 c1 c2 c3
  generalize (b.getD k 0).toNat = m0 at *
  generalize (b.getD (k + 1) 0).toNat = m1 at *
  generalize (b.getD (k + 2) 0).toNat = m2 at *
  generalize (b.getD (k + 3) 0).toNat = m3 at *
  have e1 : bits .or .u32 ((m0 : Int) * 16777216) ((m1 : Int) * 65536) = ((m0 * 16777216 ||| m1 * 65536 : Nat) : Int) := u32_or_nat (m0 * 16777216) (m1 * 65536) (by omega) (by omega)
  have e2 : bits .or .u32 ((m0 * 16777216 ||| m1 * 65536 : Nat) : Int) ((m2 : Int) * 256) = ((m0 * 16777216 ||| m1 * 65536 ||| m2 * 256 : Nat) : Int) := u32_or_nat (m0 * 16777216 ||| m1 * 65536) (m2 * 256) (or_lt (by omega) (by omega)) (by omega)
  have e3 := u32_or_nat (m0 * 16777216 ||| m1 * 65536 ||| m2 * 256) m3 (or_lt (or_lt (by omega) (by omega)) (by omega)) (by omega)
  generalize wordAt b k = W at *
  generalize m0 * 16777216 ||| m1 * 65536 ||| m2 * 256 ||| m3 = o3 at *
  generalize m0 * 16777216 ||| m1 * 65536 ||| m2 * 256 = o2 at *
  generalize m0 * 16777216 ||| m1 * 65536 = o1 at *
  go_enter Tryd.func32, Tryd.ntmps32
  go_wp2_with (refine wp_box _ rfl 37 (.tmp 0) rfl (vbs b) rfl ?_; intro w1 g1 hB1 hf1)
  replace c0 := hB1.cell c0
  replace c1 := hB1.cell c1
  replace c2 := hB1.cell c2
  replace c3 := hB1.cell c3
  go_quiet (fail)
  go_wp2_with fail
  go_ret
  exact ⟨by rw [HW.out]; rfl, below_drewN hf1.below _⟩
end Go.Proofs.YtiigmpoopmnnhaaDoor
