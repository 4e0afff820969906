/-
  What transeptref03.root, Primes and Roots answer: the two tables; nothing that was in memory turns. No condition.
-/
import Derived.Test.YtiigmpoopmnnhaaDoorBelow
import Derived.Test.YtiigmpoopmnnhaaDoorRowsU
import Derived.Test.YtiigmpoopmnnhaaDoorRowsV
namespace Go.Proofs.YtiigmpoopmnnhaaDoor
open Go.RowKit

set_option maxHeartbeats 1000000 in
theorem root_any (p : Nat) (cube : Bool) (w : World) (hp : p < 4294967296) : Calls Tryd.prog 26 #[.int .u64 p, .bool cube] w fun e w' => e = .returned (.int .u32 (rootOf p cube : Int)) ∧ Below w.heap.size w w' := by
  go_enter Tryd.func26, Tryd.ntmps26
  go_wp2_with fail
  go_loopw [5, 6] (fun v5 v6 wr => ∃ (k x : Nat) (i : Int), v5 = .int .u64 x ∧ v6 = .int .i64 i ∧ k ≤ 38 ∧ i = 37 - (k : Int) ∧ Hid (x = rootBits p cube k) ∧ Below w.heap.size w wr) (fun _ v _ => (intOf v + 1).toNat)
  case atStart => exact ⟨0, 0, 37, rfl, rfl, by omega, by omega, rfl, Below.refl _ _⟩
  case round =>
    obtain ⟨k, x, i, rfl, rfl, hk, hi, HX, hbel⟩ := hrel
    have lx : x < 274877906944 := by rw [HX.out]; exact rootBits_lt p cube k hk
    by_cases hlt : k < 38
    · obtain ⟨sh, hsh⟩ : ∃ sh : Nat, i = (sh : Int) := ⟨37 - k, by omega⟩
      have hsk : sh = 37 - k := by omega
      subst hsh
      have ls : sh ≤ 64 := by omega
      obtain ⟨P, hP⟩ : ∃ P, P = 2 ^ sh := ⟨_, rfl⟩
      have eP : (2 : Int) ^ sh = (P : Int) := by rw [hP]; simp
      have lP : P < 274877906944 := by
        have h38 : (2 : Nat) ^ sh < 2 ^ 38 := Nat.pow_lt_pow_right (by decide) (by omega)
        rw [hP]
        exact h38
      have e1 := u64_or_nat x P (by omega) (by omega)
      have HR : Hid (rootBits p cube (k + 1) = if fits (x ||| P) p cube then x ||| P else x) := by
        show _ = _
        rw [rootBits, ← HX.out, hP, hsk]
      have ly : x ||| P < 274877906944 := Nat.or_lt_two_pow (n := 38) lx lP
      have BE := fun w => below_any (x ||| P) p cube w ly hp
      generalize x ||| P = y at *
      generalize fits y p cube = f at *
      have HI := Lib.hid hi
      clear hi hsk hP
      go_wp2_with fail
      refine (BE wr).mono ?_
      rintro e w1 ⟨rfl, hb1⟩
      have bel1 : Below w.heap.size w w1 := hbel.trans (hb1.mono hbel.size)
      clear hb1
      cases f with
      | true =>
        go_wp2_with fail
        go_roundw
        case rel =>
          have := HI.out
          exact ⟨k + 1, y, _, rfl, rfl, by omega, by omega, by show _ = _; rw [HR.out]; rfl, bel1⟩
        case measure => simp [intOf]
      | false =>
        go_wp2_with fail
        go_roundw
        case rel =>
          have := HI.out
          exact ⟨k + 1, x, _, rfl, rfl, by omega, by omega, by show _ = _; rw [HR.out]; rfl, bel1⟩
        case measure => simp [intOf]
    · have hk38 : k = 38 := by omega
      subst hk38
      have hi1 : i = -1 := by omega
      subst hi1
      clear hi
      obtain ⟨r, hr⟩ : ∃ r, r = x % 4294967296 := ⟨_, rfl⟩
      have e2 : (x : Int) % 4294967296 = (r : Int) := by omega
      have HR : Hid (rootOf p cube = r) := by show _ = _; rw [rootOf, ← HX.out, hr]
      have lr : r < 4294967296 := by omega
      clear hr
      go_wp2_with fail
      go_ret
      exact ⟨by rw [HR.out]; rfl, hbel⟩
end Go.Proofs.YtiigmpoopmnnhaaDoor
