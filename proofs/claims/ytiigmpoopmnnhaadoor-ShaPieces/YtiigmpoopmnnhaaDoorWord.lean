/-
  What word.turned, word.shifted, sha.mixed and transeptref03.right answer: the words of the plain mathematics; nothing in memory turns. No condition but that words are words.
-/
import Derived.Test.YtiigmpoopmnnhaaDoorMem
import Derived.Test.YtiigmpoopmnnhaaDoorPlain
import Derived.Laws.BitsAllLaws
namespace Go.Proofs.YtiigmpoopmnnhaaDoor
open Go.RowKit

theorem turn_bits (x n : Nat) (hx : x < 4294967296) : bits .or .u32 ((x : Int) / 2 ^ n) ((x : Int) * 2 ^ (32 - n) % 4294967296) = (turn x n : Int) := by
  have h := u32_or_nat (x / 2 ^ n) (x * 2 ^ (32 - n) % 4294967296) (div_lt n hx) (Nat.mod_lt _ (by omega))
  simpa [turn] using h

theorem turned_any (x n : Nat) (w : World) (hx : x < 4294967296) (hn : n ≤ 32) : Calls Tryd.prog 35 #[.int .u32 x, .int .u64 n] w fun e w' => e = .returned (.int .u32 (turn x n : Int)) ∧ w' = w := by
  have e1 := turn_bits x n hx
  go_enter Tryd.func35, Tryd.ntmps35
  go_wp2_with fail
  go_ret
  exact ⟨rfl, rfl⟩
theorem right_any (x n : Nat) (w : World) (hx : x < 4294967296) (hn : n ≤ 32) : Calls Tryd.prog 28 #[.int .u32 x, .int .u64 n] w fun e w' => e = .returned (.int .u32 (turn x n : Int)) ∧ w' = w := by
  have e1 := turn_bits x n hx
  go_enter Tryd.func28, Tryd.ntmps28
  go_wp2_with fail
  go_ret
  exact ⟨rfl, rfl⟩
theorem shifted_any (x n : Nat) (w : World) (hn : n ≤ 32) : Calls Tryd.prog 34 #[.int .u32 x, .int .u64 n] w fun e w' => e = .returned (.int .u32 ((x / 2 ^ n : Nat) : Int)) ∧ w' = w := by
  obtain ⟨q, hq, e1⟩ : ∃ q : Nat, x / 2 ^ n = q ∧ (x : Int) / 2 ^ n = (q : Int) := ⟨_, rfl, by simp⟩
  rw [hq]
  clear hq
  go_enter Tryd.func34, Tryd.ntmps34
  go_wp2_with fail
  go_ret
  exact ⟨rfl, rfl⟩

theorem mixedT_any (x a b c : Nat) (w : World) (hx : x < 4294967296) (ha : a ≤ 32) (hb : b ≤ 32) (hc : c ≤ 32) :
    Calls Tryd.prog 33 #[.int .u32 x, .int .u64 a, .int .u64 b, .func (.func 35) #[] #[], .int .u64 c] w fun e w' => e = .returned (.int .u32 (mixT x a b c : Int)) ∧ w' = w := by
  have e1 := u32_xor_nat (turn x a) (turn x b) (turn_lt a hx) (turn_lt b hx)
  have e2 := u32_xor_nat (turn x a ^^^ turn x b) (turn x c) (xor_lt (turn_lt a hx) (turn_lt b hx)) (turn_lt c hx)
  have t1 := turned_any x a w hx ha
  have t2 := turned_any x b w hx hb
  have t3 := turned_any x c w hx hc
  have HM : Hid (mixT x a b c = turn x a ^^^ turn x b ^^^ turn x c) := rfl
  generalize turn x a = A at *
  generalize turn x b = B at *
  generalize turn x c = C at *
  go_enter Tryd.func33, Tryd.ntmps33
  go_wp2_with fail
  refine t1.mono ?_
  rintro e w1 ⟨rfl, rfl⟩
  go_wp2_with fail
  refine t2.mono ?_
  rintro e w1 ⟨rfl, rfl⟩
  go_wp2_with fail
  refine t3.mono ?_
  rintro e w1 ⟨rfl, rfl⟩
  go_wp2_with fail
  go_ret
  exact ⟨by rw [HM.out]; rfl, rfl⟩
theorem mixedS_any (x a b c : Nat) (w : World) (hx : x < 4294967296) (ha : a ≤ 32) (hb : b ≤ 32) (hc : c ≤ 32) :
    Calls Tryd.prog 33 #[.int .u32 x, .int .u64 a, .int .u64 b, .func (.func 34) #[] #[], .int .u64 c] w fun e w' => e = .returned (.int .u32 (mixS x a b c : Int)) ∧ w' = w := by
  have e1 := u32_xor_nat (turn x a) (turn x b) (turn_lt a hx) (turn_lt b hx)
  have e2 := u32_xor_nat (turn x a ^^^ turn x b) (x / 2 ^ c) (xor_lt (turn_lt a hx) (turn_lt b hx)) (div_lt c hx)
  have t1 := turned_any x a w hx ha
  have t2 := turned_any x b w hx hb
  have t3 := shifted_any x c w hc
  have HM : Hid (mixS x a b c = turn x a ^^^ turn x b ^^^ x / 2 ^ c) := rfl
  generalize turn x a = A at *
  generalize turn x b = B at *
  generalize x / 2 ^ c = C at *
  go_enter Tryd.func33, Tryd.ntmps33
  go_wp2_with fail
  refine t1.mono ?_
  rintro e w1 ⟨rfl, rfl⟩
  go_wp2_with fail
  refine t2.mono ?_
  rintro e w1 ⟨rfl, rfl⟩
  go_wp2_with fail
  refine t3.mono ?_
  rintro e w1 ⟨rfl, rfl⟩
  go_wp2_with fail
  go_ret
  exact ⟨by rw [HM.out]; rfl, rfl⟩
end Go.Proofs.YtiigmpoopmnnhaaDoor
