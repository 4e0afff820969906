/-
  What transeptref03.Mac answers: the tag of the bytes under the key; nothing that was in memory turns. Condition: at most 1000 bytes each.
-/
import Derived.Test.YtiigmpoopmnnhaaDoorRefSum
import Derived.Test.YtiigmpoopmnnhaaDoorWith
import Derived.Test.YtiigmpoopmnnhaaDoorMac
namespace Go.Proofs.YtiigmpoopmnnhaaDoor
open Go.RowKit

/-- What is behind the test of the key's length. -/
theorem full_padded (k : List UInt8) : padded (keyOf k) = full k := rfl

set_option maxHeartbeats 1000000 in
theorem refMac_any (k b : List UInt8) (w : World) (hk : k.length ≤ 1000) (hb : b.length ≤ 1000) : Calls Tryd.prog 14 #[.string (str k), .string (str b)] w fun e w' => e = .returned (.string (str (mac k b))) ∧ Below w.heap.size w w' := by
  have kl := keyOf_le k
  have lf := full_length k
  have W1 : ∀ w, Calls Tryd.prog 22 #[.string (str (keyOf k)), .int .u8 54] w fun e w' => e = .returned (.string (str (xo (full k) 54))) ∧ Below w.heap.size w w' := fun w => with_any (keyOf k) 54 w kl
  have W2 : ∀ w, Calls Tryd.prog 22 #[.string (str (keyOf k)), .int .u8 92] w fun e w' => e = .returned (.string (str (xo (full k) 92))) ∧ Below w.heap.size w w' := fun w => with_any (keyOf k) 92 w kl
  have S1 := fun w => refSum_any (xo (full k) 54 ++ b) w (by rw [List.length_append, xo_length, lf]; omega)
  have S2 := fun w => refSum_any (xo (full k) 92 ++ digest (xo (full k) 54 ++ b)) w (by rw [List.length_append, xo_length, lf, digest_length]; omega)
  have SK := fun w => refSum_any k w (by omega)
  have HM : Hid (mac k b = digest (xo (full k) 92 ++ digest (xo (full k) 54 ++ b))) := rfl
  have a1 := str_append (xo (full k) 54) b
  have a2 := str_append (xo (full k) 92) (digest (xo (full k) 54 ++ b))
  have z1 : (str (xo (full k) 54)).size = 64 := by rw [str_size, xo_length, lf]
  have z2 : (str (xo (full k) 92)).size = 64 := by rw [str_size, xo_length, lf]
  have z3 : (str (digest (xo (full k) 54 ++ b))).size = 32 := by rw [str_size, digest_length]
  have zb := str_size b
  have zk := str_size k
  have q1 : ¬ 9223372036854775807 < 64 + b.length := by omega
  generalize digest (xo (full k) 92 ++ digest (xo (full k) 54 ++ b)) = D2 at *
  generalize xo (full k) 92 ++ digest (xo (full k) 54 ++ b) = L2 at *
  generalize digest (xo (full k) 54 ++ b) = D1 at *
  generalize xo (full k) 54 ++ b = L1 at *
  generalize xo (full k) 54 = X1 at *
  generalize xo (full k) 92 = X2 at *
  have HK : Hid (keyOf k = if 64 < k.length then digest k else k) := rfl
  by_cases hlt : 64 < k.length
  · have e1 : keyOf k = digest k := by rw [HK.out, if_pos hlt]
    rw [e1] at W1 W2
    clear e1 HK kl lf
    go_enter Tryd.func14, Tryd.ntmps14
    go_wp2_with fail
    refine (SK w).mono ?_
    rintro e w1 ⟨rfl, b1⟩
    go_wp2_with fail
    refine (W1 w1).mono ?_
    rintro e w2 ⟨rfl, hb2⟩
    have b2 : Below w.heap.size w w2 := b1.trans (hb2.mono b1.size)
    go_wp2_with fail
    refine (S1 w2).mono ?_
    rintro e w3 ⟨rfl, hb3⟩
    have b3 : Below w.heap.size w w3 := b2.trans (hb3.mono b2.size)
    go_wp2_with fail
    refine (W2 w3).mono ?_
    rintro e w4 ⟨rfl, hb4⟩
    have b4 : Below w.heap.size w w4 := b3.trans (hb4.mono b3.size)
    go_wp2_with fail
    refine (S2 w4).mono ?_
    rintro e w5 ⟨rfl, hb5⟩
    have b5 : Below w.heap.size w w5 := b4.trans (hb5.mono b4.size)
    go_wp2_with fail
    go_ret
    exact ⟨by rw [HM.out]; rfl, b5⟩
  · have e1 : keyOf k = k := by rw [HK.out, if_neg hlt]
    rw [e1] at W1 W2
    clear e1 HK kl lf
    go_enter Tryd.func14, Tryd.ntmps14
    go_wp2_with fail
    refine (W1 w).mono ?_
    rintro e w2 ⟨rfl, b2⟩
    go_wp2_with fail
    refine (S1 w2).mono ?_
    rintro e w3 ⟨rfl, hb3⟩
    have b3 : Below w.heap.size w w3 := b2.trans (hb3.mono b2.size)
    go_wp2_with fail
    refine (W2 w3).mono ?_
    rintro e w4 ⟨rfl, hb4⟩
    have b4 : Below w.heap.size w w4 := b3.trans (hb4.mono b3.size)
    go_wp2_with fail
    refine (S2 w4).mono ?_
    rintro e w5 ⟨rfl, hb5⟩
    have b5 : Below w.heap.size w w5 := b4.trans (hb5.mono b4.size)
    go_wp2_with fail
    go_ret
    exact ⟨by rw [HM.out]; rfl, b5⟩
end Go.Proofs.YtiigmpoopmnnhaaDoor
