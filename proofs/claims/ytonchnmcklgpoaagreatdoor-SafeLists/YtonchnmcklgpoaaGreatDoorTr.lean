/-
  token.Trim, transeptref09.Trim. No condition.
-/
import Derived.Test.YtonchnmcklgpoaaGreatDoorNa
namespace Go.Proofs.YtonchnmcklgpoaaGreatDoor
open Go.RowKit
set_option linter.unusedVariables false

theorem tok_trim_any (l : List UInt8) (w : World) (hl : l.length ≤ 9223372036854775807) : Calls Tryz.prog 64 #[.string (str l)] w fun e w' => e = .returned (.string (str (tr l))) ∧ Below w.heap.size w w' := by
  have H : Hid (∀ w', Calls Tryz.prog 72 #[.string (str l), .string ⟨#[9, 10, 13, 32]⟩] w' fun e w2 => e = .returned (.string (str (tr l))) ∧ Below w'.heap.size w' w2) := fun w' => trim_any l T4 w' hl (by decide) (by decide)
  go_enter Tryz.func64, Tryz.ntmps64
  go_wp2_with (go_at_call 72; (with_reducible refine (H.out _).mono ?_); (rintro e w1 ⟨rfl, hb⟩))
  go_ret
  exact ⟨rfl, hb⟩
theorem rtrim_any (l : List UInt8) (w : World) (hl : l.length ≤ 9223372036854775807) : Calls Tryz.prog 46 #[.string (str l)] w fun e w' => e = .returned (.string (str (tr l))) ∧ w' = w := by
  have H : Hid (∀ w', Calls Tryz.prog 59 #[.string (str l), .string ⟨#[9, 10, 13, 32]⟩] w' fun e w2 => e = .returned (.string (str (tr l))) ∧ w2 = w') := fun w' => strip_any l T4 w' hl (by decide)
  go_enter Tryz.func46, Tryz.ntmps46
  go_wp2_with (go_at_call 59; (with_reducible refine (H.out _).mono ?_); (rintro e w1 ⟨rfl, rfl⟩))
  go_ret
  exact ⟨rfl, rfl⟩
end Go.Proofs.YtonchnmcklgpoaaGreatDoor
