/-
  token.Trim, transeptref09.Trim. No condition.
-/
import Derived.Test.YtonchnmcklgpoaaDoorNa
namespace Go.Proofs.YtonchnmcklgpoaaDoor
open Go.RowKit
set_option linter.unusedVariables false

theorem tok_trim_any (l : List UInt8) (w : World) (hl : l.length ≤ 9223372036854775807) : Calls Tryd.prog 46 #[.string (str l)] w fun e w' => e = .returned (.string (str (tr l))) ∧ Below w.heap.size w w' := by
  have H : Hid (∀ w', Calls Tryd.prog 54 #[.string (str l), .string ⟨#[9, 10, 13, 32]⟩] w' fun e w2 => e = .returned (.string (str (tr l))) ∧ Below w'.heap.size w' w2) := fun w' => trim_any l T4 w' hl (by decide) (by decide)
  go_enter Tryd.func46, Tryd.ntmps46
  go_wp2_with (go_at_call 54; (with_reducible refine (H.out _).mono ?_); (rintro e w1 ⟨rfl, hb⟩))
  go_ret
  exact ⟨rfl, hb⟩
end Go.Proofs.YtonchnmcklgpoaaDoor
