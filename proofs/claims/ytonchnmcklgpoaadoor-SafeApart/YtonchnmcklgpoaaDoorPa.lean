/-
  transeptref09.In, Strip, turned, Lower, Parts, strings.Trim, token.Parts. No condition.
-/
import Derived.Test.YtonchnmcklgpoaaDoorLo
import Derived.Test.YtonchnmcklgpoaaDoorShelf
namespace Go.Proofs.YtonchnmcklgpoaaDoor
open Go.RowKit
set_option linter.unusedVariables false

theorem trim_any (l cs : List UInt8) (w : World) (hl : l.length ≤ 9223372036854775807) (hc : cs.length < 4294967281) (ha : ∀ b ∈ cs, b.toNat < 128) : Calls Tryd.prog 54 #[.string (str l), .string (str cs)] w fun e w' => e = .returned (.string (str (Lib.trimS l cs))) ∧ Below w.heap.size w w' :=
  Tryd.strings_Trim_laid (str l) (str cs) w (by rw [str_size]; exact hl) (by rw [str_size]; exact hc) (fun j b hb => ha b (List.mem_of_getElem? hb))
theorem pt_pos : ∀ (l : List UInt8) (q : Nat) (cur : List UInt8), 1 ≤ (pt l q cur).length
  | [], _, _ => by simp [pt]
  | c :: r, 0, cur => by
    have h1 := pt_pos r 1 (cur ++ [c])
    have h2 := pt_pos r 0 (cur ++ [c])
    simp only [pt]
    split
    · omega
    · split
      · simp
      · omega
  | c :: r, 1, cur => by
    have h1 := pt_pos r 2 (cur ++ [c])
    have h2 := pt_pos r 0 (cur ++ [c])
    have h3 := pt_pos r 1 (cur ++ [c])
    simp only [pt]
    split
    · omega
    · split <;> omega
  | c :: r, q + 2, cur => by
    simp only [pt]
    exact pt_pos r 1 (cur ++ [c])
theorem prts_pos (l : List UInt8) : 1 ≤ (prts l).length := pt_pos l 0 []
theorem Pi.size {l : List UInt8} {k st : Nat} {q : Bool} {ps : List (List UInt8)} (h : Pi l k st q ps) : ps.length ≤ (prts l).length := by
  rcases h.2 with ⟨_, _, h3⟩ | ⟨_, h3⟩ <;> rw [← h3, List.length_append] <;> omega
end Go.Proofs.YtonchnmcklgpoaaDoor
