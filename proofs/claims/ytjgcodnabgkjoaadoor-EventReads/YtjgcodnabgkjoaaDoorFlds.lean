/-
  What event.texts and event.numbers answer: the places of an event's texts and numbers, in a new row. No condition.
-/
import Derived.Test.YtjgcodnabgkjoaaDoorArr
import Derived.RegionTactic
import Derived.BigRegion
namespace Go.Proofs.YtjgcodnabgkjoaaDoor
open Go.RowKit

def ptr (y i : Nat) : Value := .pointer (some ⟨y, i, none⟩)
def textPs (y : Nat) : List Value := [ptr y 3, ptr y 4, ptr y 5, ptr y 6]
def numPs (y : Nat) : List Value := [ptr y 7, ptr y 8, ptr y 9]

set_option maxHeartbeats 1000000 in
theorem texts_any (y : Nat) (w : World) : Calls Tryd.prog 39 #[.pointer (some ⟨y, 0, none⟩)] w fun r w' => ∃ b, r = .returned (.slice (some ⟨b, 0, none⟩) 4 4) ∧ Blk w' b 77 (textPs y) ∧ w.heap.size ≤ b ∧ Below w.heap.size w w' := by
  go_enter Tryd.func39, Tryd.ntmps39
  go_wp2_with fail
  go_region
  all_goals
    go_wp2_with fail
    go_ret
    exact ⟨w.heap.size, rfl, Blk.new w.drew 77 (textPs y), Nat.le_refl _, ((Below.refl _ _).drew).alloc (Nat.le_refl _) _⟩

set_option maxHeartbeats 1000000 in
theorem numbers_any (y : Nat) (w : World) : Calls Tryd.prog 40 #[.pointer (some ⟨y, 0, none⟩)] w fun r w' => ∃ b, r = .returned (.slice (some ⟨b, 0, none⟩) 3 3) ∧ Blk w' b 80 (numPs y) ∧ w.heap.size ≤ b ∧ Below w.heap.size w w' := by
  go_enter Tryd.func40, Tryd.ntmps40
  go_wp2_with fail
  go_region
  all_goals
    go_wp2_with fail
    go_ret
    exact ⟨w.heap.size, rfl, Blk.new w.drew 80 (numPs y), Nat.le_refl _, ((Below.refl _ _).drew).alloc (Nat.le_refl _) _⟩
end Go.Proofs.YtjgcodnabgkjoaaDoor
