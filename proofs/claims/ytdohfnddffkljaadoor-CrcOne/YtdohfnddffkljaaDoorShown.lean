/-
  The small case at the head of every law of this seat (transeptlaw02.shown) returns true. Condition: the table's cells hold what the program's text lays.
-/
import Derived.Test.YtdohfnddffkljaaDoorCrc
import Derived.Test.YtdohfnddffkljaaDoorLaw
import Derived.Lib.SlBytesConst
namespace Go.Proofs.YtdohfnddffkljaaDoor
open Go.RowKit

theorem sum_of {A : Option Addr} {n c : Nat} {w : World} (l : List UInt8) (r : Nat) (hr : more 0 l = r) (ht : Tab w) {B : Nat} (h : Bs w B A n l) (hn : n ≤ 1000000000) :
    Calls Tryd.prog 10 #[.slice A n c] w fun e w' => e = .returned (.int .u32 (r : Int)) ∧ w' = w := by
  subst hr
  exact sum_any A n c l w ht B h hn
theorem more_of {A : Option Addr} {n c : Nat} {w : World} (s : Nat) (hs : s < 4294967296) (l : List UInt8) (r : Nat) (hr : more s l = r) (ht : Tab w) {B : Nat} (h : Bs w B A n l) (hn : n ≤ 1000000000) :
    Calls Tryd.prog 12 #[.int .u32 s, .slice A n c] w fun e w' => e = .returned (.int .u32 (r : Int)) ∧ w' = w := by
  subst hr
  exact more_any s A n c l w ht hs B h hn
theorem Tab.alloc {w : World} (h : Tab w) (o : Obj) : Tab (w.alloc o) := h.below ((Below.refl _ _).alloc (Nat.le_refl _) o)
theorem Tab.drew {w : World} (h : Tab w) : Tab w.drew := h.below (Below.drew (Below.refl _ _))

/-- The same, where the world behind it is a letter. -/
theorem sum_ofB {A : Option Addr} {n c : Nat} {w : World} (l : List UInt8) (r : Nat) (hr : more 0 l = r) (ht : Tab w) {B : Nat} (h : Bs w B A n l) (hn : n ≤ 1000000000) :
    Calls Tryd.prog 10 #[.slice A n c] w fun e w' => e = .returned (.int .u32 (r : Int)) ∧ Tab w' ∧ Below w.heap.size w w' :=
  (sum_of l r hr ht h hn).mono fun _ _ hp => ⟨hp.1, hp.2 ▸ ht, hp.2 ▸ Below.refl _ _⟩
/-- A constant's bytes: the row bears the run-time's mark behind its end. -/
theorem Bs.newF (w : World) (l : List UInt8) (a : Array Value) (ha : a = (vbs l).toArray) (n : Nat) (hn : l.length = n) (fr : Nat × Nat) : Bs (w.alloc (.cells a 5 fr)) (w.heap.size + 1) (some ⟨w.heap.size, 0, none⟩) n l := by
  subst ha
  refine ⟨hn, fun _ => ⟨w.heap.size, 0, rfl, by omega, fun j c hj => ?_⟩⟩
  rw [Nat.zero_add, World.cell?_alloc_mark]
  simp [vbs, hj]

set_option maxHeartbeats 1000000 in
theorem shown_any (w : World) (ht : Tab w) : Calls Tryd.prog 9 #[] w fun e w' => e = .returned (.bool true) ∧ Below w.heap.size w w' := by
  have kc := fun (w : World) (C : Array Value) (n c : Nat) => Lib.run_convert_bytes_const (P := Tryd.prog) w 22 5 C n c Tryd.underlying22 Tryd.underlying5
  go_enter Tryd.func9, Tryd.ntmps9
  go_wp2_with fail
  refine (sum_ofB [49, 50, 51, 52, 53, 54, 55, 56, 57] 3421780262 (by decide +kernel) (ht.alloc _) (Bs.newF w [49, 50, 51, 52, 53, 54, 55, 56, 57] _ rfl 9 rfl _) (by omega)).mono ?_
  rintro e w1 ⟨rfl, ht1, hb1⟩
  have hc1 : Below w.heap.size w w1 := ((Below.refl _ _).alloc (Nat.le_refl _) _).trans (hb1.mono (by simp))
  clear hb1
  go_wp2_with fail
  refine (sum_of [] 0 (by decide +kernel) ht1 (Bs.empty _ 0 _) (by omega)).mono ?_
  rintro e w2 ⟨rfl, rfl⟩
  go_wp2_with fail
  refine (sum_ofB [49, 50, 51, 52] 2615402659 (by decide +kernel) (ht1.alloc _) (Bs.newF w2 [49, 50, 51, 52] _ rfl 4 rfl _) (by omega)).mono ?_
  rintro e w3 ⟨rfl, ht3, hb3⟩
  have hc3 : Below w.heap.size w w3 := (hc1.alloc hc1.size _).trans (hb3.mono (by have := hc1.size; simp; omega))
  clear hb3
  go_wp2_with fail
  refine (more_of 2615402659 (by omega) [53, 54, 55, 56, 57] 3421780262 (by decide +kernel) (ht3.alloc _) (Bs.newF w3 [53, 54, 55, 56, 57] _ rfl 5 rfl _) (by omega)).mono ?_
  rintro e w4 ⟨rfl, rfl⟩
  go_wp2_with fail
  go_ret
  exact ⟨rfl, hc3.alloc hc3.size _⟩
end Go.Proofs.YtdohfnddffkljaaDoor
