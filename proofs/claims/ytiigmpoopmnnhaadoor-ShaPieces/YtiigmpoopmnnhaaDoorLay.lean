/-
  From the rows' premise on the two tables to their cells; a world that holds them. No condition.
-/
import Derived.Test.YtiigmpoopmnnhaaDoorRounds
import Derived.Lib.LaidTab
import Derived.LaidSub
namespace Go.Proofs.YtiigmpoopmnnhaaDoor
open Go.RowKit

theorem gSq : Tryd.prog.globalNamed "transept/sha.squareRoots" = some 0 := by kernel_rfl
theorem gCu : Tryd.prog.globalNamed "transept/sha.cubeRoots" = some 1 := by kernel_rfl
theorem gSqType : (Tryd.prog.globals[0]?).map (·.type) = some 36 := by kernel_rfl
theorem gCuType : (Tryd.prog.globals[1]?).map (·.type) = some 63 := by kernel_rfl
theorem cells36 : Tryd.prog.cellsOf 36 = 8 := by kernel_rfl
theorem cells63 : Tryd.prog.cellsOf 63 = 64 := by kernel_rfl
theorem cells34 : Tryd.prog.cellsOf 34 = 1 := by kernel_rfl
/-- What the two tables hold, as the rows have it. -/
def laidBoth : List (String × DataW Unit) := [("transept/sha.squareRoots", Rows.laid_transept_sha_squareRoots), ("transept/sha.cubeRoots", Rows.laid_transept_sha_cubeRoots)]
theorem sq_is {W : World} (h : laidMetH Tryd.prog laidBoth W) : Lib.TabIs Tryd.prog W "transept/sha.squareRoots" .u32 (H0.list.map Int.ofNat) :=
  Lib.tabIs_of_head (rest := [("transept/sha.cubeRoots", Rows.laid_transept_sha_cubeRoots)]) gSq gSqType Tryd.underlying36 Tryd.underlying34 cells34 cells36 h
theorem cu_is {W : World} (h : laidMetH Tryd.prog laidBoth W) : Lib.TabIs Tryd.prog W "transept/sha.cubeRoots" .u32 (cubes.map Int.ofNat) := by
  have h2 : laidMetH Tryd.prog [("transept/sha.cubeRoots", Rows.laid_transept_sha_cubeRoots)] W := laidMetH.filter (fun x => x.1 == "transept/sha.cubeRoots") h
  exact Lib.tabIs_of_head (rest := []) gCu gCuType Tryd.underlying63 Tryd.underlying34 cells34 cells63 h2
theorem range_of {W : World} {g : Nat} {l : List Nat} (h : ∀ i, i < l.length → W.cell? ⟨g, i, none⟩ = some (.int .u32 ((l.map Int.ofNat).getD i 0))) : W.rangeAt g 0 (vws l) := by
  intro j v hv
  rw [Nat.zero_add]
  have hj : j < l.length := by
    have := (List.getElem?_eq_some_iff.1 hv).1
    rwa [vws_length] at this
  rw [h j hj, ← hv, vws_get l j hj]
  simp [vw, List.getD, List.getElem?_eq_getElem hj]
theorem tab_of {W : World} (h : laidMetH Tryd.prog laidBoth W) : Tab W := by
  have h1 := range_of (W := W) (g := 0) (l := H0.list) (fun i hi => (sq_is h).cell gSq i (by simpa using hi))
  have h2 := range_of (W := W) (g := 1) (l := cubes) (fun i hi => (cu_is h).cell gCu i (by simpa using hi))
  exact ⟨World.block_lt_of_cell? W ⟨1, 0 + 0, none⟩ (h2 0 _ (vws_get cubes 0 (by decide))), h1, h2⟩

def rowOf (vs : Array Value) : Obj → Obj
  | .cells _ t frozen => .cells vs t frozen
  | o => o
/-- A world that holds the two tables. -/
noncomputable def laidWorld (os : Os) : World :=
  { World.holding Tryd.prog os ⟨#[], #[], []⟩ with heap := ((World.holding Tryd.prog os ⟨#[], #[], []⟩).heap.modify 0 (rowOf (vws H0.list).toArray)).modify 1 (rowOf (vws cubes).toArray) }
end Go.Proofs.YtiigmpoopmnnhaaDoor
