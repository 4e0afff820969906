/-
  The small case at the head of every law of this seat (transeptlaw03.shown) returns true. Condition: the tables hold what the program's text lays.
-/
import Derived.Test.YtiigmpoopmnnhaaDoorMac
import Derived.Lib.SlBytesConst
namespace Go.Proofs.YtiigmpoopmnnhaaDoor
open Go.RowKit

/-- A constant's bytes: the row bears the run-time's mark behind its end. -/
theorem Bs.newF (w : World) (l : List UInt8) (a : Array Value) (ha : a = (vbs l).toArray) (n : Nat) (hn : l.length = n) (fr : Nat × Nat) : Bs (w.alloc (.cells a 5 fr)) (w.alloc (.cells a 5 fr)).heap.size (some ⟨w.heap.size, 0, none⟩) n l := by
  subst ha
  refine ⟨hn, fun _ => ⟨w.heap.size, 0, rfl, by simp, fun j c hj => ?_⟩⟩
  rw [Nat.zero_add, World.cell?_alloc_mark]
  simp [vbs, hj]
theorem Tab.alloc {w : World} (h : Tab w) (o : Obj) : Tab (w.alloc o) := h.below ((Below.refl _ _).alloc (Nat.le_refl _) o)

def jefe : List UInt8 := [74, 101, 102, 101]
def what : List UInt8 := [119, 104, 97, 116, 32, 100, 111, 32, 121, 97, 32, 119, 97, 110, 116, 32, 102, 111, 114, 32, 110, 111, 116, 104, 105, 110, 103, 63]
theorem abc0 : (digest [97, 98, 99]).getD 0 0 = 186 := by decide +kernel
theorem abc1 : (digest [97, 98, 99]).getD 1 0 = 120 := by decide +kernel
theorem abc31 : (digest [97, 98, 99]).getD 31 0 = 173 := by decide +kernel
theorem nil0 : (digest []).getD 0 0 = 227 := by decide +kernel
theorem nil31 : (digest []).getD 31 0 = 85 := by decide +kernel
theorem mac0 : (mac jefe what).getD 0 0 = 91 := by decide +kernel
theorem mac1 : (mac jefe what).getD 1 0 = 220 := by decide +kernel
theorem mac31 : (mac jefe what).getD 31 0 = 67 := by decide +kernel
theorem mac_length (k b : List UInt8) : (mac k b).length = 32 := digest_length _
end Go.Proofs.YtiigmpoopmnnhaaDoor
