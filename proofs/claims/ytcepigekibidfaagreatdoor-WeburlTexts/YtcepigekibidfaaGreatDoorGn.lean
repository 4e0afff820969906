/-
  The mathematics of WeburlDots, WeburlPorts, WeburlParts and WeburlClean. Condition of some: 'a' and 'host.example' are hosts that are written so. No program.
-/
import Derived.Test.YtcepigekibidfaaGreatDoorGk
import Derived.Test.YtcepigekibidfaaGreatDoorGj
namespace Go.Proofs.YtcepigekibidfaaGreatDoor

def pstp (put : List (List UInt8)) (x : List UInt8) : List (List UInt8) := if dots x = 2 then put.dropLast else if dots x = 1 then put else put ++ [enc (inS 5) x]
def fin (put : List (List UInt8)) (x : List UInt8) : List (List UInt8) := if dots x = 2 then put.dropLast ++ [[]] else if dots x = 1 then put ++ [[]] else put ++ [enc (inS 5) x]
theorem pst_snoc (x : List UInt8) : ∀ (L put : List (List UInt8)), pst put (L ++ [x]) = fin (L.foldl pstp put) x
  | [], put => rfl
  | a :: r, put => by
    obtain ⟨b, t, e⟩ : ∃ b t, r ++ [x] = b :: t := by
      cases r with
      | nil => exact ⟨x, [], rfl⟩
      | cons b t => exact ⟨b, t ++ [x], rfl⟩
    have ih : ∀ P, pst P (b :: t) = fin (r.foldl pstp P) x := fun P => by rw [← e]; exact pst_snoc x r P
    rw [List.cons_append, e, List.foldl_cons]
    unfold pstp
    rw [pst]
    split
    · exact ih _
    · split
      · exact ih _
      · exact ih _
end Go.Proofs.YtcepigekibidfaaGreatDoor
