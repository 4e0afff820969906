/-
  What the document's own Decode (transeptref05) answers: the same as the program's; nothing that was there turns. Condition: at most a million bytes.
-/
import Derived.Test.YtjgcodnabgkjoaaDoorRefDec1
import Derived.Test.YtjgcodnabgkjoaaDoorRefDec2
import Derived.Test.YtjgcodnabgkjoaaDoorRefDecK
namespace Go.Proofs.YtjgcodnabgkjoaaDoor
open Go.RowKit

theorem refDecode_any (l : List UInt8) (hl : l.length ≤ 1000000) (w : World) : Calls Tryd.prog 18 #[.string (str l)] w fun r w' => r = .returned (gotE l) ∧ Below w.heap.size w w' := by
  match l, hl with
  | [], _ => exact refDecode_nil w
  | c :: r, hl =>
    by_cases hc : 1 ≤ c.toNat ∧ c.toNat ≤ 14
    · by_cases h1 : c.toNat = 1
      · exact refDecode_in1 c r hl h1 w
      · by_cases h2 : c.toNat = 2
        · exact refDecode_in2 c r hl h2 w
        · exact refDecode_inK c r hl (by omega) hc.2 w
    · exact refDecode_kind c r hc w
end Go.Proofs.YtjgcodnabgkjoaaDoor
