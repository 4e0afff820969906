/-
  The walk of transeptlaw05.EventFields: true, for every event, number and text; nothing that was there turns. Condition: the table of kinds holds what the program's text lays.
-/
import Derived.Test.YtjgcodnabgkjoaaDoorFd0
import Derived.Test.YtjgcodnabgkjoaaDoorFd1
import Derived.Test.YtjgcodnabgkjoaaDoorFd2
import Derived.Test.YtjgcodnabgkjoaaDoorFd3
import Derived.Test.YtjgcodnabgkjoaaDoorFd4
import Derived.Test.YtjgcodnabgkjoaaDoorFd5
import Derived.Test.YtjgcodnabgkjoaaDoorFd6
import Derived.Test.YtjgcodnabgkjoaaDoorTm
namespace Go.Proofs.YtjgcodnabgkjoaaDoor
open Go.RowKit

theorem fields_walk (e : Ev) (he : EvOk e) (hs : Small e) (hsz : ∀ t ∈ e.ts, t.length ≤ 9223372036854775807) (x : Int) (sx : List UInt8) (hsx : sx.length ≤ 9223372036854775807) (n : Int) (w : World) (ht : Tab w) :
    Calls Tryd.prog 8 #[.agg (evc e).toArray, .int .i64 x, .string (str sx), .int .i64 n] w fun r w' => r = .returned (.bool true) ∧ Below w.heap.size w w' := by
  obtain ⟨Q, hQ, hQ2⟩ : ∃ Q : Nat, bits .and .i64 x 65535 = (Q : Int) ∧ Q ≤ 65535 := ⟨(x % 65536).toNat, by rw [i64_and65535]; omega, by omega⟩
  have h7 : Q % 7 < 7 := Nat.mod_lt _ (by omega)
  have hc : (Q : Int) % 7 = ((Q % 7 : Nat) : Int) := by omega
  obtain ⟨r, hr⟩ : ∃ r, r = Q % 7 := ⟨_, rfl⟩
  rw [← hr] at h7 hc
  clear hr
  match r, h7, hc with
  | 0, _, hc => exact fields_0 e he hs hsz x Q hQ hc hQ2 sx hsx n w ht
  | 1, _, hc => exact fields_1 e he hs hsz x Q hQ hc hQ2 sx hsx n w ht
  | 2, _, hc => exact fields_2 e he hs hsz x Q hQ hc hQ2 sx hsx n w ht
  | 3, _, hc => exact fields_3 e he hs hsz x Q hQ hc hQ2 sx hsx n w ht
  | 4, _, hc => exact fields_4 e he hs hsz x Q hQ hc hQ2 sx hsx n w ht
  | 5, _, hc => exact fields_5 e he hs hsz x Q hQ hc hQ2 sx hsx n w ht
  | 6, _, hc => exact fields_6 e he hs hsz x Q hQ hc hQ2 sx hsx n w ht
end Go.Proofs.YtjgcodnabgkjoaaDoor
