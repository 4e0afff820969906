/-
  The walk of transeptlaw05.EventTimes: true, for every kind, time, fetch and texts; nothing that was there turns. Condition: the table of kinds holds what the program's text lays.
-/
import Derived.Test.YtjgcodnabgkjoaaDoorTmA
import Derived.Test.YtjgcodnabgkjoaaDoorTmB
import Derived.Test.YtjgcodnabgkjoaaDoorTmC
namespace Go.Proofs.YtjgcodnabgkjoaaDoor
open Go.RowKit

theorem times_walk (q : Int) (tm id : Nat) (hst : tm < 18446744073709551616) (hsi : id < 18446744073709551616) (s t : List UInt8) (hzs : s.length ≤ 9223372036854775807) (hzt : t.length ≤ 9223372036854775807) (w : World) (ht : Tab w) :
    Calls Tryd.prog 10 #[.int .i64 q, .int .u64 (tm : Int), .int .u64 (id : Int), .string (str s), .string (str t)] w fun r w' => r = .returned (.bool true) ∧ Below w.heap.size w w' := by
  obtain ⟨Q, hQ, hQ2⟩ : ∃ Q : Nat, bits .and .i64 q 65535 = (Q : Int) ∧ Q ≤ 65535 := ⟨(q % 65536).toNat, by rw [i64_and65535]; omega, by omega⟩
  have h14 : Q % 14 < 14 := Nat.mod_lt _ (by omega)
  have hc : (Q : Int) % 14 = ((Q % 14 : Nat) : Int) := by omega
  obtain ⟨r, hr⟩ : ∃ r, r = Q % 14 := ⟨_, rfl⟩
  rw [← hr] at h14 hc
  clear hr
  match r, h14, hc with
  | 0, _, hc => exact times_1 q Q hQ hc hQ2 tm id hst hsi s t hzs hzt w ht
  | 1, _, hc => exact times_2 q Q hQ hc hQ2 tm id hst hsi s t hzs hzt w ht
  | 2, _, hc => exact times_3 q Q hQ hc hQ2 tm id hst hsi s t hzs hzt w ht
  | 3, _, hc => exact times_4 q Q hQ hc hQ2 tm id hst hsi s t hzs hzt w ht
  | 4, _, hc => exact times_5 q Q hQ hc hQ2 tm id hst hsi s t hzs hzt w ht
  | 5, _, hc => exact times_6 q Q hQ hc hQ2 tm id hst hsi s t hzs hzt w ht
  | 6, _, hc => exact times_7 q Q hQ hc hQ2 tm id hst hsi s t hzs hzt w ht
  | 7, _, hc => exact times_8 q Q hQ hc hQ2 tm id hst hsi s t hzs hzt w ht
  | 8, _, hc => exact times_9 q Q hQ hc hQ2 tm id hst hsi s t hzs hzt w ht
  | 9, _, hc => exact times_10 q Q hQ hc hQ2 tm id hst hsi s t hzs hzt w ht
  | 10, _, hc => exact times_11 q Q hQ hc hQ2 tm id hst hsi s t hzs hzt w ht
  | 11, _, hc => exact times_12 q Q hQ hc hQ2 tm id hst hsi s t hzs hzt w ht
  | 12, _, hc => exact times_13 q Q hQ hc hQ2 tm id hst hsi s t hzs hzt w ht
  | 13, _, hc => exact times_14 q Q hQ hc hQ2 tm id hst hsi s t hzs hzt w ht
end Go.Proofs.YtjgcodnabgkjoaaDoor
