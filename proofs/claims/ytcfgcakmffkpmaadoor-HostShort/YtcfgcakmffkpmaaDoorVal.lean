/-
  What host.digit, host.value and host.number answer; nothing turns. Condition: texts of at most 100000000 bytes.
-/
import Derived.Test.YtcfgcakmffkpmaaDoorShelf
import Derived.Test.YtcfgcakmffkpmaaDoorEqs
namespace Go.Proofs.YtcfgcakmffkpmaaDoor
open Go.RowKit

/-- What digits to base b tell, behind n, at most 2^32; none: there are other bytes. -/
def val (b : Nat) : Nat → List UInt8 → Option Nat
  | n, [] => some n
  | n, c :: r => if dig c < b then val b (min (n * b + dig c) 4294967296) r else none
def valV : Option Nat → Value
  | some n => .tuple #[.int .u64 (n : Int), .bool true]
  | none => .tuple #[.int .u64 0, .bool false]
/-- What a part tells; none: it is no number. -/
def num : List UInt8 → Option Nat
  | [] => none
  | [a] => if a = 48 then some 0 else val 10 0 [a]
  | a :: b :: t => if a = 48 then (if b = 120 ∨ b = 88 then val 16 0 t else val 8 0 (b :: t)) else val 10 0 (a :: b :: t)

theorem val_le (b : Nat) : ∀ (l : List UInt8) (n m : Nat), n ≤ 4294967296 → val b n l = some m → m ≤ 4294967296
  | [], n, m, h, e => by
    simp [val] at e
    omega
  | c :: r, n, m, h, e => by
    rw [val] at e
    split at e
    · exact val_le b r _ m (by omega) e
    · cases e
theorem num_le (l : List UInt8) (m : Nat) (e : num l = some m) : m ≤ 4294967296 := by
  match l, e with
  | [a], e =>
    rw [num] at e
    split at e
    · simp at e
      omega
    · exact val_le _ _ _ _ (by omega) e
  | a :: b :: t, e =>
    rw [num] at e
    split at e
    · split at e
      · exact val_le _ _ _ _ (by omega) e
      · exact val_le _ _ _ _ (by omega) e
    · exact val_le _ _ _ _ (by omega) e
theorem dig_le (c : UInt8) : dig c ≤ 16 := by
  unfold dig
  split
  · omega
  · split
    · omega
    · split <;> omega

set_option maxHeartbeats 1000000 in
theorem hdigit_any (c : UInt8) (w : World) : Calls Tryd.prog 58 #[vb c] w fun e w' => e = .returned (.int .u64 (dig c : Int)) ∧ w' = w := by
  obtain ⟨m, hm⟩ : ∃ m, c.toNat = m := ⟨_, rfl⟩
  have hd : Hid (dig c = if 48 ≤ m ∧ m ≤ 57 then m - 48 else if 65 ≤ m ∧ m ≤ 70 then m - 65 + 10 else if 97 ≤ m ∧ m ≤ 102 then m - 97 + 10 else 16) := by show _ = _; unfold dig; rw [hm]
  have hm9 : m < 256 := by rw [← hm]; exact c.toNat_lt
  obtain ⟨d, hdd⟩ : ∃ d, d = dig c := ⟨_, rfl⟩
  rw [← hdd] at hd ⊢
  unfold vb
  rw [hm]
  clear hm hdd
  have hc : m < 48 ∨ (48 ≤ m ∧ m ≤ 57) ∨ (57 < m ∧ m < 65) ∨ (65 ≤ m ∧ m ≤ 70) ∨ (70 < m ∧ m < 97) ∨ (97 ≤ m ∧ m ≤ 102) ∨ 102 < m := by omega
  rcases hc with hc | hc | hc | hc | hc | hc | hc
  · have e1 : Hid (d = 16) := by
      show _ = _
      rw [hd.out]
      repeat' split
      all_goals omega
    have a0 : decide ((48 : Int) ≤ (m : Int)) = false := by simp; omega
    have b0 : decide ((m : Int) ≤ 57) = true := by simp; omega
    have a1 : decide ((65 : Int) ≤ (m : Int)) = false := by simp; omega
    have b1 : decide ((m : Int) ≤ 70) = true := by simp; omega
    have a2 : decide ((97 : Int) ≤ (m : Int)) = false := by simp; omega
    have b2 : decide ((m : Int) ≤ 102) = true := by simp; omega
    go_enter Tryd.func58, Tryd.ntmps58
    go_wp2_with fail
    go_ret
    refine ⟨?_, rfl⟩
    have := e1.out
    have e2 : d = 16 := by omega
    rw [e2]
    rfl
  · have e1 : Hid (d = m - 48) := by
      show _ = _
      rw [hd.out]
      repeat' split
      all_goals omega
    have a0 : decide ((48 : Int) ≤ (m : Int)) = true := by simp; omega
    have b0 : decide ((m : Int) ≤ 57) = true := by simp; omega
    have a1 : decide ((65 : Int) ≤ (m : Int)) = false := by simp; omega
    have b1 : decide ((m : Int) ≤ 70) = true := by simp; omega
    have a2 : decide ((97 : Int) ≤ (m : Int)) = false := by simp; omega
    have b2 : decide ((m : Int) ≤ 102) = true := by simp; omega
    obtain ⟨x, hx⟩ : ∃ x : Nat, m = x + 48 := ⟨m - 48, by omega⟩
    have hx2 : x < 256 := by omega
    have hsub : (m : Int) - 48 = (x : Int) := by omega
    go_enter Tryd.func58, Tryd.ntmps58
    go_wp2_with fail
    go_ret
    refine ⟨?_, rfl⟩
    have := e1.out
    have e2 : d = x := by omega
    rw [e2]
    rfl
  · have e1 : Hid (d = 16) := by
      show _ = _
      rw [hd.out]
      repeat' split
      all_goals omega
    have a0 : decide ((48 : Int) ≤ (m : Int)) = true := by simp; omega
    have b0 : decide ((m : Int) ≤ 57) = false := by simp; omega
    have a1 : decide ((65 : Int) ≤ (m : Int)) = false := by simp; omega
    have b1 : decide ((m : Int) ≤ 70) = true := by simp; omega
    have a2 : decide ((97 : Int) ≤ (m : Int)) = false := by simp; omega
    have b2 : decide ((m : Int) ≤ 102) = true := by simp; omega
    go_enter Tryd.func58, Tryd.ntmps58
    go_wp2_with fail
    go_ret
    refine ⟨?_, rfl⟩
    have := e1.out
    have e2 : d = 16 := by omega
    rw [e2]
    rfl
  · have e1 : Hid (d = m - 65 + 10) := by
      show _ = _
      rw [hd.out]
      repeat' split
      all_goals omega
    have a0 : decide ((48 : Int) ≤ (m : Int)) = true := by simp; omega
    have b0 : decide ((m : Int) ≤ 57) = false := by simp; omega
    have a1 : decide ((65 : Int) ≤ (m : Int)) = true := by simp; omega
    have b1 : decide ((m : Int) ≤ 70) = true := by simp; omega
    have a2 : decide ((97 : Int) ≤ (m : Int)) = false := by simp; omega
    have b2 : decide ((m : Int) ≤ 102) = true := by simp; omega
    obtain ⟨x, hx⟩ : ∃ x : Nat, m = x + 65 := ⟨m - 65, by omega⟩
    have hx2 : x < 256 := by omega
    have hsub : (m : Int) - 65 = (x : Int) := by omega
    go_enter Tryd.func58, Tryd.ntmps58
    go_wp2_with fail
    go_ret
    refine ⟨?_, rfl⟩
    have := e1.out
    have e2 : d = x + 10 := by omega
    rw [e2]
    rfl
  · have e1 : Hid (d = 16) := by
      show _ = _
      rw [hd.out]
      repeat' split
      all_goals omega
    have a0 : decide ((48 : Int) ≤ (m : Int)) = true := by simp; omega
    have b0 : decide ((m : Int) ≤ 57) = false := by simp; omega
    have a1 : decide ((65 : Int) ≤ (m : Int)) = true := by simp; omega
    have b1 : decide ((m : Int) ≤ 70) = false := by simp; omega
    have a2 : decide ((97 : Int) ≤ (m : Int)) = false := by simp; omega
    have b2 : decide ((m : Int) ≤ 102) = true := by simp; omega
    go_enter Tryd.func58, Tryd.ntmps58
    go_wp2_with fail
    go_ret
    refine ⟨?_, rfl⟩
    have := e1.out
    have e2 : d = 16 := by omega
    rw [e2]
    rfl
  · have e1 : Hid (d = m - 97 + 10) := by
      show _ = _
      rw [hd.out]
      repeat' split
      all_goals omega
    have a0 : decide ((48 : Int) ≤ (m : Int)) = true := by simp; omega
    have b0 : decide ((m : Int) ≤ 57) = false := by simp; omega
    have a1 : decide ((65 : Int) ≤ (m : Int)) = true := by simp; omega
    have b1 : decide ((m : Int) ≤ 70) = false := by simp; omega
    have a2 : decide ((97 : Int) ≤ (m : Int)) = true := by simp; omega
    have b2 : decide ((m : Int) ≤ 102) = true := by simp; omega
    obtain ⟨x, hx⟩ : ∃ x : Nat, m = x + 97 := ⟨m - 97, by omega⟩
    have hx2 : x < 256 := by omega
    have hsub : (m : Int) - 97 = (x : Int) := by omega
    go_enter Tryd.func58, Tryd.ntmps58
    go_wp2_with fail
    go_ret
    refine ⟨?_, rfl⟩
    have := e1.out
    have e2 : d = x + 10 := by omega
    rw [e2]
    rfl
  · have e1 : Hid (d = 16) := by
      show _ = _
      rw [hd.out]
      repeat' split
      all_goals omega
    have a0 : decide ((48 : Int) ≤ (m : Int)) = true := by simp; omega
    have b0 : decide ((m : Int) ≤ 57) = false := by simp; omega
    have a1 : decide ((65 : Int) ≤ (m : Int)) = true := by simp; omega
    have b1 : decide ((m : Int) ≤ 70) = false := by simp; omega
    have a2 : decide ((97 : Int) ≤ (m : Int)) = true := by simp; omega
    have b2 : decide ((m : Int) ≤ 102) = false := by simp; omega
    go_enter Tryd.func58, Tryd.ntmps58
    go_wp2_with fail
    go_ret
    refine ⟨?_, rfl⟩
    have := e1.out
    have e2 : d = 16 := by omega
    rw [e2]
    rfl

set_option maxHeartbeats 4000000 in
set_option maxRecDepth 100000 in
theorem value_any (l : List UInt8) (b : Nat) (hb : b ≤ 16) (w : World) (hl : l.length ≤ 100000000) : Calls Tryd.prog 39 #[.string (str l), .int .u64 (b : Int)] w fun e w' => e = .returned (valV (val b 0 l)) ∧ w' = w := by
  have hsz := str_size l
  obtain ⟨S, hS⟩ : ∃ S, S = l.length := ⟨_, rfl⟩
  have hgb : Hid (∀ k, k < S → ∀ h, ((str l)[k]'h).toNat = (l.getD k 0).toNat) := fun k hk h => str_at l k (by rw [← hS]; exact hk) h
  obtain ⟨R, hR⟩ : ∃ R, R = val b 0 l := ⟨_, rfl⟩
  rw [← hR]
  rw [← hS] at hsz hl
  have HS := Lib.hid (And.intro hS hR)
  clear hS hR
  go_enter Tryd.func39, Tryd.ntmps39
  go_wp2_with fail
  go_loop [11, 6] (fun i v => ∃ (k n : Nat), k ≤ S ∧ n ≤ 4294967296 ∧ i = .int .i64 (k : Int) ∧ v = .int .u64 (n : Int) ∧ val b n (l.drop k) = R) (fun i _ => S - (intOf i).toNat)
  case atStart => exact ⟨0, 0, by omega, by omega, rfl, rfl, by rw [HS.out.2]; rfl⟩
  case round =>
    obtain ⟨k, n, hk, hn, rfl, rfl, hR⟩ := hrel
    by_cases hlt : k < S
    · have hkS : (k : Int) < (S : Int) := by omega
      obtain ⟨c, hc⟩ : ∃ c, c = l.getD k 0 := ⟨_, rfl⟩
      have hcons : l.drop k = c :: l.drop (k + 1) := by
        have hk' : k < l.length := by rw [← HS.out.1]; exact hlt
        rw [List.drop_eq_getElem_cons hk', hc]
        simp [List.getD, List.getElem?_eq_getElem hk']
      have HG := fun h => hgb.out k hlt h
      rw [← hc] at HG
      obtain ⟨m, hm⟩ : ∃ m, m = c.toNat := ⟨_, rfl⟩
      rw [← hm] at HG
      have HD := hdigit_any c w
      unfold vb at HD
      rw [← hm] at HD
      have hdl := dig_le c
      rw [hcons, val] at hR
      obtain ⟨d, hd⟩ : ∃ d, d = dig c := ⟨_, rfl⟩
      rw [← hd] at HD hdl hR
      have HD' := Lib.hid HD
      have HR := Lib.hid hR
      clear hc hcons hm hd HD hR
      by_cases hdb : d < b
      · have hge : ¬ (b : Int) ≤ (d : Int) := by omega
        obtain ⟨q, hq⟩ : ∃ q, q = n * b := ⟨_, rfl⟩
        have hq9 : q ≤ 4294967296 * 16 := by rw [hq]; exact Nat.mul_le_mul hn hb
        have hqi : (n : Int) * (b : Int) = (q : Int) := by rw [hq]; simp
        obtain ⟨z, hz⟩ : ∃ z, z = q + d := ⟨_, rfl⟩
        have hzi : (q : Int) + (d : Int) = (z : Int) := by omega
        have hz9 : z ≤ 68719476800 := by omega
        have HQ := Lib.hid (And.intro hq hz)
        clear hq hz
        obtain ⟨y, hy⟩ : ∃ y, y = min z 4294967296 := ⟨_, rfl⟩
        have hmin : min (z : Int) 4294967296 = (y : Int) := by omega
        have hy9 : y ≤ 4294967296 := by omega
        have HY := Lib.hid hy
        clear hy
        go_wp2_with (go_at_call 58; with_reducible refine HD'.out.mono ?_; rintro e w1 ⟨rfl, rfl⟩)
        go_round
        case rel =>
          refine ⟨k + 1, y, by omega, hy9, by go_num, rfl, ?_⟩
          have := HR.out
          rw [if_pos hdb] at this
          rw [← this, HY.out, HQ.out.2, HQ.out.1]
        case measure => simp [intOf]; omega
      · have hge : (b : Int) ≤ (d : Int) := by omega
        go_wp2_with (go_at_call 58; with_reducible refine HD'.out.mono ?_; rintro e w1 ⟨rfl, rfl⟩)
        go_ret2
        refine ⟨?_, rfl⟩
        have := HR.out
        rw [if_neg hdb] at this
        rw [← this]
        rfl
    · have hk' : Hid (k = S) := by show k = S; omega
      have hkS : (S : Int) ≤ (k : Int) := by omega
      clear hk hlt
      have HR := Lib.hid hR
      clear hR
      go_wp2_with fail
      go_ret2
      refine ⟨?_, rfl⟩
      have h1 := HR.out
      rw [hk'.out, HS.out.1, List.drop_length] at h1
      rw [← h1]
      rfl

end Go.Proofs.YtcfgcakmffkpmaaDoor
