/-
  What reader.next, number.wrong and number.read do: the number that is read, or the place of a fault; only the reader turns. Condition: a slice of at most 1000000000 bytes.
-/
import Derived.Test.YtjgcodnabgkjoaaDoorMem
import Derived.Test.YtjgcodnabgkjoaaDoorNumPlain
namespace Go.Proofs.YtjgcodnabgkjoaaDoor
open Go.RowKit

set_option maxHeartbeats 400000 in
theorem next_none (g : Nat) (A : Option Addr) (c : Nat) (w : World) (hc : w.cell? ⟨g, 0, none⟩ = some (.slice A 0 c)) :
    Calls Tryd.prog 53 #[.pointer (some ⟨g, 0, none⟩)] w fun e w' => e = .returned (.tuple #[.int .u8 0, .bool false]) ∧ w = w' := by
  go_enter Tryd.func53, Tryd.ntmps53
  go_wp2_with fail
  go_ret2
  exact ⟨rfl, rfl⟩

set_option maxHeartbeats 400000 in
theorem next_some (g n : Nat) (A : Option Addr) (c : Nat) (x : UInt8) (l : List UInt8) (w : World) (hc : w.cell? ⟨g, 0, none⟩ = some (.slice A (n + 1) c)) (hf : w.frozen? ⟨g, 0, none⟩ = false)
    (h : Bs w g A (n + 1) (x :: l)) (_hn : n + 1 ≤ c) (_hb : n ≤ 1000000000) :
    Calls Tryd.prog 53 #[.pointer (some ⟨g, 0, none⟩)] w fun e w' => e = .returned (.tuple #[.int .u8 x.toNat, .bool true]) ∧ w.setCell ⟨g, 0, none⟩ (.slice (if c = 1 then A else A.map (·.add 1)) n (c - 1)) = w' := by
  obtain ⟨b, off, rfl, hlt, hcell⟩ := h.2 (by omega)
  have h0 : w.cell? ⟨b, off, none⟩ = some (.int .u8 (x.toNat : Int)) := hcell 0 x rfl
  have hne : ((n : Int) + 1 == 0) = false := by simp; omega
  clear h hcell
  go_enter Tryd.func53, Tryd.ntmps53
  go_wp2_with fail
  all_goals
    go_ret2
    exact ⟨rfl, rfl⟩

theorem ret_bool {a b : Bool} (h : a = b) : Ending.returned (.bool a) = .returned (.bool b) := by rw [h]

theorem wrong_any (m : Nat) (k : Nat) (w : World) (hm : m < 256) (hk : k ≤ 9) :
    Calls Tryd.prog 55 #[.int .u8 m, .int .i64 k] w fun e w' => e = .returned (.bool (wrongB m k)) ∧ w = w' := by
  rcases (show m = 0 ∧ k = 0 ∨ m = 0 ∧ 0 < k ∨ m = 1 ∨ 1 < m ∧ k = 9 ∨ 1 < m ∧ k < 9 from by omega) with ⟨rfl, rfl⟩ | ⟨rfl, h⟩ | rfl | ⟨h, rfl⟩ | ⟨h, h'⟩
  · go_enter Tryd.func55, Tryd.ntmps55
    go_wp2_with fail
    go_ret
    exact ⟨ret_bool (a := false) rfl, rfl⟩
  · have h1 : decide ((0 : Int) < (k : Int)) = true := by simp; omega
    go_enter Tryd.func55, Tryd.ntmps55
    go_wp2_with fail
    go_ret
    exact ⟨ret_bool (a := true) (by simp [wrongB, h]), rfl⟩
  · go_enter Tryd.func55, Tryd.ntmps55
    go_wp2_with fail
    go_ret
    exact ⟨ret_bool (a := false) (by simp [wrongB]), rfl⟩
  · have h1 : decide ((1 : Int) < (m : Int)) = true := by simp; omega
    have h0 : ((m : Int) == 0) = false := by simp; omega
    go_enter Tryd.func55, Tryd.ntmps55
    go_wp2_with fail
    go_ret
    exact ⟨ret_bool (a := true) (by simp [wrongB, h]), rfl⟩
  · have h1 : decide ((1 : Int) < (m : Int)) = true := by simp; omega
    have h0 : ((m : Int) == 0) = false := by simp; omega
    have h9 : ((k : Int) == 9) = false := by simp; omega
    have e : wrongB m k = false := by
      have a : ¬ m = 0 := by omega
      have b : ¬ k = 9 := by omega
      simp [wrongB, a, b]
    have HE := Lib.hid e
    clear e
    go_enter Tryd.func55, Tryd.ntmps55
    go_wp2_with fail
    go_ret
    exact ⟨ret_bool (a := false) HE.out.symm, rfl⟩

/-- The reader in block g is ahead of the bytes l. -/
def Rd (w : World) (g : Nat) (l : List UInt8) : Prop :=
  ∃ A n c, w.cell? ⟨g, 0, none⟩ = some (.slice A n c) ∧ Bs w g A n l ∧ n ≤ c ∧ n ≤ 1000000000 ∧ w.frozen? ⟨g, 0, none⟩ = false
def got (r : Nat × Nat × Nat) : Value := .tuple #[.int .u64 r.1, .int .i64 r.2.1, .int .i64 r.2.2]

theorem rd_next {w : World} {g n c : Nat} {A : Option Addr} {x : UInt8} {l : List UInt8} (hc : w.cell? ⟨g, 0, none⟩ = some (.slice A (n + 1) c)) (hf : w.frozen? ⟨g, 0, none⟩ = false)
    (h : Bs w g A (n + 1) (x :: l)) (hn : n + 1 ≤ c) (hb : n ≤ 1000000000) : Rd (w.setCell ⟨g, 0, none⟩ (.slice (if c = 1 then A else A.map (·.add 1)) n (c - 1))) g l := by
  refine ⟨_, n, c - 1, World.cell?_setCell_same _ _ _ hc, ?_, by omega, hb, by simpa using hf⟩
  have := h.cut (k := 1) (cap := c) (by omega) hn
  exact Bs.set (by simpa using this) (Nat.le_refl _) _

theorem low_bits (m : Nat) (hm : m < 256) : bits .and .u8 (m : Int) 127 = ((m % 128 : Nat) : Int) := by
  have := u8_and_nat m 127 hm (by omega)
  rw [and_127 m hm] at this
  exact this
theorem high_bit (m : Nat) (hm : m < 256) : (bits .and .u8 (m : Int) 128 == 0) = decide (m < 128) := by
  have := u8_and_nat m 128 hm (by omega)
  rw [and_128 m hm] at this
  rw [show ((128 : Nat) : Int) = 128 from rfl] at this
  rw [this]
  by_cases h : m < 128 <;> simp [h]
theorem acc_step (acc m k : Nat) (hm : m < 256) (hk : k ≤ 9) (ha : acc < 128 ^ k) (hw : wrongB m k = false) :
    bits .or .u64 (acc : Int) (IntKind.u64.wrap (IntKind.u64.wrap (bits .and .u8 (m : Int) 127) * 2 ^ (7 * k))) = ((acc + m % 128 * 128 ^ k : Nat) : Int) := by
  have h1 := add_small m k hk hw
  have h2 := acc_small acc m k hk ha hw
  rw [low_bits m hm]
  have e1 : IntKind.u64.wrap ((m % 128 : Nat) : Int) = ((m % 128 : Nat) : Int) := by
    rw [IntKind.wrap_u64]; omega
  have e2 : ((m % 128 : Nat) : Int) * 2 ^ (7 * k) = ((m % 128 * 128 ^ k : Nat) : Int) := by
    rw [pow_split k]; push_cast; rfl
  rw [e1, e2]
  have e3 : IntKind.u64.wrap ((m % 128 * 128 ^ k : Nat) : Int) = ((m % 128 * 128 ^ k : Nat) : Int) := by
    rw [IntKind.wrap_u64]; omega
  rw [e3, u64_or_nat _ _ (by omega) (by omega)]
  have := or_shift acc m k ha
  rw [Nat.shiftLeft_eq, ← pow_split] at this
  rw [this]

set_option maxHeartbeats 1000000 in
theorem read_any (g : Nat) (l : List UInt8) (w : World) (h : Rd w g l) :
    Calls Tryd.prog 52 #[.func (.func 53) #[.pointer (some ⟨g, 0, none⟩)] #[]] w fun e w' => e = .returned (got (getS l)) ∧ Below g w w' := by
  go_enter Tryd.func52, Tryd.ntmps52
  go_wp2_with fail
  go_loopw [2, 5] (fun n i wr => ∃ (k acc : Nat) (rest : List UInt8), k ≤ 9 ∧ i = .int .i64 k ∧ n = .int .u64 acc ∧ Hid (acc < 128 ^ k ∧ getF rest k acc = getS l) ∧ Rd wr g rest ∧ Below g w wr)
    (fun _ i _ => 10 - (intOf i).toNat)
  case atStart => exact ⟨0, 0, l, by omega, rfl, rfl, ⟨by decide, rfl⟩, h, Below.refl _ _⟩
  case round =>
    obtain ⟨k, acc, rest, hk, rfl, rfl, HA, ⟨A, n, c, hcell, hbs, hnc, hn, hfz⟩, hbel⟩ := hrel
    clear h
    cases rest with
    | nil =>
      obtain rfl : n = 0 := hbs.1.symm
      go_wp2_with fail
      refine (next_none g A c wr hcell).mono ?_
      rintro e w1 ⟨rfl, rfl⟩
      go_wp2_with fail
      go_ret3
      exact ⟨by rw [← HA.out.2]; rfl, hbel⟩
    | cons x r =>
      obtain ⟨n, rfl⟩ : ∃ n', n = n' + 1 := ⟨r.length, by rw [← hbs.1]; rfl⟩
      have hrd := rd_next hcell hfz hbs hnc (by omega)
      go_wp2_with fail
      refine (next_some g n A c x r wr hcell hfz hbs hnc (by omega)).mono ?_
      rintro e w1 ⟨rfl, hw1⟩
      rw [hw1] at hrd
      have hbel1 : Below g wr w1 := by rw [← hw1]; exact (Below.refl g wr).setCell (p := ⟨g, 0, none⟩) (Nat.le_refl _) _
      clear hw1 hcell hfz hbs
      obtain ⟨m, hmx⟩ : ∃ m, m = x.toNat := ⟨_, rfl⟩
      have hm : m < 256 := by rw [hmx]; exact x.toNat_lt
      rw [← hmx]
      have HX := Lib.hid hmx
      clear hmx
      by_cases hw : wrongB m k = true
      · go_wp2_with fail
        refine (wrong_any m k w1 hm hk).mono ?_
        rintro e w2 ⟨rfl, rfl⟩
        go_wp2_with fail
        go_ret3
        refine ⟨?_, hbel.trans hbel1⟩
        rw [← HA.out.2, getF, ← HX.out, if_pos hw]
        rfl
      · have HW := Lib.hid hw
        clear hw
        have hwf : wrongB m k = false := by simpa using HW.out
        go_wp2_with fail
        refine (wrong_any m k w1 hm hk).mono ?_
        rintro e w2 ⟨rfl, rfl⟩
        have HS := Lib.hid (acc_step acc m k hm hk HA.out.1 hwf)
        have HN : Hid (getF (x :: r) k acc = if m < 128 then (acc + m % 128 * 128 ^ k, k + 1, 0) else getF r (k + 1) (acc + m % 128 * 128 ^ k)) := by
          show getF (x :: r) k acc = _
          rw [getF, ← HX.out, if_neg HW.out]
        have HT := Lib.hid (high_bit m hm)
        by_cases hb : m < 128
        · have ht : (bits .and .u8 (m : Int) 128 == 0) = true := by rw [HT.out]; simpa using hb
          go_wp2_with fail
          go_ret3
          refine ⟨?_, hbel.trans hbel1⟩
          rw [← HA.out.2, HN.out, if_pos hb]
          exact congrArg Ending.returned (by simp only [got]; rw [← HS.out]; rfl)
        · have ht : (bits .and .u8 (m : Int) 128 == 0) = false := by rw [HT.out]; simpa using hb
          go_wp2_with fail
          go_roundw
          case rel =>
            have := more_place m k hk (by omega) (by simpa using HW.out)
            refine ⟨k + 1, acc + m % 128 * 128 ^ k, r, by omega, by go_num, by rw [HS.out], ⟨acc_next acc m k HA.out.1, ?_⟩, hrd, hbel.trans hbel1⟩
            rw [← HA.out.2, HN.out, if_neg hb]
          case measure => simp [intOf]; omega
end Go.Proofs.YtjgcodnabgkjoaaDoor
