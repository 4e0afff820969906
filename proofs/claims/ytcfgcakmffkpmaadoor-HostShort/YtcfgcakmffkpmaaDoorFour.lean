/-
  What host.number, split, endsInNumber, joinParts, IPv4 and Domain answer; nothing that was there turns. Condition: texts of at most 100000000 bytes; the variable at place 0 holds an integer.
-/
import Derived.Test.YtcfgcakmffkpmaaDoorSpl
namespace Go.Proofs.YtcfgcakmffkpmaaDoor
open Go.RowKit

/-- The parts of a text. -/
def prt (l : List UInt8) : List (List UInt8) := if 1 < (spl 46 l).length ∧ (spl 46 l).getLastD [] = [] then (spl 46 l).dropLast else spl 46 l
/-- Is the last part digits, or a number? -/
def ends (ps : List (List UInt8)) : Bool := ps.getLastD [] != [] && ((val 10 0 (ps.getLastD [])).isSome || (num (ps.getLastD [])).isSome)
def jn (room A : Nat) : List (List UInt8) → Option Nat
  | [] => some A
  | [p] => (num p).bind fun n => if n < 256 ^ room then some (A * 256 ^ room + n) else none
  | p :: q :: r => (num p).bind fun n => if n < 256 then jn (room - 1) (A * 256 + n) (q :: r) else none
/-- The address that parts tell. -/
def joinS (ps : List (List UInt8)) : Option Nat := if 4 < ps.length then none else jn 4 0 ps

theorem str_ne (l : List UInt8) : str l = ⟨#[]⟩ ↔ l = [] := by
  constructor
  · intro h
    have := congrArg (fun x : ByteArray => x.data.toList) h
    simpa [str] using this
  · rintro rfl
    rfl
theorem valV_none : valV none = .tuple #[.int .u64 0, .bool false] := rfl
theorem valV_some (n : Nat) : valV (some n) = .tuple #[.int .u64 (n : Int), .bool true] := rfl
/-- A pair of a number and a bool: two slots. -/
theorem valV_pair (o : Option Nat) : valV o = .tuple #[.int .u64 ((o.getD 0 : Nat) : Int), .bool o.isSome] := by
  cases o <;> rfl

theorem value16 (l : List UInt8) (w : World) (hl : l.length ≤ 100000000) : Calls Tryd.prog 39 #[.string (str l), .int .u64 16] w fun e w' => e = .returned (valV (val 16 0 l)) ∧ w' = w := value_any l 16 (by decide) w hl
theorem value8 (l : List UInt8) (w : World) (hl : l.length ≤ 100000000) : Calls Tryd.prog 39 #[.string (str l), .int .u64 8] w fun e w' => e = .returned (valV (val 8 0 l)) ∧ w' = w := value_any l 8 (by decide) w hl
theorem value10 (l : List UInt8) (w : World) (hl : l.length ≤ 100000000) : Calls Tryd.prog 39 #[.string (str l), .int .u64 10] w fun e w' => e = .returned (valV (val 10 0 l)) ∧ w' = w := value_any l 10 (by decide) w hl
theorem str_empty (l : List UInt8) : (str l).toList.isEmpty = decide (l = []) := by
  rw [toList_str]
  cases l <;> simp
theorem num_hex (l : List UInt8) (h : Lib.hasPrefix l [48, 120] = true ∨ Lib.hasPrefix l [48, 88] = true) : num l = val 16 0 (l.drop 2) ∧ 2 ≤ l.length := by
  match l, h with
  | [], h => simp [Lib.hasPrefix] at h
  | [a], h => simp [Lib.hasPrefix, List.isPrefixOf] at h
  | a :: b :: t, h =>
    simp [Lib.hasPrefix, List.isPrefixOf] at h
    have ha : a = 48 := by rcases h with h | h <;> exact h.1.symm
    have hb : b = 120 ∨ b = 88 := by rcases h with h | h; (· exact .inl h.2.symm); exact .inr h.2.symm
    simp [num, ha, hb]
theorem num_oct (l : List UInt8) (h : ¬ (Lib.hasPrefix l [48, 120] = true ∨ Lib.hasPrefix l [48, 88] = true)) (h0 : l.getD 0 0 = 48) : num l = val 8 0 (l.drop 1) ∧ 1 ≤ l.length := by
  match l, h with
  | [], h => simp at h0
  | [a], h =>
    simp at h0
    simp [num, h0, val]
  | a :: b :: t, h =>
    simp at h0
    simp [Lib.hasPrefix, List.isPrefixOf, h0] at h
    have hb : ¬ (b = 120 ∨ b = 88) := by
      rintro (rfl | rfl)
      · exact h.1 rfl
      · exact h.2 rfl
    simp [num, h0, hb]
theorem num_dec (l : List UInt8) (hl : l ≠ []) (h0 : l.getD 0 0 ≠ 48) : num l = val 10 0 l := by
  match l, h0 with
  | [], _ => exact absurd rfl hl
  | [a], h0 =>
    simp at h0
    simp [num, h0]
  | a :: b :: t, h0 =>
    simp at h0
    simp [num, h0]

set_option maxHeartbeats 4000000 in
theorem number_any (l : List UInt8) (w : World) (hl : l.length ≤ 100000000) : Calls Tryd.prog 40 #[.string (str l)] w fun e w' => e = .returned (valV (num l)) ∧ w' = w := by
  have hsz := str_size l
  have H1 : ∀ w, Calls Tryd.prog 20 #[.string (str l), .string ⟨#[48, 120]⟩] w fun e w' => e = .returned (.bool (Lib.hasPrefix l [48, 120])) ∧ w' = w := fun w => Tryd.strings_HasPrefix (str l) _ w
  have H2 : ∀ w, Calls Tryd.prog 20 #[.string (str l), .string ⟨#[48, 88]⟩] w fun e w' => e = .returned (.bool (Lib.hasPrefix l [48, 88])) ∧ w' = w := fun w => Tryd.strings_HasPrefix (str l) _ w
  have V16 := value16 (l.drop 2) w (by rw [List.length_drop]; omega)
  have V8 := value8 (l.drop 1) w (by rw [List.length_drop]; omega)
  have V10 := value10 l w hl
  have hcut2 := fun h => str_drop l 2 l.length rfl h
  have hcut1 := fun h => str_drop l 1 l.length rfl h
  have h0 : ∀ h, ((str l)[0]'h).toNat = (l.getD 0 0).toNat := fun h => str_at l 0 (by rw [← str_size]; exact h) h
  rw [valV_pair] at V16 V8 V10 ⊢
  by_cases he : l = []
  · have hem : (str l).toList.isEmpty = true := by rw [str_empty]; simp [he]
    have hn : Hid (num l = none) := by show _ = _; rw [he]; rfl
    clear V16 V8 V10 H1 H2 hcut1 hcut2 h0 he
    go_enter Tryd.func40, Tryd.ntmps40
    go_wp2_with fail
    go_ret2
    rw [hn.out]
    exact ⟨rfl, rfl⟩
  · have hem : (str l).toList.isEmpty = false := by rw [str_empty]; simp [he]
    have hS1 : 1 ≤ l.length := by cases l with
      | nil => exact absurd rfl he
      | cons a r => simp
    by_cases hx : Lib.hasPrefix l [48, 120] = true ∨ Lib.hasPrefix l [48, 88] = true
    · obtain ⟨hn, hS2⟩ := num_hex l hx
      rw [← hn] at V16
      have hc2 := hcut2 hS2
      obtain ⟨S, hS⟩ : ∃ S, S = l.length := ⟨_, rfl⟩
      rw [← hS] at hsz hc2 hS2 hl
      have W16 := Lib.hid V16
      have G1 := Lib.hid H1
      have G2 := Lib.hid H2
      obtain ⟨R, hR⟩ : ∃ R, R = (num l).getD 0 := ⟨_, rfl⟩
      obtain ⟨B, hB⟩ : ∃ B, B = (num l).isSome := ⟨_, rfl⟩
      rw [← hR, ← hB] at W16 ⊢
      clear V16 V8 V10 H1 H2 hcut1 hcut2 h0 he hn hS hS1 hR hB
      have hS2i : (2 : Int) ≤ (S : Int) := by omega
      cases hp1 : Lib.hasPrefix l [48, 120] with
      | true =>
        rw [hp1] at G1
        clear hp1 hx G2
        go_enter Tryd.func40, Tryd.ntmps40
        go_wp2_with (first
          | (go_at_call 20; with_reducible refine (G1.out _).mono ?_; rintro e w1 ⟨rfl, rfl⟩)
          | (go_at_call 39; with_reducible refine W16.out.mono ?_; rintro e w2 ⟨rfl, rfl⟩))
        go_ret2
        exact ⟨rfl, rfl⟩
      | false =>
        have hp2 : Lib.hasPrefix l [48, 88] = true := by rcases hx with h | h; (· rw [h] at hp1; cases hp1); exact h
        rw [hp1] at G1
        rw [hp2] at G2
        clear hp1 hp2 hx
        go_enter Tryd.func40, Tryd.ntmps40
        go_wp2_with (first
          | (go_at_call 20; first | (with_reducible refine (G1.out _).mono ?_; rintro e w1 ⟨rfl, rfl⟩) | (with_reducible refine (G2.out _).mono ?_; rintro e w3 ⟨rfl, rfl⟩))
          | (go_at_call 39; with_reducible refine W16.out.mono ?_; rintro e w2 ⟨rfl, rfl⟩))
        go_ret2
        exact ⟨rfl, rfl⟩
    · have hp1 : Lib.hasPrefix l [48, 120] = false := by cases h : Lib.hasPrefix l [48, 120] with
        | true => exact absurd (.inl h) hx
        | false => rfl
      have hp2 : Lib.hasPrefix l [48, 88] = false := by cases h : Lib.hasPrefix l [48, 88] with
        | true => exact absurd (.inr h) hx
        | false => rfl
      rw [hp1] at H1
      rw [hp2] at H2
      have G1 := Lib.hid H1
      have G2 := Lib.hid H2
      by_cases hz : l.getD 0 0 = 48
      · obtain ⟨hn, _⟩ := num_oct l hx hz
        have hc1 := hcut1 hS1
        obtain ⟨T, hT⟩ : ∃ T, T = l.drop 1 := ⟨_, rfl⟩
        rw [← hT] at hc1 V8 hn
        rw [← hn] at V8
        clear hT
        obtain ⟨S, hS⟩ : ∃ S, S = l.length := ⟨_, rfl⟩
        rw [← hS] at hsz hc1 hS1 hl
        rw [hz] at h0
        have W8 := Lib.hid V8
        obtain ⟨R, hR⟩ : ∃ R, R = (num l).getD 0 := ⟨_, rfl⟩
        obtain ⟨B, hB⟩ : ∃ B, B = (num l).isSome := ⟨_, rfl⟩
        rw [← hR, ← hB] at W8 ⊢
        have h0' : ∀ h, ((str l)[0]'h).toNat = 48 := h0
        clear V16 V8 V10 H1 H2 hcut1 hcut2 h0 he hn hS hR hB hp1 hp2 hx hz
        have hS1i : (1 : Int) ≤ (S : Int) := by omega
        have hS0i : (0 : Int) < (S : Int) := by omega
        go_enter Tryd.func40, Tryd.ntmps40
        go_wp2_with (first
          | (go_at_call 20; first | (with_reducible refine (G1.out _).mono ?_; rintro e w1 ⟨rfl, rfl⟩) | (with_reducible refine (G2.out _).mono ?_; rintro e w3 ⟨rfl, rfl⟩))
          | (go_at_call 39; with_reducible refine W8.out.mono ?_; rintro e w2 ⟨rfl, rfl⟩))
        go_ret2
        exact ⟨rfl, rfl⟩
      · have hn := num_dec l he hz
        rw [← hn] at V10
        obtain ⟨S, hS⟩ : ∃ S, S = l.length := ⟨_, rfl⟩
        rw [← hS] at hsz hS1 hl
        obtain ⟨m, hm⟩ : ∃ m, m = (l.getD 0 0).toNat := ⟨_, rfl⟩
        rw [← hm] at h0
        have hm48 : ((m : Int) == 48) = false := by
          have : m ≠ 48 := fun e => hz (UInt8.toNat_inj.1 (by rw [← hm, e]; rfl))
          simp
          omega
        have W10 := Lib.hid V10
        obtain ⟨R, hR⟩ : ∃ R, R = (num l).getD 0 := ⟨_, rfl⟩
        obtain ⟨B, hB⟩ : ∃ B, B = (num l).isSome := ⟨_, rfl⟩
        rw [← hR, ← hB] at W10 ⊢
        clear V16 V8 V10 H1 H2 hcut1 hcut2 he hn hS hR hB hp1 hp2 hx hz hm
        have hS0i : (0 : Int) < (S : Int) := by omega
        go_enter Tryd.func40, Tryd.ntmps40
        go_wp2_with (first
          | (go_at_call 20; first | (with_reducible refine (G1.out _).mono ?_; rintro e w1 ⟨rfl, rfl⟩) | (with_reducible refine (G2.out _).mono ?_; rintro e w3 ⟨rfl, rfl⟩))
          | (go_at_call 39; with_reducible refine W10.out.mono ?_; rintro e w2 ⟨rfl, rfl⟩))
        go_ret2
        exact ⟨rfl, rfl⟩
end Go.Proofs.YtcfgcakmffkpmaaDoor
