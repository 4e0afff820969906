/-
  What transeptref07.IPv6 answers; nothing that was there turns. Condition: texts of at most 100000000 bytes.
-/
import Derived.Test.YtcepigekibidfaaGreatDoorRhk
import Derived.Test.YtcepigekibidfaaGreatDoorGi
namespace Go.Proofs.YtcepigekibidfaaGreatDoor
open Go.RowKit

/-- Where two colons stand first. -/
def fc : List UInt8 → Option Nat
  | [] => none
  | [_] => none
  | a :: b :: r => if a = 58 ∧ b = 58 then some 0 else (fc (b :: r)).map (· + 1)
theorem index_fc : ∀ l : List UInt8, Lib.index l [58, 58] = match fc l with
    | none => -1
    | some j => (j : Int)
  | [] => by simp [Lib.index, fc]
  | [a] => by simp [Lib.index, fc, List.isPrefixOf]
  | a :: b :: r => by
    have ih := index_fc (b :: r)
    rw [Lib.index, fc]
    by_cases h : a = 58 ∧ b = 58
    · rw [if_pos h]
      obtain ⟨rfl, rfl⟩ := h
      simp [List.isPrefixOf]
    · rw [if_neg h]
      have hp : ([58, 58] : List UInt8).isPrefixOf (a :: b :: r) = false := by
        rw [Bool.eq_false_iff]
        intro hh
        simp [List.isPrefixOf] at hh
        exact h ⟨hh.1.symm, hh.2.symm⟩
      rw [hp, ih]
      cases fc (b :: r) with
      | none => rfl
      | some j =>
        have : ((j : Int) == -1) = false := by first | (simp; done) | (simp; omega)
        simp [this]
theorem fc_le : ∀ (l : List UInt8) (j : Nat), fc l = some j → j + 2 ≤ l.length
  | a :: b :: r, j, h => by
    rw [fc] at h
    split at h
    · cases h; simp
    · cases hf : fc (b :: r) with
      | none => rw [hf] at h; cases h
      | some k =>
        rw [hf] at h
        have := fc_le (b :: r) k hf
        cases h
        simp only [List.length_cons] at this ⊢
        omega
theorem cut_no (l : List UInt8) (h : fc l = none) : Lib.cut l [58, 58] = (l, [], false) := by
  unfold Lib.cut
  rw [index_fc, h]
  rfl
theorem cut_yes (l : List UInt8) (j : Nat) (h : fc l = some j) : Lib.cut l [58, 58] = (l.take j, l.drop (j + 2), true) := by
  unfold Lib.cut
  rw [index_fc, h]
  show (if (0 : Int) ≤ (j : Int) then _ else _) = _
  rw [if_pos (by omega)]
  rfl
/-- What the two rows make. -/
def D6 (fd : Bool) : Option (List Nat) → Option (List Nat) → Option (List Nat)
  | some f, some b => if (if fd then decide (f.length + b.length ≤ 7) else decide (f.length + b.length = 8)) = true then some (f ++ List.replicate (8 - f.length - b.length) 0 ++ b) else none
  | _, _ => none
theorem ip6_A (l : List UInt8) (h : fc l = none) : ip6 l = D6 false (some []) (pcl true (spl 58 l)) := by
  unfold ip6
  rw [cut_no l h]
  show ((pcs true l).bind fun f => (pcs false []).bind fun b => if f.length + b.length ≤ 8 ∧ false ≠ decide (f.length + b.length = 8) then some (f ++ List.replicate (8 - f.length - b.length) 0 ++ b) else none) = _
  have e2 : pcs false [] = some [] := rfl
  rw [e2]
  unfold pcs
  by_cases hl : l = []
  · subst hl
    rw [if_pos rfl]
    rfl
  · rw [if_neg hl]
    cases pcl true (spl 58 l) with
    | none => rfl
    | some f =>
      show (if f.length + 0 ≤ 8 ∧ false ≠ decide (f.length + 0 = 8) then some (f ++ List.replicate (8 - f.length - 0) 0 ++ []) else none) = (if decide (0 + f.length = 8) = true then some ([] ++ List.replicate (8 - 0 - f.length) 0 ++ f) else none)
      by_cases h8 : f.length = 8
      · rw [if_pos ⟨by omega, by rw [decide_eq_true (by omega)]; decide⟩, if_pos (decide_eq_true (by omega)), h8]
        simp
      · rw [if_neg (fun hh => by
          have := hh.2
          rw [decide_eq_false (by omega)] at this
          exact this rfl), if_neg (by rw [decide_eq_false (by omega)]; decide)]
theorem ip6_B (l : List UInt8) (j : Nat) (h : fc l = some j) (X Y : List (List UInt8)) (hX : X = if j = 0 then [] else spl 58 (l.take j)) (hY : Y = if j + 2 < l.length then spl 58 (l.drop (j + 2)) else []) : ip6 l = D6 true (pcl false X) (pcl true Y) := by
  have hj := fc_le l j h
  have e1 : pcs false (l.take j) = pcl false X := by
    unfold pcs
    rw [hX]
    by_cases h0 : j = 0
    · rw [if_pos h0, if_pos (by rw [h0]; rfl)]
      rfl
    · rw [if_neg h0, if_neg (by
        intro e
        have := congrArg List.length e
        rw [List.length_take, List.length_nil] at this
        omega)]
  have e2 : pcs true (l.drop (j + 2)) = pcl true Y := by
    unfold pcs
    rw [hY]
    by_cases h0 : j + 2 < l.length
    · rw [if_pos h0, if_neg (by
        intro e
        have := congrArg List.length e
        rw [List.length_drop, List.length_nil] at this
        omega)]
    · rw [if_neg h0, if_pos (List.drop_eq_nil_of_le (by omega))]
      rfl
  unfold ip6
  rw [cut_yes l j h]
  show ((pcs false (l.take j)).bind fun f => (pcs true (l.drop (j + 2))).bind fun b => if f.length + b.length ≤ 8 ∧ true ≠ decide (f.length + b.length = 8) then some (f ++ List.replicate (8 - f.length - b.length) 0 ++ b) else none) = _
  rw [e1, e2]
  cases pcl false X with
  | none => rfl
  | some f =>
    cases pcl true Y with
    | none => rfl
    | some b =>
      show (if f.length + b.length ≤ 8 ∧ true ≠ decide (f.length + b.length = 8) then _ else _) = (if decide (f.length + b.length ≤ 7) = true then _ else _)
      by_cases h8 : f.length + b.length ≤ 7
      · rw [if_pos ⟨by omega, by rw [decide_eq_false (by omega)]; decide⟩, if_pos (decide_eq_true h8)]
      · rw [if_neg (fun hh => by
          have := hh.2
          rw [decide_eq_true (by omega)] at this
          exact this rfl), if_neg (by rw [decide_eq_false h8]; decide)]
/-- Where two colons stand first from place k on; -1: nowhere. -/
def atI (l : List UInt8) (k : Nat) : Int := match fc (l.drop k) with
  | none => -1
  | some d => (k : Int) + (d : Int)
theorem atI_step (l : List UInt8) (k : Nat) (hk : k + 1 < l.length) : atI l k = if l.getD k 0 = 58 ∧ l.getD (k + 1) 0 = 58 then (k : Int) else atI l (k + 1) := by
  have h1 : l.drop k = l.getD k 0 :: l.getD (k + 1) 0 :: l.drop (k + 2) := by
    rw [List.drop_eq_getElem_cons (by omega : k < l.length), List.drop_eq_getElem_cons hk]
    simp [List.getD, List.getElem?_eq_getElem (by omega : k < l.length), List.getElem?_eq_getElem hk]
  have h2 : l.drop (k + 1) = l.getD (k + 1) 0 :: l.drop (k + 2) := by
    rw [List.drop_eq_getElem_cons hk]
    simp [List.getD, List.getElem?_eq_getElem hk]
  unfold atI
  rw [h1, h2, fc]
  by_cases h : l.getD k 0 = 58 ∧ l.getD (k + 1) 0 = 58
  · rw [if_pos h, if_pos h]
    show (k : Int) + ((0 : Nat) : Int) = (k : Int)
    omega
  · rw [if_neg h, if_neg h]
    cases fc (l.getD (k + 1) 0 :: l.drop (k + 2)) with
    | none => rfl
    | some d =>
      show (k : Int) + ((d + 1 : Nat) : Int) = ((k + 1 : Nat) : Int) + (d : Int)
      omega
theorem atI_end (l : List UInt8) (k : Nat) (hk : l.length ≤ k + 1) : atI l k = -1 := by
  unfold atI
  have : (l.drop k).length ≤ 1 := by rw [List.length_drop]; omega
  match l.drop k, this with
  | [], _ => rfl
  | [a], _ => rfl
theorem atI_zero (l : List UInt8) : atI l 0 = match fc l with
    | none => -1
    | some d => (d : Int) := by
  unfold atI
  rw [List.drop_zero]
  cases fc l with
  | none => rfl
  | some d => show ((0 : Nat) : Int) + (d : Int) = (d : Int); omega
/-- The variables of IPv6. -/
structure Z6 (w wi : World) (g2 g4 : Nat) (C2 C4 : List Value) : Prop where
  b2 : Blk wi g2 62 C2
  b4 : Blk wi g4 62 C4
  kp : Kept w wi
  l2 : w.heap.size ≤ g2
  l4 : g2 < g4
section
variable {w wi wj : World} {g2 g4 : Nat} {C2 C4 C : List Value}
theorem Z6.step (h : Z6 w wi g2 g4 C2 C4) (hb : Below wi.heap.size wi wj) : Z6 w wj g2 g4 C2 C4 := ⟨h.b2.kept hb, h.b4.kept hb, h.kp.step hb, h.l2, h.l4⟩
theorem Z6.alloc (h : Z6 w wi g2 g4 C2 C4) (o : Obj) : Z6 w (wi.alloc o) g2 g4 C2 C4 := h.step ((Below.refl _ _).alloc (Nat.le_refl _) o)
theorem Z6.set4 (h : Z6 w wi g2 g4 C2 C4) (hb : Blk wj g4 62 C) (hu : Upd g4 wi wj) : Z6 w wj g2 g4 C2 C := ⟨h.b2.upd hu (by have := h.l4; omega), hb, h.kp.base (hu.below (by have := h.l4; have := h.l2; omega)), h.l2, h.l4⟩
theorem Z6.set2 (h : Z6 w wi g2 g4 C2 C4) (hb : Blk wj g2 62 C) (hu : Upd g2 wi wj) : Z6 w wj g2 g4 C C4 := ⟨hb, h.b4.upd hu (by have := h.l4; omega), h.kp.base (hu.below h.l2), h.l2, h.l4⟩
end
end Go.Proofs.YtcepigekibidfaaGreatDoor
