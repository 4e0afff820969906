/-
  The mathematics of bytes with a percent sign: lists of bytes encoded and decoded. No program, no condition.
-/
import Derived.Test.YtcfgcakmffkpmaaDoorArr
namespace Go.Proofs.YtcfgcakmffkpmaaDoor

def hexs : List UInt8 := [48, 49, 50, 51, 52, 53, 54, 55, 56, 57, 65, 66, 67, 68, 69, 70]
/-- A digit to base sixteen, in upper case. -/
def hex (n : Nat) : UInt8 := hexs.getD n 0
def enc1 (p : UInt8 → Bool) (c : UInt8) : List UInt8 := if p c then [37, hex (c.toNat / 16), hex (c.toNat % 16)] else [c]
def enc (p : UInt8 → Bool) (l : List UInt8) : List UInt8 := l.flatMap (enc1 p)

/-- What a digit to base sixteen tells; 16: it is none. -/
def dig (c : UInt8) : Nat := if 48 ≤ c.toNat ∧ c.toNat ≤ 57 then c.toNat - 48 else if 65 ≤ c.toNat ∧ c.toNat ≤ 70 then c.toNat - 65 + 10 else if 97 ≤ c.toNat ∧ c.toNat ≤ 102 then c.toNat - 97 + 10 else 16
/-- The byte that two digits tell, if they are digits. -/
def pair (b c : UInt8) : Option UInt8 := if dig b < 16 ∧ dig c < 16 then some (UInt8.ofNat (dig b * 16 + dig c)) else none

def dec : List UInt8 → List UInt8
  | [] => []
  | [a] => [a]
  | [a, b] => [a, b]
  | a :: b :: c :: r => if a = 37 then
      match pair b c with
      | some v => v :: dec r
      | none => a :: dec (b :: c :: r)
    else a :: dec (b :: c :: r)

/-- The byte that a text begins with when it is decoded, and how many bytes tell it. -/
def fst : List UInt8 → UInt8 × Nat
  | 37 :: b :: c :: _ => match pair b c with
    | some v => (v, 3)
    | none => (37, 1)
  | a :: _ => (a, 1)
  | [] => (0, 1)

theorem enc_nil (p : UInt8 → Bool) : enc p [] = [] := rfl
theorem enc_cons (p : UInt8 → Bool) (c : UInt8) (l : List UInt8) : enc p (c :: l) = enc1 p c ++ enc p l := by simp [enc]
theorem enc_append (p : UInt8 → Bool) (l m : List UInt8) : enc p (l ++ m) = enc p l ++ enc p m := by simp [enc]
theorem enc1_len (p : UInt8 → Bool) (c : UInt8) : (enc1 p c).length ≤ 3 := by
  unfold enc1
  split <;> simp
theorem enc_len (p : UInt8 → Bool) (l : List UInt8) : (enc p l).length ≤ 3 * l.length := by
  induction l with
  | nil => simp [enc]
  | cons c l ih =>
    have := enc1_len p c
    rw [enc_cons, List.length_append, List.length_cons]
    omega
theorem enc_none (l : List UInt8) : enc (fun _ => false) l = l := by
  induction l with
  | nil => rfl
  | cons c l ih =>
    rw [enc_cons, ih]
    rfl
theorem enc_take_succ (p : UInt8 → Bool) (l : List UInt8) (k : Nat) (h : k < l.length) : enc p (l.take (k + 1)) = enc p (l.take k) ++ enc1 p (l.getD k 0) := by
  rw [List.take_succ_eq_append_getElem h, enc_append]
  simp [enc, List.getD, List.getElem?_eq_getElem h]

/-- Decoded byte by byte: what is not a percent sign with two digits behind stands for itself. -/
theorem dec_other (a : UInt8) (l : List UInt8) (h : a ≠ 37) : dec (a :: l) = a :: dec l := by
  match l with
  | [] => rfl
  | [b] => rfl
  | b :: c :: r => simp [dec, h]
theorem dec_short (a b : UInt8) : dec [a, b] = a :: dec [b] := rfl
theorem dec_pair (b c v : UInt8) (r : List UInt8) (h : pair b c = some v) : dec (37 :: b :: c :: r) = v :: dec r := by simp [dec, h]
theorem dec_nopair (b c : UInt8) (r : List UInt8) (h : pair b c = none) : dec (37 :: b :: c :: r) = 37 :: dec (b :: c :: r) := by simp [dec, h]

theorem fst_other (a : UInt8) (l : List UInt8) (h : a ≠ 37) : fst (a :: l) = (a, 1) := by
  unfold fst
  split
  · simp_all
  · simp_all
  · simp_all
theorem fst_short (a : UInt8) (l : List UInt8) (h : l.length < 2) : fst (a :: l) = (a, 1) := by
  unfold fst
  split
  · simp_all; omega
  · simp_all
  · simp_all
theorem fst_pair (b c v : UInt8) (r : List UInt8) (h : pair b c = some v) : fst (37 :: b :: c :: r) = (v, 3) := by simp [fst, h]
theorem fst_nopair (b c : UInt8) (r : List UInt8) (h : pair b c = none) : fst (37 :: b :: c :: r) = (37, 1) := by simp [fst, h]

/-- The first byte, and the rest. -/
theorem dec_fst (l : List UInt8) (h : l ≠ []) : dec l = (fst l).1 :: dec (l.drop (fst l).2) := by
  match l, h with
  | [a], _ => rw [fst_short a [] (by simp)]; rfl
  | [a, b], _ => rw [fst_short a [b] (by simp)]; rfl
  | a :: b :: c :: r, _ =>
    by_cases ha : a = 37
    · subst ha
      cases hp : pair b c with
      | some v => rw [fst_pair b c v r hp, dec_pair b c v r hp]; rfl
      | none => rw [fst_nopair b c r hp, dec_nopair b c r hp]; rfl
    · rw [fst_other a _ ha, dec_other a _ ha]; rfl
theorem fst_size (l : List UInt8) (h : l ≠ []) : 1 ≤ (fst l).2 ∧ (fst l).2 ≤ l.length := by
  match l, h with
  | [a], _ => rw [fst_short a [] (by simp)]; simp
  | [a, b], _ => rw [fst_short a [b] (by simp)]; simp
  | a :: b :: c :: r, _ =>
    by_cases ha : a = 37
    · subst ha
      cases hp : pair b c with
      | some v => rw [fst_pair b c v r hp]; simp
      | none => rw [fst_nopair b c r hp]; simp
    · rw [fst_other a _ ha]; simp
theorem dec_len (n : Nat) : ∀ l : List UInt8, l.length ≤ n → (dec l).length ≤ l.length := by
  induction n with
  | zero =>
    intro l h
    have : l = [] := List.eq_nil_of_length_eq_zero (by omega)
    subst this
    simp [dec]
  | succ n ih =>
    intro l h
    by_cases hl : l = []
    · subst hl
      simp [dec]
    · rw [dec_fst l hl]
      have h1 := fst_size l hl
      have := ih (l.drop (fst l).2) (by rw [List.length_drop]; omega)
      rw [List.length_drop] at this
      simp
      omega
end Go.Proofs.YtcfgcakmffkpmaaDoor
