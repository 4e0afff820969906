/-
  Plain mathematics of numbers as bytes (LEB128): no Go, no memory. What is written ('leb'), what is read ('getF'), and that the two fit.
-/
namespace Go.Proofs.YtjgcodnabgkjoaaDoor

def lebF : Nat → Nat → List UInt8
  | 0, _ => []
  | f + 1, n => if n < 128 then [UInt8.ofNat n] else UInt8.ofNat (n % 128 + 128) :: lebF f (n / 128)
/-- A number's bytes. -/
def leb (n : Nat) : List UInt8 := lebF (n + 1) n

theorem lebF_eq : ∀ f g n, n < f → n < g → lebF f n = lebF g n := by
  intro f
  induction f with
  | zero => intro g n h; omega
  | succ f ih =>
    intro g n hf hg
    cases g with
    | zero => omega
    | succ g =>
      simp only [lebF]
      by_cases h : n < 128
      · rw [if_pos h, if_pos h]
      · rw [if_neg h, if_neg h, ih g (n / 128) (by omega) (by omega)]
theorem leb_lt {n : Nat} (h : n < 128) : leb n = [UInt8.ofNat n] := by
  simp only [leb, lebF]
  rw [if_pos h]
theorem leb_ge {n : Nat} (h : 128 ≤ n) : leb n = UInt8.ofNat (n % 128 + 128) :: leb (n / 128) := by
  show lebF (n + 1) n = _
  simp only [lebF]
  rw [if_neg (by omega)]
  show _ :: lebF n (n / 128) = _ :: lebF (n / 128 + 1) (n / 128)
  rw [lebF_eq n (n / 128 + 1) (n / 128) (by omega) (by omega)]
theorem leb_pos (n : Nat) : 0 < (leb n).length := by
  by_cases h : n < 128
  · rw [leb_lt h]; simp
  · rw [leb_ge (by omega)]; simp
theorem leb_len : ∀ k n, n < 128 ^ (k + 1) → (leb n).length ≤ k + 1 := by
  intro k
  induction k with
  | zero =>
    intro n h
    rw [leb_lt (by simpa using h)]
    simp
  | succ k ih =>
    intro n h
    by_cases h1 : n < 128
    · rw [leb_lt h1]; simp
    · rw [leb_ge (by omega), List.length_cons]
      have : n / 128 < 128 ^ (k + 1) := by
        rw [Nat.div_lt_iff_lt_mul (by omega)]
        rw [← Nat.pow_succ]
        exact h
      have := ih _ this
      omega
theorem leb_len10 {n : Nat} (h : n < 18446744073709551616) : (leb n).length ≤ 10 :=
  leb_len 9 n (Nat.lt_of_lt_of_le h (by decide))

/-- No number has the byte c at this place, behind bytes that are right. -/
def wrongB (c i : Nat) : Bool := (decide (c = 0) && decide (0 < i)) || (decide (1 < c) && decide (i = 9))

/-- What is read: the number, its size or the place of a fault, the error (0 none, 2 short, 3 form). -/
def getF : List UInt8 → Nat → Nat → Nat × Nat × Nat
  | [], i, _ => (0, i, 2)
  | c :: r, i, acc =>
    if wrongB c.toNat i = true then (0, i, 3)
    else if c.toNat < 128 then (acc + c.toNat % 128 * 128 ^ i, i + 1, 0)
    else getF r (i + 1) (acc + c.toNat % 128 * 128 ^ i)
def getS (l : List UInt8) : Nat × Nat × Nat := getF l 0 0

/-- One more bit group: or is plus. -/
theorem or_shift (acc c k : Nat) (h : acc < 128 ^ k) : acc ||| ((c % 128) <<< (7 * k)) = acc + c % 128 * 128 ^ k := by
  have e : (128 : Nat) ^ k = 2 ^ (7 * k) := by rw [show (128 : Nat) = 2 ^ 7 from rfl, ← Nat.pow_mul]
  rw [e] at h ⊢
  rw [Nat.shiftLeft_eq, Nat.or_comm, Nat.mul_comm, Nat.add_comm]
  exact (Nat.two_pow_add_eq_or_of_lt h (c % 128)).symm
theorem or_128 : ∀ a : Nat, a < 256 → a ||| 128 = a % 128 + 128 := by decide +kernel
theorem and_127 : ∀ a : Nat, a < 256 → a &&& 127 = a % 128 := by decide +kernel
theorem and_128 : ∀ a : Nat, a < 256 → a &&& 128 = if a < 128 then 0 else 128 := by decide +kernel

theorem pow_split (k : Nat) : (128 : Nat) ^ k = 2 ^ (7 * k) := by rw [show (128 : Nat) = 2 ^ 7 from rfl, ← Nat.pow_mul]
/-- A byte that is right at its place: what it adds is below 2^64, and if it is not the last one there is a place behind it. -/
theorem add_small (m k : Nat) (hk : k ≤ 9) (hw : wrongB m k = false) : m % 128 * 128 ^ k < 18446744073709551616 := by
  by_cases h9 : k = 9
  · subst h9
    have : m ≤ 1 := by
      simp [wrongB] at hw
      omega
    have : m % 128 ≤ 1 := by omega
    have := Nat.mul_le_mul_right (128 ^ 9) this
    omega
  · have h1 : (128 : Nat) ^ k ≤ 128 ^ 8 := Nat.pow_le_pow_right (by omega) (by omega)
    have h2 : m % 128 ≤ 127 := by omega
    have := Nat.mul_le_mul h2 h1
    omega
theorem acc_small (acc m k : Nat) (hk : k ≤ 9) (ha : acc < 128 ^ k) (hw : wrongB m k = false) : acc + m % 128 * 128 ^ k < 18446744073709551616 := by
  by_cases h9 : k = 9
  · subst h9
    have : m ≤ 1 := by
      simp [wrongB] at hw
      omega
    have : m % 128 ≤ 1 := by omega
    have := Nat.mul_le_mul_right (128 ^ 9) this
    omega
  · have h1 : (128 : Nat) ^ k ≤ 128 ^ 8 := Nat.pow_le_pow_right (by omega) (by omega)
    have h2 : m % 128 ≤ 127 := by omega
    have := Nat.mul_le_mul h2 h1
    omega
theorem acc_next (acc m k : Nat) (ha : acc < 128 ^ k) : acc + m % 128 * 128 ^ k < 128 ^ (k + 1) := by
  rw [Nat.pow_succ]
  have h2 : m % 128 ≤ 127 := by omega
  have := Nat.mul_le_mul_right (128 ^ k) h2
  omega
theorem more_place (m k : Nat) (hk : k ≤ 9) (hm : 128 ≤ m) (hw : wrongB m k = false) : k ≤ 8 := by
  simp [wrongB] at hw
  omega
theorem getF_ok : ∀ (l : List UInt8) (i acc : Nat), i ≤ 9 → acc < 128 ^ i → (getF l i acc).2.2 = 0 →
    i < (getF l i acc).2.1 ∧ (getF l i acc).2.1 ≤ i + l.length ∧ (getF l i acc).1 < 18446744073709551616 := by
  intro l
  induction l with
  | nil => intro i acc _ _ h; simp [getF] at h
  | cons c r ih =>
    intro i acc hi ha h
    rw [getF] at h ⊢
    by_cases hw : wrongB c.toNat i = true
    · rw [if_pos hw] at h; simp at h
    · rw [if_neg hw] at h ⊢
      have hwf : wrongB c.toNat i = false := by simpa using hw
      by_cases hc : c.toNat < 128
      · rw [if_pos hc]
        exact ⟨by simp, by simp, acc_small acc c.toNat i hi ha hwf⟩
      · rw [if_neg hc] at h ⊢
        have hp := more_place c.toNat i hi (by omega) hwf
        have := ih (i + 1) _ (by omega) (acc_next acc c.toNat i ha) h
        simp only [List.length_cons]
        exact ⟨by omega, by omega, this.2.2⟩
theorem getS_ok (l : List UInt8) (h : (getS l).2.2 = 0) : 1 ≤ (getS l).2.1 ∧ (getS l).2.1 ≤ l.length ∧ (getS l).1 < 18446744073709551616 := by
  have := getF_ok l 0 0 (by omega) (by simp) h
  simp only [Nat.zero_add] at this
  exact this
theorem getF_place : ∀ (l : List UInt8) (i acc : Nat), i ≤ 9 → acc < 128 ^ i → (getF l i acc).2.1 ≤ i + l.length ∧ (getF l i acc).2.2 ≤ 3 ∧ (getF l i acc).2.2 ≠ 1 := by
  intro l
  induction l with
  | nil => intro i acc _ _; simp [getF]
  | cons c r ih =>
    intro i acc hi ha
    rw [getF]
    by_cases hw : wrongB c.toNat i = true
    · rw [if_pos hw]; simp
    · rw [if_neg hw]
      have hwf : wrongB c.toNat i = false := by simpa using hw
      by_cases hc : c.toNat < 128
      · rw [if_pos hc]; simp
      · rw [if_neg hc]
        have hp := more_place c.toNat i hi (by omega) hwf
        have := ih (i + 1) _ (by omega) (acc_next acc c.toNat i ha)
        simp only [List.length_cons]
        exact ⟨by omega, this.2⟩
def aboveB (n : Nat) (most : Int) : Bool := decide (most < 0) || decide (most < (n : Int))
/-- What Text reads: the text, its size or the place of a fault, the error. -/
def textS (l : List UInt8) (most : Int) : List UInt8 × Nat × Nat :=
  if (getS l).2.2 ≠ 0 then ([], (getS l).2.1, (getS l).2.2)
  else if aboveB (getS l).1 most = true then ([], (getS l).2.1 - 1, 5)
  else if l.length - (getS l).2.1 < (getS l).1 then ([], l.length, 2)
  else ((l.drop (getS l).2.1).take (getS l).1, (getS l).2.1 + (getS l).1, 0)
end Go.Proofs.YtjgcodnabgkjoaaDoor
