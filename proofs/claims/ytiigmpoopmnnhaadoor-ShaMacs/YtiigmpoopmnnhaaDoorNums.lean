/-
  The mathematics of the document's roots: numbers of several words, products, bit by bit roots, primes by trial. No condition; nothing of the program.
-/
namespace Go.Proofs.YtiigmpoopmnnhaaDoor

/-- A number of words of 32 bits, the lowest first. -/
def val : List Nat → Nat
  | [] => 0
  | x :: r => x + 4294967296 * val r
def small (l : List Nat) : Prop := ∀ x ∈ l, x < 4294967296

theorem val_append : ∀ (l m : List Nat), val (l ++ m) = val l + 4294967296 ^ l.length * val m
  | [], m => by simp [val]
  | x :: r, m => by
    simp only [List.cons_append, val, val_append r m, List.length_cons, Nat.pow_succ, Nat.mul_add]
    rw [Nat.mul_comm (4294967296 ^ r.length) 4294967296, Nat.mul_assoc]
    omega
theorem val_lt : ∀ (l : List Nat), small l → val l < 4294967296 ^ l.length
  | [], _ => by simp [val]
  | x :: r, h => by
    have h1 := val_lt r (fun y hy => h y (by simp [hy]))
    have h2 := h x (by simp)
    simp only [val, List.length_cons, Nat.pow_succ]
    omega
theorem val_replicate : ∀ n, val (List.replicate n 0) = 0
  | 0 => rfl
  | n + 1 => by simp [List.replicate_succ, val, val_replicate n]
theorem val_take (l : List Nat) (k : Nat) (h : k < l.length) : val (l.take (k + 1)) = val (l.take k) + 4294967296 ^ k * l.getD k 0 := by
  rw [List.take_succ_eq_append_getElem h, val_append]
  have hl : (l.take k).length = k := by simp; omega
  rw [hl]
  simp [val, List.getD, List.getElem?_eq_getElem h]
theorem val_set : ∀ (l : List Nat) (j x : Nat), j < l.length → val (l.set j x) + 4294967296 ^ j * l.getD j 0 = val l + 4294967296 ^ j * x
  | [], j, x, h => by simp at h
  | y :: r, 0, x, h => by simp [val]; omega
  | y :: r, j + 1, x, h => by
    have ih := val_set r j x (by simpa using h)
    simp only [List.set_cons_succ, val, List.getD_cons_succ, Nat.pow_succ]
    have e1 : 4294967296 ^ j * 4294967296 * r.getD j 0 = 4294967296 * (4294967296 ^ j * r.getD j 0) := by rw [Nat.mul_comm (4294967296 ^ j) 4294967296, Nat.mul_assoc]
    have e2 : 4294967296 ^ j * 4294967296 * x = 4294967296 * (4294967296 ^ j * x) := by rw [Nat.mul_comm (4294967296 ^ j) 4294967296, Nat.mul_assoc]
    rw [e1, e2]
    omega
theorem small_set {l : List Nat} (h : small l) (j x : Nat) (hx : x < 4294967296) : small (l.set j x) := fun y hy => by
  rcases List.mem_or_eq_of_mem_set hy with h1 | rfl
  · exact h y h1
  · exact hx
theorem small_getD {l : List Nat} (h : small l) (j : Nat) : l.getD j 0 < 4294967296 := by
  by_cases hj : j < l.length
  · have := h l[j] (List.getElem_mem hj)
    simpa [List.getD, List.getElem?_eq_getElem hj] using this
  · simp [List.getD, List.getElem?_eq_none (Nat.le_of_not_lt hj)]
theorem small_take {l : List Nat} (h : small l) (k : Nat) : small (l.take k) := fun y hy => h y (List.mem_of_mem_take hy)
theorem small_drop {l : List Nat} (h : small l) (k : Nat) : small (l.drop k) := fun y hy => h y (List.mem_of_mem_drop hy)
theorem small_replicate (n : Nat) : small (List.replicate n 0) := fun y hy => by
  rw [List.eq_of_mem_replicate hy]
  omega

/-- One word of one row of a product. -/
theorem mul_step (o : List Nat) (i k c a b V0 P : Nat) (hj : i + k < o.length) (hinv : val o + c * 4294967296 ^ (i + k) = V0 + a * P * 4294967296 ^ i) :
    val (o.set (i + k) ((o.getD (i + k) 0 + a * b + c) % 4294967296)) + (o.getD (i + k) 0 + a * b + c) / 4294967296 * 4294967296 ^ (i + k + 1) = V0 + a * (P + 4294967296 ^ k * b) * 4294967296 ^ i := by
  have h1 := val_set o (i + k) ((o.getD (i + k) 0 + a * b + c) % 4294967296) hj
  generalize o.getD (i + k) 0 = x at *
  generalize val (o.set (i + k) ((x + a * b + c) % 4294967296)) = V1 at *
  generalize val o = V2 at *
  obtain ⟨N, hN⟩ : ∃ N, N = x + a * b + c := ⟨_, rfl⟩
  rw [← hN] at h1 ⊢
  have h2 : N % 4294967296 + 4294967296 * (N / 4294967296) = N := Nat.mod_add_div N 4294967296
  generalize N % 4294967296 = r at *
  generalize N / 4294967296 = q at *
  rw [Nat.pow_succ, Nat.pow_add] at *
  generalize 4294967296 ^ i = I at *
  generalize 4294967296 ^ k = J at *
  -- V1 + IJ x = V2 + IJ r; V2 + c IJ = V0 + a P I; r + B q = x + a b + c
  have h3 : (r + 4294967296 * q) * (I * J) = (x + a * b + c) * (I * J) := by rw [h2, hN]
  simp only [Nat.add_mul, Nat.mul_add] at *
  have e1 : q * (I * J * 4294967296) = 4294967296 * q * (I * J) := by ac_rfl
  have e2 : a * (J * b) * I = a * b * (I * J) := by ac_rfl
  have e3 : I * J * x = x * (I * J) := Nat.mul_comm _ _
  have e4 : I * J * r = r * (I * J) := Nat.mul_comm _ _
  rw [e1, e2]
  rw [e3, e4] at h1
  omega
theorem carry_step (o : List Nat) (at_ c V : Nat) (hj : at_ < o.length) (hinv : val o + c * 4294967296 ^ at_ = V) :
    val (o.set at_ ((o.getD at_ 0 + c) % 4294967296)) + (o.getD at_ 0 + c) / 4294967296 * 4294967296 ^ (at_ + 1) = V := by
  have h := mul_step o 0 at_ c 0 0 V 0 (by simpa using hj) (by simpa using hinv)
  simpa using h
theorem step_small {x a b c : Nat} (hx : x < 4294967296) (ha : a < 4294967296) (hb : b < 4294967296) (hc : c < 4294967296) : x + a * b + c < 18446744073709551616 := by
  have : a * b ≤ 4294967295 * 4294967295 := Nat.mul_le_mul (by omega) (by omega)
  omega
/-- Where something is carried there is room for it. -/
theorem carry_room (o : List Nat) (at_ c V : Nat) (hc : 0 < c) (hinv : val o + c * 4294967296 ^ at_ = V) (hV : V < 4294967296 ^ o.length) : at_ < o.length := by
  rcases Nat.lt_or_ge at_ o.length with h | h
  · exact h
  · have h1 : 4294967296 ^ o.length ≤ 4294967296 ^ at_ := Nat.pow_le_pow_right (by omega) h
    have h2 : 4294967296 ^ at_ ≤ c * 4294967296 ^ at_ := Nat.le_mul_of_pos_left _ hc
    omega

/-! Is a number, squared or cubed, at most a prime? -/
theorem split3 (l : List Nat) (k : Nat) (h : k < l.length) : val l = val (l.take k) + 4294967296 ^ k * (l.getD k 0 + 4294967296 * val (l.drop (k + 1))) := by
  have e : l = l.take k ++ (l.getD k 0 :: l.drop (k + 1)) := by
    conv => lhs; rw [← List.take_append_drop k l, List.drop_eq_getElem_cons h]
    simp [List.getD, List.getElem?_eq_getElem h]
  conv => lhs; rw [e]
  rw [val_append]
  have hl : (l.take k).length = k := by simp; omega
  rw [hl]
  rfl
theorem pos_of_mem : ∀ (l : List Nat), val l = 0 ↔ ∀ x ∈ l, x = 0
  | [] => by simp [val]
  | x :: r => by
    have := pos_of_mem r
    simp only [val, List.mem_cons, forall_eq_or_imp, ← this]
    omega
theorem atMost (l : List Nat) (k p : Nat) (h : k < l.length) (hs : small l) (hp : p < 4294967296) :
    val l ≤ p * 4294967296 ^ k ↔ val (l.drop (k + 1)) = 0 ∧ (l.getD k 0 < p ∨ l.getD k 0 = p ∧ val (l.take k) = 0) := by
  have e := split3 l k h
  have h1 := val_lt (l.take k) (small_take hs k)
  have hl : (l.take k).length = k := by simp; omega
  rw [hl] at h1
  rw [e, Nat.mul_comm p]
  generalize l.getD k 0 = n
  generalize val (l.take k) = lo at *
  generalize val (l.drop (k + 1)) = hi
  generalize 4294967296 ^ k = K at *
  constructor
  · intro hle
    rcases Nat.lt_trichotomy (n + 4294967296 * hi) p with hlt | heq | hgt
    · exact ⟨by omega, by left; omega⟩
    · have h3 : lo = 0 := by
        rw [heq] at hle
        omega
      exact ⟨by omega, by right; exact ⟨by omega, h3⟩⟩
    · have : K * (p + 1) ≤ K * (n + 4294967296 * hi) := Nat.mul_le_mul_left K hgt
      rw [Nat.mul_add, Nat.mul_one] at this
      omega
  · rintro ⟨h0, h2 | ⟨h2, h3⟩⟩
    · subst h0
      have : K * (n + 4294967296 * 0 + 1) ≤ K * p := Nat.mul_le_mul_left K (by omega)
      rw [Nat.mul_add, Nat.mul_one] at this
      omega
    · subst h0 h2 h3
      simp

/-! Roots, bit by bit -/
def fits (x p : Nat) (cube : Bool) : Bool := if cube then decide (x * x * x ≤ p * 4294967296 ^ 3) else decide (x * x ≤ p * 4294967296 ^ 2)
/-- What is found by the bits from 37 on, k of them. -/
def rootBits (p : Nat) (cube : Bool) : Nat → Nat
  | 0 => 0
  | k + 1 => if fits (rootBits p cube k ||| 2 ^ (37 - k)) p cube then rootBits p cube k ||| 2 ^ (37 - k) else rootBits p cube k
def rootOf (p : Nat) (cube : Bool) : Nat := rootBits p cube 38 % 4294967296
theorem rootBits_lt (p : Nat) (cube : Bool) : ∀ k, k ≤ 38 → rootBits p cube k < 274877906944
  | 0, _ => by simp [rootBits]
  | k + 1, h => by
    have ih := rootBits_lt p cube k (by omega)
    simp only [rootBits]
    split
    · exact Nat.or_lt_two_pow (n := 38) ih (Nat.pow_lt_pow_right (by omega) (by omega))
    · exact ih
theorem or_bit_lt {x k : Nat} (h : x < 274877906944) (hk : k < 38) : x ||| 2 ^ (37 - k) < 274877906944 := Nat.or_lt_two_pow (n := 38) h (Nat.pow_lt_pow_right (by omega) (by omega))

/-! Primes, by trial -/
def isNew (l : List Nat) (n : Nat) : Bool := l.all fun q => n % q != 0
/-- The primes below n + 2. -/
def prs : Nat → List Nat
  | 0 => []
  | n + 1 => if isNew (prs n) (n + 2) then prs n ++ [n + 2] else prs n
theorem prs_pos : ∀ n, ∀ q ∈ prs n, 0 < q ∧ q < n + 2
  | 0, q, h => by simp [prs] at h
  | n + 1, q, h => by
    simp only [prs] at h
    split at h
    · rw [List.mem_append] at h
      rcases h with h | h
      · have := prs_pos n q h
        omega
      · simp at h
        omega
    · have := prs_pos n q h
      omega
theorem prs_prefix (n : Nat) : ∀ m, n ≤ m → ∃ t, prs m = prs n ++ t
  | 0, h => ⟨[], by rw [show n = 0 by omega]; simp⟩
  | m + 1, h => by
    by_cases hn : n = m + 1
    · exact ⟨[], by simp [hn]⟩
    · obtain ⟨t, ht⟩ := prs_prefix n m (by omega)
      simp only [prs]
      split
      · exact ⟨t ++ [m + 2], by rw [ht]; simp⟩
      · exact ⟨t, ht⟩
theorem prs_mono {n m : Nat} (h : n ≤ m) : (prs n).length ≤ (prs m).length := by
  obtain ⟨t, ht⟩ := prs_prefix n m h
  rw [ht]
  simp
theorem prs_step (n : Nat) : (prs (n + 1)).length ≤ (prs n).length + 1 := by
  simp only [prs]
  split <;> simp
theorem prs310 : (prs 310).length = 64 := by decide +kernel
theorem prs_take {n k : Nat} (hn : n ≤ 310) (hl : (prs n).length = k) : prs n = (prs 310).take k := by
  obtain ⟨t, ht⟩ := prs_prefix n 310 hn
  rw [ht, ← hl]
  simp
end Go.Proofs.YtiigmpoopmnnhaaDoor
