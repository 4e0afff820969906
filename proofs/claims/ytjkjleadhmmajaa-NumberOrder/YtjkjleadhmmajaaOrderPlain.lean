/-
  Plain mathematics of numbers as bytes, third part: of two numbers of as many bytes the last byte in which they differ tells which one is less; one of fewer bytes is less. No condition.
-/
import Derived.Test.YtjkjleadhmmajaaBackPlain
namespace Go.Proofs.Ytjkjleadhmmajaa

theorem leb_low' : ∀ k n, 128 ^ k ≤ n → k + 1 ≤ (leb n).length := by
  intro k
  induction k with
  | zero => intro n _; have := leb_pos n; omega
  | succ k ih =>
    intro n h
    have h1 : 128 ≤ n := by
      have : (128 : Nat) ^ 1 ≤ 128 ^ (k + 1) := Nat.pow_le_pow_right (by omega) (by omega)
      omega
    rw [leb_ge h1, List.length_cons]
    have : 128 ^ k ≤ n / 128 := by
      rw [Nat.le_div_iff_mul_le (by omega), ← Nat.pow_succ]
      exact h
    have := ih _ this
    omega
/-- A number of k + 1 bytes is below 128 to the k + 1. -/
theorem leb_top : ∀ (f n : Nat), n < f → n < 128 ^ (leb n).length := by
  intro f
  induction f with
  | zero => intro n h; omega
  | succ f ih =>
    intro n h
    by_cases h1 : n < 128
    · rw [leb_lt h1]; simpa using h1
    · rw [leb_ge (by omega), List.length_cons, Nat.pow_succ]
      have := ih (n / 128) (by omega)
      rw [← Nat.div_lt_iff_lt_mul (by omega)]
      exact this
theorem lt_of_len {m n : Nat} (h : (leb m).length < (leb n).length) : m < n := by
  rcases Nat.lt_or_ge m n with h1 | h1
  · exact h1
  · have h2 : ∀ k, (leb n).length = k + 1 → k + 1 ≤ (leb m).length := by
      intro k hk
      cases k with
      | zero => have := leb_pos m; omega
      | succ k =>
        have h3 : 128 ^ (k + 1) ≤ n := by
          rcases Nat.lt_or_ge n (128 ^ (k + 1)) with h4 | h4
          · have := leb_len k n h4
            omega
          · exact h4
        exact leb_low' (k + 1) m (by omega)
    have := leb_pos n
    have := h2 ((leb n).length - 1) (by omega)
    omega
/-- The last place in which they differ (or the first of all) tells which one is less. -/
theorem order_at : ∀ (f m n i : Nat), m < f → (leb m).length = (leb n).length → i < (leb m).length → (∀ j, i < j → j < (leb m).length → (leb m).getD j 0 = (leb n).getD j 0) →
    (0 < i → (leb m).getD i 0 ≠ (leb n).getD i 0) → (((leb m).getD i 0).toNat < ((leb n).getD i 0).toNat ↔ m < n) := by
  intro f
  induction f with
  | zero => intro m n i h; omega
  | succ f ih =>
    intro m n i hf hlen hi heq hne
    by_cases hm : m < 128
    · by_cases hn : n < 128
      · rw [leb_lt hm] at hi ⊢
        rw [leb_lt hn]
        obtain rfl : i = 0 := by simpa using hi
        simp only [List.getD_cons_zero]
        rw [of_toNat _ (by omega), of_toNat _ (by omega)]
      · rw [leb_lt hm, leb_ge (n := n) (by omega)] at hlen
        have := leb_pos (n / 128)
        simp only [List.length_cons, List.length_nil] at hlen
        omega
    · by_cases hn : n < 128
      · rw [leb_lt hn, leb_ge (n := m) (by omega)] at hlen
        have := leb_pos (m / 128)
        simp only [List.length_cons, List.length_nil] at hlen
        omega
      · have em := leb_ge (n := m) (by omega)
        have en := leb_ge (n := n) (by omega)
        rw [em, en] at hlen heq hne ⊢
        rw [em] at hi
        simp only [List.length_cons] at hlen hi heq
        cases i with
        | zero =>
          simp only [List.getD_cons_zero]
          rw [of_toNat _ (by omega), of_toNat _ (by omega)]
          have htail : leb (m / 128) = leb (n / 128) := by
            apply List.ext_getElem (by omega)
            intro j h1 h2
            have := heq (j + 1) (by omega) (by omega)
            simpa [List.getD, List.getElem?_eq_getElem h1, List.getElem?_eq_getElem h2] using this
          have := leb_inj htail
          omega
        | succ i =>
          simp only [List.getD_cons_succ] at hne ⊢
          have hne' := hne (by omega)
          have h1 := ih (m / 128) (n / 128) i (by omega) (by omega) (by omega) (fun j h1 h2 => by simpa using heq (j + 1) (by omega) (by omega)) (fun _ => hne')
          have h2 : m / 128 ≠ n / 128 := fun e => hne' (by rw [e])
          rw [h1]
          omega
end Go.Proofs.Ytjkjleadhmmajaa
