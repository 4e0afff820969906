/-
  Plain mathematics of numbers as bytes, second part: what is written is read, and what is read was written. No condition but that numbers are below 2^64.
-/
import Derived.Test.YtjgcodnabgkjoaaDoorNumPlain
namespace Go.Proofs.YtjgcodnabgkjoaaDoor

theorem of_toNat (k : Nat) (h : k < 256) : (UInt8.ofNat k).toNat = k := by
  simp
  omega

def val : List UInt8 → Nat
  | [] => 0
  | c :: r => c.toNat % 128 + 128 * val r
theorem val_leb : ∀ (f n : Nat), n < f → val (leb n) = n := by
  intro f
  induction f with
  | zero => intro n h; omega
  | succ f ih =>
    intro n h
    by_cases h1 : n < 128
    · rw [leb_lt h1]
      simp only [val]
      rw [of_toNat _ (by omega)]
      omega
    · rw [leb_ge (by omega)]
      simp only [val]
      rw [of_toNat _ (by omega), ih (n / 128) (by omega)]
      omega
theorem leb_inj {m n : Nat} (h : leb m = leb n) : m = n := by
  rw [← val_leb (m + 1) m (by omega), h, val_leb (n + 1) n (by omega)]

theorem getF_leb : ∀ (f n : Nat), n < f → ∀ (i acc : Nat) (more : List UInt8), i ≤ 9 → (n = 0 → i = 0) → n * 128 ^ i < 18446744073709551616 →
    getF (leb n ++ more) i acc = (acc + n * 128 ^ i, i + (leb n).length, 0) := by
  intro f
  induction f with
  | zero => intro n h; omega
  | succ f ih =>
    intro n hf i acc more hi h0 hs
    by_cases h1 : n < 128
    · rw [leb_lt h1]
      simp only [List.cons_append, List.nil_append, getF]
      rw [of_toNat n (by omega)]
      have hw : wrongB n i = false := by
        have a1 : ¬ (n = 0 ∧ 0 < i) := by omega
        have a2 : ¬ (1 < n ∧ i = 9) := by
          rintro ⟨h2, rfl⟩
          have := Nat.mul_le_mul_right (128 ^ 9) (show 2 ≤ n from h2)
          omega
        simp only [wrongB, Bool.or_eq_false_iff, Bool.and_eq_false_iff, decide_eq_false_iff_not]
        omega
      rw [hw, if_neg (by simp), if_pos h1, Nat.mod_eq_of_lt h1]
      simp
    · rw [leb_ge (by omega)]
      simp only [List.cons_append, getF]
      rw [of_toNat _ (by omega)]
      have hi8 : i ≤ 8 := by
        rcases Nat.lt_or_ge i 9 with h | h
        · omega
        · obtain rfl : i = 9 := by omega
          have := Nat.mul_le_mul_right (128 ^ 9) (show 2 ≤ n by omega)
          omega
      have hw : wrongB (n % 128 + 128) i = false := by
        simp only [wrongB, Bool.or_eq_false_iff, Bool.and_eq_false_iff, decide_eq_false_iff_not]
        omega
      have hn : n = n % 128 + 128 * (n / 128) := by omega
      have hsum : n * 128 ^ i = n % 128 * 128 ^ i + n / 128 * 128 ^ (i + 1) := by
        rw [Nat.pow_succ, Nat.mul_comm (128 ^ i) 128, ← Nat.mul_assoc, ← Nat.add_mul, Nat.mul_comm (n / 128) 128, ← hn]
      rw [hw, if_neg (by simp), if_neg (by omega), ih (n / 128) (by omega) (i + 1) _ more (by omega) (by omega) (by omega)]
      rw [show (n % 128 + 128) % 128 = n % 128 by omega, hsum, List.length_cons]
      exact Prod.ext (by dsimp only; omega) (Prod.ext (by dsimp only; omega) rfl)
theorem getS_leb (n : Nat) (more : List UInt8) (h : n < 18446744073709551616) : getS (leb n ++ more) = (n, (leb n).length, 0) := by
  have := getF_leb (n + 1) n (by omega) 0 0 more (by omega) (by omega) (by omega)
  simpa [getS] using this

theorem getF_cut : ∀ (f n : Nat), n < f → ∀ (i acc k : Nat), i ≤ 9 → n * 128 ^ i < 18446744073709551616 → k < (leb n).length →
    getF ((leb n).take k) i acc = (0, i + k, 2) := by
  intro f
  induction f with
  | zero => intro n h; omega
  | succ f ih =>
    intro n hf i acc k hi hs hk
    cases k with
    | zero => simp [getF]
    | succ k =>
      by_cases h1 : n < 128
      · rw [leb_lt h1] at hk
        simp at hk
      · rw [leb_ge (by omega), List.length_cons] at hk
        rw [leb_ge (by omega)]
        simp only [List.take_succ_cons, getF]
        rw [of_toNat _ (by omega)]
        have hi8 : i ≤ 8 := by
          rcases Nat.lt_or_ge i 9 with h | h
          · omega
          · obtain rfl : i = 9 := by omega
            have := Nat.mul_le_mul_right (128 ^ 9) (show 2 ≤ n by omega)
            omega
        have hw : wrongB (n % 128 + 128) i = false := by
          simp only [wrongB, Bool.or_eq_false_iff, Bool.and_eq_false_iff, decide_eq_false_iff_not]
          omega
        have hn : n = n % 128 + 128 * (n / 128) := by omega
        have hsum : n * 128 ^ i = n % 128 * 128 ^ i + n / 128 * 128 ^ (i + 1) := by
          rw [Nat.pow_succ, Nat.mul_comm (128 ^ i) 128, ← Nat.mul_assoc, ← Nat.add_mul, Nat.mul_comm (n / 128) 128, ← hn]
        rw [hw, if_neg (by simp), if_neg (by omega), ih (n / 128) (by omega) (i + 1) _ k (by omega) (by omega) (by omega)]
        exact Prod.ext rfl (Prod.ext (by dsimp only; omega) rfl)
theorem getS_cut (n k : Nat) (h : n < 18446744073709551616) (hk : k < (leb n).length) : getS ((leb n).take k) = (0, k, 2) := by
  have := getF_cut (n + 1) n (by omega) 0 0 k (by omega) (by omega) hk
  simpa [getS] using this

/-- What is read was written. -/
theorem getF_back : ∀ (l : List UInt8) (i acc N k : Nat), getF l i acc = (N, k, 0) → ∃ n, i ≤ k ∧ l.take (k - i) = leb n ∧ (leb n).length = k - i ∧ N = acc + n * 128 ^ i ∧ (0 < i → 0 < n) := by
  intro l
  induction l with
  | nil => intro i acc N k h; simp [getF] at h
  | cons c r ih =>
    intro i acc N k h
    rw [getF] at h
    have hc := c.toNat_lt
    by_cases hw : wrongB c.toNat i = true
    · rw [if_pos hw] at h; simp at h
    · rw [if_neg hw] at h
      by_cases hc1 : c.toNat < 128
      · rw [if_pos hc1] at h
        simp only [Prod.mk.injEq] at h
        obtain ⟨rfl, rfl, _⟩ := h
        refine ⟨c.toNat, by omega, ?_, ?_, by rw [Nat.mod_eq_of_lt hc1], fun hi => ?_⟩
        · rw [show i + 1 - i = 1 by omega, leb_lt hc1]
          simp
        · rw [leb_lt hc1]; simp
        · simp [wrongB] at hw
          omega
      · rw [if_neg hc1] at h
        obtain ⟨n, h1, h2, h3, h4, h5⟩ := ih _ _ _ _ h
        have hn := h5 (by omega)
        have hd : (c.toNat % 128 + 128 * n) / 128 = n := by omega
        have hmod : (c.toNat % 128 + 128 * n) % 128 + 128 = c.toNat := by omega
        refine ⟨c.toNat % 128 + 128 * n, by omega, ?_, ?_, ?_, fun _ => by omega⟩
        · rw [leb_ge (by omega), hd, hmod, show k - i = (k - (i + 1)) + 1 by omega, List.take_succ_cons, h2]
          simp
        · rw [leb_ge (by omega), hd, List.length_cons, h3]
          omega
        · rw [h4, Nat.pow_succ, Nat.add_mul, Nat.mul_comm (128 ^ i) 128, ← Nat.mul_assoc, Nat.mul_comm n 128]
          omega
theorem getS_back (l : List UInt8) (N k : Nat) (h : getS l = (N, k, 0)) : leb N = l.take k := by
  obtain ⟨n, _, h2, _, h4, _⟩ := getF_back l 0 0 N k h
  simp at h2 h4
  subst h4
  exact h2.symm

/-- What is wrong stays so, whatever stands behind; without its last byte it is short. -/
theorem getF_wrong : ∀ (l : List UInt8) (i acc k N : Nat), getF l i acc = (N, k, 3) → N = 0 ∧ i ≤ k ∧ k - i < l.length ∧ (∀ more, getF (l.take (k - i + 1) ++ more) i acc = (0, k, 3)) ∧ getF (l.take (k - i)) i acc = (0, k, 2) := by
  intro l
  induction l with
  | nil => intro i acc k N h; simp [getF] at h
  | cons c r ih =>
    intro i acc k N h
    rw [getF] at h
    by_cases hw : wrongB c.toNat i = true
    · rw [if_pos hw] at h
      simp only [Prod.mk.injEq] at h
      obtain ⟨rfl, rfl, _⟩ := h
      refine ⟨rfl, Nat.le_refl _, by simp, fun more => ?_, by simp [getF]⟩
      simp [getF, hw]
    · rw [if_neg hw] at h
      by_cases hc1 : c.toNat < 128
      · rw [if_pos hc1] at h; simp at h
      · rw [if_neg hc1] at h
        obtain ⟨h0, h1, h2, h3, h4⟩ := ih _ _ _ _ h
        refine ⟨h0, by omega, by simp; omega, fun more => ?_, ?_⟩
        · rw [show k - i + 1 = (k - (i + 1) + 1) + 1 by omega, List.take_succ_cons, List.cons_append, getF, if_neg hw, if_neg hc1]
          exact h3 more
        · rw [show k - i = (k - (i + 1)) + 1 by omega, List.take_succ_cons, getF, if_neg hw, if_neg hc1]
          exact h4
theorem getF_short : ∀ (l : List UInt8) (i acc k N : Nat), getF l i acc = (N, k, 2) → N = 0 ∧ k = i + l.length := by
  intro l
  induction l with
  | nil => intro i acc k N h; simp [getF] at h; simp [h]
  | cons c r ih =>
    intro i acc k N h
    rw [getF] at h
    by_cases hw : wrongB c.toNat i = true
    · rw [if_pos hw] at h; simp at h
    · rw [if_neg hw] at h
      by_cases hc1 : c.toNat < 128
      · rw [if_pos hc1] at h; simp at h
      · rw [if_neg hc1] at h
        obtain ⟨h0, h1⟩ := ih _ _ _ _ h
        refine ⟨h0, ?_⟩
        simp only [List.length_cons]
        omega
theorem getF_err : ∀ (l : List UInt8) (i acc : Nat), (getF l i acc).2.2 = 0 ∨ (getF l i acc).2.2 = 2 ∨ (getF l i acc).2.2 = 3 := by
  intro l
  induction l with
  | nil => intro i acc; simp [getF]
  | cons c r ih =>
    intro i acc
    rw [getF]
    by_cases hw : wrongB c.toNat i = true
    · rw [if_pos hw]; simp
    · rw [if_neg hw]
      by_cases hc1 : c.toNat < 128
      · rw [if_pos hc1]; simp
      · rw [if_neg hc1]
        exact ih _ _

/-- A text that was written is read, whatever stands behind. -/
theorem textS_back (s more : List UInt8) (most : Int) (hs : s.length < 18446744073709551616) (hm : (s.length : Int) ≤ most) : textS (leb s.length ++ s ++ more) most = (s, (leb s.length).length + s.length, 0) := by
  unfold textS
  rw [List.append_assoc, getS_leb _ _ hs]
  simp only
  have ha : aboveB s.length most = false := by
    simp [aboveB]
    omega
  rw [if_neg (by simp), ha, if_neg (by simp), if_neg (by simp)]
  simp
theorem textS_cut (s : List UInt8) (k : Nat) (most : Int) (hs : s.length < 18446744073709551616) (hm : (s.length : Int) ≤ most) (hk : k < (leb s.length).length + s.length) :
    textS ((leb s.length ++ s).take k) most = ([], k, 2) := by
  unfold textS
  by_cases h : k < (leb s.length).length
  · rw [List.take_append_of_le_length (by omega), getS_cut _ _ hs h]
    simp
  · rw [List.take_append, List.take_of_length_le (l := leb s.length) (by omega), getS_leb _ _ hs]
    have ha : aboveB s.length most = false := by
      simp [aboveB]
      omega
    simp only
    rw [if_neg (by simp), ha, if_neg (by simp), if_pos (by simp; omega)]
    simp
    omega
end Go.Proofs.YtjgcodnabgkjoaaDoor
