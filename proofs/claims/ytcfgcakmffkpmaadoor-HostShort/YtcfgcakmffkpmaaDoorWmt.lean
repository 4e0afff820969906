/-
  The mathematics of names: what stays as it is, what is decoded, what may not be. No program, no condition.
-/
import Derived.Test.YtcfgcakmffkpmaaDoorBas
namespace Go.Proofs.YtcfgcakmffkpmaaDoor
open Go.RowKit

theorem i64_and65535 (n : Int) : bits .and .i64 n 65535 = n % 65536 := by
  have h1 : (BitVec.ofInt 64 65535).toNat = 2 ^ 16 - 1 := by decide
  have key : (BitVec.ofInt 64 n &&& BitVec.ofInt 64 65535).toNat = (n % ((2 ^ 64 : Nat) : Int)).toNat % 2 ^ 16 := by
    rw [BitVec.toNat_and, BitVec.toNat_ofInt, h1, Nat.and_two_pow_sub_one_eq_mod]
  show IntKind.i64.wrap ((BitVec.ofInt 64 n &&& BitVec.ofInt 64 65535).toNat : Nat) = n % 65536
  rw [key, IntKind.wrap_i64]
  omega
theorem dec_keep (y : List UInt8) : ∀ x : List UInt8, (37 : UInt8) ∉ x → dec (x ++ y) = x ++ dec y
  | [], _ => rfl
  | a :: x, h => by
    have h1 : a ≠ 37 := fun e => h (by simp [e])
    have h2 : (37 : UInt8) ∉ x := fun e => h (by simp [e])
    rw [List.cons_append, dec_other a _ h1, dec_keep y x h2]
    rfl
theorem dec_id (x : List UInt8) (h : (37 : UInt8) ∉ x) : dec x = x := by
  have := dec_keep [] x h
  simpa [dec] using this
theorem dig_hx : ∀ d, d < 16 → dig (hx d) = d := by decide
theorem pair_hx (c : UInt8) : pair (hx (c.toNat / 16)) (hx (c.toNat % 16)) = some c := by
  have hc := c.toNat_lt
  have h1 : c.toNat / 16 < 16 := by omega
  have h2 : c.toNat % 16 < 16 := by omega
  unfold pair
  rw [dig_hx _ h1, dig_hx _ h2, if_pos ⟨h1, h2⟩]
  congr 1
  apply UInt8.toNat_inj.1
  rw [toNat_ofNat_lt _ (by omega)]
  omega
theorem dec_code (x y : List UInt8) (c : UInt8) (hx' : (37 : UInt8) ∉ x) : dec (x ++ ([37, hx (c.toNat / 16), hx (c.toNat % 16)] ++ y)) = x ++ (c :: dec y) := by
  rw [dec_keep _ x hx']
  congr 1
  exact dec_pair _ _ c y (pair_hx c)
theorem okc_not37 {l : List UInt8} (h : l.all okc = true) : (37 : UInt8) ∉ l := fun hm => by
  have := List.all_eq_true.1 h 37 hm
  revert this
  decide
theorem okc_not91 {l : List UInt8} (h : l.all okc = true) : (91 : UInt8) ∉ l := fun hm => by
  have := List.all_eq_true.1 h 91 hm
  revert this
  decide
theorem prefix91 (l : List UInt8) (h : l.head? ≠ some 91) : Lib.hasPrefix l [91] = false := by
  cases l with
  | nil => rfl
  | cons a r =>
    have ha : ¬ 91 = a := fun e => h (by rw [← e]; rfl)
    simp [Lib.hasPrefix, List.isPrefixOf, ha]
/-- A text with a byte that may not be is no host. -/
theorem prs_bad (l : List UInt8) (h : l.head? ≠ some 91) (hb : (dec l).all okc = false) : prs l = ([], true) := by
  unfold prs
  rw [prefix91 l h]
  unfold nam may
  rw [hb]
  rfl
theorem dec_digits_ok : ∀ n, (Lib.decDigits n).all okc = true := by
  intro n
  induction n using Nat.strongRecOn with
  | _ n ih =>
    rw [Lib.decDigits]
    have key : ∀ d, d < 10 → okc (UInt8.ofNat (48 + d)) = true := by decide
    split
    · rename_i h
      rw [List.all_cons, key n h]
      rfl
    · rename_i h
      rw [List.all_append, ih (n / 10) (by omega)]
      rw [List.all_cons, key (n % 10) (by omega)]
      rfl
theorem tx_ok (b : Nat → Nat) : ∀ k, (tx b k).all okc = true
  | 0 => rfl
  | k + 1 => by
    rw [tx, List.all_append, List.all_append, tx_ok b k, dec_digits_ok]
    split
    · rfl
    · decide
theorem lower_ok : ∀ c : UInt8, okc c = true → okc (Lib.lowerB c) = true := by
  intro c
  have h : ∀ n, n < 256 → okc (UInt8.ofNat n) = true → okc (Lib.lowerB (UInt8.ofNat n)) = true := by decide +kernel
  have := h c.toNat c.toNat_lt
  rwa [show UInt8.ofNat c.toNat = c by simp] at this
theorem low_ok (l : List UInt8) (h : l.all okc = true) : (low l).all okc = true := by
  rw [List.all_eq_true] at h ⊢
  intro c hc
  simp only [low, Lib.toLowerA, List.mem_map] at hc
  obtain ⟨d, hd, rfl⟩ := hc
  exact lower_ok d (h d hd)
/-- What is written has no byte that may not be, but in brackets. -/
theorem prs_ok (l a : List UInt8) (h : prs l = (a, false)) (h0 : a.head? ≠ some 91) : a.all okc = true := by
  unfold prs at h
  split at h
  · unfold prb at h
    split at h
    · split at h
      · cases h
        exact absurd rfl h0
      · cases h
    · cases h
  · unfold nam at h
    split at h
    · rename_i hm
      have hok : (dec l).all okc = true := by
        unfold may at hm
        simp only [Bool.and_eq_true] at hm
        exact hm.1
      split at h
      · cases h
      · split at h
        · cases h
          exact tx_ok _ 4
        · cases h
          exact low_ok _ hok
    · cases h
def bads : List UInt8 := [35, 37, 47, 58, 60, 62, 63, 64, 92, 93, 94, 124, 32, 0, 31, 127, 128, 255]
theorem bads_no : ∀ i, i < 18 → okc (bads.getD i 0) = false ∧ bads.getD i 0 ≠ 91 := by decide
theorem prs_plain (a : List UInt8) (k : Nat) (c : UInt8) (ha : a.all okc = true) (hc : okc c = false) (h91 : c ≠ 91) (h37 : c ≠ 37) : prs (a.take k ++ [c] ++ a.drop k) = ([], true) := by
  have h1 : (a.take k).all okc = true := by
    rw [List.all_eq_true] at ha ⊢
    exact fun x hx => ha x (List.mem_of_mem_take hx)
  have h2 : (a.drop k).all okc = true := by
    rw [List.all_eq_true] at ha ⊢
    exact fun x hx => ha x (List.mem_of_mem_drop hx)
  have n1 := okc_not37 h1
  have n2 := okc_not37 h2
  have m1 := okc_not91 h1
  refine prs_bad _ ?_ ?_
  · cases ht : a.take k with
    | nil => simpa using h91
    | cons x r =>
      rw [ht] at m1
      simp only [List.cons_append, List.head?_cons, ne_eq, Option.some.injEq]
      intro e
      exact m1 (by simp [e])
  · rw [dec_id _ (by simp [n1, n2, Ne.symm h37])]
    simp [hc]
theorem prs_coded (a : List UInt8) (k : Nat) (c : UInt8) (ha : a.all okc = true) (hc : okc c = false) : prs (a.take k ++ [37, hx (c.toNat / 16), hx (c.toNat % 16)] ++ a.drop k) = ([], true) := by
  have h1 : (a.take k).all okc = true := by
    rw [List.all_eq_true] at ha ⊢
    exact fun x hx => ha x (List.mem_of_mem_take hx)
  have h2 : (a.drop k).all okc = true := by
    rw [List.all_eq_true] at ha ⊢
    exact fun x hx => ha x (List.mem_of_mem_drop hx)
  have n1 := okc_not37 h1
  have n2 := okc_not37 h2
  have m1 := okc_not91 h1
  refine prs_bad _ ?_ ?_
  · cases ht : a.take k with
    | nil => simp
    | cons x r =>
      rw [ht] at m1
      simp only [List.cons_append, List.head?_cons, ne_eq, Option.some.injEq]
      intro e
      exact m1 (by simp [e])
  · rw [List.append_assoc, dec_code _ _ c n1, dec_id _ n2]
    simp [hc]
theorem hxs_len8 (a : List Nat) (h : ∀ x ∈ a, x < 65536) (o k : Nat) (hk : k ≤ 8) : (hxs (fun j => a.getD (o + j) 0) k).length ≤ 40 := by
  have := hxs_len (fun j => a.getD (o + j) 0) (fun i => by
    show a.getD (o + i) 0 < 65536
    rw [List.getD_eq_getElem?_getD]
    cases h2 : a[o + i]? with
    | none => simp
    | some y => exact h y (List.mem_of_getElem? h2)) k
  omega
theorem brk_len (a : List Nat) (ha : a.length = 8) (h : ∀ x ∈ a, x < 65536) : (brk a).length ≤ 100 := by
  have hle := longest_le a ha
  have h1 := hxs_len8 a h 0 (longest a).1 (by omega)
  have h2 := hxs_len8 a h (longest a).2 (8 - (longest a).2) (by omega)
  simp only [Nat.zero_add] at h1
  unfold brk text6
  simp only [List.length_append, List.length_cons, List.length_nil]
  split
  · simp only [List.length_cons, List.length_nil]
    omega
  · simp only [List.length_nil]
    omega
theorem prs_len (l a : List UInt8) (er : Bool) (h : prs l = (a, er)) (hl : l.length ≤ 10000) : a.length ≤ 100000 := by
  unfold prs at h
  split at h
  · unfold prb at h
    split at h
    · split at h
      · rename_i ad hi
        cases h
        obtain ⟨h1, h2⟩ := ip6_ok _ ad hi
        have := brk_len ad h1 h2
        omega
      · cases h
        simp
    · cases h
      simp
  · unfold nam at h
    split at h
    · split at h
      · cases h
        simp
      · split at h
        · cases h
          have := tx_len (byt (ip4 (low (dec l))).1) (byt_lt _) 4
          show (tx _ 4).length ≤ _
          omega
        · cases h
          rw [low_length]
          have := dec_len l.length l (Nat.le_refl _)
          omega
    · cases h
      simp
end Go.Proofs.YtcfgcakmffkpmaaDoor
