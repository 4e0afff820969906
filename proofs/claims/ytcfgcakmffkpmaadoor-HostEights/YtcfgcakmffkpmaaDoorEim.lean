/-
  The mathematics of an IPv6 written in full, in upper case, and shortest. No program, no condition.
-/
import Derived.Test.YtcfgcakmffkpmaaDoorSixm
namespace Go.Proofs.YtcfgcakmffkpmaaDoor
open Go.RowKit

/-- A letter in upper case. -/
def uc (c : UInt8) : UInt8 := if 97 ≤ c.toNat then UInt8.ofNat (c.toNat - 32) else c
/-- The last four bytes of a piece with noughts ahead. -/
def pad (u : Nat) : List UInt8 := ([48, 48, 48] ++ hexL u).drop (([48, 48, 48] ++ hexL u).length - 4)
def up4 (u : Nat) : List UInt8 := (pad u).map uc
theorem hexL_pos (u : Nat) : 1 ≤ (hexL u).length := List.length_pos_iff.2 (hexL_ne u)
theorem pad_is (u : Nat) (h : u < 65536) : pad u = List.replicate (4 - (hexL u).length) 48 ++ hexL u := by
  have h1 := hexL_pos u
  have h4 := hexL_len4 u h
  unfold pad
  have e : ([48, 48, 48] : List UInt8) = List.replicate 3 48 := rfl
  rw [e, List.length_append, List.length_replicate, List.drop_append_of_le_length (by simp; omega), List.drop_replicate]
  congr 2
  omega
theorem pad_len (u : Nat) (h : u < 65536) : (pad u).length = 4 := by
  have h4 := hexL_len4 u h
  rw [pad_is u h]
  simp
  omega
theorem pad_mem (u : Nat) (h : u < 65536) : ∀ c ∈ pad u, ∃ d, d < 16 ∧ c = hx d := by
  intro c hc
  rw [pad_is u h] at hc
  rcases List.mem_append.1 hc with hc | hc
  · exact ⟨0, by omega, List.eq_of_mem_replicate hc⟩
  · rw [← bsd_hexL] at hc
    exact bsd_mem 16 (by omega) (by omega) u c hc
theorem dig_uc : ∀ d, d < 16 → dig (uc (hx d)) = dig (hx d) := by decide
theorem val_uc : ∀ (l : List UInt8) (n : Nat), (∀ c ∈ l, ∃ d, d < 16 ∧ c = hx d) → val 16 n (l.map uc) = val 16 n l
  | [], _, _ => rfl
  | c :: r, n, h => by
    obtain ⟨d, hd, rfl⟩ := h c (by simp)
    rw [List.map_cons, val, val, dig_uc d hd]
    split
    · exact val_uc r _ (fun c hc => h c (List.mem_cons_of_mem _ hc))
    · rfl
theorem val_zeros (l : List UInt8) : ∀ k, val 16 0 (List.replicate k 48 ++ l) = val 16 0 l
  | 0 => rfl
  | k + 1 => by
    rw [List.replicate_succ, List.cons_append, val]
    have e : dig 48 = 0 := by decide
    rw [e, if_pos (by omega)]
    exact val_zeros l k
theorem pc_up4 (u : Nat) (h : u < 65536) : pc (up4 u) = some u := by
  have hl : (up4 u).length = 4 := by unfold up4; rw [List.length_map]; exact pad_len u h
  unfold pc
  rw [if_neg (by
    rintro (e | e)
    · rw [e] at hl
      simp at hl
    · omega)]
  unfold up4
  rw [val_uc _ _ (pad_mem u h), pad_is u h, val_zeros, ← bsd_hexL]
  exact val_bsd 16 (by omega) (by omega) u (by omega)
theorem up4_not (u : Nat) (h : u < 65536) (c : UInt8) (hc : ∀ d, d < 16 → uc (hx d) ≠ c) : c ∉ up4 u := by
  intro hm
  unfold up4 at hm
  obtain ⟨x, hx', rfl⟩ := List.mem_map.1 hm
  obtain ⟨d, hd, rfl⟩ := pad_mem u h x hx'
  exact hc d hd rfl
theorem up4_ne (u : Nat) (h : u < 65536) : up4 u ≠ [] := by
  intro e
  have : (up4 u).length = 4 := by unfold up4; rw [List.length_map]; exact pad_len u h
  rw [e] at this
  simp at this
theorem ip6_of_full (a : List Nat) (ha : a.length = 8) (f : Nat → List UInt8) (h1 : ∀ j, f j ≠ []) (h2 : ∀ j, (58 : UInt8) ∉ f j) (h3 : ∀ j, (46 : UInt8) ∉ f j) (hx : ∀ j, j < 8 → pc (f j) = some (a.getD j 0)) : ip6 (jc f 8) = some a := by
  rw [ip6_full f (fun j => a.getD j 0) h1 h2 h3 hx]
  have := range_getD a
  rw [ha] at this
  rw [this]

/-- How often two colons stand beside one another. -/
def dbl : List UInt8 → Nat
  | [] => 0
  | a :: r => (if a = 58 ∧ r.head? = some 58 then 1 else 0) + dbl r
theorem dbl_okH (m : List UInt8) : ∀ l : List UInt8, okH l = true → dbl (l ++ m) = dbl m
  | [], _ => rfl
  | [a], h => by
    have h1 : a ≠ 58 := by simpa [okH] using h
    simp [dbl, h1]
  | a :: b :: r, h => by
    rw [okH, Bool.and_eq_true] at h
    have ih := dbl_okH m (b :: r) h.2
    rw [List.cons_append, dbl, ih]
    have h1 : ¬ (a = 58 ∧ (b :: r ++ m).head? = some 58) := by
      rintro ⟨e1, e2⟩
      have e2 : b = 58 := by simpa using e2
      subst e1 e2
      exact absurd h.1 (by decide)
    rw [if_neg h1]
    omega
theorem jc_head (f : Nat → List UInt8) (h1 : ∀ j, f j ≠ []) (h2 : ∀ j, (58 : UInt8) ∉ f j) : ∀ k, (jc f k ++ [93]).head? ≠ some 58
  | 0 => by simp [jc]
  | 1 => by
    rw [jc_one]
    cases hf : f 0 with
    | nil => exact absurd hf (h1 0)
    | cons x r =>
      have := h2 0
      rw [hf] at this
      simp only [List.cons_append, List.head?_cons, ne_eq, Option.some.injEq]
      exact fun e => this (by simp [e])
  | k + 2 => by
    have ih := jc_head f h1 h2 (k + 1)
    rw [jc_more]
    cases hj : jc f (k + 1) with
    | nil => exact absurd hj (jc_ne f h1 k)
    | cons x r =>
      rw [hj] at ih
      simpa using ih
theorem jc_count (f : Nat → List UInt8) (h2 : ∀ j, (58 : UInt8) ∉ f j) : ∀ k, (jc f (k + 1)).count 58 = k
  | 0 => by
    rw [jc_one]
    exact List.count_eq_zero.2 (h2 0)
  | k + 1 => by
    rw [jc_more, List.count_append, jc_count f h2 k, List.count_cons_self, List.count_eq_zero.2 (h2 _)]
def sumf (f : Nat → List UInt8) : Nat → Nat
  | 0 => 0
  | k + 1 => sumf f k + (f k).length
theorem jc_len (f : Nat → List UInt8) : ∀ k, (jc f k).length = sumf f k + (k - 1)
  | 0 => rfl
  | 1 => by rw [jc_one]; simp [sumf]
  | k + 2 => by
    rw [jc_more, List.length_append, jc_len f (k + 1), sumf]
    simp [sumf]
    omega
theorem sumf_split (f : Nat → List UInt8) (k : Nat) : ∀ m, sumf f (k + m) = sumf f k + sumf (fun j => f (k + j)) m
  | 0 => rfl
  | m + 1 => by
    rw [← Nat.add_assoc, sumf, sumf_split f k m, sumf]
    omega
theorem sumf_ge (f : Nat → List UInt8) (h : ∀ j, 1 ≤ (f j).length) : ∀ m, m ≤ sumf f m
  | 0 => Nat.le_refl _
  | m + 1 => by
    have := sumf_ge f h m
    have := h m
    rw [sumf]
    omega
/-- What is promised of the shortest text. -/
theorem eights (a : List Nat) (ha : a.length = 8) : dbl (brk a) ≤ 1 ∧ (dbl (brk a) = 1 ∨ (brk a).count 58 = 7) ∧ (brk a).length ≤ (hxs (fun j => a.getD j 0) 8).length + 2 ∧ 4 ≤ (brk a).length := by
  obtain ⟨_, hft⟩ := longest_zero a ha
  have hle := longest_le a ha
  have hb : brk a = 91 :: (text6 a ++ [93]) := rfl
  unfold text6 at hb
  rw [hxs_jc, hxs_jc] at hb
  obtain ⟨f, hf⟩ : ∃ f : Nat → List UInt8, f = fun j => hexL (a.getD j 0) := ⟨_, rfl⟩
  have h1 : ∀ j, f j ≠ [] := fun j => by rw [hf]; exact hexL_ne _
  have h2 : ∀ j, (58 : UInt8) ∉ f j := fun j => by rw [hf]; exact hexL_no58 _
  have h3 : ∀ j, 1 ≤ (f j).length := fun j => List.length_pos_iff.2 (h1 j)
  have hg : (fun j => hexL (a.getD ((longest a).2 + j) 0)) = fun j => f ((longest a).2 + j) := by rw [hf]
  rw [hxs_jc, ← hf]
  rw [← hf, hg] at hb
  obtain ⟨p, hp⟩ : ∃ p, p = (longest a).1 := ⟨_, rfl⟩
  obtain ⟨t, ht⟩ : ∃ t, t = (longest a).2 := ⟨_, rfl⟩
  rw [← hp, ← ht] at hb hft hle
  rcases hft with hft | ⟨e1, e2⟩
  · rw [if_pos hft] at hb
    have hb2 : brk a = 91 :: (jc f p ++ (58 :: 58 :: (jc (fun j => f (t + j)) (8 - t) ++ [93]))) := by rw [hb]; simp
    have hd : dbl (brk a) = 1 := by
      rw [hb2, dbl, if_neg (fun e => absurd e.1 (by decide)), dbl_okH _ _ (jc_okH f h1 h2 p), dbl, if_pos ⟨rfl, rfl⟩, dbl, if_neg (fun e => jc_head (fun j => f (t + j)) (fun j => h1 _) (fun j => h2 _) (8 - t) e.2), dbl_okH _ _ (jc_okH _ (fun j => h1 _) (fun j => h2 _) _)]
      decide
    refine ⟨by omega, .inl hd, ?_, ?_⟩
    · rw [hb2]
      simp only [List.length_cons, List.length_append, List.length_nil, jc_len]
      have s1 := sumf_split f p (8 - p)
      have s2 := sumf_split (fun j => f (p + j)) (t - p) (8 - t)
      have s3 := sumf_ge (fun j => f (p + j)) (fun j => h3 _) (t - p)
      rw [show p + (8 - p) = 8 by omega] at s1
      rw [show t - p + (8 - t) = 8 - p by omega] at s2
      have e : (fun j => (fun j => f (p + j)) (t - p + j)) = fun j => f (t + j) := by
        funext j
        show f (p + (t - p + j)) = f (t + j)
        congr 1
        omega
      rw [e] at s2
      omega
    · rw [hb2]
      simp
      omega
  · rw [e1, e2, if_neg (by omega)] at hb
    have hb2 : brk a = 91 :: (jc f 8 ++ [93]) := by rw [hb]; simp [jc]
    have hd : dbl (brk a) = 0 := by
      rw [hb2, dbl, if_neg (fun e => absurd e.1 (by decide)), dbl_okH _ _ (jc_okH f h1 h2 8)]
      decide
    refine ⟨by omega, .inr ?_, ?_, ?_⟩
    · rw [hb2, List.count_cons_of_ne (by decide), List.count_append, jc_count f h2 7]
      decide
    · rw [hb2]
      simp
    · rw [hb2]
      have := jc_len f 8
      simp
      omega
end Go.Proofs.YtcfgcakmffkpmaaDoor
