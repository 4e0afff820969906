/-
  The mathematics of an IPv6 written with a gap, and of the reference's longest row of noughts. No program, no condition.
-/
import Derived.Test.YtcfgcakmffkpmaaDoorSixm
namespace Go.Proofs.YtcfgcakmffkpmaaDoor
open Go.RowKit

/-- A colon is wanted behind: there is a text, and no colon at its end. -/
def sep (X : List UInt8) : Bool := X.getLast?.getD 58 != 58
/-- The text of the first pieces, with a gap from p to t. -/
def tg (f : Nat → List UInt8) (p t : Nat) : Nat → List UInt8
  | 0 => []
  | i + 1 => if p ≤ i ∧ i < t then (if i = p then tg f p t i ++ [58, 58] else tg f p t i) else (if sep (tg f p t i) then tg f p t i ++ [58] else tg f p t i) ++ f i
theorem sep_app (X m : List UInt8) (hm : m ≠ []) (h : (58 : UInt8) ∉ m) : sep (X ++ m) = true := by
  unfold sep
  rw [List.getLast?_append]
  cases hl : m.getLast? with
  | none => exact absurd (List.getLast?_eq_none_iff.1 hl) hm
  | some c =>
    have hc := List.mem_of_getLast? hl
    simp only [Option.some_or, Option.getD_some, bne_iff_ne, ne_eq]
    intro e
    exact h (e ▸ hc)
theorem sep_colon (X : List UInt8) : sep (X ++ [58, 58]) = false := by
  unfold sep
  rw [List.getLast?_append]
  rfl
theorem sep_jc (X : List UInt8) (g : Nat → List UInt8) (g1 : ∀ j, g j ≠ []) (g2 : ∀ j, (58 : UInt8) ∉ g j) (k : Nat) : sep (X ++ jc g (k + 1)) = true := by
  rw [jc, ← List.append_assoc]
  exact sep_app _ _ (g1 k) (g2 k)
section
variable (f : Nat → List UInt8) (h1 : ∀ j, f j ≠ []) (h2 : ∀ j, (58 : UInt8) ∉ f j)
include h1 h2
theorem tg_low (p t : Nat) : ∀ i, i ≤ p → tg f p t i = jc f i
  | 0, _ => rfl
  | i + 1, h => by
    rw [tg, if_neg (by omega), tg_low p t i (by omega), jc]
    cases i with
    | zero => simp [sep, jc]
    | succ k =>
      have := sep_jc [] f h1 h2 k
      rw [List.nil_append] at this
      rw [if_pos this, if_neg (by omega)]
theorem tg_mid (p t : Nat) (hpt : p < t) : ∀ i, p < i → i ≤ t → tg f p t i = jc f p ++ [58, 58]
  | 0, h, _ => by omega
  | i + 1, h, ht => by
    rw [tg, if_pos (by omega)]
    by_cases hi : i = p
    · rw [if_pos hi, hi, tg_low f h1 h2 p t p (by omega)]
    · rw [if_neg hi]
      exact tg_mid p t hpt i (by omega) (by omega)
theorem tg_high (p t : Nat) (hpt : p < t) : ∀ m, tg f p t (t + m) = jc f p ++ [58, 58] ++ jc (fun j => f (t + j)) m
  | 0 => by
    rw [Nat.add_zero, tg_mid f h1 h2 p t hpt t hpt (Nat.le_refl _)]
    simp [jc]
  | m + 1 => by
    rw [← Nat.add_assoc, tg, if_neg (by omega), tg_high p t hpt m, jc]
    cases m with
    | zero =>
      have : sep (jc f p ++ [58, 58] ++ jc (fun j => f (t + j)) 0) = false := by
        rw [jc, List.append_nil]
        exact sep_colon _
      rw [this, if_pos rfl]
      simp
    | succ k =>
      rw [if_pos (sep_jc _ _ (fun j => h1 _) (fun j => h2 _) k), if_neg (by omega)]
      simp
theorem tg_gap (p t : Nat) (hpt : p < t) (ht : t ≤ 8) : tg f p t 8 = jc f p ++ 58 :: 58 :: jc (fun j => f (t + j)) (8 - t) := by
  have := tg_high f h1 h2 p t hpt (8 - t)
  rw [show t + (8 - t) = 8 by omega] at this
  rw [this]
  simp
end
theorem tg_text6 (a : List Nat) (ha : a.length = 8) : tg (fun j => hexL (a.getD j 0)) (longest a).1 (longest a).2 8 = text6 a := by
  obtain ⟨_, hft⟩ := longest_zero a ha
  have hle := longest_le a ha
  unfold text6
  rw [hxs_jc, hxs_jc]
  rcases hft with hft | ⟨e1, e2⟩
  · rw [if_pos hft, tg_gap _ (fun j => hexL_ne _) (fun j => hexL_no58 _) _ _ hft hle.2]
    simp
  · rw [e1, e2, if_neg (by omega), tg_low _ (fun j => hexL_ne _) (fun j => hexL_no58 _) 8 8 8 (Nat.le_refl _)]
    simp [jc]
theorem pc_nil : pc [] = none := by simp [pc]
theorem pcl_end (e : Bool) : ∀ ps : List (List UInt8), pcl e (ps ++ [[]]) = none
  | [] => by
    rw [List.nil_append, pcl_last e [] (by simp), pc_nil]
    rfl
  | [p] => by
    have ih := pcl_end e []
    rw [List.nil_append] at ih
    show pcl e (p :: [] :: []) = none
    rw [pcl, ih]
    cases pc p <;> rfl
  | p :: q :: r => by
    have ih := pcl_end e (q :: r)
    rw [List.cons_append] at ih
    rw [List.cons_append, List.cons_append, pcl, ih]
    cases pc p <;> rfl
/-- Two gaps are none's. -/
theorem ip6_two (l R : List UInt8) (h : okH l = true) : ip6 (l ++ 58 :: 58 :: R ++ [58, 58]) = none := by
  have e : l ++ 58 :: 58 :: R ++ [58, 58] = l ++ 58 :: 58 :: (R ++ [58] ++ 58 :: []) := by simp
  have hp : pcs true (R ++ [58] ++ 58 :: []) = none := by
    unfold pcs
    rw [if_neg (by simp), spl_snoc 58 [] (by simp)]
    exact pcl_end true _
  unfold ip6
  rw [e, cut_hit l _ h]
  simp only [hp]
  cases pcs (!true) l <;> rfl

/-- The noughts at the beginning. -/
def zr : List Nat → Nat
  | [] => 0
  | n :: r => if n = 0 then zr r + 1 else 0
/-- The reference's longest row: where it begins (8: nowhere), and its length. -/
def r6 (i p s : Nat) : List Nat → Nat × Nat
  | [] => (p, s)
  | n :: r => if s < zr (n :: r) then r6 (i + 1) i (zr (n :: r)) r else r6 (i + 1) p s r
def nz (n : Nat) : Nat := bif n == 0 then 0 else 1
theorem nz_zero (n : Nat) : nz n = 0 ↔ n = 0 := by
  unfold nz
  cases h : (n == 0)
  · simp at h
    simp [h]
  · simp at h
    simp [h]
theorem zr_nz : ∀ l : List Nat, zr (l.map nz) = zr l
  | [] => rfl
  | n :: r => by
    rw [List.map_cons, zr, zr, zr_nz r]
    simp only [nz_zero]
theorem lr_nz : ∀ (l : List Nat) (i st fr to mo : Nat), lr i st fr to mo (l.map nz) = lr i st fr to mo l
  | [], _, _, _, _, _ => rfl
  | n :: r, i, st, fr, to, mo => by
    rw [List.map_cons, lr, lr, lr_nz r, lr_nz r, lr_nz r]
    simp only [ne_eq, nz_zero]
theorem r6_nz : ∀ (l : List Nat) (i p s : Nat), r6 i p s (l.map nz) = r6 i p s l
  | [], _, _, _ => rfl
  | n :: r, i, p, s => by
    have := zr_nz (n :: r)
    rw [List.map_cons] at this
    rw [List.map_cons, r6, r6, r6_nz r, r6_nz r, this]
set_option maxRecDepth 100000 in
theorem rows_bool : ∀ a b c d e f g h : Bool, lr 0 0 8 8 1 [bif a then 0 else 1, bif b then 0 else 1, bif c then 0 else 1, bif d then 0 else 1, bif e then 0 else 1, bif f then 0 else 1, bif g then 0 else 1, bif h then 0 else 1] =
    ((r6 0 8 1 [bif a then 0 else 1, bif b then 0 else 1, bif c then 0 else 1, bif d then 0 else 1, bif e then 0 else 1, bif f then 0 else 1, bif g then 0 else 1, bif h then 0 else 1]).1,
      if (r6 0 8 1 [bif a then 0 else 1, bif b then 0 else 1, bif c then 0 else 1, bif d then 0 else 1, bif e then 0 else 1, bif f then 0 else 1, bif g then 0 else 1, bif h then 0 else 1]).1 = 8 then 8 else (r6 0 8 1 [bif a then 0 else 1, bif b then 0 else 1, bif c then 0 else 1, bif d then 0 else 1, bif e then 0 else 1, bif f then 0 else 1, bif g then 0 else 1, bif h then 0 else 1]).1 + (r6 0 8 1 [bif a then 0 else 1, bif b then 0 else 1, bif c then 0 else 1, bif d then 0 else 1, bif e then 0 else 1, bif f then 0 else 1, bif g then 0 else 1, bif h then 0 else 1]).2) := by decide +kernel
theorem longest_r6 (a : List Nat) (ha : a.length = 8) : longest a = ((r6 0 8 1 a).1, if (r6 0 8 1 a).1 = 8 then 8 else (r6 0 8 1 a).1 + (r6 0 8 1 a).2) := by
  unfold longest
  rw [← lr_nz, ← r6_nz]
  match a, ha with
  | [a, b, c, d, e, f, g, h], _ => exact rows_bool (a == 0) (b == 0) (c == 0) (d == 0) (e == 0) (f == 0) (g == 0) (h == 0)
/-- The pieces from p to t made noughts, as far as i. -/
def az (a : List Nat) (p t : Nat) : Nat → List Nat
  | 0 => a
  | i + 1 => if p ≤ i ∧ i < t then (az a p t i).set i 0 else az a p t i
theorem az_len (a : List Nat) (p t : Nat) : ∀ i, (az a p t i).length = a.length
  | 0 => rfl
  | i + 1 => by
    rw [az]
    split
    · rw [List.length_set, az_len]
    · exact az_len a p t i
theorem az_get (a : List Nat) (p t : Nat) : ∀ i j, (az a p t i).getD j 0 = if p ≤ j ∧ j < t ∧ j < i then 0 else a.getD j 0
  | 0, j => by rw [az, if_neg (by omega)]
  | i + 1, j => by
    have ih := az_get a p t i j
    rw [az]
    split
    · rename_i h
      by_cases hj : j = i
      · subst hj
        rw [if_pos (by omega)]
        simp only [List.getD_eq_getElem?_getD, List.getElem?_set_self']
        cases (az a p t j)[j]? <;> rfl
      · rw [List.getD_eq_getElem?_getD, List.getElem?_set_ne (Ne.symm hj), ← List.getD_eq_getElem?_getD, ih]
        by_cases h3 : p ≤ j ∧ j < t ∧ j < i
        · rw [if_pos h3, if_pos (by omega)]
        · rw [if_neg h3, if_neg (by omega)]
    · rename_i h
      rw [ih]
      by_cases h3 : p ≤ j ∧ j < t ∧ j < i
      · rw [if_pos h3, if_pos (by omega)]
      · rw [if_neg h3, if_neg (by omega)]
theorem az_lt (a : List Nat) (p t i : Nat) (h : ∀ x ∈ a, x < 65536) : ∀ x ∈ az a p t i, x < 65536 := by
  intro x hx
  obtain ⟨j, hj, rfl⟩ := List.getElem_of_mem hx
  have e := az_get a p t i j
  rw [List.getD_eq_getElem?_getD, List.getElem?_eq_getElem hj, Option.getD_some] at e
  rw [e]
  split
  · omega
  · exact getD_lt a h j
/-- With the gap it is the address with the noughts. -/
theorem ip6_short (a : List Nat) (ha : a.length = 8) (h : ∀ x ∈ a, x < 65536) (p t : Nat) (hpt : p < t) (ht : t ≤ 8) : ip6 (tg (fun j => hexL (a.getD j 0)) p t 8) = some (az a p t 8) := by
  rw [tg_gap _ (fun j => hexL_ne _) (fun j => hexL_no58 _) p t hpt ht, ip6_gap _ _ (fun j => a.getD j 0) (fun j => a.getD (t + j) 0) (fun j => hexL_ne _) (fun j => hexL_no58 _) (fun j => hexL_no46 _) (fun j => hexL_ne _) (fun j => hexL_no58 _) (fun j => hexL_no46 _) _ _ (by omega) (fun j _ => pc_hexL _ (getD_lt a h _)) (fun j _ => pc_hexL _ (getD_lt a h _))]
  have hg := gap_is (az a p t 8) (by rw [az_len, ha]) p t (by omega) ht (fun j h1 h2 => by rw [az_get, if_pos ⟨h1, h2, by omega⟩])
  rw [← hg]
  congr 2
  · congr 1
    refine List.map_congr_left fun j hj => ?_
    rw [List.mem_range] at hj
    rw [az_get, if_neg (by omega)]
  · refine List.map_congr_left fun j hj => ?_
    rw [az_get, if_neg (by omega)]
theorem ip6_short2 (a : List Nat) (p t : Nat) (hpt : p < t) (ht : t ≤ 8) : ip6 (tg (fun j => hexL (a.getD j 0)) p t 8 ++ [58, 58]) = none := by
  rw [tg_gap _ (fun j => hexL_ne _) (fun j => hexL_no58 _) p t hpt ht]
  exact ip6_two _ _ (jc_okH _ (fun j => hexL_ne _) (fun j => hexL_no58 _) p)
end Go.Proofs.YtcfgcakmffkpmaaDoor
