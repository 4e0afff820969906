/-
  An error that a reading has found stays, and its place; how far a reading goes. Mathematics only.
-/
import Derived.Test.YtjgcodnabgkjoaaDoorDecL
namespace Go.Proofs.YtjgcodnabgkjoaaDoor
open Go.RowKit

theorem ckE_stk (l : List UInt8) (a e x y : Nat) (h : e ≠ 0) : ckE l a e x y = e := by rw [ckE, if_pos h]
theorem tkA_stk (l : List UInt8) (a e x y : Nat) (h : e ≠ 0) : tkA l a e x y = a := by rw [tkA, ckE_stk _ _ _ _ _ h, if_neg h]
theorem nuR_stk (l : List UInt8) (a e : Nat) (h : e ≠ 0) : (nuR l a e).2 = (a, e) := by rw [nuR, if_pos h]
theorem idR_stk (f : Bool) (l : List UInt8) (a e : Nat) (h : e ≠ 0) : (idR f l a e).2 = (a, e) := by
  rw [idR, ckE_stk _ _ _ _ _ h, nuR_stk _ _ _ h]
theorem txR_stk (l t : List UInt8) (a e : Nat) (h : e ≠ 0) : (txR l t a e).2 = (a, e) := by rw [txR, if_pos h]
theorem smR_stk (b : Nat) (l : List UInt8) (a e : Nat) (h : e ≠ 0) : (smR b l a e).2 = (a, e) := by
  unfold smR
  split
  · simp [ckE_stk _ _ _ _ _ h, tkA_stk _ _ _ _ _ h]
  · simp [ckE_stk _ _ _ _ _ h, tkA_stk _ _ _ _ _ h]
theorem txS_stk (l : List UInt8) (ts : List (List UInt8)) (a e : Nat) (i : Nat) (h : (txS l ts a e i).2.2 ≠ 0) : ∀ j, (txS l ts a e (i + j)).2 = (txS l ts a e i).2
  | 0 => rfl
  | j + 1 => by
    have ih := txS_stk l ts a e i h j
    have h2 : (txS l ts a e (i + j)).2.2 ≠ 0 := by rw [ih]; exact h
    show (txR l _ (txS l ts a e (i + j)).2.1 (txS l ts a e (i + j)).2.2).2 = _
    rw [txR_stk _ _ _ _ h2, ← ih]
theorem nmS_stk (bl : List Nat) (l : List UInt8) (ns : List Int) (a e : Nat) (i : Nat) (h : (nmS bl l ns a e i).2.2 ≠ 0) : ∀ j, (nmS bl l ns a e (i + j)).2 = (nmS bl l ns a e i).2
  | 0 => rfl
  | j + 1 => by
    have ih := nmS_stk bl l ns a e i h j
    have h2 : (nmS bl l ns a e (i + j)).2.2 ≠ 0 := by rw [ih]; exact h
    rw [show i + (j + 1) = (i + j) + 1 from rfl, nmS]
    split
    · show (smR _ l (nmS bl l ns a e (i + j)).2.1 (nmS bl l ns a e (i + j)).2.2).2 = _
      rw [smR_stk _ _ _ _ h2, ← ih]
    · exact ih

theorem enE_stk (l : List UInt8) (a e : Nat) (h : e ≠ 0) : enE l a e = e := by rw [enE, if_neg (fun h2 => h h2.1)]

/-- An error in the numbers, in the texts, in the ID, in the time: it is the answer. -/
theorem d4_stk (l : List UInt8) (i : Nat) (hi : i ≤ 3) (h : (d4 l i).2.2 ≠ 0) : dA l = (d4 l i).2.1 ∧ dE l = (d4 l i).2.2 := by
  have h1 : (d4 l 3).2 = (d4 l i).2 := by
    have := nmS_stk _ l _ _ _ i h (3 - i)
    rw [show i + (3 - i) = 3 by omega] at this
    exact this
  rw [dA, dE, h1, enE_stk _ _ _ h]
  exact ⟨rfl, rfl⟩
theorem d3_stk (l : List UInt8) (i : Nat) (hi : i ≤ (hav (dK l)).texts) (h : (d3 l i).2.2 ≠ 0) : dA l = (d3 l i).2.1 ∧ dE l = (d3 l i).2.2 := by
  have h1 : (d3 l (hav (dK l)).texts).2 = (d3 l i).2 := by
    have := txS_stk l _ _ _ i h ((hav (dK l)).texts - i)
    rw [show i + ((hav (dK l)).texts - i) = (hav (dK l)).texts by omega] at this
    exact this
  have h2 : (d4 l 0).2 = (d3 l i).2 := h1
  have := d4_stk l 0 (by omega) (by rw [h2]; exact h)
  rw [h2] at this
  exact this
theorem d2_stk (l : List UInt8) (h : (d2 l).2.2 ≠ 0) : dA l = (d2 l).2.1 ∧ dE l = (d2 l).2.2 := d3_stk l 0 (by omega) h
theorem d1_stk (l : List UInt8) (h : (d1 l).2.2 ≠ 0) : dA l = (d1 l).2.1 ∧ dE l = (d1 l).2.2 := by
  have h1 : (d2 l).2 = ((d1 l).2.1, (d1 l).2.2) := idR_stk _ _ _ _ h
  have := d2_stk l (by rw [h1]; exact h)
  rw [h1] at this
  exact this
theorem dV_bad (l : List UInt8) (h : dE l ≠ 0) : dV l = ev0 := by rw [dV, if_neg h]

/-- How far. -/
theorem tkA_le (l : List UInt8) (a e x y : Nat) (h : a ≤ l.length) : tkA l a e x y ≤ l.length := by
  unfold tkA
  split
  · rename_i h1
    have := (ckE_zero h1).2.1
    omega
  · exact h
theorem nuR_le (l : List UInt8) (a e : Nat) (h : a ≤ l.length) : (nuR l a e).2.1 ≤ l.length := by
  unfold nuR
  split
  · exact h
  · have := (getS_place (l.drop a)).1
    rw [List.length_drop] at this
    simp only
    omega
theorem txR_le (l t : List UInt8) (a e : Nat) (h : a ≤ l.length) : (txR l t a e).2.1 ≤ l.length := by
  unfold txR
  split
  · exact h
  · have := (textS_place (l.drop a) 4096).1
    rw [List.length_drop] at this
    simp only
    omega
theorem smR_le (b : Nat) (l : List UInt8) (a e : Nat) (h : a ≤ l.length) : (smR b l a e).2.1 ≤ l.length := by
  unfold smR
  split
  · exact tkA_le _ _ _ _ _ (tkA_le _ _ _ _ _ h)
  · exact tkA_le _ _ _ _ _ h
theorem d1_le (l : List UInt8) : (d1 l).2.1 ≤ l.length := nuR_le _ _ _ (tkA_le _ _ _ _ _ (Nat.zero_le _))
theorem d2_le (l : List UInt8) : (d2 l).2.1 ≤ l.length := nuR_le _ _ _ (d1_le l)
theorem d3_le (l : List UInt8) : ∀ i, (d3 l i).2.1 ≤ l.length
  | 0 => d2_le l
  | i + 1 => txR_le _ _ _ _ (d3_le l i)
theorem d4_le (l : List UInt8) : ∀ i, (d4 l i).2.1 ≤ l.length
  | 0 => d3_le l _
  | i + 1 => by
    have ih := d4_le l i
    unfold d4 at ih ⊢
    rw [nmS]
    split
    · exact smR_le _ _ _ _ ih
    · exact ih

/-- A step without an error so far. -/
theorem d3_succ (l : List UInt8) (i : Nat) (h : (d3 l i).2.2 = 0) :
    d3 l (i + 1) = ((d3 l i).1.set i (textS (l.drop (d3 l i).2.1) 4096).1, (d3 l i).2.1 + (textS (l.drop (d3 l i).2.1) 4096).2.1, (textS (l.drop (d3 l i).2.1) 4096).2.2) := by
  have h' : ¬ ((txS l [[], [], [], []] (d2 l).2.1 (d2 l).2.2 i).2.2 ≠ 0) := fun h2 => h2 h
  unfold d3
  rw [txS, txR, if_neg h']
theorem d4_succ (l : List UInt8) (i : Nat) (hb : 0 < (hav (dK l)).bl.getD i 0) :
    d4 l (i + 1) = ((d4 l i).1.set i ((smR ((hav (dK l)).bl.getD i 0) l (d4 l i).2.1 (d4 l i).2.2).1 : Int), (smR ((hav (dK l)).bl.getD i 0) l (d4 l i).2.1 (d4 l i).2.2).2) := by
  unfold d4
  rw [nmS, if_pos hb]
theorem d4_skip (l : List UInt8) (i : Nat) (hb : (hav (dK l)).bl.getD i 0 = 0) : d4 l (i + 1) = d4 l i := by
  unfold d4
  rw [nmS, if_neg (by omega)]
theorem d2_ok (l : List UInt8) (h : (d1 l).2.2 = 0) (b : Nat) (hb : b = ckE l (d1 l).2.1 0 (if (hav (dK l)).fetch = true then 1 else 0) (if (hav (dK l)).fetch = true then 255 else 0)) :
    d2 l = if b ≠ 0 then (0, (d1 l).2.1, b) else ((getS (l.drop (d1 l).2.1)).1, (d1 l).2.1 + (getS (l.drop (d1 l).2.1)).2.1, (getS (l.drop (d1 l).2.1)).2.2) := by
  rw [d2, h, idR, ← hb, nuR]
end Go.Proofs.YtjgcodnabgkjoaaDoor
