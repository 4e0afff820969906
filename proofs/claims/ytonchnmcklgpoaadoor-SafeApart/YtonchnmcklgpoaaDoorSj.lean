/-
  The mathematics of values that are cut, and of ranges. No program, no condition.
-/
import Derived.Test.YtonchnmcklgpoaaDoorSm
namespace Go.Proofs.YtonchnmcklgpoaaDoor
open Go.RowKit
set_option linter.unusedVariables false

theorem hdr_acc (v : List UInt8) : hdr kAcc v = (decide (v.length ≤ 128) && cln v) := rfl
theorem hdr_al (v : List UInt8) : hdr kAL v = (decide (v.length ≤ 128) && lng v) := rfl
theorem hdr_cl (v : List UInt8) : hdr kCL v = (decide (v.length ≤ 128) && lng v) := rfl
theorem hdr_ct (v : List UInt8) : hdr kCT v = (decide (v.length ≤ 128) && (cln v && plB v)) := rfl
theorem hdr_rg (v : List UInt8) : hdr kRg v = (decide (v.length ≤ 128) && rgB v) := rfl
theorem all_sub (p : UInt8 → Bool) (l m : List UInt8) (h : ∀ x ∈ m, x ∈ l) (hl : l.all p = true) : m.all p = true := by
  rw [List.all_eq_true] at hl ⊢
  exact fun x hx => hl x (h x hx)
theorem acc_cut (v p : List UInt8) (h : ∀ x ∈ p, x ∈ v) (hl : p.length ≤ v.length) (hv : hdr kAcc v = true) : hdr kAcc p = true := by
  rw [hdr_acc, Bool.and_eq_true, decide_eq_true_eq] at hv ⊢
  exact ⟨by omega, all_sub _ v p h hv.2⟩
theorem al_cut (v p : List UInt8) (h : ∀ x ∈ p, x ∈ v) (hl : p.length ≤ v.length) (hv : hdr kAL v = true) : hdr kCL p = true := by
  rw [hdr_al, Bool.and_eq_true, decide_eq_true_eq] at hv
  rw [hdr_cl, Bool.and_eq_true, decide_eq_true_eq]
  exact ⟨by omega, all_sub _ v p h hv.2⟩
theorem all_bad (p : UInt8 → Bool) (l : List UInt8) (c : UInt8) (h : p c = false) : (l ++ [c]).all p = false := by
  rw [List.all_append, List.all_cons, h]
  simp
theorem acc_bad (p : List UInt8) : hdr kAcc (p ++ [40]) = false := by
  rw [hdr_acc, show cln (p ++ [40]) = false from all_bad _ p 40 (by decide), Bool.and_false]
theorem ct_bad (p : List UInt8) : hdr kCT (p ++ [123]) = false := by
  rw [hdr_ct, show cln (p ++ [123]) = false from all_bad _ p 123 (by decide), Bool.false_and, Bool.and_false]
theorem cl_bad (p : List UInt8) : hdr kCL (p ++ [64]) = false := by
  rw [hdr_cl, show lng (p ++ [64]) = false from all_bad _ p 64 (by decide), Bool.and_false]
theorem bef_cover (c : UInt8) : ∀ (l : List UInt8) (x : UInt8), x ∈ l → x ∈ bef c l ∨ x = c ∨ x ∈ aft c l
  | [], x, h => by cases h
  | y :: r, x, h => by
    by_cases e : y = c
    · rw [bef, aft, if_pos e, if_pos e]
      rcases List.mem_cons.1 h with h | h
      · exact .inr (.inl (h.trans e))
      · exact .inr (.inr h)
    · rw [bef, aft, if_neg e, if_neg e]
      rcases List.mem_cons.1 h with h | h
      · exact .inl (by rw [h]; exact List.mem_cons_self)
      · rcases bef_cover c r x h with h | h | h
        · exact .inl (List.mem_cons_of_mem _ h)
        · exact .inr (.inl h)
        · exact .inr (.inr h)
theorem dg_mem {l : List UInt8} (h : dg l = true) : ∀ x ∈ l, isd x = true := by
  simp only [dg, Bool.and_eq_true, decide_eq_true_eq] at h
  exact List.all_eq_true.1 h.2
theorem rg_mem {v : List UInt8} (h : rgB v = true) : ∀ x ∈ v, x ∈ unitL ∨ x = 45 ∨ isd x = true := by
  simp only [rgB, Bool.and_eq_true, Bool.or_eq_true, decide_eq_true_eq] at h
  obtain ⟨⟨⟨h1, _⟩, h3⟩, h4⟩ := h
  intro x hx
  have h5 := (pre_iff v unitL).1 h1
  rw [← List.take_append_drop unitL.length v, List.mem_append, h5.2] at hx
  rcases hx with hx | hx
  · exact .inl hx
  · have h6 : rst v unitL = v.drop unitL.length := by rw [rst, if_pos h1]
    rw [← h6] at hx
    rcases bef_cover 45 _ x hx with hx | hx | hx
    · exact .inr (.inr (dg_mem h3 x hx))
    · exact .inr (.inl hx)
    · rcases h4 with h4 | h4
      · rw [rg2] at h4
        rw [h4] at hx
        cases hx
      · exact .inr (.inr (dg_mem h4.1 x hx))
theorem rg_bad (p : List UInt8) : hdr kRg (p ++ [34]) = false := by
  rw [hdr_rg]
  cases e : rgB (p ++ [34])
  · rw [Bool.and_false]
  · have h := rg_mem e 34 (by simp)
    exact absurd h (by decide)
theorem pre_app (p l : List UInt8) : pre (p ++ l) p = true := by
  rw [pre_iff]
  exact ⟨by rw [List.length_append]; omega, by simp⟩
theorem rst_app (p l : List UInt8) : rst (p ++ l) p = l := by
  rw [rst, if_pos (pre_app p l)]
  simp
theorem no_dash {l : List UInt8} (h : l.all isd = true) : (45 : UInt8) ∉ l := fun e => by
  have := List.all_eq_true.1 h 45 e
  exact absurd this (by decide)
/-- Two numbers in digits. -/
theorem rg_two (a b : List UInt8) (ha : dg a = true) (hb : dg b = true) : rgB (unitL ++ a ++ [45] ++ b) = decide (nv a ≤ nv b) := by
  have h1 := no_dash (l := a) (by simp only [dg, Bool.and_eq_true] at ha; exact ha.2)
  have e : unitL ++ a ++ [45] ++ b = unitL ++ (a ++ 45 :: b) := by simp
  have h2 := bef_mid 45 a b h1
  have r1 : rg1 (unitL ++ (a ++ 45 :: b)) = a := by rw [rg1, rst_app]; exact h2.1
  have r2 : rg2 (unitL ++ (a ++ 45 :: b)) = b := by rw [rg2, rst_app]; exact h2.2
  have hb0 : b ≠ [] := fun e0 => by rw [e0] at hb; exact absurd hb (by decide)
  have hna := (dg_nine ha).2
  have hnb := (dg_nine hb).2
  have m1 : nmv a 999999999 = (nv a : Int) := by rw [nmv_yes a _ ha]; omega
  have m2 : nmv b 999999999 = (nv b : Int) := by rw [nmv_yes b _ hb]; omega
  rw [e, rgB, r1, r2, pre_app, rst_app, ha, hb, m1, m2, decide_eq_false hb0]
  have hc : (a ++ 45 :: b).contains 45 = true := by simp
  rw [hc]
  simp
theorem rg_open (a : List UInt8) (ha : dg a = true) : rgB (unitL ++ a ++ [45]) = true := by
  have h1 := no_dash (l := a) (by simp only [dg, Bool.and_eq_true] at ha; exact ha.2)
  have e : unitL ++ a ++ [45] = unitL ++ (a ++ 45 :: []) := by simp
  have h2 := bef_mid 45 a [] h1
  have r1 : rg1 (unitL ++ (a ++ 45 :: [])) = a := by rw [rg1, rst_app]; exact h2.1
  have r2 : rg2 (unitL ++ (a ++ 45 :: [])) = [] := by rw [rg2, rst_app]; exact h2.2
  rw [e, rgB, r1, r2, pre_app, rst_app, ha]
  have hc : (a ++ 45 :: ([] : List UInt8)).contains 45 = true := by simp
  rw [hc]
  simp
theorem rg_first (b : List UInt8) : rgB (unitL ++ [45] ++ b) = false := by
  have e : unitL ++ [45] ++ b = unitL ++ (45 :: b) := by simp
  have r1 : rg1 (unitL ++ (45 :: b)) = [] := by rw [rg1, rst_app, bef, if_pos rfl]
  rw [e, rgB, r1, show dg [] = false by decide]
  simp
theorem rg_none (a b : List UInt8) (ha : dg a = true) : rgB (a ++ [45] ++ b) = false := by
  cases e : rgB (a ++ [45] ++ b)
  · rfl
  · simp only [rgB, Bool.and_eq_true] at e
    have h1 := (pre_iff _ _).1 e.1.1.1
    have ha2 : 1 ≤ a.length := by simp only [dg, Bool.and_eq_true, decide_eq_true_eq] at ha; exact ha.1.1
    cases a with
    | nil => simp at ha2
    | cons x r =>
      have h2 : x = 98 := by
        have := congrArg (fun l : List UInt8 => l[0]?) h1.2
        simpa [unitL] using this
      have h3 := dg_mem ha x List.mem_cons_self
      rw [h2] at h3
      exact absurd h3 (by decide)
end Go.Proofs.YtonchnmcklgpoaaDoor
