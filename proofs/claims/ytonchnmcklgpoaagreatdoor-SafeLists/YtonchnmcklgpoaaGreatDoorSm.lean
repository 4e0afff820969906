/-
  The mathematics of what needs no leave: safe values, names, methods; what of a list needs leave. No program, no condition.
-/
import Derived.Test.YtonchnmcklgpoaaGreatDoorEm
import Derived.Test.YtonchnmcklgpoaaGreatDoorFn
namespace Go.Proofs.YtonchnmcklgpoaaGreatDoor
open Go.RowKit
set_option linter.unusedVariables false

def kAcc : List UInt8 := [97, 99, 99, 101, 112, 116]
def kAL : List UInt8 := [97, 99, 99, 101, 112, 116, 45, 108, 97, 110, 103, 117, 97, 103, 101]
def kCL : List UInt8 := [99, 111, 110, 116, 101, 110, 116, 45, 108, 97, 110, 103, 117, 97, 103, 101]
def kCT : List UInt8 := [99, 111, 110, 116, 101, 110, 116, 45, 116, 121, 112, 101]
def kRg : List UInt8 := [114, 97, 110, 103, 101]
def oddL : List UInt8 := [34, 40, 41, 58, 60, 62, 63, 64, 91, 92, 93, 123, 125]
def lngL : List UInt8 := [42, 45, 46, 59, 61, 44, 32]
def unitL : List UInt8 := [98, 121, 116, 101, 115, 61]
def pxL : List UInt8 := [112, 114, 111, 120, 121, 45]
def scL : List UInt8 := [115, 101, 99, 45]
def knds : List (List UInt8) := [[97, 112, 112, 108, 105, 99, 97, 116, 105, 111, 110, 47, 120, 45, 119, 119, 119, 45, 102, 111, 114, 109, 45, 117, 114, 108, 101, 110, 99, 111, 100, 101, 100], [109, 117, 108, 116, 105, 112, 97, 114, 116, 47, 102, 111, 114, 109, 45, 100, 97, 116, 97], [116, 101, 120, 116, 47, 112, 108, 97, 105, 110]]
def nvrs : List (List UInt8) := [[97, 99, 99, 101, 112, 116, 45, 99, 104, 97, 114, 115, 101, 116], [97, 99, 99, 101, 112, 116, 45, 101, 110, 99, 111, 100, 105, 110, 103], [97, 99, 99, 101, 115, 115, 45, 99, 111, 110, 116, 114, 111, 108, 45, 114, 101, 113, 117, 101, 115, 116, 45, 104, 101, 97, 100, 101, 114, 115], [97, 99, 99, 101, 115, 115, 45, 99, 111, 110, 116, 114, 111, 108, 45, 114, 101, 113, 117, 101, 115, 116, 45, 109, 101, 116, 104, 111, 100], [99, 111, 110, 110, 101, 99, 116, 105, 111, 110], [99, 111, 110, 116, 101, 110, 116, 45, 108, 101, 110, 103, 116, 104], [99, 111, 111, 107, 105, 101], [99, 111, 111, 107, 105, 101, 50], [100, 97, 116, 101], [100, 110, 116], [101, 120, 112, 101, 99, 116], [104, 111, 115, 116], [107, 101, 101, 112, 45, 97, 108, 105, 118, 101], [111, 114, 105, 103, 105, 110], [114, 101, 102, 101, 114, 101, 114], [115, 101, 116, 45, 99, 111, 111, 107, 105, 101], [116, 101], [116, 114, 97, 105, 108, 101, 114], [116, 114, 97, 110, 115, 102, 101, 114, 45, 101, 110, 99, 111, 100, 105, 110, 103], [117, 112, 103, 114, 97, 100, 101], [118, 105, 97]]
def rdsL : List (List UInt8) := [[99, 97, 99, 104, 101, 45, 99, 111, 110, 116, 114, 111, 108], [99, 111, 110, 116, 101, 110, 116, 45, 108, 97, 110, 103, 117, 97, 103, 101], [99, 111, 110, 116, 101, 110, 116, 45, 108, 101, 110, 103, 116, 104], [99, 111, 110, 116, 101, 110, 116, 45, 116, 121, 112, 101], [101, 120, 112, 105, 114, 101, 115], [108, 97, 115, 116, 45, 109, 111, 100, 105, 102, 105, 101, 100], [112, 114, 97, 103, 109, 97]]
def hdnL : List (List UInt8) := [[115, 101, 116, 45, 99, 111, 111, 107, 105, 101], [115, 101, 116, 45, 99, 111, 111, 107, 105, 101, 50]]
def mth3 : List (List UInt8) := [[71, 69, 84], [72, 69, 65, 68], [80, 79, 83, 84]]
/-- An odd byte, by its number. -/
def oddB (c : UInt8) : Bool := (decide (c.toNat < 32) && !decide (c.toNat = 9)) || decide (c.toNat = 127) || oddL.contains c
def lngB (c : UInt8) : Bool := ((decide (65 ≤ c.toNat) && decide (c.toNat ≤ 90)) || (decide (97 ≤ c.toNat) && decide (c.toNat ≤ 122)) || (decide (48 ≤ c.toNat) && decide (c.toNat ≤ 57))) || lngL.contains c
/-- No odd byte. -/
def clnB (c : UInt8) : Bool := !oddB c
def cln (v : List UInt8) : Bool := v.all clnB
def lng (v : List UInt8) : Bool := v.all lngB
def plB (v : List UInt8) : Bool := knds.contains (esS v)
/-- Whether a text begins with another one. -/
def pre (l p : List UInt8) : Bool := decide (p.length ≤ l.length) && decide (l.take p.length = p)
/-- What is behind it, if it does. -/
def rst (l p : List UInt8) : List UInt8 := if pre l p then l.drop p.length else l
def rg1 (v : List UInt8) : List UInt8 := bef 45 (rst v unitL)
def rg2 (v : List UInt8) : List UInt8 := aft 45 (rst v unitL)
def rgB (v : List UInt8) : Bool := pre v unitL && (rst v unitL).contains 45 && dg (rg1 v) && (decide (rg2 v = []) || (dg (rg2 v) && decide (nmv (rg1 v) 999999999 ≤ nmv (rg2 v) 999999999)))
/-- Whether a value of a name, in small letters, is safe, its length aside. -/
def tst (n v : List UInt8) : Bool := if n = kAcc then cln v else if n = kAL then lng v else if n = kCL then lng v else if n = kCT then cln v && plB v else if n = kRg then rgB v else false
def keys5 : List (List UInt8) := [kAcc, kAL, kCL, kCT, kRg]
/-- Whether a header is safe. -/
def hdr (n v : List UInt8) : Bool := keys5.contains (low n) && decide (v.length ≤ 128) && tst (low n) v
def mtd (s : List UInt8) : Bool := mth3.contains (mth mths s)
def nvr (n : List UInt8) : Bool := nvrs.contains (low n) || pre (low n) pxL || pre (low n) scL
def rds (n : List UInt8) : Bool := rdsL.contains (low n)
def hdn (n : List UInt8) : Bool := hdnL.contains (low n)
/-- How many bytes the safe values have together. -/
def sz (fs : List (List UInt8 × List UInt8)) : Nat := ((fs.filter fun f => hdr f.1 f.2).map fun f => f.2.length).sum
/-- The headers that are not safe. -/
def ask (fs : List (List UInt8 × List UInt8)) : List (List UInt8 × List UInt8) := fs.filter fun f => !hdr f.1 f.2
/-- What of a list needs leave. -/
def uns (fs : List (List UInt8 × List UInt8)) : List (List UInt8) := if 1024 < sz fs then nms fs else nms (ask fs)
theorem hdr_low (n v : List UInt8) : hdr (low n) v = hdr n v := by rw [hdr, hdr, low_low]
theorem nvr_low (n : List UInt8) : nvr (low n) = nvr n := by rw [nvr, nvr, low_low]
theorem rds_low (n : List UInt8) : rds (low n) = rds n := by rw [rds, rds, low_low]
theorem hdn_low (n : List UInt8) : hdn (low n) = hdn n := by rw [hdn, hdn, low_low]
theorem hdr_len {n v : List UInt8} (h : hdr n v = true) : v.length ≤ 128 := by
  simp only [hdr, Bool.and_eq_true, decide_eq_true_eq] at h
  exact h.1.2
theorem hdr_key {n v : List UInt8} (h : hdr n v = true) : low n ∈ keys5 := by
  simp only [hdr, Bool.and_eq_true, decide_eq_true_eq] at h
  simpa using h.1.1
theorem hdr_long (n v : List UInt8) (h : 128 < v.length) : hdr n v = false := by
  cases e : hdr n v
  · rfl
  · have := hdr_len e; omega
theorem nvr_safe {n v : List UInt8} (h : hdr n v = true) : nvr n = false := by
  have h1 := hdr_key h
  have h2 : ∀ k ∈ keys5, (nvrs.contains k || pre k pxL || pre k scL) = false := by decide +kernel
  exact h2 _ h1
theorem mem_low3 : ∀ m ∈ mth3, m ∈ mths := by decide
theorem mth_upp : ∀ (L : List (List UInt8)) (s : List UInt8), (∀ m ∈ L, upp m = m) → (upp s ∈ L → mth L s = upp s) ∧ (upp s ∉ L → mth L s = s)
  | [], s, _ => ⟨fun h => by simp at h, fun _ => rfl⟩
  | m :: r, s, hL => by
    have h1 := low_is m s (hL m List.mem_cons_self)
    have ih := mth_upp r s fun x hx => hL x (List.mem_cons_of_mem _ hx)
    by_cases h : low m = low s
    · have h2 := h1.1 h
      rw [mth, if_pos h]
      exact ⟨fun _ => h2.symm, fun h3 => absurd (by rw [h2]; exact List.mem_cons_self) h3⟩
    · have h2 : upp s ≠ m := fun e => h (h1.2 e)
      rw [mth, if_neg h]
      refine ⟨fun h3 => ih.1 ((List.mem_cons.1 h3).resolve_left h2), fun h3 => ih.2 fun h4 => h3 (List.mem_cons_of_mem _ h4)⟩
theorem mtd_iff (s : List UInt8) : mtd s = true ↔ upp s ∈ mth3 := by
  have h0 := mth_upp mths s mths_upp
  rw [mtd]
  by_cases h : upp s ∈ mths
  · rw [h0.1 h]
    simp
  · rw [h0.2 h]
    have h1 : upp s ∉ mth3 := fun e => h (mem_low3 _ e)
    have h2 : s ∉ mth3 := fun e => h (by rw [mths_upp s (mem_low3 s e)]; exact mem_low3 s e)
    simp [h1, h2]
theorem mtd_low (s : List UInt8) : mtd (low s) = mtd s := by
  rw [Bool.eq_iff_iff, mtd_iff, mtd_iff, upp_low]
theorem sz_nil : sz [] = 0 := rfl
theorem sz_snoc (fs : List (List UInt8 × List UInt8)) (f : List UInt8 × List UInt8) : sz (fs ++ [f]) = sz fs + if hdr f.1 f.2 then f.2.length else 0 := by
  simp only [sz, List.filter_append, List.map_append, List.sum_append]
  by_cases h : hdr f.1 f.2 = true
  · simp [h]
  · simp [h]
theorem ask_snoc (fs : List (List UInt8 × List UInt8)) (f : List UInt8 × List UInt8) : ask (fs ++ [f]) = ask fs ++ if hdr f.1 f.2 then [] else [f] := by
  simp only [ask, List.filter_append]
  by_cases h : hdr f.1 f.2 = true
  · simp [h]
  · simp [h]
theorem ask_len (fs : List (List UInt8 × List UInt8)) : (ask fs).length ≤ fs.length := List.length_filter_le _ _
theorem sz_take (fs : List (List UInt8 × List UInt8)) (k : Nat) (f : List UInt8 × List UInt8) (h : fs[k]? = some f) : sz (fs.take (k + 1)) = sz (fs.take k) + if hdr f.1 f.2 then f.2.length else 0 := by
  rw [take_snoc fs k f h, sz_snoc]
theorem ask_take (fs : List (List UInt8 × List UInt8)) (k : Nat) (f : List UInt8 × List UInt8) (h : fs[k]? = some f) : ask (fs.take (k + 1)) = ask (fs.take k) ++ if hdr f.1 f.2 then [] else [f] := by
  rw [take_snoc fs k f h, ask_snoc]
theorem sz_le (fs : List (List UInt8 × List UInt8)) : sz fs ≤ 128 * fs.length := by
  induction fs with
  | nil => exact Nat.le_refl _
  | cons f r ih =>
    have h1 := sz_snoc [] f
    have h2 : sz (f :: r) = sz [f] + sz r := by
      rw [show f :: r = [f] ++ r from rfl]
      simp only [sz, List.filter_append, List.map_append, List.sum_append]
    have h3 : sz [f] ≤ 128 := by
      have : sz ([] ++ [f]) ≤ 128 := by
        rw [sz_snoc, sz_nil]
        split
        · rename_i h
          have := hdr_len h
          omega
        · omega
      exact this
    rw [h2, List.length_cons]
    omega
theorem pre_iff (l p : List UInt8) : pre l p = true ↔ p.length ≤ l.length ∧ l.take p.length = p := by simp [pre]
theorem dg_nine {l : List UInt8} (h : dg l = true) : l.length ≤ 9 ∧ nv l ≤ 999999999 := by
  simp only [dg, Bool.and_eq_true, decide_eq_true_eq] at h
  have h1 := nv_bound l l.length (by rw [List.take_length]; exact h.2) h.1.2
  rw [List.take_length] at h1
  exact ⟨h.1.2, h1⟩
end Go.Proofs.YtonchnmcklgpoaaGreatDoor
