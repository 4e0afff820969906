/-
  The mathematics of what of a list needs leave: turned round, one more, each alone. No program, no condition.
-/
import Derived.Test.YtonchnmcklgpoaaDoorSj
namespace Go.Proofs.YtonchnmcklgpoaaDoor
open Go.RowKit
set_option linter.unusedVariables false

theorem uns_cases (fs : List (List UInt8 × List UInt8)) : uns fs = nms fs ∧ 1024 < sz fs ∨ uns fs = nms (ask fs) ∧ ¬ 1024 < sz fs := by
  by_cases h : 1024 < sz fs
  · exact .inl ⟨by rw [uns, if_pos h], h⟩
  · exact .inr ⟨by rw [uns, if_neg h], h⟩
theorem uns_sorted (fs : List (List UInt8 × List UInt8)) : (uns fs).Pairwise (· < ·) := by
  rcases uns_cases fs with ⟨h, _⟩ | ⟨h, _⟩ <;> rw [h] <;> exact nms_sorted _
theorem uns_low {fs : List (List UInt8 × List UInt8)} {x : List UInt8} (hx : x ∈ uns fs) : low x = x := by
  rcases uns_cases fs with ⟨h, _⟩ | ⟨h, _⟩ <;> rw [h] at hx <;> exact nms_low hx
theorem uns_len (fs : List (List UInt8 × List UInt8)) : (uns fs).length ≤ fs.length := by
  rcases uns_cases fs with ⟨h, _⟩ | ⟨h, _⟩ <;> rw [h]
  · exact nms_len _
  · exact Nat.le_trans (nms_len _) (ask_len _)
theorem ask_mem {fs : List (List UInt8 × List UInt8)} {f : List UInt8 × List UInt8} : f ∈ ask fs ↔ f ∈ fs ∧ hdr f.1 f.2 = false := by simp [ask]
theorem ask_sub {fs : List (List UInt8 × List UInt8)} {x : List UInt8} (hx : x ∈ nms (ask fs)) : x ∈ nms fs := by
  rw [nms_mem] at hx ⊢
  obtain ⟨f, hf, e⟩ := hx
  exact ⟨f, (ask_mem.1 hf).1, e⟩
theorem uns_ask {fs : List (List UInt8 × List UInt8)} {f : List UInt8 × List UInt8} (hf : f ∈ fs) (h : hdr f.1 f.2 = false) : low f.1 ∈ uns fs := by
  rcases uns_cases fs with ⟨e, _⟩ | ⟨e, _⟩ <;> rw [e, nms_mem]
  · exact ⟨f, hf, rfl⟩
  · exact ⟨f, ask_mem.2 ⟨hf, h⟩, rfl⟩
theorem sz_app (a b : List (List UInt8 × List UInt8)) : sz (a ++ b) = sz a + sz b := by simp [sz]
theorem sz_rev (fs : List (List UInt8 × List UInt8)) : sz fs.reverse = sz fs := by
  simp only [sz, List.filter_reverse, List.map_reverse, List.sum_reverse]
theorem nms_congr {a b : List (List UInt8 × List UInt8)} (h : ∀ f, f ∈ a ↔ f ∈ b) : nms a = nms b := by
  refine sorted_eq (nms_sorted a) (nms_sorted b) fun x => ?_
  rw [nms_mem, nms_mem]
  exact ⟨fun ⟨f, hf, e⟩ => ⟨f, (h f).1 hf, e⟩, fun ⟨f, hf, e⟩ => ⟨f, (h f).2 hf, e⟩⟩
theorem uns_rev (fs : List (List UInt8 × List UInt8)) : uns fs.reverse = uns fs := by
  rw [uns, uns, sz_rev, nms_congr (a := fs.reverse) (b := fs) (fun f => List.mem_reverse), nms_congr (a := ask fs.reverse) (b := ask fs) (fun f => by rw [ask_mem, ask_mem, List.mem_reverse])]
theorem uns_one (f : List UInt8 × List UInt8) : uns [f] = if hdr f.1 f.2 then [] else [low f.1] := by
  have h1 := sz_le [f]
  have h2 : ¬ 1024 < sz [f] := by simp at h1; omega
  rw [uns, if_neg h2]
  by_cases h : hdr f.1 f.2 = true
  · rw [if_pos h]
    simp [ask, h, nms]
  · rw [if_neg h]
    simp [ask, h, nms, ins]
theorem uns_more {fs : List (List UInt8 × List UInt8)} (f : List UInt8 × List UInt8) {x : List UInt8} (hx : x ∈ uns fs) : x ∈ uns (fs ++ [f]) := by
  have hn : x ∈ nms fs → x ∈ nms (fs ++ [f]) := fun h => by
    rw [nms_mem] at h ⊢
    obtain ⟨g, hg, e⟩ := h
    exact ⟨g, List.mem_append_left _ hg, e⟩
  have ha : x ∈ nms (ask fs) → x ∈ nms (ask (fs ++ [f])) := fun h => by
    rw [nms_mem] at h ⊢
    obtain ⟨g, hg, e⟩ := h
    exact ⟨g, by rw [ask_mem] at hg ⊢; exact ⟨List.mem_append_left _ hg.1, hg.2⟩, e⟩
  have hs := sz_snoc fs f
  rcases uns_cases fs with ⟨e, h1⟩ | ⟨e, h1⟩ <;> rw [e] at hx
  · rw [uns, if_pos (by omega)]
    exact hn hx
  · rcases uns_cases (fs ++ [f]) with ⟨e2, _⟩ | ⟨e2, _⟩ <;> rw [e2]
    · exact hn (ask_sub hx)
    · exact ha hx
/-- The values' bytes together. -/
def tot (fs : List (List UInt8 × List UInt8)) : Nat := (fs.map fun f => f.2.length).sum
theorem tot_take (fs : List (List UInt8 × List UInt8)) (k : Nat) (f : List UInt8 × List UInt8) (h : fs[k]? = some f) : tot (fs.take (k + 1)) = tot (fs.take k) + f.2.length := by
  rw [take_snoc fs k f h]
  simp [tot]
theorem tot_le (fs : List (List UInt8 × List UInt8)) (N : Nat) (h : ∀ f ∈ fs, f.2.length ≤ N) : tot fs ≤ fs.length * N := by
  induction fs with
  | nil => simp [tot]
  | cons f r ih =>
    have h1 := ih fun g hg => h g (List.mem_cons_of_mem _ hg)
    have h2 := h f List.mem_cons_self
    simp only [tot, List.map_cons, List.sum_cons, List.length_cons] at h1 ⊢
    rw [Nat.add_mul]
    omega
theorem sz_tot (fs : List (List UInt8 × List UInt8)) : sz fs ≤ tot fs := by
  induction fs with
  | nil => exact Nat.le_refl _
  | cons f r ih =>
    simp only [sz, tot, List.filter_cons] at ih ⊢
    split <;> simp <;> omega
theorem uns_same {fs : List (List UInt8 × List UInt8)} {f : List UInt8 × List UInt8} (h : hdr f.1 f.2 = true) (hs : tot fs + f.2.length ≤ 1024) : uns (fs ++ [f]) = uns fs := by
  have h1 := sz_snoc fs f
  have h2 := sz_tot fs
  rw [if_pos h] at h1
  rw [uns, uns, if_neg (by omega), if_neg (by omega), ask_snoc, if_pos h, List.append_nil]
def acp : List UInt8 := [65, 99, 99, 101, 112, 116]
def lng128 : List UInt8 := List.replicate 128 97
theorem long_a : ∀ n, n < 16 → (uns (List.replicate n (acp, lng128))).length = (if n ≤ 8 then 0 else 1) := by decide +kernel
theorem long_b : ∀ n, n < 16 → (uns (List.replicate n (acp, lng128) ++ [(kAcc, [98])])).length = (if n < 8 then 0 else 1) := by decide +kernel
theorem long_ok : hdr kAcc lng128 = true := by decide +kernel
theorem long_no (n v : List UInt8) : hdr n (lng128 ++ [98] ++ v) = false := hdr_long _ _ (by rw [List.length_append, List.length_append, show lng128.length = 128 from List.length_replicate, List.length_singleton]; omega)
end Go.Proofs.YtonchnmcklgpoaaDoor
