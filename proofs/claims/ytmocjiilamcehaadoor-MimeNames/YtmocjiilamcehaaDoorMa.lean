/-
  The mathematics of lists of headers: values of a name, names in order, lists combined; numbers in digits. No program, no condition.
-/
import Derived.Test.YtmocjiilamcehaaDoorLo
import Derived.Lib.Join
namespace Go.Proofs.YtmocjiilamcehaaDoor
open Go.RowKit
set_option linter.unusedVariables false

/-- The values of all headers whose name, in small letters, is k. -/
def vl (fs : List (List UInt8 × List UInt8)) (k : List UInt8) : List (List UInt8) := (fs.filter fun f => decide (low f.1 = k)).map (·.2)
/-- The values of all headers of a name. -/
def vals (fs : List (List UInt8 × List UInt8)) (nm : List UInt8) : List (List UInt8) := vl fs (low nm)
/-- Values told as one. -/
def jn (L : List (List UInt8)) : List UInt8 := Lib.join L [44, 32]
theorem vl_nil (k : List UInt8) : vl [] k = [] := rfl
theorem vl_app (a b : List (List UInt8 × List UInt8)) (k : List UInt8) : vl (a ++ b) k = vl a k ++ vl b k := by simp [vl]
theorem vl_one (f : List UInt8 × List UInt8) (k : List UInt8) : vl [f] k = if low f.1 = k then [f.2] else [] := by
  simp only [vl, List.filter_cons, List.filter_nil]
  split <;> simp_all
theorem vals_app (a b : List (List UInt8 × List UInt8)) (k : List UInt8) : vals (a ++ b) k = vals a k ++ vals b k := vl_app a b _
theorem vals_low (fs : List (List UInt8 × List UInt8)) (nm : List UInt8) : vals fs (low nm) = vals fs nm := by rw [vals, vals, low_low]
theorem take_snoc {α : Type} (l : List α) (k : Nat) (x : α) (h : l[k]? = some x) : l.take (k + 1) = l.take k ++ [x] := by
  rw [List.take_add_one, h]; rfl
theorem vl_take (fs : List (List UInt8 × List UInt8)) (n : Nat) (f : List UInt8 × List UInt8) (h : fs[n]? = some f) (k : List UInt8) : vl (fs.take (n + 1)) k = vl (fs.take n) k ++ if low f.1 = k then [f.2] else [] := by
  rw [take_snoc fs n f h, vl_app, vl_one]
theorem vl_len (fs : List (List UInt8 × List UInt8)) (k : List UInt8) : (vl fs k).length ≤ fs.length := by
  rw [vl, List.length_map]
  exact List.length_filter_le _ _
theorem vl_mem {fs : List (List UInt8 × List UInt8)} {k x : List UInt8} (h : x ∈ vl fs k) : ∃ f ∈ fs, f.2 = x := by
  simp only [vl, List.mem_map, List.mem_filter] at h
  obtain ⟨f, ⟨h1, _⟩, rfl⟩ := h
  exact ⟨f, h1, rfl⟩
theorem vl_ne (fs : List (List UInt8 × List UInt8)) (k : List UInt8) : vl fs k ≠ [] ↔ ∃ f ∈ fs, low f.1 = k := by
  simp [vl, List.filter_eq_nil_iff]
theorem lens_bound (L : List (List UInt8)) (N : Nat) (h : ∀ x ∈ L, x.length ≤ N) : Lib.lens L ≤ L.length * N := by
  induction L with
  | nil => simp [Lib.lens]
  | cons x r ih =>
    have h1 := ih fun y hy => h y (List.mem_cons_of_mem _ hy)
    have h2 := h x List.mem_cons_self
    simp only [Lib.lens, List.map_cons, List.sum_cons, List.length_cons] at h1 ⊢
    rw [Nat.add_mul]
    omega
theorem jn_len (L : List (List UInt8)) (K N : Nat) (hK : L.length ≤ K) (h : ∀ x ∈ L, x.length ≤ N) : (jn L).length ≤ K * (N + 2) := by
  cases L with
  | nil => simp [jn, Lib.join, List.intercalate]
  | cons x r =>
    have h1 := lens_bound (x :: r) N h
    have h2 := Nat.mul_le_mul_right N hK
    rw [jn, Lib.join_length, Nat.mul_add]
    simp only [List.length_cons, List.length_nil] at *
    omega
theorem jn_one (x : List UInt8) : jn [x] = x := Lib.join_one x _
theorem jn_nil : jn [] = [] := rfl
theorem jn_snoc (L : List (List UInt8)) (x : List UInt8) (h : L ≠ []) : jn (L ++ [x]) = jn L ++ ([44, 32] ++ x) := by
  cases L with
  | nil => exact absurd rfl h
  | cons y r => rw [jn, jn, List.cons_append, Lib.join_cons, Lib.join_cons]; simp [Lib.joinTail]
theorem jn_app (a b : List (List UInt8)) (ha : a ≠ []) (hb : b ≠ []) : jn (a ++ b) = jn a ++ [44, 32] ++ jn b := by
  cases a with
  | nil => exact absurd rfl ha
  | cons y r => cases b with
    | nil => exact absurd rfl hb
    | cons z t => rw [jn, jn, jn, List.cons_append, Lib.join_cons, Lib.join_cons, Lib.join_cons]; simp [Lib.joinTail]
theorem rev_ind {α : Type} {P : List α → Prop} (h0 : P []) (h1 : ∀ l a, P l → P (l ++ [a])) (l : List α) : P l := by
  have h : ∀ m : List α, P m.reverse := fun m => by
    induction m with
    | nil => exact h0
    | cons a r ih => rw [List.reverse_cons]; exact h1 _ _ ih
  have := h l.reverse
  rwa [List.reverse_reverse] at this
theorem fd_ind {P : List (List UInt8 × List UInt8) → Prop} (h0 : P []) (h1 : ∀ fs f, P fs → P (fs ++ [f])) (fs : List (List UInt8 × List UInt8)) : P fs := rev_ind h0 h1 fs
theorem vals_size (fs : List (List UInt8 × List UInt8)) (nm : List UInt8) (N : Nat) (hN : ∀ f ∈ fs, f.1.length ≤ N ∧ f.2.length ≤ N) : ∀ x ∈ vals fs nm, x.length ≤ N := by
  intro x hx
  obtain ⟨g, hg, rfl⟩ := vl_mem hx
  exact (hN g hg).2
theorem jn_size (fs : List (List UInt8 × List UInt8)) (nm : List UInt8) (N : Nat) (hl : fs.length ≤ 101) (hN : ∀ f ∈ fs, f.1.length ≤ N ∧ f.2.length ≤ N) : (jn (vals fs nm)).length ≤ 101 * (N + 2) :=
  jn_len _ 101 N (Nat.le_trans (vl_len _ _) hl) (vals_size fs nm N hN)

end Go.Proofs.YtmocjiilamcehaaDoor
