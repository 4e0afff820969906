/-
  The mathematics of lists of headers: values of a name, names in order, lists combined; numbers in digits. No program, no condition.
-/
import Derived.Test.YtonchnmcklgpoaaGreatDoorLo
import Derived.Lib.Join
import Derived.Sort.KeysCollected
import Derived.Sort.Walk0
namespace Go.Proofs.YtonchnmcklgpoaaGreatDoor
open Go.RowKit
set_option linter.unusedVariables false

/-- The values of all headers whose name, in small letters, is k. -/
def vl (fs : List (List UInt8 × List UInt8)) (k : List UInt8) : List (List UInt8) := (fs.filter fun f => decide (low f.1 = k)).map (·.2)
/-- The values of all headers of a name. -/
def vals (fs : List (List UInt8 × List UInt8)) (nm : List UInt8) : List (List UInt8) := vl fs (low nm)
/-- Values told as one. -/
def jn (L : List (List UInt8)) : List UInt8 := Lib.join L [44, 32]
/-- A rising list with one more. -/
def ins : List (List UInt8) → List UInt8 → List (List UInt8)
  | [], s => [s]
  | x :: r, s => if x < s then x :: ins r s else if x = s then x :: r else s :: x :: r
/-- All names, rising. -/
def nms (fs : List (List UInt8 × List UInt8)) : List (List UInt8) := fs.foldl (fun L f => ins L (low f.1)) []
/-- A list combined. -/
def cmb (fs : List (List UInt8 × List UInt8)) : List (List UInt8 × List UInt8) := (nms fs).map fun n => (n, jn (vals fs n))

theorem vl_nil (k : List UInt8) : vl [] k = [] := rfl
theorem vl_app (a b : List (List UInt8 × List UInt8)) (k : List UInt8) : vl (a ++ b) k = vl a k ++ vl b k := by simp [vl]
theorem vl_one (f : List UInt8 × List UInt8) (k : List UInt8) : vl [f] k = if low f.1 = k then [f.2] else [] := by
  simp only [vl, List.filter_cons, List.filter_nil]
  split <;> simp_all
theorem vals_app (a b : List (List UInt8 × List UInt8)) (k : List UInt8) : vals (a ++ b) k = vals a k ++ vals b k := vl_app a b _
theorem vals_low (fs : List (List UInt8 × List UInt8)) (nm : List UInt8) : vals fs (low nm) = vals fs nm := by rw [vals, vals, low_low]
theorem take_snoc {α : Type} (l : List α) (k : Nat) (x : α) (h : l[k]? = some x) : l.take (k + 1) = l.take k ++ [x] := by
  rw [List.take_add_one, h]; rfl
theorem vl_take (fs : List (List UInt8 × List UInt8)) (n : Nat) (f : List UInt8 × List UInt8) (h : fs[n]? = some f) (k : List UInt8) : vl (fs.take (n + 1)) k = vl (fs.take n) k ++ if low f.1 = k then [f.2] else [] := by
  rw [take_snoc fs n f h, vl_app, vl_one]
theorem vl_len (fs : List (List UInt8 × List UInt8)) (k : List UInt8) : (vl fs k).length ≤ fs.length := by
  rw [vl, List.length_map]
  exact List.length_filter_le _ _
theorem vl_mem {fs : List (List UInt8 × List UInt8)} {k x : List UInt8} (h : x ∈ vl fs k) : ∃ f ∈ fs, f.2 = x := by
  simp only [vl, List.mem_map, List.mem_filter] at h
  obtain ⟨f, ⟨h1, _⟩, rfl⟩ := h
  exact ⟨f, h1, rfl⟩
theorem vl_ne (fs : List (List UInt8 × List UInt8)) (k : List UInt8) : vl fs k ≠ [] ↔ ∃ f ∈ fs, low f.1 = k := by
  simp [vl, List.filter_eq_nil_iff]
theorem lens_bound (L : List (List UInt8)) (N : Nat) (h : ∀ x ∈ L, x.length ≤ N) : Lib.lens L ≤ L.length * N := by
  induction L with
  | nil => simp [Lib.lens]
  | cons x r ih =>
    have h1 := ih fun y hy => h y (List.mem_cons_of_mem _ hy)
    have h2 := h x List.mem_cons_self
    simp only [Lib.lens, List.map_cons, List.sum_cons, List.length_cons] at h1 ⊢
    rw [Nat.add_mul]
    omega
theorem jn_len (L : List (List UInt8)) (K N : Nat) (hK : L.length ≤ K) (h : ∀ x ∈ L, x.length ≤ N) : (jn L).length ≤ K * (N + 2) := by
  cases L with
  | nil => simp [jn, Lib.join, List.intercalate]
  | cons x r =>
    have h1 := lens_bound (x :: r) N h
    have h2 := Nat.mul_le_mul_right N hK
    rw [jn, Lib.join_length, Nat.mul_add]
    simp only [List.length_cons, List.length_nil] at *
    omega
theorem jn_one (x : List UInt8) : jn [x] = x := Lib.join_one x _
theorem jn_nil : jn [] = [] := rfl
theorem jn_snoc (L : List (List UInt8)) (x : List UInt8) (h : L ≠ []) : jn (L ++ [x]) = jn L ++ ([44, 32] ++ x) := by
  cases L with
  | nil => exact absurd rfl h
  | cons y r => rw [jn, jn, List.cons_append, Lib.join_cons, Lib.join_cons]; simp [Lib.joinTail]
theorem jn_app (a b : List (List UInt8)) (ha : a ≠ []) (hb : b ≠ []) : jn (a ++ b) = jn a ++ [44, 32] ++ jn b := by
  cases a with
  | nil => exact absurd rfl ha
  | cons y r => cases b with
    | nil => exact absurd rfl hb
    | cons z t => rw [jn, jn, jn, List.cons_append, Lib.join_cons, Lib.join_cons, Lib.join_cons]; simp [Lib.joinTail]
theorem ins_mem (L : List (List UInt8)) (s y : List UInt8) : y ∈ ins L s ↔ y = s ∨ y ∈ L := by
  induction L with
  | nil => simp [ins]
  | cons x r ih =>
    simp only [ins]
    split
    · simp only [List.mem_cons, ih]
      exact or_left_comm
    · split
      · rename_i h
        subst h
        simp
      · simp
theorem lt_of_not {x s : List UInt8} (h1 : ¬ x < s) (h2 : x ≠ s) : s < x := by
  by_cases h3 : s < x
  · exact h3
  · exact absurd (List.le_antisymm (List.not_lt.1 h3) (List.not_lt.1 h1)) h2
theorem ins_sorted (L : List (List UInt8)) (s : List UInt8) (h : L.Pairwise (· < ·)) : (ins L s).Pairwise (· < ·) := by
  induction L with
  | nil => simp [ins]
  | cons x r ih =>
    rw [List.pairwise_cons] at h
    simp only [ins]
    split
    · rename_i h1
      rw [List.pairwise_cons]
      refine ⟨fun y hy => ?_, ih h.2⟩
      rcases (ins_mem r s y).1 hy with rfl | h2
      · exact h1
      · exact h.1 y h2
    · split
      · exact List.pairwise_cons.2 h
      · rename_i h1 h2
        have h3 := lt_of_not h1 h2
        rw [List.pairwise_cons]
        refine ⟨fun y hy => ?_, List.pairwise_cons.2 h⟩
        rcases List.mem_cons.1 hy with rfl | h4
        · exact h3
        · exact List.lt_trans h3 (h.1 y h4)
theorem ins_len (L : List (List UInt8)) (s : List UInt8) : (ins L s).length ≤ L.length + 1 := by
  induction L with
  | nil => simp [ins]
  | cons x r ih =>
    simp only [ins]
    split
    · simp; omega
    · split <;> simp
theorem nms_snoc (fs : List (List UInt8 × List UInt8)) (f : List UInt8 × List UInt8) : nms (fs ++ [f]) = ins (nms fs) (low f.1) := by simp [nms]
theorem rev_ind {α : Type} {P : List α → Prop} (h0 : P []) (h1 : ∀ l a, P l → P (l ++ [a])) (l : List α) : P l := by
  have h : ∀ m : List α, P m.reverse := fun m => by
    induction m with
    | nil => exact h0
    | cons a r ih => rw [List.reverse_cons]; exact h1 _ _ ih
  have := h l.reverse
  rwa [List.reverse_reverse] at this
theorem fd_ind {P : List (List UInt8 × List UInt8) → Prop} (h0 : P []) (h1 : ∀ fs f, P fs → P (fs ++ [f])) (fs : List (List UInt8 × List UInt8)) : P fs := rev_ind h0 h1 fs
theorem nms_take (fs : List (List UInt8 × List UInt8)) (n : Nat) (f : List UInt8 × List UInt8) (h : fs[n]? = some f) : nms (fs.take (n + 1)) = ins (nms (fs.take n)) (low f.1) := by
  rw [take_snoc fs n f h, nms_snoc]
theorem nms_sorted (fs : List (List UInt8 × List UInt8)) : (nms fs).Pairwise (· < ·) := fd_ind (P := fun fs => (nms fs).Pairwise (· < ·)) (by simp [nms]) (fun fs f h => by rw [nms_snoc]; exact ins_sorted _ _ h) fs
theorem nms_mem (fs : List (List UInt8 × List UInt8)) (x : List UInt8) : x ∈ nms fs ↔ ∃ f ∈ fs, low f.1 = x := by
  refine fd_ind (P := fun fs => x ∈ nms fs ↔ ∃ f ∈ fs, low f.1 = x) (by simp [nms]) (fun fs f h => ?_) fs
  rw [nms_snoc, ins_mem, h]
  simp only [List.mem_append, List.mem_singleton]
  constructor
  · rintro (rfl | ⟨g, hg, rfl⟩)
    · exact ⟨f, Or.inr rfl, rfl⟩
    · exact ⟨g, Or.inl hg, rfl⟩
  · rintro ⟨g, hg | rfl, rfl⟩
    · exact Or.inr ⟨g, hg, rfl⟩
    · exact Or.inl rfl
theorem nms_len (fs : List (List UInt8 × List UInt8)) : (nms fs).length ≤ fs.length := by
  refine fd_ind (P := fun fs => (nms fs).length ≤ fs.length) (by simp [nms]) (fun fs f h => ?_) fs
  rw [nms_snoc, List.length_append, List.length_singleton]
  have := ins_len (nms fs) (low f.1)
  omega
theorem nms_low {fs : List (List UInt8 × List UInt8)} {x : List UInt8} (h : x ∈ nms fs) : low x = x := by
  obtain ⟨f, _, rfl⟩ := (nms_mem fs x).1 h
  exact low_low _
theorem nms_size {fs : List (List UInt8 × List UInt8)} {x : List UInt8} (h : x ∈ nms fs) (N : Nat) (hN : ∀ f ∈ fs, f.1.length ≤ N) : x.length ≤ N := by
  obtain ⟨f, hf, rfl⟩ := (nms_mem fs x).1 h
  rw [low_length]
  exact hN f hf
theorem nms_ne (fs : List (List UInt8 × List UInt8)) (nm : List UInt8) : low nm ∈ nms fs ↔ vals fs nm ≠ [] := by rw [nms_mem, vals, vl_ne]
theorem nms_le (fs : List (List UInt8 × List UInt8)) : (nms fs).Pairwise fun a b => leB a b = true :=
  (nms_sorted fs).imp fun h => by simp only [leB, decide_eq_true_eq]; exact List.le_of_lt h
theorem nms_nodup (fs : List (List UInt8 × List UInt8)) : (nms fs).Nodup := (nms_sorted fs).imp fun h e => by subst e; exact List.lt_irrefl _ h
theorem sort_id (L : List (List UInt8)) (h : L.Pairwise fun a b => leB a b = true) : L.mergeSort leB = L := List.mergeSort_of_pairwise h
theorem sorted_eq {L M : List (List UInt8)} (hL : L.Pairwise (· < ·)) (hM : M.Pairwise (· < ·)) (h : ∀ x, x ∈ L ↔ x ∈ M) : L = M := by
  have nd : ∀ {L : List (List UInt8)}, L.Pairwise (· < ·) → L.Nodup := fun h => h.imp fun h e => by subst e; exact List.lt_irrefl _ h
  refine List.Perm.eq_of_pairwise (le := fun a b => a < b) (fun a b _ _ h1 h2 => absurd (List.lt_trans h1 h2) (List.lt_irrefl _)) hL hM ((List.perm_ext_iff_of_nodup (nd hL) (nd hM)).2 h)
theorem cmb_names (fs : List (List UInt8 × List UInt8)) : (cmb fs).map (·.1) = nms fs := by simp [cmb, Function.comp_def]
theorem nms_cmb (fs : List (List UInt8 × List UInt8)) : nms (cmb fs) = nms fs := by
  refine sorted_eq (nms_sorted _) (nms_sorted _) fun x => ?_
  rw [nms_mem]
  constructor
  · rintro ⟨f, hf, rfl⟩
    simp only [cmb, List.mem_map] at hf
    obtain ⟨n, hn, rfl⟩ := hf
    rw [nms_low hn]
    exact hn
  · intro hx
    exact ⟨(x, jn (vals fs x)), by simp only [cmb, List.mem_map]; exact ⟨x, hx, rfl⟩, nms_low hx⟩
theorem vl_of_names (k : List UInt8) (g : List UInt8 → List UInt8) : ∀ L : List (List UInt8), L.Nodup → (∀ x ∈ L, low x = x) → vl (L.map fun n => (n, g n)) k = if k ∈ L then [g k] else []
  | [], _, _ => rfl
  | x :: r, hn, hl => by
    have ih := vl_of_names k g r (List.nodup_cons.1 hn).2 fun y hy => hl y (List.mem_cons_of_mem _ hy)
    have hx := hl x List.mem_cons_self
    rw [List.map_cons, show ((x, g x) :: r.map fun n => (n, g n)) = [(x, g x)] ++ r.map fun n => (n, g n) from rfl, vl_app, vl_one, ih]
    show (if low x = k then _ else _) ++ _ = _
    rw [hx]
    by_cases e : x = k
    · subst e
      rw [if_pos rfl, if_neg (List.nodup_cons.1 hn).1, if_pos List.mem_cons_self]
      rfl
    · rw [if_neg e, List.nil_append]
      have h1 : k ∈ x :: r ↔ k ∈ r := by simp [Ne.symm e]
      simp only [h1]
theorem vals_cmb (fs : List (List UInt8 × List UInt8)) (nm : List UInt8) : vals (cmb fs) nm = if vals fs nm ≠ [] then [jn (vals fs nm)] else [] := by
  have h := vl_of_names (low nm) (fun n => jn (vals fs n)) (nms fs) (nms_nodup fs) fun x hx => nms_low hx
  rw [vals, cmb, h]
  simp only [nms_ne, vals_low]
theorem jn_vals_cmb (fs : List (List UInt8 × List UInt8)) (nm : List UInt8) : jn (vals (cmb fs) nm) = jn (vals fs nm) := by
  rw [vals_cmb]
  split
  · exact jn_one _
  · rename_i h
    rw [Decidable.not_not.1 h]
theorem vals_cmb_len (fs : List (List UInt8 × List UInt8)) (nm : List UInt8) : (vals (cmb fs) nm).length = if vals fs nm ≠ [] then 1 else 0 := by
  rw [vals_cmb]
  split <;> rfl
theorem cmb_cmb (fs : List (List UInt8 × List UInt8)) : cmb (cmb fs) = cmb fs := by
  rw [cmb, nms_cmb]
  rw [show cmb fs = (nms fs).map fun n => (n, jn (vals fs n)) from rfl]
  refine List.map_congr_left fun n _ => ?_
  show (n, _) = (n, _)
  rw [show (List.map (fun n => (n, jn (vals fs n))) (nms fs)) = cmb fs from rfl, jn_vals_cmb]
theorem cmb_len (fs : List (List UInt8 × List UInt8)) : (cmb fs).length ≤ fs.length := by rw [cmb, List.length_map]; exact nms_len fs
theorem cmb_size (fs : List (List UInt8 × List UInt8)) (N : Nat) (hl : fs.length ≤ 101) (hN : ∀ f ∈ fs, f.1.length ≤ N ∧ f.2.length ≤ N) : ∀ f ∈ cmb fs, f.1.length ≤ 101 * (N + 2) ∧ f.2.length ≤ 101 * (N + 2) := by
  intro f hf
  simp only [cmb, List.mem_map] at hf
  obtain ⟨n, hn, rfl⟩ := hf
  have h1 := nms_size hn N fun f h => (hN f h).1
  refine ⟨by show n.length ≤ _; omega, jn_len _ 101 N (Nat.le_trans (vl_len _ _) hl) fun x hx => ?_⟩
  obtain ⟨g, hg, rfl⟩ := vl_mem hx
  exact (hN g hg).2
theorem vals_size (fs : List (List UInt8 × List UInt8)) (nm : List UInt8) (N : Nat) (hN : ∀ f ∈ fs, f.1.length ≤ N ∧ f.2.length ≤ N) : ∀ x ∈ vals fs nm, x.length ≤ N := by
  intro x hx
  obtain ⟨g, hg, rfl⟩ := vl_mem hx
  exact (hN g hg).2
theorem jn_size (fs : List (List UInt8 × List UInt8)) (nm : List UInt8) (N : Nat) (hl : fs.length ≤ 101) (hN : ∀ f ∈ fs, f.1.length ≤ N ∧ f.2.length ≤ N) : (jn (vals fs nm)).length ≤ 101 * (N + 2) :=
  jn_len _ 101 N (Nat.le_trans (vl_len _ _) hl) (vals_size fs nm N hN)

/-- One to nine digits. -/
def isd (c : UInt8) : Bool := decide (48 ≤ c.toNat) && decide (c.toNat ≤ 57)
def dg (l : List UInt8) : Bool := decide (1 ≤ l.length) && decide (l.length ≤ 9) && l.all isd
/-- The number that digits tell. -/
def nv (l : List UInt8) : Nat := l.foldl (fun n c => n * 10 + (c.toNat - 48)) 0
theorem nv_snoc (l : List UInt8) (c : UInt8) : nv (l ++ [c]) = nv l * 10 + (c.toNat - 48) := by simp [nv]
theorem nv_take (l : List UInt8) (k : Nat) (h : k < l.length) : nv (l.take (k + 1)) = nv (l.take k) * 10 + ((l.getD k 0).toNat - 48) := by
  rw [take_snoc l k (l.getD k 0) (by simp [List.getD, List.getElem?_eq_getElem h]), nv_snoc]
theorem nv_lt (l : List UInt8) (h : l.all isd = true) : nv l < 10 ^ l.length := by
  have := rev_ind (P := fun l : List UInt8 => l.all isd = true → nv l < 10 ^ l.length) (fun _ => by simp [nv]) (fun l c ih h => by
    simp only [List.all_append, List.all_cons, List.all_nil, Bool.and_true, Bool.and_eq_true] at h
    have h1 := ih h.1
    have h2 : c.toNat ≤ 57 := by
      have := h.2
      simp only [isd, Bool.and_eq_true, decide_eq_true_eq] at this
      exact this.2
    rw [nv_snoc, List.length_append, List.length_singleton, Nat.pow_succ]
    omega) l
  exact this h
end Go.Proofs.YtonchnmcklgpoaaGreatDoor
