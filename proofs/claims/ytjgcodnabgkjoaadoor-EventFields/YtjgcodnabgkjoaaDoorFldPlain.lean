/-
  Plain facts on events one of whose fields is set to something else. No condition.
-/
import Derived.Test.YtjgcodnabgkjoaaDoorYld
namespace Go.Proofs.YtjgcodnabgkjoaaDoor
open Go.RowKit

theorem sizeI : (Tryd.prog.info? 3).map (·.size) = some 1 := by kernel_rfl
/-- The fields of a kind, as EventFields writes them. -/
def hasS : Nat → List UInt8
  | 1 => [65]
  | 2 => [65]
  | 3 => [65, 66, 67, 68, 88, 89, 90]
  | 4 => [65, 66]
  | 6 => [65, 66]
  | 7 => [88]
  | 9 => [65, 66]
  | 10 => [88]
  | 11 => [65]
  | 12 => [65]
  | 14 => [88]
  | _ => []
def hasAll : List Value := (List.range 15).map fun k => .string (str (hasS k))
theorem hasAll_at {k : Nat} (h : k < 15) : hasAll[k]? = some (.string (str (hasS k))) := by
  simp [hasAll, h]
theorem hasS_len (k : Nat) : (hasS k).length ≤ 7 := by
  unfold hasS
  split <;> decide
theorem there_text : ∀ k, k < 15 → 0 < k → ∀ f, f < 4 → (hasS k).any (· == ([65, 66, 67, 68] : List UInt8).getD f 0) = decide (f < (hav k).texts) := by decide +kernel
theorem there_num : ∀ k, k < 15 → 0 < k → ∀ j, j < 3 → (hasS k).any (· == ([88, 89, 90] : List UInt8).getD j 0) = decide (0 < (hav k).bl.getD j 0) := by decide +kernel
theorem most_num : ∀ k, k < 15 → 0 < k → ∀ j, j < 3 → (hav k).bl.getD j 0 = 0 ∨ (hav k).bl.getD j 0 = (if j = 0 then if k = 7 ∨ k = 10 then 1000 else 4 else 3) := by decide +kernel

theorem getD_set_ne {α : Type} (l : List α) (i j : Nat) (v d : α) (h : i ≠ j) : (l.set i v).getD j d = l.getD j d := by
  simp [List.getD_eq_getElem?_getD, List.getElem?_set_ne h]
theorem getD_set_self {α : Type} (l : List α) (i : Nat) (v d : α) (h : i < l.length) : (l.set i v).getD i d = v := by
  simp [List.getD_eq_getElem?_getD, List.getElem?_set_self h]
theorem right_setText {e : Ev} (he : EvOk e) (hr : rightE e = true) {f : Nat} (hf : f < 4) (S : List UInt8) (hS : S.length ≤ 4096) :
    rightE { e with ts := e.ts.set f S } = (decide (f < (hav e.kind.toNat).texts) || decide (S = [])) := by
  have h0 := hr
  simp only [rightE, Bool.and_eq_true] at h0
  obtain ⟨⟨⟨h1, h2⟩, h3⟩, h4⟩ := h0
  have hg := (right_has hr he).2.2.1
  have hne : ∀ j, j < 4 → f ≠ j → goodT (hav e.kind.toNat).texts (e.ts.set f S) j = true := fun j hj hn => by
    have := hg j hj
    simp only [goodT, getD_set_ne _ _ _ _ _ hn] at this ⊢
    exact this
  have hsame : goodT (hav e.kind.toNat).texts (e.ts.set f S) f = (decide (f < (hav e.kind.toNat).texts) || decide (S = [])) := by
    simp only [goodT, getD_set_self _ _ _ _ (show f < e.ts.length by rw [he.1]; exact hf)]
    simp [hS]
  have ht : rightT (hav e.kind.toNat).texts (e.ts.set f S) = (decide (f < (hav e.kind.toNat).texts) || decide (S = [])) := by
    rw [← hsame]
    match f, hf, hne with
    | 0, _, hne => simp [rightT, hne 1 (by omega) (by omega), hne 2 (by omega) (by omega), hne 3 (by omega) (by omega)]
    | 1, _, hne => simp [rightT, hne 0 (by omega) (by omega), hne 2 (by omega) (by omega), hne 3 (by omega) (by omega)]
    | 2, _, hne => simp [rightT, hne 0 (by omega) (by omega), hne 1 (by omega) (by omega), hne 3 (by omega) (by omega)]
    | 3, _, hne => simp [rightT, hne 0 (by omega) (by omega), hne 1 (by omega) (by omega), hne 2 (by omega) (by omega)]
  simp only [rightE]
  rw [h1, h2, h4, ht]
  simp
theorem right_setNum {e : Ev} (he : EvOk e) (hr : rightE e = true) {j : Nat} (hj : j < 3) (n : Int) :
    rightE { e with ns := e.ns.set j n } = (decide (0 ≤ n) && (decide (n = 0) || decide (n < ((hav e.kind.toNat).bl.getD j 0 : Int)))) := by
  have h0 := hr
  simp only [rightE, Bool.and_eq_true] at h0
  obtain ⟨⟨⟨h1, h2⟩, h3⟩, h4⟩ := h0
  have hg := (right_has hr he).2.2.2
  have hne : ∀ i, i < 3 → j ≠ i → goodN (hav e.kind.toNat).bl (e.ns.set j n) i = true := fun i hi hn => by
    have := hg i hi
    simp only [goodN, getD_set_ne _ _ _ _ _ hn] at this ⊢
    exact this
  have hsame : goodN (hav e.kind.toNat).bl (e.ns.set j n) j = (decide (0 ≤ n) && (decide (n = 0) || decide (n < ((hav e.kind.toNat).bl.getD j 0 : Int)))) := by
    simp only [goodN, getD_set_self _ _ _ _ (show j < e.ns.length by rw [he.2]; exact hj)]
  have ht : rightN (hav e.kind.toNat).bl (e.ns.set j n) = (decide (0 ≤ n) && (decide (n = 0) || decide (n < ((hav e.kind.toNat).bl.getD j 0 : Int)))) := by
    rw [← hsame]
    match j, hj, hne with
    | 0, _, hne => simp [rightN, hne 1 (by omega) (by omega), hne 2 (by omega) (by omega)]
    | 1, _, hne => simp [rightN, hne 0 (by omega) (by omega), hne 2 (by omega) (by omega)]
    | 2, _, hne => simp [rightN, hne 0 (by omega) (by omega), hne 1 (by omega) (by omega)]
  simp only [rightE]
  rw [h1, h2, h3, ht]
  simp
theorem any_step (l : List UInt8) (c : UInt8) (j : Nat) (h : j < l.length) : (l.take (j + 1)).any (· == c) = ((l.take j).any (· == c) || l.getD j 0 == c) := by
  rw [List.take_succ_eq_append_getElem h, List.any_append]
  simp [List.getD_eq_getElem?_getD, List.getElem?_eq_getElem h]
end Go.Proofs.YtjgcodnabgkjoaaDoor
