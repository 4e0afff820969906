/-
  What the laws of this seat have in common: few bodies make a log that comes back. No condition.
-/
import Derived.Test.YtknnncdmpfmgkaaDoorShown
namespace Go.Proofs.YtknnncdmpfmgkaaDoor
open Go.RowKit

theorem fewS_fine (b0 : List (List UInt8)) : Fine (fewS b0) := ⟨by have := (fewS_neat b0).1; omega, fun l hl => by have := (fewS_neat b0).2 l hl; omega⟩
theorem fewS_ok (b0 : List (List UInt8)) : Neat (fewS b0) := ⟨by have := (fewS_neat b0).1; omega, fun l hl => by have := (fewS_neat b0).2 l hl; omega⟩
theorem frs_few : ∀ (bs : List (List UInt8)), (∀ l ∈ bs, l.length ≤ 300) → (frs bs).length ≤ bs.length * 314
  | [], _ => by simp [frs_nil]
  | l :: bs, h => by
    have h1 := frs_few bs fun x hx => h x (by simp [hx])
    have h2 := h l (by simp)
    have h3 := leb_len10 (n := l.length) (by omega)
    rw [frs_cons, List.length_append, frm_len, List.length_cons]
    omega
theorem fewS_join (b0 : List (List UInt8)) : (join (fewS b0)).length ≤ 15704 := by
  have h := fewS_neat b0
  have := frs_few (fewS b0) h.2
  rw [join_len]
  omega
theorem over_false {bs : List (List UInt8)} (h1 : bs.length ≤ 4096) (h2 : ∀ l ∈ bs, l.length ≤ 20000) (h3 : (join bs).length ≤ 1048576) : over bs = false := by
  unfold over
  simp only [Bool.or_eq_false_iff, decide_eq_false_iff_not, List.any_eq_false, decide_eq_true_eq]
  exact ⟨⟨by omega, fun l hl => by have := h2 l hl; omega⟩, by omega⟩
theorem fewS_over (b0 : List (List UInt8)) : over (fewS b0) = false :=
  over_false (by have := (fewS_neat b0).1; omega) (fun l hl => by have := (fewS_neat b0).2 l hl; omega) (by have := fewS_join b0; omega)
theorem splitL_join {bs : List (List UInt8)} (h1 : bs.length ≤ 4096) (h2 : ∀ l ∈ bs, l.length ≤ 20000) (h3 : (join bs).length ≤ 1048576) : splitL (join bs) = (bs, (join bs).length, 0) := by
  unfold splitL
  rw [if_pos h3, split_join bs h1 h2]
theorem fewS_split (b0 : List (List UInt8)) : splitL (join (fewS b0)) = (fewS b0, (join (fewS b0)).length, 0) :=
  splitL_join (by have := (fewS_neat b0).1; omega) (fun l hl => by have := (fewS_neat b0).2 l hl; omega) (by have := fewS_join b0; omega)
theorem splitL_small {b : List UInt8} (h : b.length ≤ 1048576) : splitL b = splitS b := by unfold splitL; rw [if_pos h]
end Go.Proofs.YtknnncdmpfmgkaaDoor
