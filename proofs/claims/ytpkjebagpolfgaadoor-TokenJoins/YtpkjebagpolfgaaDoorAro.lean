/-
  A row of texts, and a row of answers, that came in, as the proof's frame opens them. No condition.
-/
import Derived.Test.YtpkjebagpolfgaaDoorTm
import Derived.SliceStrings
import Derived.Deep.Grids
namespace Go.Proofs.YtpkjebagpolfgaaDoor
open Go.RowKit Go.ChangeShapes

theorem tv_of {W : World} {x : Addr} {l c : Nat} {ss : List ByteArray} (hl : l ≤ c) (hz : ss.length = c) (hcell : ∀ i, i < ss.length → W.cell? (x.add i) = some (.string (ss.getD i ByteArray.empty))) : Tv W (some x) l ((ss.take l).map fun s => s.data.toList) := by
  refine ⟨by rw [List.length_map, List.length_take]; omega, fun j p hj => ?_⟩
  rw [List.getElem?_map, Option.map_eq_some_iff] at hj
  obtain ⟨s, hs, rfl⟩ := hj
  rw [List.getElem?_take] at hs
  split at hs
  · have hlt := (List.getElem?_eq_some_iff.1 hs).1
    have h1 := hcell j hlt
    have h0 := hcell 0 (by omega)
    obtain ⟨b, off, sp⟩ := x
    have hsp : sp = none := by simpa [Addr.add] using World.cell?_spot h0
    subst hsp
    rw [Addr.add_lit] at h1
    refine ⟨b, off, rfl, World.block_lt_of_cell? W _ h1, ?_⟩
    rw [h1, str_data]
    simp [List.getD, hs]
  · cases hs
theorem lv_of {W : World} {x : Addr} {l c : Nat} {B : Nat → Bool} (hl : l ≤ c) (hcell : ∀ i, i < c → W.cell? (x.add i) = some (.bool (B i))) : Lv W (some x) l ((List.range l).map B) := by
  refine ⟨by simp, fun j p hj => ?_⟩
  rw [List.getElem?_map, Option.map_eq_some_iff] at hj
  obtain ⟨i, hi, rfl⟩ := hj
  obtain ⟨h1, h2⟩ := List.getElem?_eq_some_iff.1 hi
  rw [List.getElem_range] at h2
  subst h2
  rw [List.length_range] at h1
  have h1 := hcell j (by omega)
  have h0 := hcell 0 (by omega)
  obtain ⟨b, off, sp⟩ := x
  have hsp : sp = none := by simpa [Addr.add] using World.cell?_spot h0
  subst hsp
  rw [Addr.add_lit] at h1
  exact ⟨b, off, rfl, World.block_lt_of_cell? W _ h1, h1⟩
theorem strs_weights {H : Type} {P : Program} {e : TypeId} {s : ByteArray} : ∀ {ss : List ByteArray}, s ∈ ss → s.data.toList.length ∈ DataW.weightsAll P e (strs (H := H) ss) := by
  intro ss
  induction ss with
  | nil => intro h; cases h
  | cons a r ih =>
    intro h
    rcases List.mem_cons.1 h with rfl | h
    · simp [strs, DataW.weightsAll, DataW.weights]
    · have h2 := ih h
      show _ ∈ DataW.weights P e _ ++ DataW.weightsAll P e (strs r)
      exact List.mem_append.2 (.inr h2)
end Go.Proofs.YtpkjebagpolfgaaDoor
