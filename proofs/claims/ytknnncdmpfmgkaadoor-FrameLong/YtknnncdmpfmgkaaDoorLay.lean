/-
  From the rows' premise on the table to its cells; a world that holds it; rows of bytes that came in. No condition.
-/
import Derived.Test.YtknnncdmpfmgkaaDoorView
import Derived.Lib.LaidTab
import Derived.LaidSub
namespace Go.Proofs.YtknnncdmpfmgkaaDoor
open Go.RowKit

theorem gTab : Tryd.prog.globalNamed "transept/crc.remainders" = some 0 := by kernel_rfl
theorem gTabType : (Tryd.prog.globals[0]?).map (·.type) = some 79 := by kernel_rfl
theorem cellsTab : Tryd.prog.cellsOf 79 = 16 := by kernel_rfl
theorem cells49 : Tryd.prog.cellsOf 49 = 1 := by kernel_rfl
def laidOne : List (String × DataW Unit) := [("transept/crc.remainders", Rows.laid_transept_crc_remainders)]
theorem table {W : World} (h : laidMetH Tryd.prog laidOne W) : Lib.TabIs Tryd.prog W "transept/crc.remainders" .u32 [0, 498536548, 997073096, 651767980, 1994146192, 1802195444, 1303535960, 1342533948, 3988292384, 4027552580, 3604390888, 3412177804, 2607071920, 2262029012, 2685067896, 3183342108] :=
  Lib.tabIs_of_head (rest := []) gTab gTabType Tryd.underlying79 Tryd.underlying49 cells49 cellsTab h
theorem tab_of {W : World} (h : laidMetH Tryd.prog laidOne W) : Tab W := by
  have hc : ∀ i, i < 16 → W.cell? ⟨0, i, none⟩ = some (.int .u32 (tab i : Int)) := fun i hi => by
    match i, hi with
    | 0, _ => exact (table h).cell gTab 0 (by decide)
    | 1, _ => exact (table h).cell gTab 1 (by decide)
    | 2, _ => exact (table h).cell gTab 2 (by decide)
    | 3, _ => exact (table h).cell gTab 3 (by decide)
    | 4, _ => exact (table h).cell gTab 4 (by decide)
    | 5, _ => exact (table h).cell gTab 5 (by decide)
    | 6, _ => exact (table h).cell gTab 6 (by decide)
    | 7, _ => exact (table h).cell gTab 7 (by decide)
    | 8, _ => exact (table h).cell gTab 8 (by decide)
    | 9, _ => exact (table h).cell gTab 9 (by decide)
    | 10, _ => exact (table h).cell gTab 10 (by decide)
    | 11, _ => exact (table h).cell gTab 11 (by decide)
    | 12, _ => exact (table h).cell gTab 12 (by decide)
    | 13, _ => exact (table h).cell gTab 13 (by decide)
    | 14, _ => exact (table h).cell gTab 14 (by decide)
    | 15, _ => exact (table h).cell gTab 15 (by decide)
    | k + 16, hk => exact absurd hk (by omega)
  exact ⟨World.block_lt_of_cell? W _ (hc 0 (by decide)), hc⟩
/-- A world that holds the table. -/
noncomputable def laidWorld (os : Os) : World :=
  { World.holding Tryd.prog os ⟨#[], #[], []⟩ with heap := (World.holding Tryd.prog os ⟨#[], #[], []⟩).heap.modify 0 fun
      | .cells _ t frozen => .cells #[.int .u32 0, .int .u32 498536548, .int .u32 997073096, .int .u32 651767980, .int .u32 1994146192, .int .u32 1802195444, .int .u32 1303535960, .int .u32 1342533948, .int .u32 3988292384, .int .u32 4027552580, .int .u32 3604390888, .int .u32 3412177804, .int .u32 2607071920, .int .u32 2262029012, .int .u32 2685067896, .int .u32 3183342108] t frozen
      | o => o }

/-- A slice of slices of bytes that came in, as the proof's frame opens it. -/
theorem rv_of {W : World} {x : Addr} {len base : Nat} {A : Nat → Option Addr} {L C : Nat → Nat} {Z : Nat → List Int}
    (h : ∀ r, r < len → W.cell? (x.add r) = some (.slice (A r) (L r) (C r)) ∧ L r ≤ C r ∧ C r ≤ maxLen ∧ (Z r).length = C r ∧ (∀ n ∈ Z r, (Lit.int .u8 n).wf = true) ∧ (A r = none → C r = 0) ∧
        ∀ a', A r = some a' → base ≤ a'.block ∧ ∀ c, c < C r → W.cell? (a'.add c) = some (.int .u8 ((Z r).getD c 0))) : ∃ bs, Rv W (some x) len bs := by
  have one : ∀ i, i < len → ∃ l : List UInt8, ∃ b off A' c', x = ⟨b, off, none⟩ ∧ b < W.heap.size ∧ W.cell? ⟨b, off + i, none⟩ = some (.slice A' l.length c') ∧ l.length ≤ c' ∧ c' ≤ 9223372036854775807 ∧ Bs W W.heap.size A' l.length l := by
    intro i hi
    obtain ⟨h1, h2, h3, h4, h5, h6, h7⟩ := h i hi
    obtain ⟨b, off, sp⟩ := x
    have hsp : sp = none := by simpa [Addr.add] using World.cell?_spot (h 0 (by omega)).1
    subst hsp
    rw [Addr.add_lit] at h1
    obtain ⟨l, k1, k2, k3⟩ := bs_of_row (w := W) (a := A i) (len := L i) (cap := C i) (zs := Z i) (by
      cases hA : A i with
      | none =>
        have h0 := h6 hA
        exact .inl ⟨rfl, by omega, h0, List.eq_nil_of_length_eq_zero (by omega)⟩
      | some a' => exact .inr ⟨a', rfl, h2, h3, h4, fun j hj => (h7 a' hA).2 j (by omega), h5⟩)
    have e := k1.1
    refine ⟨l, b, off, A i, C i, rfl, World.block_lt_of_cell? W _ h1, ?_, ?_, k3, ?_⟩
    · rw [e]; exact h1
    · omega
    · rw [e]; exact k1
  obtain ⟨f, hf⟩ : ∃ f : Nat → List UInt8, ∀ i, i < len → ∃ b off A' c', x = ⟨b, off, none⟩ ∧ b < W.heap.size ∧ W.cell? ⟨b, off + i, none⟩ = some (.slice A' (f i).length c') ∧ (f i).length ≤ c' ∧ c' ≤ 9223372036854775807 ∧ Bs W W.heap.size A' (f i).length (f i) :=
    ⟨fun i => if hi : i < len then Classical.choose (one i hi) else [], fun i hi => by
      have := Classical.choose_spec (one i hi)
      simp only [hi, dif_pos]
      exact this⟩
  refine ⟨(List.range len).map f, by simp, fun i l hl => ?_⟩
  rw [List.getElem?_map, Option.map_eq_some_iff] at hl
  obtain ⟨j, hj, rfl⟩ := hl
  obtain ⟨hj1, hj2⟩ := List.getElem?_eq_some_iff.1 hj
  rw [List.getElem_range] at hj2
  subst hj2
  rw [List.length_range] at hj1
  obtain ⟨b, off, A', c', h1, r⟩ := hf i hj1
  exact ⟨b, off, A', c', by rw [h1], r⟩
end Go.Proofs.YtknnncdmpfmgkaaDoor
