/-
  A row of headers that came in, as the proof's frame opens it, its texts bounded by the weights that the first form bounds. No condition.
-/
import Derived.Test.YtonchnmcklgpoaaGreatDoorFa
import Derived.Test.YtonchnmcklgpoaaGreatDoorRows
import Derived.Deep.SlicePairs
namespace Go.Proofs.YtonchnmcklgpoaaGreatDoor
open Go.RowKit Go.ChangeShapes
set_option linter.unusedVariables false

theorem weights_mem {H : Type} {P : Program} {e : TypeId} {d : DataW H} {x : Nat} (hx : x ∈ d.weights P e) : ∀ {ds : List (DataW H)}, d ∈ ds → x ∈ DataW.weightsAll P e ds
  | [], h => by cases h
  | y :: r, h => by
    rw [DataW.weightsAll]
    rcases List.mem_cons.1 h with rfl | h
    · exact List.mem_append_left _ hx
    · exact List.mem_append_right _ (weights_mem hx h)
theorem pair_weights {H : Type} (a b : List UInt8) : a.length ∈ DataW.weights Tryz.prog 28 (.agg [.lit (.string a), .lit (.string b)] : DataW H) ∧ b.length ∈ DataW.weights Tryz.prog 28 (.agg [.lit (.string a), .lit (.string b)] : DataW H) := by
  simp [DataW.weights, DataW.weightsEach, Tryz.underlying28]
theorem open_fieldsW {H : Type} {enc : TypeId × Value → H} {W : World} {base : Nat} {spare : Nat → Bool} {held : Bool} {fuel : Nat} {A : Option Addr} {n c : Nat} {x : DataW H × List MemPlace}
    (h : DataW.trod enc Tryz.prog W base spare held fuel 25 [.slice A n c] = some x) : ∃ fs : List (List UInt8 × List UInt8), n ≤ c ∧ c ≤ 9223372036854775807 ∧ Fs W W.heap.size A n fs ∧ (∀ K, (∀ y ∈ DataW.weights Tryz.prog 25 x.1, y ≤ K) → ∀ f ∈ fs, f.1.length ≤ K ∧ f.2.length ≤ K) := by
  rcases Go.Deep.open_slice_pairs Tryz.underlying25 Tryz.underlying28 (by kernel_rfl) rfl rfl (by kernel_rfl) (by kernel_rfl) h with ⟨hcs, _⟩ | ⟨a, len, cap, m, k, V0, V1, D0, D1, P0, P1, hcs, _, hl, hm, hmm, hx, hcell⟩
  · simp at hcs
    obtain ⟨rfl, rfl, rfl⟩ := hcs
    exact ⟨[], Nat.le_refl _, by omega, ⟨rfl, fun h => absurd h (by omega)⟩, fun K _ f hf => by cases hf⟩
  · simp at hcs
    obtain ⟨rfl, rfl, rfl⟩ := hcs
    have hlm : n ≤ m := by rw [hmm]; split <;> omega
    have each : ∀ i, i < m → ∃ q : ByteArray × ByteArray, V0 i = .string q.1 ∧ V1 i = .string q.2 ∧ D0 i = .lit (.string q.1.data.toList) ∧ D1 i = .lit (.string q.2.data.toList) := fun i hi => by
      obtain ⟨_, _, h3, h4⟩ := hcell i hi
      obtain ⟨s, hs, hd, _⟩ := DataW.trod_string Tryz.underlying9 h3
      obtain ⟨s2, hs2, hd2, _⟩ := DataW.trod_string Tryz.underlying9 h4
      simp at hs hs2
      exact ⟨(s, s2), hs, hs2, by rw [Prod.mk.injEq] at hd; exact hd.1, by rw [Prod.mk.injEq] at hd2; exact hd2.1⟩
    obtain ⟨q, hq⟩ := Go.Deep.choose_lt (α := ByteArray × ByteArray) each
    refine ⟨(List.range n).map fun i => ((q i).1.data.toList, (q i).2.data.toList), hl, hm, ⟨by simp, fun hn => ?_⟩, fun K hK f hf => ?_⟩
    · have h0 := (hcell 0 (by omega)).1
      obtain ⟨b, off, sp⟩ := a
      have hsp : sp = none := by simpa [Addr.add] using World.cell?_spot h0
      subst hsp
      refine ⟨b, off, rfl, World.block_lt_of_cell? W _ h0, fun j f hj => ?_⟩
      rw [List.getElem?_map, Option.map_eq_some_iff] at hj
      obtain ⟨i, hi, rfl⟩ := hj
      obtain ⟨hj1, hj2⟩ := List.getElem?_eq_some_iff.1 hi
      rw [List.getElem_range] at hj2
      subst hj2
      rw [List.length_range] at hj1
      obtain ⟨h1, h2, _, _⟩ := hcell j (by omega)
      obtain ⟨e1, e2, _, _⟩ := hq j (by omega)
      rw [Addr.add_lit] at h1 h2
      refine ⟨?_, ?_⟩
      · rw [h1, e1]; rfl
      · rw [Nat.add_assoc, h2, e2]; rfl
    · obtain ⟨i, hi, rfl⟩ := List.mem_map.1 hf
      have hi2 := List.mem_range.1 hi
      obtain ⟨_, _, e1, e2⟩ := hq i (by omega)
      rw [hx] at hK
      have hm : (.agg [D0 i, D1 i] : DataW H) ∈ (List.range n).map fun i => (.agg [D0 i, D1 i] : DataW H) := List.mem_map.2 ⟨i, hi, rfl⟩
      have hw := pair_weights (H := H) (q i).1.data.toList (q i).2.data.toList
      rw [← e1, ← e2] at hw
      have hsub : ∀ y, y ∈ DataW.weights Tryz.prog 28 (.agg [D0 i, D1 i] : DataW H) → y ≤ K := fun y hy => hK y (by
        rw [DataW.weights, Tryz.underlying25]
        exact List.mem_cons_of_mem _ (List.mem_append_left _ (weights_mem hy hm)))
      exact ⟨hsub _ hw.1, hsub _ hw.2⟩
end Go.Proofs.YtonchnmcklgpoaaGreatDoor
