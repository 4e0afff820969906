/-
  The Go function transept/transeptlaw01.NumberRows returns true for all numbers and all texts that it is called with, and leaves them as they were; no condition.
-/
import Derived.Test.YtjkjleadhmmajaaRows
import Derived.Test.YtjkjleadhmmajaaRows2
import Derived.SliceStrings
import Derived.WalkKit
import Derived.ProofKit
import Derived.OpenShut
import Derived.ShutString
import Derived.ChangeOld
import Derived.Below
namespace Go.Proofs.Ytjkjleadhmmajaa.numberRows
open Go.ChangeShapes Go.WideShapes Go.ChangeAt Go.RowKit
open Go.ChangeMaps (open_string shut_string)
set_option linter.unusedVariables false

theorem own : ownKnob Try.prog.godebug = none := by kernel_rfl
theorem laidOut : laidOutB Try.prog = true := by kernel_rfl

theorem vals_of {w : World} (x : Addr) (n : Nat) (f : Nat → Value) (hpos : 0 < n) (h : ∀ j, j < n → w.cell? (x.add j) = some (f j)) :
    ∃ b off, some x = some ⟨b, off, none⟩ ∧ b < w.heap.size ∧ ∀ j, j < n → w.cell? ⟨b, off + j, none⟩ = some (f j) := by
  obtain ⟨b, off, sp⟩ := x
  have h0 := h 0 hpos
  have hsp : sp = none := by simpa [Addr.add] using World.cell?_spot h0
  subst hsp
  refine ⟨b, off, rfl, ?_, fun j hj => ?_⟩
  · have := World.block_lt_of_cell? w _ h0
    simpa [Addr.add_lit] using this
  · have := h j hj
    rwa [Addr.add_lit] at this
theorem nat_of_wf {zs : List Int} (h : ∀ n ∈ zs, (Lit.int .u64 n).wf = true) (j : Nat) : 0 ≤ zs.getD j 0 ∧ zs.getD j 0 < 18446744073709551616 := by
  rcases Nat.lt_or_ge j zs.length with h1 | h1
  · have := bounds_u64 (h _ (List.getElem_mem h1))
    simp only [List.getD, List.getElem?_eq_getElem h1, Option.getD_some]
    omega
  · simp [List.getD, List.getElem?_eq_none h1]

theorem walk (a0 : Option Addr) (len0 cap0 : Nat) (z : Nat → Nat) (a1 : Option Addr) (len1 cap1 : Nat) (s : Nat → List UInt8) (w : World)
    (h0 : Vals w a0 len0 (fun j => .int .u64 (z j)) ∧ (∀ j, z j < 18446744073709551616) ∧ len0 ≤ 9223372036854775807)
    (h1 : Vals w a1 len1 (fun j => .string (str (s j))) ∧ (∀ j, (s j).length ≤ 9223372036854775807) ∧ len1 ≤ 9223372036854775807) :
    Calls Try.prog 8 #[.slice a0 len0 cap0, .slice a1 len1 cap1] w fun e w' => e = .returned (.bool true) ∧ Below w.heap.size w w' :=
  rows_walk a0 len0 cap0 z a1 len1 cap1 s w h0.1 h1.1 h0.2.1 (fun j _ => h1.2.1 j) h0.2.2 h1.2.2

set_option maxRecDepth 100000 in
theorem lifted (os : Os) (started : os.Started) (H : Type) (enc : TypeId × Value → H) :
    ReturnsInHanded {} Try.checked os 8 .any (Rows.numberRowsSpec.pre6 enc Try.prog Try.f8 Rows.numberRowsRow.domain false) (Rows.numberRowsSpec.post enc Try.prog Try.f8 false true false false) := by
  refine returnsInHanded_of_change (C := Try.checked) own started (by kernel_rfl) Try.func8
    (ChangeSpec.witness6 (enc := enc) (C := Try.checked) false ⟨#[], #[.slice none 0 0, .slice none 0 0], []⟩ 8 (by kernel_rfl) (by kernel_rfl) (by kernel_rfl) (by kernel_rfl)) ?_
  intro W base args ds gs before hval0 hW hcnd _
  have hval : ∀ (j : Nat) t v, Try.f8.params[j]? = some t → args[j]? = some v → Value.okWide Try.prog W .any base t v := hval0
  have hW' := hW
  obtain ⟨p, q, hA0, hV, rfl, hfz, hnd⟩ := hW
  have hA : DataW.TrodAll enc Try.prog W 0 (fun _ => true) true Try.f8.params.toList args.toList ds p := hA0
  rw [Try.params8] at hA hval
  obtain ⟨v0, vs0, d0, ds0, p0, q0, hargs, rfl, rfl, h0, r0⟩ := trodAll_cons hA
  obtain ⟨v1, vs1, d1, ds1, p1, q1, rfl, rfl, rfl, h1, r1⟩ := trodAll_cons r0
  obtain ⟨rfl, rfl, rfl⟩ := trodAll_nil r1
  obtain rfl : args = #[v0, v1] := by cases args; simp_all
  obtain ⟨rfl, rfl⟩ := trodVars_none hV
  obtain ⟨a0, len0, cap0, rfl⟩ := okWide_slice Try.underlying42 (hval 0 42 v0 rfl rfl)
  have k0 := h0
  have lt0 : ∀ x ∈ p0, x.block < W.heap.size := by obtain ⟨m, hm⟩ := k0; exact DataW.trod_lt m _ _ _ hm
  obtain ⟨z, w0⟩ : ∃ z : Nat → Nat, Vals W a0 len0 (fun j => .int .u64 (z j)) ∧ (∀ j, z j < 18446744073709551616) ∧ len0 ≤ 9223372036854775807 := by
    obtain ⟨fuel, hf⟩ := h0
    rcases open_ints Try.underlying42 Try.underlying23 (by kernel_rfl) hf with ⟨hcs, _⟩ | ⟨x, l, c, zs, hcs, _, hl, hm, hz, _, hcell, hwz⟩
    · simp [Value.cells] at hcs
      obtain ⟨rfl, rfl, rfl⟩ := hcs
      exact ⟨fun _ => 0, fun h => absurd h (by omega), fun _ => by dsimp only; omega, by omega⟩
    · simp [Value.cells] at hcs
      obtain ⟨rfl, rfl, rfl⟩ := hcs
      have hz' : zs.length = cap0 := by simpa using hz
      refine ⟨fun j => (zs.getD j 0).toNat, fun hpos => vals_of x len0 _ hpos (fun j hj => ?_), fun j => ?_, by unfold maxLen at hm; omega⟩
      · have hb := nat_of_wf hwz j
        rw [hcell j (by omega)]
        simp only []
        rw [Int.toNat_of_nonneg hb.1]
      · have hb := nat_of_wf hwz j
        show (zs.getD j 0).toNat < _
        omega
  obtain ⟨a1, len1, cap1, rfl⟩ := okWide_slice Try.underlying43 (hval 1 43 v1 rfl rfl)
  have k1 := h1
  have lt1 : ∀ x ∈ p1, x.block < W.heap.size := by obtain ⟨m, hm⟩ := k1; exact DataW.trod_lt m _ _ _ hm
  obtain ⟨s, w1⟩ : ∃ s : Nat → List UInt8, Vals W a1 len1 (fun j => .string (str (s j))) ∧ (∀ j, (s j).length ≤ 9223372036854775807) ∧ len1 ≤ 9223372036854775807 := by
    obtain ⟨fuel, hf⟩ := h1
    rcases open_strings Try.underlying43 Try.underlying9 (by kernel_rfl) hf with ⟨hcs, _⟩ | ⟨x, l, c, ss, hcs, _, hl, hm, hz, _, hcell, hwz⟩
    · simp [Value.cells] at hcs
      obtain ⟨rfl, rfl, rfl⟩ := hcs
      exact ⟨fun _ => [], fun h => absurd h (by omega), fun _ => by simp, by omega⟩
    · simp [Value.cells] at hcs
      obtain ⟨rfl, rfl, rfl⟩ := hcs
      have hz' : ss.length = cap1 := by simpa using hz
      refine ⟨fun j => (ss.getD j ByteArray.empty).data.toList, fun hpos => vals_of x len1 _ hpos (fun j hj => hcell j (by omega)), fun j => ?_, by unfold maxLen at hm; omega⟩
      show (ss.getD j ByteArray.empty).size ≤ _
      rcases Nat.lt_or_ge j ss.length with h | h
      · have := hwz _ (List.getElem_mem h)
        unfold maxLen at this
        simpa [List.getD, List.getElem?_eq_getElem h] using this
      · simp [List.getD, List.getElem?_eq_none h]
  clear hA0 hval0
  refine (walk a0 len0 cap0 z a1 len1 cap1 s W w0 w1).mono fun e W' ⟨he, bel⟩ => ?_
  subst he
  exact ⟨_, rfl, _, _, _, [], _, [], hW', trodAll_mk1 (shut_bool Try.underlying4 _), (trodAll_cons_mk (Below.trod laidOut (by kernel_rfl) (of_decide_eq_true (by kernel_rfl)) k0 bel lt0) (trodAll_cons_mk (Below.trod laidOut (by kernel_rfl) (of_decide_eq_true (by kernel_rfl)) k1 bel lt1) trodAll_mk0)), rfl, bel.frame _, fun h => by cases h⟩

theorem over : Rows.numberRowsRow.holds Try.pinned (OpenSpec.ofChange Rows.numberRowsSpec) :=
  OpenClaim.holds_of_wide 8 Try.f8 rfl rfl rfl rfl rfl rfl rfl ⟨rfl, rfl, rfl, rfl, rfl⟩ rfl rfl rfl rfl rfl (by kernel_rfl) Try.func8 (by kernel_rfl)
    (of_decide_eq_true (by kernel_rfl)) (by unfold Func.isWrapper; first | (rw [if_pos (by decide +kernel)]; kernel_rfl) | (rw [if_neg (by decide +kernel)]; exact ⟨rfl, rfl⟩))
    (fun os started H enc _ => lifted os started H enc)

theorem proved : Rows.NumberRowsSaid := over
#print axioms proved
end Go.Proofs.Ytjkjleadhmmajaa.numberRows
