/-
  The Go function transept/transeptlaw10.FieldAgain returns true for every row of headers and every text that it is called with, where they hold together at most 1048576 values and letters, and leaves them as they were; no other condition.
-/
import Derived.Test.YtbkblimpolkllaaRows
import Derived.Test.YtbkblimpolkllaaPg
import Derived.Test.YtbkblimpolkllaaArf
import Derived.WalkKit
import Derived.ProofKit
import Derived.OpenShut
import Derived.ShutString
import Derived.ChangeOld
import Derived.Below
import Derived.JoinedCond
namespace Go.Proofs.Ytbkblimpolkllaa.fieldAgainUpto
open Go.ChangeShapes Go.WideShapes Go.ChangeAt Go.RowKit
set_option linter.unusedVariables false

theorem own : ownKnob Try.prog.godebug = none := by kernel_rfl
theorem laidOut : laidOutB Try.prog = true := by kernel_rfl
theorem walk (a0 : Option Addr) (l0 c0 : Nat) (z0 : List (List UInt8 × List UInt8)) (s1 : ByteArray) (w : World) (u0 : l0 ≤ c0) (m0 : c0 ≤ 9223372036854775807) (w0 : Fs w w.heap.size a0 l0 z0) (b0 : ∀ f ∈ z0, f.1.length ≤ 1048576 ∧ f.2.length ≤ 1048576) (b1 : s1.size ≤ 1048576) :
    Calls Try.prog 4 #[.slice a0 l0 c0, .string s1] w fun e w' => e = .returned (.bool true) ∧ Below w.heap.size w w' := by
  have h1 : s1.data.toList.length = s1.size := Array.length_toList
  rw [← str_data s1]
  exact again_any z0 a0 l0 c0 _ w w0 u0 m0 b0 (by omega)

set_option maxRecDepth 100000 in
theorem contract (H : Type) (enc : TypeId × Value → H) (W : World) (base : Nat) (args : Array Value) (ds gs : List (DataW H)) (before : List MemPlace)
    (hval : ∀ (j : Nat) t v, Try.f4.params[j]? = some t → args[j]? = some v → Value.okWide Try.prog W .any base t v)
    (hW : DataW.Whole enc Try.prog Try.f4.params.toList Rows.fieldAgainSpec.vars false W args.toList ds gs before) (hk : Rows.uptoSmall H (ds ++ gs) = true) :
    Calls Try.prog 4 args W fun e W' => ∃ v, e = .returned v ∧ Rows.fieldAgainSpec.post enc Try.prog Try.f4 false true false false W args v W' := by
  have hW' := hW
  obtain ⟨p, q, hA0, hV, rfl, hfz, hnd⟩ := hW
  have hA : DataW.TrodAll enc Try.prog W 0 (fun _ => true) true Try.f4.params.toList args.toList ds p := hA0
  rw [Try.params4] at hA hval
  obtain ⟨v0, vs0, d0, ds0, p0, q0, hargs, rfl, rfl, h0, r0⟩ := trodAll_cons hA
  obtain ⟨v1, vs1, d1, ds1, p1, q1, rfl, rfl, rfl, h1, r1⟩ := trodAll_cons r0
  obtain ⟨rfl, rfl, rfl⟩ := trodAll_nil r1
  obtain rfl : args = #[v0, v1] := Array.ext' hargs
  obtain ⟨rfl, rfl⟩ := trodVars_none hV
  have hB : Rows.uptoBulkAll ([d0, d1] ++ [] : List (DataW H)) ≤ 1048576 := of_decide_eq_true hk
  simp only [List.cons_append, List.nil_append, Rows.uptoBulkAll] at hB
  have k0 := h0
  have lt0 : ∀ x ∈ p0, x.block < W.heap.size := by obtain ⟨m, hm⟩ := k0; exact DataW.trod_lt m _ _ _ hm
  obtain ⟨a0, l0, c0, rfl⟩ := okWide_slice Try.underlying26 (hval 0 26 v0 rfl rfl)
  obtain ⟨z0, u0, m0, w0, b0⟩ : ∃ z, l0 ≤ c0 ∧ c0 ≤ 9223372036854775807 ∧ Fs W W.heap.size a0 l0 z ∧ ∀ f ∈ z, f.1.length ≤ 1048576 ∧ f.2.length ≤ 1048576 := by
    obtain ⟨fuel, hf⟩ := h0
    obtain ⟨z, x1, x2, x3, x4⟩ := open_fields hf
    exact ⟨z, x1, x2, x3, x4 1048576 (by show Rows.uptoBulk d0 ≤ _; omega)⟩
  have k1 := h1
  have lt1 : ∀ x ∈ p1, x.block < W.heap.size := by obtain ⟨m, hm⟩ := k1; exact DataW.trod_lt m _ _ _ hm
  obtain ⟨s1, rfl⟩ := okWide_string Try.underlying9 (hval 1 9 v1 rfl rfl)
  have e1 : d1 = .lit (.string s1.data.toList) := by
    obtain ⟨fuel, hf⟩ := h1
    obtain ⟨s', hs', hd, hm⟩ := DataW.trod_string Try.underlying9 hf
    simp [Value.cells] at hs'
    subst hs'
    first | exact hd | (rw [Prod.mk.injEq] at hd; exact hd.1) | (cases hd; rfl)
  subst e1
  have b1 : s1.size ≤ 1048576 := by
    rw [bulk_str] at hB
    have : s1.data.toList.length = s1.size := Array.length_toList
    omega
  clear hA0
  refine (walk a0 l0 c0 z0 s1 W u0 m0 w0 b0 b1).mono fun e W' ⟨he, bel⟩ => ?_
  subst he
  exact ⟨_, rfl, _, _, _, [], _, [], hW', trodAll_mk1 (shut_bool Try.underlying4 _), (trodAll_cons_mk (Below.trod laidOut (by kernel_rfl) (of_decide_eq_true (by kernel_rfl)) k0 bel lt0) (trodAll_cons_mk (Below.trod laidOut (by kernel_rfl) (of_decide_eq_true (by kernel_rfl)) k1 bel lt1) trodAll_mk0)), rfl, bel.frame _, fun h => by cases h⟩

set_option maxRecDepth 100000 in
theorem lifted (os : Os) (started : os.Started) (H : Type) (enc : TypeId × Value → H) (F : Stop.Interp) :
    ReturnsInHanded {} Try.checked os 4 .any ((Rows.OpenSpec.upto Rows.fieldAgainSpec).pre6 enc Try.prog Try.f4 Rows.fieldAgainUptoRow.domain false) (((Rows.OpenSpec.upto Rows.fieldAgainSpec).at F).post enc Try.prog Try.f4 false true false false) := by
  refine returnsInHanded_of_cond (C := Try.checked) (s := Rows.OpenSpec.upto Rows.fieldAgainSpec) (k := Rows.uptoSmall) rfl own started (by kernel_rfl) Try.func4
    (OpenSpec.witness (enc := enc) (C := Try.checked) (s := Rows.OpenSpec.upto Rows.fieldAgainSpec) (k := Rows.uptoSmall) rfl false ⟨#[], #[.slice none 0 0, .string ⟨#[]⟩], []⟩ 8 (by kernel_rfl) (by kernel_rfl) (by kernel_rfl)
      (x := ([.nil, .lit (.string [])], [], [])) (by kernel_rfl) rfl (by kernel_rfl)) ?_
  intro W base args ds gs before hval hW _ hk _
  exact contract H enc W base args ds gs before hval hW hk

theorem over : Rows.fieldAgainUptoRow.holds Try.pinned (Rows.OpenSpec.upto Rows.fieldAgainSpec) :=
  OpenClaim.holds_of_cond 4 Try.f4 rfl rfl rfl rfl rfl rfl rfl ⟨rfl, rfl, rfl, rfl, rfl⟩ rfl rfl rfl rfl rfl (by kernel_rfl) Try.func4 (by kernel_rfl)
    (of_decide_eq_true (by kernel_rfl)) (by unfold Func.isWrapper; first | (rw [if_pos (by decide +kernel)]; kernel_rfl) | (rw [if_neg (by decide +kernel)]; exact ⟨rfl, rfl⟩))
    (fun os started H enc _ F => lifted os started H enc F)

theorem proved : Rows.FieldAgainUptoSaid := over
#print axioms proved
end Go.Proofs.Ytbkblimpolkllaa.fieldAgainUpto
