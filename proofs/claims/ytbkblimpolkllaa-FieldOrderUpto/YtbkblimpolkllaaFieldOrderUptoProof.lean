/-
  The Go function transept/transeptlaw10.FieldOrder returns true for every two rows of headers and every text that it is called with, where they hold together at most 1048576 values and letters, and leaves them as they were; no other condition.
-/
import Derived.Test.YtbkblimpolkllaaRows
import Derived.Test.YtbkblimpolkllaaPo
import Derived.Test.YtbkblimpolkllaaArf
import Derived.WalkKit
import Derived.ProofKit
import Derived.OpenShut
import Derived.ShutString
import Derived.ChangeOld
import Derived.Below
import Derived.JoinedCond
namespace Go.Proofs.Ytbkblimpolkllaa.fieldOrderUpto
open Go.ChangeShapes Go.WideShapes Go.ChangeAt Go.RowKit
set_option linter.unusedVariables false

theorem own : ownKnob Try.prog.godebug = none := by kernel_rfl
theorem laidOut : laidOutB Try.prog = true := by kernel_rfl
theorem walk (a0 : Option Addr) (l0 c0 : Nat) (z0 : List (List UInt8 × List UInt8)) (a1 : Option Addr) (l1 c1 : Nat) (z1 : List (List UInt8 × List UInt8)) (s2 : ByteArray) (w : World) (u0 : l0 ≤ c0) (m0 : c0 ≤ 9223372036854775807) (w0 : Fs w w.heap.size a0 l0 z0) (b0 : ∀ f ∈ z0, f.1.length ≤ 1048576 ∧ f.2.length ≤ 1048576) (u1 : l1 ≤ c1) (m1 : c1 ≤ 9223372036854775807) (w1 : Fs w w.heap.size a1 l1 z1) (b1 : ∀ f ∈ z1, f.1.length ≤ 1048576 ∧ f.2.length ≤ 1048576) (b2 : s2.size ≤ 1048576) :
    Calls Try.prog 5 #[.slice a0 l0 c0, .slice a1 l1 c1, .string s2] w fun e w' => e = .returned (.bool true) ∧ Below w.heap.size w w' := by
  have h2 : s2.data.toList.length = s2.size := Array.length_toList
  rw [← str_data s2]
  exact order_any z0 z1 a0 a1 l0 l1 c0 c1 _ w w0 w1 u0 u1 m0 m1 b0 b1 (by omega)

set_option maxRecDepth 100000 in
theorem contract (H : Type) (enc : TypeId × Value → H) (W : World) (base : Nat) (args : Array Value) (ds gs : List (DataW H)) (before : List MemPlace)
    (hval : ∀ (j : Nat) t v, Try.f5.params[j]? = some t → args[j]? = some v → Value.okWide Try.prog W .any base t v)
    (hW : DataW.Whole enc Try.prog Try.f5.params.toList Rows.fieldOrderSpec.vars false W args.toList ds gs before) (hk : Rows.uptoSmall H (ds ++ gs) = true) :
    Calls Try.prog 5 args W fun e W' => ∃ v, e = .returned v ∧ Rows.fieldOrderSpec.post enc Try.prog Try.f5 false true false false W args v W' := by
  have hW' := hW
  obtain ⟨p, q, hA0, hV, rfl, hfz, hnd⟩ := hW
  have hA : DataW.TrodAll enc Try.prog W 0 (fun _ => true) true Try.f5.params.toList args.toList ds p := hA0
  rw [Try.params5] at hA hval
  obtain ⟨v0, vs0, d0, ds0, p0, q0, hargs, rfl, rfl, h0, r0⟩ := trodAll_cons hA
  obtain ⟨v1, vs1, d1, ds1, p1, q1, rfl, rfl, rfl, h1, r1⟩ := trodAll_cons r0
  obtain ⟨v2, vs2, d2, ds2, p2, q2, rfl, rfl, rfl, h2, r2⟩ := trodAll_cons r1
  obtain ⟨rfl, rfl, rfl⟩ := trodAll_nil r2
  obtain rfl : args = #[v0, v1, v2] := Array.ext' hargs
  obtain ⟨rfl, rfl⟩ := trodVars_none hV
  have hB : Rows.uptoBulkAll ([d0, d1, d2] ++ [] : List (DataW H)) ≤ 1048576 := of_decide_eq_true hk
  simp only [List.cons_append, List.nil_append, Rows.uptoBulkAll] at hB
  have k0 := h0
  have lt0 : ∀ x ∈ p0, x.block < W.heap.size := by obtain ⟨m, hm⟩ := k0; exact DataW.trod_lt m _ _ _ hm
  obtain ⟨a0, l0, c0, rfl⟩ := okWide_slice Try.underlying26 (hval 0 26 v0 rfl rfl)
  obtain ⟨z0, u0, m0, w0, b0⟩ : ∃ z, l0 ≤ c0 ∧ c0 ≤ 9223372036854775807 ∧ Fs W W.heap.size a0 l0 z ∧ ∀ f ∈ z, f.1.length ≤ 1048576 ∧ f.2.length ≤ 1048576 := by
    obtain ⟨fuel, hf⟩ := h0
    obtain ⟨z, x1, x2, x3, x4⟩ := open_fields hf
    exact ⟨z, x1, x2, x3, x4 1048576 (by show Rows.uptoBulk d0 ≤ _; omega)⟩
  have k1 := h1
  have lt1 : ∀ x ∈ p1, x.block < W.heap.size := by obtain ⟨m, hm⟩ := k1; exact DataW.trod_lt m _ _ _ hm
  obtain ⟨a1, l1, c1, rfl⟩ := okWide_slice Try.underlying26 (hval 1 26 v1 rfl rfl)
  obtain ⟨z1, u1, m1, w1, b1⟩ : ∃ z, l1 ≤ c1 ∧ c1 ≤ 9223372036854775807 ∧ Fs W W.heap.size a1 l1 z ∧ ∀ f ∈ z, f.1.length ≤ 1048576 ∧ f.2.length ≤ 1048576 := by
    obtain ⟨fuel, hf⟩ := h1
    obtain ⟨z, x1, x2, x3, x4⟩ := open_fields hf
    exact ⟨z, x1, x2, x3, x4 1048576 (by show Rows.uptoBulk d1 ≤ _; omega)⟩
  have k2 := h2
  have lt2 : ∀ x ∈ p2, x.block < W.heap.size := by obtain ⟨m, hm⟩ := k2; exact DataW.trod_lt m _ _ _ hm
  obtain ⟨s2, rfl⟩ := okWide_string Try.underlying9 (hval 2 9 v2 rfl rfl)
  have e2 : d2 = .lit (.string s2.data.toList) := by
    obtain ⟨fuel, hf⟩ := h2
    obtain ⟨s', hs', hd, hm⟩ := DataW.trod_string Try.underlying9 hf
    simp [Value.cells] at hs'
    subst hs'
    first | exact hd | (rw [Prod.mk.injEq] at hd; exact hd.1) | (cases hd; rfl)
  subst e2
  have b2 : s2.size ≤ 1048576 := by
    rw [bulk_str] at hB
    have : s2.data.toList.length = s2.size := Array.length_toList
    omega
  clear hA0
  refine (walk a0 l0 c0 z0 a1 l1 c1 z1 s2 W u0 m0 w0 b0 u1 m1 w1 b1 b2).mono fun e W' ⟨he, bel⟩ => ?_
  subst he
  exact ⟨_, rfl, _, _, _, [], _, [], hW', trodAll_mk1 (shut_bool Try.underlying4 _), (trodAll_cons_mk (Below.trod laidOut (by kernel_rfl) (of_decide_eq_true (by kernel_rfl)) k0 bel lt0) (trodAll_cons_mk (Below.trod laidOut (by kernel_rfl) (of_decide_eq_true (by kernel_rfl)) k1 bel lt1) (trodAll_cons_mk (Below.trod laidOut (by kernel_rfl) (of_decide_eq_true (by kernel_rfl)) k2 bel lt2) trodAll_mk0))), rfl, bel.frame _, fun h => by cases h⟩

set_option maxRecDepth 100000 in
theorem lifted (os : Os) (started : os.Started) (H : Type) (enc : TypeId × Value → H) (F : Stop.Interp) :
    ReturnsInHanded {} Try.checked os 5 .any ((Rows.OpenSpec.upto Rows.fieldOrderSpec).pre6 enc Try.prog Try.f5 Rows.fieldOrderUptoRow.domain false) (((Rows.OpenSpec.upto Rows.fieldOrderSpec).at F).post enc Try.prog Try.f5 false true false false) := by
  refine returnsInHanded_of_cond (C := Try.checked) (s := Rows.OpenSpec.upto Rows.fieldOrderSpec) (k := Rows.uptoSmall) rfl own started (by kernel_rfl) Try.func5
    (OpenSpec.witness (enc := enc) (C := Try.checked) (s := Rows.OpenSpec.upto Rows.fieldOrderSpec) (k := Rows.uptoSmall) rfl false ⟨#[], #[.slice none 0 0, .slice none 0 0, .string ⟨#[]⟩], []⟩ 8 (by kernel_rfl) (by kernel_rfl) (by kernel_rfl)
      (x := ([.nil, .nil, .lit (.string [])], [], [])) (by kernel_rfl) rfl (by kernel_rfl)) ?_
  intro W base args ds gs before hval hW _ hk _
  exact contract H enc W base args ds gs before hval hW hk

theorem over : Rows.fieldOrderUptoRow.holds Try.pinned (Rows.OpenSpec.upto Rows.fieldOrderSpec) :=
  OpenClaim.holds_of_cond 5 Try.f5 rfl rfl rfl rfl rfl rfl rfl ⟨rfl, rfl, rfl, rfl, rfl⟩ rfl rfl rfl rfl rfl (by kernel_rfl) Try.func5 (by kernel_rfl)
    (of_decide_eq_true (by kernel_rfl)) (by unfold Func.isWrapper; first | (rw [if_pos (by decide +kernel)]; kernel_rfl) | (rw [if_neg (by decide +kernel)]; exact ⟨rfl, rfl⟩))
    (fun os started H enc _ F => lifted os started H enc F)

theorem proved : Rows.FieldOrderUptoSaid := over
#print axioms proved
end Go.Proofs.Ytbkblimpolkllaa.fieldOrderUpto
