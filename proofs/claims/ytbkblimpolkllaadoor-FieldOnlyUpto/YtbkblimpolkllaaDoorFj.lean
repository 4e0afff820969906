/-
  The laws' helper shown: true. No condition.
-/
import Derived.Test.YtbkblimpolkllaaDoorFi
namespace Go.Proofs.YtbkblimpolkllaaDoor
open Go.RowKit
set_option linter.unusedVariables false

/-- The shown headers. -/
def fsS : List (List UInt8 × List UInt8) := [([97], [49]), ([98], [50]), ([65], [51])]
theorem fsS_vals : vals fsS [97] = [[49], [51]] := by decide
theorem fsS_jn : jn (vals fsS [97]) = [49, 44, 32, 51] := by rw [fsS_vals]; decide
theorem fsS_nms : nms fsS = [[97], [98]] := by decide
theorem fsS_cmb : (cmb fsS).length = 2 := by rw [cmb_length, fsS_nms]; rfl
theorem vl_small (k : List UInt8) : ∀ x ∈ vl fsS k, x.length ≤ 1 := by
  intro x hx
  obtain ⟨f, hf, rfl⟩ := vl_mem hx
  exact (show ∀ f ∈ fsS, f.2.length ≤ 1 by decide) f hf
theorem fsS_size : ∀ f ∈ fsS, f.1.length ≤ 9223372036854775807 ∧ f.2.length ≤ 9223372036854775807 := by decide
theorem fsS_jnl (k : List UInt8) : (jn (vals fsS k)).length ≤ 140737488355328 :=
  Nat.le_trans (jn_len _ 3 1 (vl_len _ _) (vl_small _)) (by decide)
theorem Fs.new (T : TypeId) (w : World) (fs : List (List UInt8 × List UInt8)) (a : Array Value) (ha : a = (fcs fs).toArray) (n : Nat) (hn : fs.length = n) : Fs (w.alloc (.cells a T)) (w.alloc (.cells a T)).heap.size (some ⟨w.heap.size, 0, none⟩) n fs := by
  subst ha
  refine ⟨hn, fun _ => ⟨w.heap.size, 0, rfl, by simp, fun j f hj => ?_⟩⟩
  obtain ⟨h1, h2⟩ := fcs_at fs j f hj
  rw [cell_of_row _ _ _ _ _ _ (heap_alloc_new w _), cell_of_row _ _ _ _ _ _ (heap_alloc_new w _)]
  simp only [Nat.zero_add, List.getElem?_toArray]
  exact ⟨h1, h2⟩
set_option maxHeartbeats 4000000 in
set_option maxRecDepth 100000 in
theorem shown_any (w : World) : Calls Tryd.prog 5 #[] w fun e w' => e = .returned (.bool true) ∧ Below w.heap.size w w' := by
  have HGet : Hid (∀ W : World, Fs W W.heap.size (some ⟨w.heap.size, 0, none⟩) 3 fsS → Calls Tryd.prog 8 #[.slice (some ⟨w.heap.size, 0, none⟩) 3 3, .string ⟨#[97]⟩] W fun e w2 => e = .returned (.tuple #[.string ⟨#[49, 44, 32, 51]⟩, .bool true]) ∧ Below W.heap.size W w2) := fun W h => by
    have e := get_any fsS (some ⟨w.heap.size, 0, none⟩) 3 [97] W (by decide) h fsS_size (by decide) (fsS_jnl _)
    rw [fsS_jn, fsS_vals] at e
    exact e
  have HOnly : Hid (∀ W : World, Fs W W.heap.size (some ⟨w.heap.size, 0, none⟩) 3 fsS → Calls Tryd.prog 12 #[.slice (some ⟨w.heap.size, 0, none⟩) 3 3, .string ⟨#[97]⟩] W fun e w2 => e = .returned (.tuple #[.string ⟨#[]⟩, .bool false]) ∧ Below W.heap.size W w2) := fun W h => by
    have e := only_any fsS (some ⟨w.heap.size, 0, none⟩) 3 [97] W (by decide) h fsS_size (by decide)
    rw [fsS_vals] at e
    exact e
  have HNum : Hid (∀ W : World, Calls Tryd.prog 22 #[.string ⟨#[49, 50]⟩, .int .i64 9] W fun e w2 => e = .returned (.tuple #[.int .i64 9, .bool true]) ∧ w2 = W) := fun W => by
    have e := number_any [49, 50] 9 W
    rw [show dg [49, 50] = true by decide, show nmv [49, 50] 9 = 9 by decide] at e
    exact e
  have HComb : Hid (∀ W : World, Fs W W.heap.size (some ⟨w.heap.size, 0, none⟩) 3 fsS → Calls Tryd.prog 18 #[.slice (some ⟨w.heap.size, 0, none⟩) 3 3] W fun e w2 => ∃ A' c', e = .returned (.slice A' 2 c') ∧ Below W.heap.size W w2) := fun W h => by
    refine (combined_any fsS (some ⟨w.heap.size, 0, none⟩) 3 W (by decide) h fsS_size (fun nm => fsS_jnl nm)).mono fun e w' hh => ?_
    obtain ⟨A', c', h1, _, h3⟩ := hh
    rw [fsS_cmb] at h1
    exact ⟨A', c', h1, h3⟩
  have HF : Hid (Fs (w.alloc (.cells #[.string ⟨#[97]⟩, .string ⟨#[49]⟩, .string ⟨#[98]⟩, .string ⟨#[50]⟩, .string ⟨#[65]⟩, .string ⟨#[51]⟩] 42)) (w.alloc (.cells #[.string ⟨#[97]⟩, .string ⟨#[49]⟩, .string ⟨#[98]⟩, .string ⟨#[50]⟩, .string ⟨#[65]⟩, .string ⟨#[51]⟩] 42)).heap.size (some ⟨w.heap.size, 0, none⟩) 3 fsS) := by
    exact Fs.new 42 w fsS _ rfl 3 rfl
  have HK : Hid (Kept w (w.alloc (.cells #[.string ⟨#[97]⟩, .string ⟨#[49]⟩, .string ⟨#[98]⟩, .string ⟨#[50]⟩, .string ⟨#[65]⟩, .string ⟨#[51]⟩] 42))) := (Kept.refl w).alloc _
  have hq1 : ((⟨#[49, 44, 32, 51]⟩ : ByteArray).toList == (⟨#[49, 44, 32, 51]⟩ : ByteArray).toList) = true := by simp
  go_enter Tryd.func5, Tryd.ntmps5
  go_wp2_with (first
    | (go_at_call 8; (with_reducible refine (HGet.out _ HF.out).mono ?_); (rintro e w1 ⟨rfl, hb⟩); have HF1 := Lib.hid (HF.out.kept hb); have HK1 := Lib.hid (HK.out.step hb); clear hb)
    | (go_at_call 12; (with_reducible refine (HOnly.out _ HF1.out).mono ?_); (rintro e w2 ⟨rfl, hb⟩); have HF2 := Lib.hid (HF1.out.kept hb); have HK2 := Lib.hid (HK1.out.step hb); clear hb)
    | (go_at_call 22; (with_reducible refine (HNum.out _).mono ?_); (rintro e w3 ⟨rfl, hw⟩); subst w3)
    | (go_at_call 18; (with_reducible refine (HComb.out _ HF2.out).mono ?_); (rintro e w5 ⟨A5, c5, rfl, hb⟩); have HK5 := Lib.hid (HK2.out.step hb); clear hb))
  go_ret
  exact ⟨rfl, HK5.out⟩
end Go.Proofs.YtbkblimpolkllaaDoor
