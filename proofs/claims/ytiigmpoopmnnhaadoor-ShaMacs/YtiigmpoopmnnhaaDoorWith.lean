/-
  What transeptref03.with and transeptlaw03.text answer: the key's bytes, xored; a digest as a text; nothing that was in memory turns. Condition: a key of at most 64 bytes.
-/
import Derived.Test.YtiigmpoopmnnhaaDoorFill
import Derived.Test.YtiigmpoopmnnhaaDoorWrd
namespace Go.Proofs.YtiigmpoopmnnhaaDoor
open Go.RowKit

/-- A key, filled up with noughts. -/
def padded (k : List UInt8) : List UInt8 := k ++ List.replicate (64 - k.length) 0
theorem padded_length (k : List UInt8) (h : k.length ≤ 64) : (padded k).length = 64 := by
  simp [padded]
  omega
theorem padded_low (k : List UInt8) (i : Nat) (h : i < k.length) : (padded k).getD i 0 = k.getD i 0 := by
  simp [padded, List.getD, List.getElem?_append_left h]
theorem padded_high (k : List UInt8) (i : Nat) (h : ¬ i < k.length) : (padded k).getD i 0 = 0 := by
  simp only [padded, List.getD, List.getElem?_append_right (Nat.le_of_not_lt h), List.getElem?_replicate]
  split <;> rfl
theorem u8_zero_xor (c : UInt8) : 0 ^^^ c = c := by simp

set_option maxHeartbeats 1000000 in
theorem with_any (k : List UInt8) (c : UInt8) (w : World) (hk : k.length ≤ 64) : Calls Tryd.prog 22 #[.string (str k), .int .u8 (c.toNat : Int)] w fun e w' => e = .returned (.string (str (xo (padded k) c))) ∧ Below w.heap.size w w' := by
  have hs := str_size k
  have pl := padded_length k hk
  go_enter Tryd.func22, Tryd.ntmps22
  go_wp2_with fail
  go_loopw [5, 6] (fun v x wr => ∃ (A : Option Addr) (cc i : Nat), v = .slice A i cc ∧ x = .int .i64 i ∧ i ≤ 64 ∧ Own wr w.heap.size (.slice A i cc) i (xo ((padded k).take i) c) ∧ Below w.heap.size w wr) (fun _ x _ => 64 - (intOf x).toNat)
  case atStart => exact ⟨_, 0, 0, rfl, rfl, by omega, own_empty w w.heap.size (Nat.le_refl _), (Below.refl _ _).alloc (Nat.le_refl _) _⟩
  case round =>
    obtain ⟨A, cc, i, rfl, rfl, hi, hown, hbel⟩ := hrel
    have hsz := hbel.size
    by_cases hlt : i < 64
    · have HE := Lib.hid (xo_more (padded k) c i (by omega))
      by_cases hik : i < k.length
      · rw [padded_low k i hik] at HE
        have hget : ∀ h, (((str k)[i]'h).toNat : Int) = ((k.getD i 0).toNat : Int) := fun h => by
          rw [str_get k i hik h]
          rfl
        have e1 : bits .xor .u8 (c.toNat : Int) ((k.getD i 0).toNat : Int) = ((k.getD i 0 ^^^ c).toNat : Int) := by
          rw [xor_byte, UInt8.xor_comm]
        generalize k.getD i 0 = d at *
        generalize xo ((padded k).take i) c = L at *
        generalize hX : d ^^^ c = x at *
        clear hX
        go_wp2_with (at_builtin; refine wp_appS _ rfl (.tmp 23) (.tmp 25) rfl w.heap.size _ i L rfl (hown.alloc _) (wr.heap.size + 1) _ 1 1 [x] rfl (Bs.one' _ _ _ rfl) (by omega) (by simp; omega) (i + 1) (xo ((padded k).take (i + 1)) c) rfl HE.out ?_; intro A1 c1 w3 hc1 hS1 hown1 hbel1)
        go_roundw
        case rel => exact ⟨A1, c1, i + 1, rfl, by go_num, by omega, hown1, hbel.trans (((Below.refl _ _).alloc (by omega) _).trans hbel1)⟩
        case measure => simp [intOf]; omega
      · rw [padded_high k i hik, u8_zero_xor] at HE
        generalize xo ((padded k).take i) c = L at *
        go_wp2_with (at_builtin; refine wp_appS _ rfl (.tmp 23) (.tmp 25) rfl w.heap.size _ i L rfl (hown.alloc _) (wr.heap.size + 1) _ 1 1 [c] rfl (Bs.one' _ _ _ rfl) (by omega) (by simp; omega) (i + 1) (xo ((padded k).take (i + 1)) c) rfl HE.out ?_; intro A1 c1 w3 hc1 hS1 hown1 hbel1)
        go_roundw
        case rel => exact ⟨A1, c1, i + 1, rfl, by go_num, by omega, hown1, hbel.trans (((Below.refl _ _).alloc (by omega) _).trans hbel1)⟩
        case measure => simp [intOf]; omega
    · have hi64 : i = 64 := by omega
      subst hi64
      rw [List.take_of_length_le (by omega)] at hown
      obtain ⟨A', c', he, hcc, hB⟩ := hown.form
      injection he with he1 he2 he3
      subst he1 he3
      have hv := fun c' => run_str wr _ A 64 c' _ hB
      clear hown
      obtain ⟨X, hX⟩ : ∃ X, X = xo (padded k) c := ⟨_, rfl⟩
      rw [← hX] at hv hB
      have HX := Lib.hid hX
      clear hX
      go_wp2_with fail
      go_ret
      exact ⟨by rw [← HX.out]; rfl, hbel⟩

set_option maxHeartbeats 1000000 in
theorem text_any (d : List UInt8) (w : World) (hd : d.length = 32) : Calls Tryd.prog 10 #[.agg (vbs d).toArray] w fun e w' => e = .returned (.string (str d)) ∧ Below w.heap.size w w' := by
  have s25 := slice25
  go_enter Tryd.func10, Tryd.ntmps10
  go_wp2_with ((with_reducible show wpList _ _ _ (⟨some 1, _, _, _, _, _⟩ :: _) _ _); refine wp_box _ rfl 25 (.tmp 0) rfl (vbs d) rfl ?_; intro w1 g1 hB1 hf1; have hv := fun c' => run_str w1 _ _ 32 c' d (hB1.bs hd); simp only [Act.put, List.setIfInBounds_toArray, List.set_cons_zero, List.set_cons_succ])
  go_ret
  exact ⟨rfl, hf1.below⟩
end Go.Proofs.YtiigmpoopmnnhaaDoor
