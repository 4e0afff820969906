/-
  The small case at the head of every law of this seat (transeptlaw01.shown) returns true; no condition.
-/
import Derived.Test.YtjkjleadhmmajaaText
import Derived.Test.YtjkjleadhmmajaaAdd
namespace Go.Proofs.Ytjkjleadhmmajaa
open Go.RowKit

/-- A literal of bytes in a block of its own. -/
theorem Bs.new (w : World) (l : List UInt8) (a : Array Value) (ha : a = (vbs l).toArray) (n : Nat) (hn : l.length = n) : Bs (w.alloc (.cells a 5)) (w.alloc (.cells a 5)).heap.size (some ⟨w.heap.size, 0, none⟩) n l := by
  subst ha
  refine ⟨hn, fun _ => ⟨w.heap.size, 0, rfl, by simp, fun j c hj => ?_⟩⟩
  rw [Nat.zero_add, cell_of_row _ _ _ _ _ _ (heap_alloc_new w _)]
  simp [vbs, hj]

theorem get_of {A : Option Addr} {n c : Nat} {w : World} (l : List UInt8) (r : Nat × Nat × Nat) (hr : getS l = r) (h : Bs w w.heap.size A n l) (hc : n ≤ c) (hn : n ≤ 1000000000) :
    Calls Try.prog 15 #[.slice A n c] w fun e w' => e = .returned (got r) ∧ Below w.heap.size w w' := by
  subst hr
  exact get_any A n c l w h hc hn

theorem put_nil (N : Nat) (w : World) (hN : N < 18446744073709551616) : Calls Try.prog 11 #[.slice none 0 0, .int .u64 N] w (Gives w (leb N).length (leb N)) := by
  have := put_any none 0 0 [] N w (Bs.empty _ _ _) (by omega) hN
  rwa [Nat.zero_add, List.nil_append] at this

set_option maxHeartbeats 1000000 in
theorem shown_any (w : World) : Calls Try.prog 10 #[] w fun e w' => e = .returned (.bool true) ∧ Below w.heap.size w w' := by
  go_enter Try.func10, Try.ntmps10
  go_wp2_with fail
  refine (get_of [172, 2, 9] (300, 2, 0) (by decide) (Bs.new w [172, 2, 9] _ rfl 3 rfl) (by omega) (by omega)).mono ?_
  rintro e w1 ⟨rfl, hb1⟩
  have hc1 : Below w.heap.size w w1 := ((Below.refl _ _).alloc (Nat.le_refl _) _).trans (hb1.mono (by simp))
  clear hb1
  simp only [got]
  go_wp2_with fail
  refine (get_of [128, 0] (0, 1, 3) (by decide) (Bs.new w1 [128, 0] _ rfl 2 rfl) (by omega) (by omega)).mono ?_
  rintro e w2 ⟨rfl, hb2⟩
  have hc2 : Below w.heap.size w w2 := (hc1.alloc hc1.size _).trans (hb2.mono (by have := hc1.size; simp; omega))
  clear hb2
  simp only [got]
  go_wp2_with fail
  refine (get_of [128] (0, 1, 2) (by decide) (Bs.new w2 [128] _ rfl 1 rfl) (by omega) (by omega)).mono ?_
  rintro e w3 ⟨rfl, hb3⟩
  have hc3 : Below w.heap.size w w3 := (hc2.alloc hc2.size _).trans (hb3.mono (by have := hc2.size; simp; omega))
  clear hb3
  simp only [got]
  go_wp2_with fail
  refine (text_any _ 4 4 [2, 104, 105, 33] 5 _ (Bs.new w3 [2, 104, 105, 33] _ rfl 4 rfl) (by omega) (by omega) (by omega) (by omega)).mono ?_
  rintro e w4 ⟨rfl, hb4⟩
  have hc4 : Below w.heap.size w w4 := (hc3.alloc hc3.size _).trans (hb4.mono (by have := hc3.size; simp; omega))
  clear hb4
  rw [show textS [2, 104, 105, 33] 5 = ([104, 105], 3, 0) from by decide]
  simp only [gotText]
  rw [show str [104, 105] = ⟨#[104, 105]⟩ from rfl]
  go_wp2_with fail
  refine (put_nil 300 w4 (by omega)).mono ?_
  rintro e w5 ⟨A, c, rfl, hcc, hbs, _, hb5⟩
  have hc5 : Below w.heap.size w w5 := hc4.trans (hb5.mono hc4.size)
  clear hb5
  have hcv := run_str w5 _ A _ c _ hbs
  rw [show str (leb 300) = ⟨#[172, 2]⟩ from by rw [leb_ge (by omega), leb_lt (by omega)]; rfl] at hcv
  clear hbs
  go_wp2_with fail
  go_ret
  exact ⟨rfl, hc5⟩
end Go.Proofs.Ytjkjleadhmmajaa
