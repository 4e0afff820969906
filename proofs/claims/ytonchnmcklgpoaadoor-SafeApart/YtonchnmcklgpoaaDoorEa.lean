/-
  strings.Cut at a separator of one byte, transeptref11.until. No condition but sizes.
-/
import Derived.Test.YtonchnmcklgpoaaDoorEm
import Derived.Test.YtonchnmcklgpoaaDoorTr
import Derived.BigQuiet
import Derived.Lib.IndexLaws
namespace Go.Proofs.YtonchnmcklgpoaaDoor
open Go.RowKit
set_option linter.unusedVariables false

theorem below_drewN {n : Nat} {w : World} (k : Nat) : Below n w (w.drewN k) := by
  induction k with
  | zero => exact Below.refl _ _
  | succ k ih => exact ih.drew
theorem cut_case (l : List UInt8) (c : UInt8) : (Lib.indexByte l c = -1 ∧ bef c l = l ∧ aft c l = [] ∧ l.contains c = false) ∨ ∃ i : Nat, Lib.indexByte l c = (i : Int) ∧ i < l.length ∧ bef c l = l.take i ∧ aft c l = l.drop (i + 1) ∧ l.contains c = true := by
  have hge := Lib.indexByte_ge l c
  by_cases h : Lib.indexByte l c = -1
  · have h1 := Lib.indexByte_none h
    have h2 : c ∉ l := fun e => by
      obtain ⟨k, hk, e⟩ := List.mem_iff_getElem.1 e
      exact h1 k (by rw [List.getElem?_eq_getElem hk, e])
    obtain ⟨h3, h4⟩ := bef_none c l h2
    exact .inl ⟨h, h3, h4, by simpa using h2⟩
  · obtain ⟨i, hi⟩ : ∃ i : Nat, Lib.indexByte l c = (i : Int) := ⟨(Lib.indexByte l c).toNat, by omega⟩
    obtain ⟨h1, h2⟩ := Lib.indexByte_some hi
    obtain ⟨h3, h4⟩ := bef_at c l i h1 h2
    exact .inr ⟨i, hi, (List.getElem?_eq_some_iff.1 h1).1, h3, h4, by simpa using List.mem_of_getElem? h1⟩
set_option maxHeartbeats 4000000 in
set_option maxRecDepth 100000 in
theorem lcut_any (l : List UInt8) (c : UInt8) (w : World) (hl : l.length ≤ 9223372036854775807) : Calls Tryd.prog 49 #[.string (str l), .string ⟨#[c]⟩] w fun e w' => e = .returned (.tuple #[.string (str (bef c l)), .string (str (aft c l)), .bool (l.contains c)]) ∧ Below w.heap.size w w' := by
  have HI : Hid (∀ w', Calls Tryd.prog 56 #[.string (str l), .string ⟨#[c]⟩] w' fun e w2 => e = .returned (.int .i64 (Lib.indexByte l c)) ∧ w2 = w') := fun w' => by
    have h := Tryd.stringslite_Index_one (str l) c w'
    rwa [show (str l).data.toList = l by simp [str]] at h
  have hsz := str_size l
  have h1s : (ByteArray.mk #[c]).size = 1 := rfl
  rcases cut_case l c with ⟨e1, e2, e3, e4⟩ | ⟨i, e1, e0, e2, e3, e4⟩
  · rw [e2, e3, e4]
    rw [e1] at HI
    clear e1 e2 e3 e4
    go_enter Tryd.func49, Tryd.ntmps49
    go_wp2_with (first
      | (go_at_call 56; (with_reducible refine (HI.out _).mono ?_); (rintro e w1 ⟨rfl, rfl⟩)))
    go_ret3
    exact ⟨rfl, Below.refl _ _⟩
  · rw [e2, e3, e4]
    rw [e1] at HI
    obtain ⟨S, hS⟩ : ∃ S, S = l.length := ⟨_, rfl⟩
    rw [← hS] at hsz hl e0
    obtain ⟨j, hj⟩ : ∃ j, j = i + 1 := ⟨_, rfl⟩
    have x1 : (str l).extract 0 i = str (l.take i) := str_take l i
    have x2 : (str l).extract j S = str (l.drop (i + 1)) := by rw [← hj]; exact str_drop l j S hS (by omega)
    have x3 : (i : Int) + 1 = (j : Int) := by omega
    have x4 : IntKind.i64.wrap (j : Int) = (j : Int) := by rw [IntKind.wrap_i64]; omega
    have x5 : (0 : Int) ≤ (i : Int) := by omega
    have x6 : (i : Int) ≤ (S : Int) := by omega
    have x7 : (j : Int) ≤ (S : Int) := by omega
    have x8 : (0 : Int) ≤ (j : Int) := by omega
    generalize l.take i = L1 at *
    generalize l.drop (i + 1) = L2 at *
    clear e1 e2 e3 e4 hS hj e0
    go_enter Tryd.func49, Tryd.ntmps49
    go_wp2_with (first
      | (go_at_call 56; (with_reducible refine (HI.out _).mono ?_); (rintro e w1 ⟨rfl, rfl⟩)))
    go_quiet (fail)
    go_wp2_with fail
    go_ret3
    exact ⟨rfl, below_drewN _⟩
theorem cut_any (l : List UInt8) (c : UInt8) (w : World) (hl : l.length ≤ 9223372036854775807) : Calls Tryd.prog 40 #[.string (str l), .string ⟨#[c]⟩] w fun e w' => e = .returned (.tuple #[.string (str (bef c l)), .string (str (aft c l)), .bool (l.contains c)]) ∧ Below w.heap.size w w' := by
  have HC : Hid (∀ w', Calls Tryd.prog 49 #[.string (str l), .string ⟨#[c]⟩] w' fun e w2 => e = .returned (.tuple #[.string (str (bef c l)), .string (str (aft c l)), .bool (l.contains c)]) ∧ Below w'.heap.size w' w2) := fun w' => lcut_any l c w' hl
  generalize bef c l = L1 at *
  generalize aft c l = L2 at *
  generalize l.contains c = B at *
  go_enter Tryd.func40, Tryd.ntmps40
  go_wp2_with (first
    | (go_at_call 49; (with_reducible refine (HC.out _).mono ?_); (rintro e w1 ⟨rfl, hb⟩); have HB1 := Lib.hid hb; clear hb))
  go_ret3
  exact ⟨rfl, HB1.out⟩
end Go.Proofs.YtonchnmcklgpoaaDoor
