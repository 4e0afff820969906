/-
  What host.parseName answers; nothing that was there turns. Condition: texts of at most 100000000 bytes; the library's tables.
-/
import Derived.Test.YtcfgcakmffkpmaaDoorDot
namespace Go.Proofs.YtcfgcakmffkpmaaDoor
open Go.RowKit

/-- How a name that is decoded is written; true: it is none. -/
def nam (l : List UInt8) : List UInt8 × Bool := if may l then (if (ip4 (low l)).2.2 then ([], true) else if (ip4 (low l)).2.1 then (text4 (ip4 (low l)).1, false) else (low l, false)) else ([], true)
theorem kept_of {w w' : World} (h : Below w.heap.size w w') : Kept w w' := h
def prsV (r : List UInt8 × Bool) : Value := .tuple #[.string (str r.1), errV r.2]

theorem low_length (l : List UInt8) : (low l).length = l.length := by simp [low, Lib.toLowerA]

set_option maxHeartbeats 4000000 in
theorem nam_any (l : List UInt8) (w : World) (hl : l.length ≤ 100000000) (ht : Tabs w) :
    Calls Tryd.prog 22 #[.string (str l)] w fun e w' => e = .returned (prsV (nam l)) ∧ Below w.heap.size w w' := by
  have HM := Lib.hid (may_any l w hl)
  have HT := Lib.hid ht
  clear ht
  cases hm : may l with
  | false =>
    have hr : Hid (nam l = ([], true)) := by show _ = _; unfold nam; rw [hm]; rfl
    rw [hm] at HM
    clear hm
    go_enter Tryd.func22, Tryd.ntmps22
    go_wp2_with (go_at_call 34; with_reducible refine HM.out.mono ?_; rintro e w1 ⟨rfl, rfl⟩)
    go_ret2
    rw [hr.out]
    exact ⟨rfl, Below.refl _ _⟩
  | true =>
    have HLo := Lib.hid (lower_any l w hl hm)
    have hr : Hid (nam l = if (ip4 (low l)).2.2 then ([], true) else if (ip4 (low l)).2.1 then (text4 (ip4 (low l)).1, false) else (low l, false)) := by show _ = _; unfold nam; rw [hm]; rfl
    rw [hm] at HM
    obtain ⟨D, hD⟩ : ∃ D, D = low l := ⟨_, rfl⟩
    have hDl : Hid (D.length ≤ 100000000) := by show _ ≤ _; rw [hD, low_length]; exact hl
    rw [← hD] at HLo hr
    have H4 : Hid (∀ w', Kept w w' → Calls Tryd.prog 14 #[.string (str D)] w' fun e w2 => e = .returned (ip4V (ip4 D)) ∧ Below w'.heap.size w' w2) := fun w' hk => four_any D w' hDl.out (HT.out.kp hk)
    obtain ⟨r, hi⟩ : ∃ r, r = ip4 D := ⟨_, rfl⟩
    rw [← hi] at hr H4
    obtain ⟨n, is, er⟩ := r
    clear hm hD hi hDl
    cases er with
    | true =>
      have H4' : Hid (∀ w', Kept w w' → Calls Tryd.prog 14 #[.string (str D)] w' fun e w2 => e = .returned (.tuple #[.int .u32 (n : Int), .bool is, .int .i64 7]) ∧ Below w'.heap.size w' w2) := H4.out
      have hr2 : Hid (nam l = ([], true)) := hr.out
      clear H4 hr
      go_enter Tryd.func22, Tryd.ntmps22
      go_wp2_with (first
        | (go_at_call 34; with_reducible refine HM.out.mono ?_; rintro e w1 ⟨rfl, rfl⟩)
        | (go_at_call 35; with_reducible refine HLo.out.mono ?_; rintro e w2 ⟨rfl, hb2⟩; have hk2 := kept_of hb2; clear hb2)
        | (go_at_call 14; with_reducible refine (H4'.out _ hk2).mono ?_; rintro e w3 ⟨rfl, hb3⟩; have hk3 := hk2.step hb3; clear hb3))
      go_ret2
      rw [hr2.out]
      exact ⟨rfl, hk3⟩
    | false =>
      have H4' : Hid (∀ w', Kept w w' → Calls Tryd.prog 14 #[.string (str D)] w' fun e w2 => e = .returned (.tuple #[.int .u32 (n : Int), .bool is, .int .i64 0]) ∧ Below w'.heap.size w' w2) := H4.out
      cases is with
      | true =>
        have hr2 : Hid (nam l = (text4 n, false)) := hr.out
        have HDo : Hid (∀ w', Kept w w' → Calls Tryd.prog 36 #[.int .u32 (n : Int)] w' fun e w2 => e = .returned (.string (str (text4 n))) ∧ Below w'.heap.size w' w2) := fun w' hk => dotted_any n w' (HT.out.kp hk)
        clear H4 hr
        go_enter Tryd.func22, Tryd.ntmps22
        go_wp2_with (first
          | (go_at_call 34; with_reducible refine HM.out.mono ?_; rintro e w1 ⟨rfl, rfl⟩)
          | (go_at_call 35; with_reducible refine HLo.out.mono ?_; rintro e w2 ⟨rfl, hb2⟩; have hk2 := kept_of hb2; clear hb2)
          | (go_at_call 14; with_reducible refine (H4'.out _ hk2).mono ?_; rintro e w3 ⟨rfl, hb3⟩; have hk3 := hk2.step hb3; clear hb3)
          | (go_at_call 36; with_reducible refine (HDo.out _ hk3).mono ?_; rintro e w4 ⟨rfl, hb4⟩; have hk4 := hk3.step hb4; clear hb4))
        go_ret2
        rw [hr2.out]
        exact ⟨rfl, hk4⟩
      | false =>
        have hr2 : Hid (nam l = (D, false)) := hr.out
        clear H4 hr
        go_enter Tryd.func22, Tryd.ntmps22
        go_wp2_with (first
          | (go_at_call 34; with_reducible refine HM.out.mono ?_; rintro e w1 ⟨rfl, rfl⟩)
          | (go_at_call 35; with_reducible refine HLo.out.mono ?_; rintro e w2 ⟨rfl, hb2⟩; have hk2 := kept_of hb2; clear hb2)
          | (go_at_call 14; with_reducible refine (H4'.out _ hk2).mono ?_; rintro e w3 ⟨rfl, hb3⟩; have hk3 := hk2.step hb3; clear hb3))
        go_ret2
        rw [hr2.out]
        exact ⟨rfl, hk3⟩
end Go.Proofs.YtcfgcakmffkpmaaDoor
