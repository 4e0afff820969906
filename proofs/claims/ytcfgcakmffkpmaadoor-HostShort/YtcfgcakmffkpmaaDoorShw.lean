/-
  What transeptlaw07.is and shown answer: true; nothing that was there turns. Condition: the library's tables.
-/
import Derived.Test.YtcfgcakmffkpmaaDoorPrs
namespace Go.Proofs.YtcfgcakmffkpmaaDoor
open Go.RowKit

theorem parse_is (l m : List UInt8) (er : Bool) (h : prs l = (m, er)) (w : World) (hl : l.length ≤ 10000000) (ht : Tabs w) : Calls Tryd.prog 10 #[.string (str l)] w fun e w' => e = .returned (.tuple #[.string (str m), .int .i64 (if er then 7 else 0)]) ∧ Below w.heap.size w w' := by
  have := parse_any l w hl ht
  rw [h] at this
  exact this

set_option maxHeartbeats 1000000 in
theorem is_yes (l m : List UInt8) (h : prs l = (m, false)) (w : World) (hl : l.length ≤ 10000000) (ht : Tabs w) : Calls Tryd.prog 15 #[.string (str l), .string (str m)] w fun e w' => e = .returned (.bool true) ∧ Below w.heap.size w w' := by
  have HP : Hid (Calls Tryd.prog 10 #[.string (str l)] w fun e w' => e = .returned (.tuple #[.string (str m), .int .i64 0]) ∧ Below w.heap.size w w') := parse_is l m false h w hl ht
  clear h ht
  go_enter Tryd.func15, Tryd.ntmps15
  go_wp2_with (go_at_call 10; with_reducible refine HP.out.mono ?_; rintro e w1 ⟨rfl, hb1⟩)
  go_ret
  exact ⟨rfl, hb1⟩

theorem show1 : prs [97, 32, 98] = ([], true) := by decide +kernel
theorem show2 : prs [49, 46, 50, 46, 51, 46, 50, 53, 54] = ([], true) := by decide +kernel
theorem show3 : prs [48, 120, 55, 102, 46, 49] = ([49, 50, 55, 46, 48, 46, 48, 46, 49], false) := by
  have h : prs [48, 120, 55, 102, 46, 49] = (text4 2130706433, false) := by kernel_rfl
  rw [h]
  simp [text4, tx, byt, Lib.decDigits]
theorem show4 : prs [91, 48, 58, 48, 58, 58, 49, 93] = ([91, 58, 58, 49, 93], false) := by
  have h : prs [91, 48, 58, 48, 58, 58, 49, 93] = (brk [0, 0, 0, 0, 0, 0, 0, 1], false) := by kernel_rfl
  rw [h]
  simp [brk, text6, longest, lr, hxs, hexL, hx, hexLs]
theorem show5 : prs [69, 88, 97, 109, 112, 108, 101, 46, 67, 79, 77] = ([101, 120, 97, 109, 112, 108, 101, 46, 99, 111, 109], false) := by decide +kernel
theorem show6 : dom [97, 46, 101, 120, 97, 109, 112, 108, 101] = true := by decide +kernel
theorem show7 : dom [49, 46, 50, 46, 51, 46, 52] = false := by decide +kernel
theorem show8 : dom [91, 58, 58, 93] = false := by decide +kernel

theorem dom_is (l : List UInt8) (b : Bool) (h : dom l = b) (w : World) (hl : l.length ≤ 10000000) (ht : Tabs w) : Calls Tryd.prog 16 #[.string (str l)] w fun e w' => e = .returned (.bool b) ∧ Below w.heap.size w w' := by
  have := dom_any l w (by omega) ht
  rw [h] at this
  exact this

set_option maxHeartbeats 4000000 in
set_option maxRecDepth 100000 in
theorem shown_any (w : World) (ht : Tabs w) : Calls Tryd.prog 9 #[] w fun e w' => e = .returned (.bool true) ∧ Kept w w' := by
  have H1 : Hid (∀ w', Kept w w' → Calls Tryd.prog 10 #[.string ⟨#[97, 32, 98]⟩] w' fun e w2 => e = .returned (.tuple #[.string (str []), .int .i64 7]) ∧ Below w'.heap.size w' w2) := fun w' hk => parse_is _ _ true show1 w' (by decide) (ht.kp hk)
  have H2 : Hid (∀ w', Kept w w' → Calls Tryd.prog 10 #[.string ⟨#[49, 46, 50, 46, 51, 46, 50, 53, 54]⟩] w' fun e w2 => e = .returned (.tuple #[.string (str []), .int .i64 7]) ∧ Below w'.heap.size w' w2) := fun w' hk => parse_is _ _ true show2 w' (by decide) (ht.kp hk)
  have H3 : Hid (∀ w', Kept w w' → Calls Tryd.prog 15 #[.string ⟨#[48, 120, 55, 102, 46, 49]⟩, .string ⟨#[49, 50, 55, 46, 48, 46, 48, 46, 49]⟩] w' fun e w2 => e = .returned (.bool true) ∧ Below w'.heap.size w' w2) := fun w' hk => is_yes _ _ show3 w' (by decide) (ht.kp hk)
  have H4 : Hid (∀ w', Kept w w' → Calls Tryd.prog 15 #[.string ⟨#[91, 48, 58, 48, 58, 58, 49, 93]⟩, .string ⟨#[91, 58, 58, 49, 93]⟩] w' fun e w2 => e = .returned (.bool true) ∧ Below w'.heap.size w' w2) := fun w' hk => is_yes _ _ show4 w' (by decide) (ht.kp hk)
  have H5 : Hid (∀ w', Kept w w' → Calls Tryd.prog 15 #[.string ⟨#[69, 88, 97, 109, 112, 108, 101, 46, 67, 79, 77]⟩, .string ⟨#[101, 120, 97, 109, 112, 108, 101, 46, 99, 111, 109]⟩] w' fun e w2 => e = .returned (.bool true) ∧ Below w'.heap.size w' w2) := fun w' hk => is_yes _ _ show5 w' (by decide) (ht.kp hk)
  have H6 : Hid (∀ w', Kept w w' → Calls Tryd.prog 16 #[.string ⟨#[97, 46, 101, 120, 97, 109, 112, 108, 101]⟩] w' fun e w2 => e = .returned (.bool true) ∧ Below w'.heap.size w' w2) := fun w' hk => dom_is _ _ show6 w' (by decide) (ht.kp hk)
  have H7 : Hid (∀ w', Kept w w' → Calls Tryd.prog 16 #[.string ⟨#[49, 46, 50, 46, 51, 46, 52]⟩] w' fun e w2 => e = .returned (.bool false) ∧ Below w'.heap.size w' w2) := fun w' hk => dom_is _ _ show7 w' (by decide) (ht.kp hk)
  have H8 : Hid (∀ w', Kept w w' → Calls Tryd.prog 16 #[.string ⟨#[91, 58, 58, 93]⟩] w' fun e w2 => e = .returned (.bool false) ∧ Below w'.heap.size w' w2) := fun w' hk => dom_is _ _ show8 w' (by decide) (ht.kp hk)
  have hk0 := Kept.refl w
  clear ht
  go_enter Tryd.func9, Tryd.ntmps9
  go_wp2_with (first
    | (go_at_call 10; with_reducible refine (H1.out _ hk0).mono ?_; rintro e w1 ⟨rfl, hb1⟩; have hk1 := hk0.step hb1; clear hb1)
    | (go_at_call 10; with_reducible refine (H2.out _ hk1).mono ?_; rintro e w2 ⟨rfl, hb2⟩; have hk2 := hk1.step hb2; clear hb2)
    | (go_at_call 15; first
      | (with_reducible refine (H3.out _ hk2).mono ?_; rintro e w3 ⟨rfl, hb3⟩; have hk3 := hk2.step hb3; clear hb3)
      | (with_reducible refine (H4.out _ hk3).mono ?_; rintro e w4 ⟨rfl, hb4⟩; have hk4 := hk3.step hb4; clear hb4)
      | (with_reducible refine (H5.out _ hk4).mono ?_; rintro e w5 ⟨rfl, hb5⟩; have hk5 := hk4.step hb5; clear hb5))
    | (go_at_call 16; first
      | (with_reducible refine (H6.out _ hk5).mono ?_; rintro e w6 ⟨rfl, hb6⟩; have hk6 := hk5.step hb6; clear hb6)
      | (with_reducible refine (H7.out _ hk6).mono ?_; rintro e w7 ⟨rfl, hb7⟩; have hk7 := hk6.step hb7; clear hb7)
      | (with_reducible refine (H8.out _ hk7).mono ?_; rintro e w8 ⟨rfl, hb8⟩; have hk8 := hk7.step hb8; clear hb8)))
  go_ret
  exact ⟨rfl, hk8⟩
end Go.Proofs.YtcfgcakmffkpmaaDoor
