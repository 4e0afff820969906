/-
  The laws' head, shown. No condition.
-/
import Derived.Test.YtonchnmcklgpoaaGreatDoorSg
import Derived.BigQuiet
namespace Go.Proofs.YtonchnmcklgpoaaGreatDoor
open Go.RowKit Go.Maps
set_option linter.unusedVariables false

/-- Headers in a block of their own. -/
theorem Fs.new (w : World) (T : TypeId) (fs : List (List UInt8 × List UInt8)) (a : Array Value) (ha : a = (fcs fs).toArray) (n : Nat) (hn : fs.length = n) : Fs (w.alloc (.cells a T)) (w.alloc (.cells a T)).heap.size (some ⟨w.heap.size, 0, none⟩) n fs := by
  subst ha
  have hb := Blk.new w T (fcs fs)
  refine ⟨hn, fun _ => ⟨w.heap.size, 0, rfl, by simp, fun j f hj => ?_⟩⟩
  obtain ⟨h1, h2⟩ := fcs_at fs j f hj
  rw [Nat.zero_add]
  exact ⟨hb.cell h1, hb.cell h2⟩
theorem tv_own {w : World} {base n c : Nat} {A : Option Addr} {L : List (List UInt8)} (h : OwnT w base (.slice A n c) n L) : (∀ j x, L[j]? = some x → ∃ g, A = some ⟨g, 0, none⟩ ∧ w.cell? ⟨g, j, none⟩ = some (vstr x)) ∧ L.length ≤ c := by
  obtain ⟨A', c', e, h1, h2, h3⟩ := h.form
  cases e
  refine ⟨fun j x hj => ?_, by rw [h.len]; exact h1⟩
  have hl := (List.getElem?_eq_some_iff.1 hj).1
  rw [h.len] at hl
  obtain ⟨g, hg, _, _, hc⟩ := h3 (by omega)
  exact ⟨g, hg, hc j x hj⟩
set_option maxHeartbeats 4000000 in
set_option maxRecDepth 100000 in
theorem shown_any (w : World) : Calls Tryz.prog 5 #[] w fun e w' => e = .returned (.bool true) ∧ Below w.heap.size w w' := by
  have HU : Hid (∀ A c w', Fs w' w'.heap.size A 2 [([88, 45, 97], [49]), ([97, 99, 99, 101, 112, 116], [50])] → Calls Tryz.prog 17 #[.slice A 2 c] w' fun e w2 => ∃ A' c', e = .returned (.slice A' 1 c') ∧ OwnT w2 w'.heap.size (.slice A' 1 c') 1 [[120, 45, 97]] ∧ Below w'.heap.size w' w2) := fun A c w' h => by
    have h2 := unsafe_any [([88, 45, 97], [49]), ([97, 99, 99, 101, 112, 116], [50])] A c w' (by decide) h (by decide)
    rw [show uns [([88, 45, 97], [49]), ([97, 99, 99, 101, 112, 116], [50])] = [[120, 45, 97]] from by decide +kernel] at h2
    exact h2
  have H0 : Hid (∀ w', Calls Tryz.prog 6 #[.string ⟨#[103, 101, 116]⟩] w' fun e w2 => e = .returned (.bool true) ∧ Below w'.heap.size w' w2) := fun w' => by
    have h := smethod_any [103, 101, 116] w' (by decide)
    rw [show mtd [103, 101, 116] = true from by decide +kernel] at h
    exact h
  have H1 : Hid (∀ w', Calls Tryz.prog 6 #[.string ⟨#[80, 85, 84]⟩] w' fun e w2 => e = .returned (.bool false) ∧ Below w'.heap.size w' w2) := fun w' => by
    have h := smethod_any [80, 85, 84] w' (by decide)
    rw [show mtd [80, 85, 84] = false from by decide +kernel] at h
    exact h
  have H2 : Hid (∀ w', Calls Tryz.prog 8 #[.string ⟨#[67, 111, 110, 116, 101, 110, 116, 45, 84, 121, 112, 101]⟩, .string ⟨#[116, 101, 120, 116, 47, 112, 108, 97, 105, 110]⟩] w' fun e w2 => e = .returned (.bool true) ∧ Below w'.heap.size w' w2) := fun w' => by
    have h := header_any [67, 111, 110, 116, 101, 110, 116, 45, 84, 121, 112, 101] [116, 101, 120, 116, 47, 112, 108, 97, 105, 110] w' (by decide) (by decide)
    rw [show hdr [67, 111, 110, 116, 101, 110, 116, 45, 84, 121, 112, 101] [116, 101, 120, 116, 47, 112, 108, 97, 105, 110] = true from by decide +kernel] at h
    exact h
  have H3 : Hid (∀ w', Calls Tryz.prog 8 #[.string ⟨#[99, 111, 110, 116, 101, 110, 116, 45, 116, 121, 112, 101]⟩, .string ⟨#[97, 112, 112, 108, 105, 99, 97, 116, 105, 111, 110, 47, 106, 115, 111, 110]⟩] w' fun e w2 => e = .returned (.bool false) ∧ Below w'.heap.size w' w2) := fun w' => by
    have h := header_any [99, 111, 110, 116, 101, 110, 116, 45, 116, 121, 112, 101] [97, 112, 112, 108, 105, 99, 97, 116, 105, 111, 110, 47, 106, 115, 111, 110] w' (by decide) (by decide)
    rw [show hdr [99, 111, 110, 116, 101, 110, 116, 45, 116, 121, 112, 101] [97, 112, 112, 108, 105, 99, 97, 116, 105, 111, 110, 47, 106, 115, 111, 110] = false from by decide +kernel] at h
    exact h
  have H4 : Hid (∀ w', Calls Tryz.prog 8 #[.string ⟨#[114, 97, 110, 103, 101]⟩, .string ⟨#[98, 121, 116, 101, 115, 61, 49, 45, 50]⟩] w' fun e w2 => e = .returned (.bool true) ∧ Below w'.heap.size w' w2) := fun w' => by
    have h := header_any [114, 97, 110, 103, 101] [98, 121, 116, 101, 115, 61, 49, 45, 50] w' (by decide) (by decide)
    rw [show hdr [114, 97, 110, 103, 101] [98, 121, 116, 101, 115, 61, 49, 45, 50] = true from by decide +kernel] at h
    exact h
  have H5 : Hid (∀ w', Calls Tryz.prog 8 #[.string ⟨#[114, 97, 110, 103, 101]⟩, .string ⟨#[98, 121, 116, 101, 115, 61, 51, 45, 50]⟩] w' fun e w2 => e = .returned (.bool false) ∧ Below w'.heap.size w' w2) := fun w' => by
    have h := header_any [114, 97, 110, 103, 101] [98, 121, 116, 101, 115, 61, 51, 45, 50] w' (by decide) (by decide)
    rw [show hdr [114, 97, 110, 103, 101] [98, 121, 116, 101, 115, 61, 51, 45, 50] = false from by decide +kernel] at h
    exact h
  have H6 : Hid (∀ w', Calls Tryz.prog 10 #[.string ⟨#[83, 101, 99, 45, 120]⟩] w' fun e w2 => e = .returned (.bool true) ∧ Below w'.heap.size w' w2) := fun w' => by
    have h := never_any [83, 101, 99, 45, 120] w' (by decide)
    rw [show nvr [83, 101, 99, 45, 120] = true from by decide +kernel] at h
    exact h
  have H7 : Hid (∀ w', Calls Tryz.prog 12 #[.string ⟨#[101, 120, 112, 105, 114, 101, 115]⟩] w' fun e w2 => e = .returned (.bool true) ∧ Below w'.heap.size w' w2) := fun w' => by
    have h := reads_any [101, 120, 112, 105, 114, 101, 115] w' (by decide)
    rw [show rds [101, 120, 112, 105, 114, 101, 115] = true from by decide +kernel] at h
    exact h
  have H8 : Hid (∀ w', Calls Tryz.prog 14 #[.string ⟨#[83, 101, 116, 45, 67, 111, 111, 107, 105, 101]⟩] w' fun e w2 => e = .returned (.bool true) ∧ Below w'.heap.size w' w2) := fun w' => by
    have h := hidden_any [83, 101, 116, 45, 67, 111, 111, 107, 105, 101] w' (by decide)
    rw [show hdn [83, 101, 116, 45, 67, 111, 111, 107, 105, 101] = true from by decide +kernel] at h
    exact h
  have HFs : Hid (Fs (w.alloc (.cells #[.string ⟨#[88, 45, 97]⟩, .string ⟨#[49]⟩, .string ⟨#[97, 99, 99, 101, 112, 116]⟩, .string ⟨#[50]⟩] 28)) (w.alloc (.cells #[.string ⟨#[88, 45, 97]⟩, .string ⟨#[49]⟩, .string ⟨#[97, 99, 99, 101, 112, 116]⟩, .string ⟨#[50]⟩] 28)).heap.size (some ⟨w.heap.size, 0, none⟩) 2 [([88, 45, 97], [49]), ([97, 99, 99, 101, 112, 116], [50])]) := Fs.new w 28 [([88, 45, 97], [49]), ([97, 99, 99, 101, 112, 116], [50])] _ rfl 2 rfl
  have he : ((str [120, 45, 97]).toList == [120, 45, 97]) = true := by rw [eq_lit]; decide
  go_enter Tryz.func5, Tryz.ntmps5
  go_wp2_with (first
    | (go_at_call 17; (with_reducible refine (HU.out _ _ _ HFs.out).mono ?_); (rintro e w1 ⟨A3, c3, rfl, hown3, hb3⟩); (obtain ⟨g, rfl, hcell⟩ := (tv_own hown3).1 0 _ rfl); have HC_0 := Lib.hid hcell; have HB_0 := Lib.hid (((Below.refl w.heap.size w).alloc (Nat.le_refl _) _).trans (hb3.mono (by simp))); clear hown3 hb3 hcell HU)
    | (go_at_call 6; (with_reducible refine (H0.out _).mono ?_); (rintro e w2 ⟨rfl, hb⟩); have HB_1 := Lib.hid (HB_0.out.trans (hb.mono HB_0.out.size)); have HC_1 : Hid (World.cell? _ ⟨g, 0, none⟩ = some (vstr [120, 45, 97])) := (hb.cell (p := ⟨g, 0, none⟩) (World.block_lt_of_cell? _ _ HC_0.out)).trans HC_0.out; clear hb H0)
    | (go_at_call 6; (with_reducible refine (H1.out _).mono ?_); (rintro e w3 ⟨rfl, hb⟩); have HB_2 := Lib.hid (HB_1.out.trans (hb.mono HB_1.out.size)); have HC_2 : Hid (World.cell? _ ⟨g, 0, none⟩ = some (vstr [120, 45, 97])) := (hb.cell (p := ⟨g, 0, none⟩) (World.block_lt_of_cell? _ _ HC_1.out)).trans HC_1.out; clear hb H1)
    | (go_at_call 8; (with_reducible refine (H2.out _).mono ?_); (rintro e w4 ⟨rfl, hb⟩); have HB_3 := Lib.hid (HB_2.out.trans (hb.mono HB_2.out.size)); have HC_3 : Hid (World.cell? _ ⟨g, 0, none⟩ = some (vstr [120, 45, 97])) := (hb.cell (p := ⟨g, 0, none⟩) (World.block_lt_of_cell? _ _ HC_2.out)).trans HC_2.out; clear hb H2)
    | (go_at_call 8; (with_reducible refine (H3.out _).mono ?_); (rintro e w5 ⟨rfl, hb⟩); have HB_4 := Lib.hid (HB_3.out.trans (hb.mono HB_3.out.size)); have HC_4 : Hid (World.cell? _ ⟨g, 0, none⟩ = some (vstr [120, 45, 97])) := (hb.cell (p := ⟨g, 0, none⟩) (World.block_lt_of_cell? _ _ HC_3.out)).trans HC_3.out; clear hb H3)
    | (go_at_call 8; (with_reducible refine (H4.out _).mono ?_); (rintro e w6 ⟨rfl, hb⟩); have HB_5 := Lib.hid (HB_4.out.trans (hb.mono HB_4.out.size)); have HC_5 : Hid (World.cell? _ ⟨g, 0, none⟩ = some (vstr [120, 45, 97])) := (hb.cell (p := ⟨g, 0, none⟩) (World.block_lt_of_cell? _ _ HC_4.out)).trans HC_4.out; clear hb H4)
    | (go_at_call 8; (with_reducible refine (H5.out _).mono ?_); (rintro e w7 ⟨rfl, hb⟩); have HB_6 := Lib.hid (HB_5.out.trans (hb.mono HB_5.out.size)); have HC_6 : Hid (World.cell? _ ⟨g, 0, none⟩ = some (vstr [120, 45, 97])) := (hb.cell (p := ⟨g, 0, none⟩) (World.block_lt_of_cell? _ _ HC_5.out)).trans HC_5.out; have hcell := HC_6.out; unfold vstr at hcell; clear hb H5)
    | (go_at_call 10; (with_reducible refine (H6.out _).mono ?_); (rintro e w8 ⟨rfl, hb⟩); have HB_7 := Lib.hid (HB_6.out.trans (hb.mono HB_6.out.size)); have HC_7 : Hid (World.cell? _ ⟨g, 0, none⟩ = some (vstr [120, 45, 97])) := (hb.cell (p := ⟨g, 0, none⟩) (World.block_lt_of_cell? _ _ HC_6.out)).trans HC_6.out; clear hcell; clear hb H6)
    | (go_at_call 12; (with_reducible refine (H7.out _).mono ?_); (rintro e w9 ⟨rfl, hb⟩); have HB_8 := Lib.hid (HB_7.out.trans (hb.mono HB_7.out.size)); have HC_8 : Hid (World.cell? _ ⟨g, 0, none⟩ = some (vstr [120, 45, 97])) := (hb.cell (p := ⟨g, 0, none⟩) (World.block_lt_of_cell? _ _ HC_7.out)).trans HC_7.out; clear hb H7)
    | (go_at_call 14; (with_reducible refine (H8.out _).mono ?_); (rintro e w10 ⟨rfl, hb⟩); have HB_9 := Lib.hid (HB_8.out.trans (hb.mono HB_8.out.size)); have HC_9 : Hid (World.cell? _ ⟨g, 0, none⟩ = some (vstr [120, 45, 97])) := (hb.cell (p := ⟨g, 0, none⟩) (World.block_lt_of_cell? _ _ HC_8.out)).trans HC_8.out; clear hb H8))
  go_ret
  exact ⟨rfl, HB_9.out⟩
end Go.Proofs.YtonchnmcklgpoaaGreatDoor
