/-
  What the tests of all bytes of a value answer. No condition but sizes.
-/
import Derived.Test.YtonchnmcklgpoaaGreatDoorSa
import Derived.BigQuiet
namespace Go.Proofs.YtonchnmcklgpoaaGreatDoor
open Go.RowKit
set_option linter.unusedVariables false

theorem all_take_no (p : UInt8 → Bool) (l : List UInt8) (k : Nat) (hk : k < l.length) (h : p (l.getD k 0) = false) : l.all p = false := by
  rw [List.all_eq_false]
  refine ⟨l.getD k 0, ?_, by rw [h]; decide⟩
  rw [List.getD_eq_getElem?_getD, List.getElem?_eq_getElem hk]
  exact List.getElem_mem hk
theorem all_take_yes (p : UInt8 → Bool) (l : List UInt8) (k : Nat) (hk : k < l.length) (h : (l.take k).all p = true) (h2 : p (l.getD k 0) = true) : (l.take (k + 1)).all p = true := by
  rw [take_snoc l k (l.getD k 0) (by simp [List.getD, List.getElem?_eq_getElem hk]), List.all_append, h, List.all_cons, h2]
  rfl
set_option maxHeartbeats 4000000 in
set_option maxRecDepth 100000 in
theorem cln_any (l : List UInt8) (b : Nat) (w : World) (hl : l.length ≤ 9223372036854775807) (hg : w.cell? ⟨b, 0, none⟩ = some (.func (.func 37) #[] #[])) : Calls Tryz.prog 53 #[.string (str l), .pointer (some ⟨b, 0, none⟩)] w fun e w' => e = .returned (.bool (cln l)) ∧ Below w.heap.size w w' := by
  have hsz := str_size l
  have hgb : Hid (∀ k, k < l.length → ∀ h, ((str l)[k]'h).toNat = (l.getD k 0).toNat) := fun k hk h => str_at l k hk h
  have HNo : Hid (∀ k, k < l.length → clnB (l.getD k 0) = false → cln l = false) := fun k hk h => all_take_no _ l k hk h
  have HYes : Hid (∀ k, k < l.length → (l.take k).all (clnB) = true → clnB (l.getD k 0) = true → (l.take (k + 1)).all (clnB) = true) := fun k hk h h2 => all_take_yes _ l k hk h h2
  have HEnd : Hid ((l.take l.length).all (clnB) = true → cln l = true) := fun h => by rw [List.take_length] at h; exact h
  obtain ⟨R, hR⟩ : ∃ R, R = cln l := ⟨_, rfl⟩
  obtain ⟨S, hS⟩ : ∃ S, S = l.length := ⟨_, rfl⟩
  rw [← hR] at HNo HEnd ⊢
  rw [← hS] at hsz hl hgb HNo HYes HEnd
  have HG := Lib.hid hg
  clear hR hS
  go_enter Tryz.func53, Tryz.ntmps53
  go_wp2_with fail
  go_loopw [7] (fun i wr => ∃ k : Nat, k ≤ S ∧ i = .int .i64 (k : Int) ∧ (l.take k).all (clnB) = true ∧ Kept w wr) (fun i _ => S - (intOf i).toNat)
  case atStart => exact ⟨0, by omega, rfl, rfl, Kept.refl w⟩
  case round =>
    obtain ⟨k, hk, rfl, hA, hkp⟩ := hrel
    have HA := Lib.hid hA
    have HK := Lib.hid hkp
    clear hA hkp
    by_cases hlt : k < S
    · have hkS : (k : Int) < (S : Int) := by omega
      have hGk := hgb.out k hlt
      have HNk := Lib.hid (HNo.out k hlt)
      have HYk := Lib.hid (HYes.out k hlt HA.out)
      obtain ⟨x, hx⟩ : ∃ x, x = l.getD k 0 := ⟨_, rfl⟩
      rw [← hx] at hGk HNk HYk
      have HC : Hid (∀ w', Calls Tryz.prog 37 #[.int .u8 (x.toNat : Int)] w' fun e w2 => e = .returned (.bool (clnB x)) ∧ w2 = w') := fun w' => sv1_any x w'
      obtain ⟨B, hB⟩ : ∃ B, B = clnB x := ⟨_, rfl⟩
      rw [← hB] at HNk HYk HC
      obtain ⟨m, hm⟩ : ∃ m, m = x.toNat := ⟨_, rfl⟩
      rw [← hm] at hGk HC
      have hcell : World.cell? _ ⟨b, 0, none⟩ = some (.func (.func 37) #[] #[]) := HK.out.cell (p := ⟨b, 0, none⟩) (World.block_lt_of_cell? w _ HG.out) |>.trans HG.out
      clear hx hB hm
      cases B
      · have HD := Lib.hid (HNk.out rfl)
        clear HNk HYk
        go_wp2_with fail
        have D := Lib.hid fun a => Calls.quiet_of_same (HC.out (wr.drewN a))
        go_quiet (first | (go_at_call 37; with_reducible exact D.out _))
        go_wp2_with fail
        go_ret
        rw [HD.out]
        exact ⟨rfl, HK.out.trans (below_drewN _)⟩
      · have HD := Lib.hid (HYk.out rfl)
        clear HNk HYk
        go_wp2_with fail
        have D := Lib.hid fun a => Calls.quiet_of_same (HC.out (wr.drewN a))
        go_quiet (first | (go_at_call 37; with_reducible exact D.out _))
        go_wp2_with fail
        go_roundw
        case rel => exact ⟨k + 1, by omega, by go_num, HD.out, HK.out.trans (below_drewN _)⟩
        case measure => simp [intOf]; omega
    · have hkS : ¬ (k : Int) < (S : Int) := by omega
      have hke : k = S := by omega
      subst hke
      have HD := Lib.hid (HEnd.out HA.out)
      go_wp2_with fail
      go_ret
      rw [HD.out]
      exact ⟨rfl, HK.out⟩
set_option maxHeartbeats 4000000 in
set_option maxRecDepth 100000 in
theorem lng_any (l : List UInt8) (b : Nat) (w : World) (hl : l.length ≤ 9223372036854775807) (hg : w.cell? ⟨b, 0, none⟩ = some (.func (.func 39) #[] #[])) : Calls Tryz.prog 53 #[.string (str l), .pointer (some ⟨b, 0, none⟩)] w fun e w' => e = .returned (.bool (lng l)) ∧ Below w.heap.size w w' := by
  have hsz := str_size l
  have hgb : Hid (∀ k, k < l.length → ∀ h, ((str l)[k]'h).toNat = (l.getD k 0).toNat) := fun k hk h => str_at l k hk h
  have HNo : Hid (∀ k, k < l.length → lngB (l.getD k 0) = false → lng l = false) := fun k hk h => all_take_no _ l k hk h
  have HYes : Hid (∀ k, k < l.length → (l.take k).all (lngB) = true → lngB (l.getD k 0) = true → (l.take (k + 1)).all (lngB) = true) := fun k hk h h2 => all_take_yes _ l k hk h h2
  have HEnd : Hid ((l.take l.length).all (lngB) = true → lng l = true) := fun h => by rw [List.take_length] at h; exact h
  obtain ⟨R, hR⟩ : ∃ R, R = lng l := ⟨_, rfl⟩
  obtain ⟨S, hS⟩ : ∃ S, S = l.length := ⟨_, rfl⟩
  rw [← hR] at HNo HEnd ⊢
  rw [← hS] at hsz hl hgb HNo HYes HEnd
  have HG := Lib.hid hg
  clear hR hS
  go_enter Tryz.func53, Tryz.ntmps53
  go_wp2_with fail
  go_loopw [7] (fun i wr => ∃ k : Nat, k ≤ S ∧ i = .int .i64 (k : Int) ∧ (l.take k).all (lngB) = true ∧ Kept w wr) (fun i _ => S - (intOf i).toNat)
  case atStart => exact ⟨0, by omega, rfl, rfl, Kept.refl w⟩
  case round =>
    obtain ⟨k, hk, rfl, hA, hkp⟩ := hrel
    have HA := Lib.hid hA
    have HK := Lib.hid hkp
    clear hA hkp
    by_cases hlt : k < S
    · have hkS : (k : Int) < (S : Int) := by omega
      have hGk := hgb.out k hlt
      have HNk := Lib.hid (HNo.out k hlt)
      have HYk := Lib.hid (HYes.out k hlt HA.out)
      obtain ⟨x, hx⟩ : ∃ x, x = l.getD k 0 := ⟨_, rfl⟩
      rw [← hx] at hGk HNk HYk
      have HC : Hid (∀ w', Calls Tryz.prog 39 #[.int .u8 (x.toNat : Int)] w' fun e w2 => e = .returned (.bool (lngB x)) ∧ w2 = w') := fun w' => lang_any x w'
      obtain ⟨B, hB⟩ : ∃ B, B = lngB x := ⟨_, rfl⟩
      rw [← hB] at HNk HYk HC
      obtain ⟨m, hm⟩ : ∃ m, m = x.toNat := ⟨_, rfl⟩
      rw [← hm] at hGk HC
      have hcell : World.cell? _ ⟨b, 0, none⟩ = some (.func (.func 39) #[] #[]) := HK.out.cell (p := ⟨b, 0, none⟩) (World.block_lt_of_cell? w _ HG.out) |>.trans HG.out
      clear hx hB hm
      cases B
      · have HD := Lib.hid (HNk.out rfl)
        clear HNk HYk
        go_wp2_with fail
        have D := Lib.hid fun a => Calls.quiet_of_same (HC.out (wr.drewN a))
        go_quiet (first | (go_at_call 39; with_reducible exact D.out _))
        go_wp2_with fail
        go_ret
        rw [HD.out]
        exact ⟨rfl, HK.out.trans (below_drewN _)⟩
      · have HD := Lib.hid (HYk.out rfl)
        clear HNk HYk
        go_wp2_with fail
        have D := Lib.hid fun a => Calls.quiet_of_same (HC.out (wr.drewN a))
        go_quiet (first | (go_at_call 39; with_reducible exact D.out _))
        go_wp2_with fail
        go_roundw
        case rel => exact ⟨k + 1, by omega, by go_num, HD.out, HK.out.trans (below_drewN _)⟩
        case measure => simp [intOf]; omega
    · have hkS : ¬ (k : Int) < (S : Int) := by omega
      have hke : k = S := by omega
      subst hke
      have HD := Lib.hid (HEnd.out HA.out)
      go_wp2_with fail
      go_ret
      rw [HD.out]
      exact ⟨rfl, HK.out⟩
end Go.Proofs.YtonchnmcklgpoaaGreatDoor
