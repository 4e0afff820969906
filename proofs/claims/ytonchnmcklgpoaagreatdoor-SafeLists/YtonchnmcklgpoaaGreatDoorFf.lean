/-
  What field.Names and field.Combined answer. No condition but sizes.
-/
import Derived.Test.YtonchnmcklgpoaaGreatDoorFe
import Derived.Test.YtonchnmcklgpoaaGreatDoorIshelf
import Derived.CallsIn
namespace Go.Proofs.YtonchnmcklgpoaaGreatDoor
open Go.RowKit Go.Maps
set_option linter.unusedVariables false

theorem OwnT.down {w : World} {base base' n : Nat} {v : Value} {L : List (List UInt8)} (h : OwnT w base v n L) (hb : base' ≤ base) : OwnT w base' v n L := by
  refine ⟨h.1, ?_⟩
  rcases h.2 with h2 | ⟨g, cap, cur, hv, hg, r⟩
  · exact .inl h2
  · exact .inr ⟨g, cap, cur, hv, by omega, r⟩
theorem lit_str_of (k : TypeId) (hk : Tryz.prog.underlying k = some .string) {l : Lit} (h : Maps.KeysOf Tryz.prog k l) : ∃ x, l = .string x := by
  obtain ⟨v, hv⟩ := h
  obtain ⟨x, _, h2, _⟩ := Maps.keyOf_str hk hv
  exact ⟨x, h2⟩
/-- The map's keys are the names. -/
theorem GM.keys {w : World} {base b : Nat} {fs : List (List UInt8 × List UInt8)} {D : DataW Value} {V : List UInt8 → Value} (h : GM w base b fs D V) : (nms fs).Perm (strKeys D) := by
  obtain ⟨es, hD, hp⟩ := h.map.tidy (string_keyed Tryz.underlying9)
  obtain ⟨es2, hD2, hk⟩ := h.map.keysOf
  subst hD
  cases hD2
  exact perm_strKeys hp (fun p hp => lit_str_of 9 Tryz.underlying9 (hk p hp)) (nms_nodup fs) fun x => by rw [h.has, decide_eq_true_eq]
theorem GM.size {w : World} {base b : Nat} {fs : List (List UInt8 × List UInt8)} {D : DataW Value} {V : List UInt8 → Value} (h : GM w base b fs D V) : Maps.size D = (nms fs).length := by
  have h1 := h.keys.length_eq
  obtain ⟨es, hD, _⟩ := h.map.tidy (string_keyed Tryz.underlying9)
  subst hD
  rw [h1]
  simp [Maps.size, strKeys]
theorem keys_any (b : Nat) (w : World) : Calls Tryz.prog 51 #[.map (some b)] w fun e w' => e = .returned (.func (.func 62) #[] #[.pointer (some ⟨w.heap.size, 0, none⟩)]) ∧ w' = w.alloc (.cells #[.map (some b)] 57) :=
  callsIn_wide.1 (Tryz.maps_Keys_51 (some b) w)
theorem sorted_any {w : World} {base b : Nat} {fs : List (List UInt8 × List UInt8)} {D : DataW Value} {V : List UInt8 → Value} (h : GM w base b fs D V) (hn : fs.length ≤ 1000) :
    Calls Tryz.prog 50 #[.func (.func 62) #[] #[.pointer (some ⟨w.heap.size, 0, none⟩)]] (w.alloc (.cells #[.map (some b)] 57)) fun e w' => ∃ A c, e = .returned (.slice A (nms fs).length c) ∧ OwnT w' w.heap.size (.slice A (nms fs).length c) (nms fs).length (nms fs) ∧ Below w.heap.size w w' := by
  have hs := h.size
  have hl := nms_len fs
  refine (callsIn_wide.1 (Tryz.slices_Sorted_keys_50_51 b fs.length D rawE w h.map (by rw [hs]; unfold maxLen; omega) (by rw [hs]; omega))).mono fun e w' hh => ?_
  obtain ⟨v, ss, rfl, hp, hrow, _, hb⟩ := hh
  have e1 : ss.mergeSort (fun x y => decide (x ≤ y)) = nms fs := by
    have h1 := mergeSort_of_perm (hp.trans h.keys.symm)
    rw [sort_id (nms fs) (nms_le fs)] at h1
    exact h1
  have e2 : ss.length = (nms fs).length := (hp.trans h.keys.symm).length_eq
  rw [e1, e2] at hrow
  have hrow2 : OwnT w' w.heap.size v (nms fs).length (nms fs) := OwnT.down (base := (w.alloc (.cells #[.map (some b)] 57)).heap.size) hrow (by simp)
  obtain ⟨A, c, rfl, _, _, _⟩ := hrow2.form
  exact ⟨A, c, rfl, hrow2, ((Below.refl _ w).alloc (Nat.le_refl _) _).trans (hb.mono (by simp))⟩
set_option maxHeartbeats 4000000 in
set_option maxRecDepth 100000 in
theorem names_any (fs : List (List UInt8 × List UInt8)) (A : Option Addr) (c : Nat) (w : World) (hn : fs.length ≤ 1000) (hf : Fs w w.heap.size A fs.length fs) (hN : ∀ f ∈ fs, f.1.length ≤ 9223372036854775807 ∧ f.2.length ≤ 9223372036854775807) : Calls Tryz.prog 32 #[.slice A fs.length c] w fun e w' => ∃ A' c', e = .returned (.slice A' (nms fs).length c') ∧ OwnT w' w.heap.size (.slice A' (nms fs).length c') (nms fs).length (nms fs) ∧ Below w.heap.size w w' := by
  have HGa : Hid (∀ w', w' = w → Calls Tryz.prog 52 #[.slice A fs.length c] w' fun e w2 => ∃ D V, e = .returned (.map (some w.heap.size)) ∧ GM w2 w.heap.size w.heap.size fs D V ∧ Below w.heap.size w w2) := fun w' h => by subst h; exact gather_any fs A c w' hn hf hN
  have Hn := Lib.hid hn
  clear hn hf hN
  go_enter Tryz.func32, Tryz.ntmps32
  go_wp2_with (first
    | (go_at_call 52; (with_reducible refine (HGa.out _ rfl).mono ?_); (rintro e w1 ⟨D, V, rfl, hgm, hb1⟩); have HGM := Lib.hid hgm; have HB1 := Lib.hid hb1; clear hgm hb1)
    | (go_at_call 51; (with_reducible refine (keys_any _ _).mono ?_); (rintro e w2x ⟨rfl, rfl⟩))
    | (go_at_call 50; (with_reducible refine (sorted_any HGM.out Hn.out).mono ?_); (rintro e w3 ⟨A3, c3, rfl, hown3, hb3⟩); have HO3 := Lib.hid hown3; have HB3 := Lib.hid hb3; clear hown3 hb3))
  go_ret
  exact ⟨A3, c3, rfl, HO3.out.down HB1.out.size, HB1.out.trans (HB3.out.mono HB1.out.size)⟩
end Go.Proofs.YtonchnmcklgpoaaGreatDoor
