/-
  What transeptref12.Unsafe answers. Condition: at most 100 headers.
-/
import Derived.Test.YtonchnmcklgpoaaGreatDoorZc
import Derived.Test.YtonchnmcklgpoaaGreatDoorRb
import Derived.BigQuiet
namespace Go.Proofs.YtonchnmcklgpoaaGreatDoor
open Go.RowKit
set_option linter.unusedVariables false

/-- The headers that are safe. -/
def saf (fs : List (List UInt8 × List UInt8)) : List (List UInt8 × List UInt8) := fs.filter fun f => hdr f.1 f.2
theorem saf_take (fs : List (List UInt8 × List UInt8)) (k : Nat) (f : List UInt8 × List UInt8) (h : fs[k]? = some f) : saf (fs.take (k + 1)) = saf (fs.take k) ++ if hdr f.1 f.2 then [f] else [] := by
  rw [take_snoc fs k f h]
  simp only [saf, List.filter_append]
  by_cases h : hdr f.1 f.2 = true
  · simp [h]
  · simp [h]
theorem saf_len (fs : List (List UInt8 × List UInt8)) : (saf fs).length ≤ fs.length := List.length_filter_le _ _
theorem Kept.sz {w W : World} (h : Kept w W) : w.heap.size ≤ W.heap.size := h.size
theorem fold_len : ∀ (L M : List (List UInt8)), (L.foldl ins M).length ≤ M.length + L.length
  | [], M => Nat.le_refl _
  | x :: r, M => by
    have h1 := fold_len r (ins M x)
    have h2 := ins_len M x
    rw [List.foldl_cons, List.length_cons]
    omega
theorem fold_mem : ∀ (L M : List (List UInt8)) (y : List UInt8), y ∈ L.foldl ins M ↔ y ∈ M ∨ y ∈ L
  | [], M, y => by simp
  | x :: r, M, y => by
    rw [List.foldl_cons, fold_mem r (ins M x) y, ins_mem, List.mem_cons]
    constructor
    · rintro ((h | h) | h)
      · exact .inr (.inl h)
      · exact .inl h
      · exact .inr (.inr h)
    · rintro (h | h | h)
      · exact .inl (.inr h)
      · exact .inl (.inl h)
      · exact .inr h
theorem fold_sorted : ∀ (L M : List (List UInt8)), M.Pairwise (· < ·) → (L.foldl ins M).Pairwise (· < ·)
  | [], M, h => h
  | x :: r, M, h => fold_sorted r (ins M x) (ins_sorted M x h)
theorem fold_all (fs : List (List UInt8 × List UInt8)) : (nms (saf fs)).foldl ins (nms (ask fs)) = nms fs := by
  refine sorted_eq (fold_sorted _ _ (nms_sorted _)) (nms_sorted fs) fun x => ?_
  rw [fold_mem, nms_mem, nms_mem, nms_mem]
  constructor
  · rintro (⟨f, hf, e⟩ | ⟨f, hf, e⟩)
    · exact ⟨f, (List.mem_filter.1 hf).1, e⟩
    · exact ⟨f, (List.mem_filter.1 hf).1, e⟩
  · rintro ⟨f, hf, e⟩
    by_cases h : hdr f.1 f.2 = true
    · exact .inr ⟨f, List.mem_filter.2 ⟨hf, h⟩, e⟩
    · exact .inl ⟨f, List.mem_filter.2 ⟨hf, by simpa using h⟩, e⟩
set_option maxHeartbeats 4000000 in
set_option maxRecDepth 100000 in
theorem runsafe_any (fs : List (List UInt8 × List UInt8)) (A : Option Addr) (c : Nat) (w : World) (hn : fs.length ≤ 100) (hf : Fs w w.heap.size A fs.length fs) (hN : ∀ f ∈ fs, f.1.length ≤ 9223372036854775807 ∧ f.2.length ≤ 9223372036854775807) : Calls Tryz.prog 18 #[.slice A fs.length c] w fun e w' => ∃ A' c', e = .returned (.slice A' (uns fs).length c') ∧ OwnT w' w.heap.size (.slice A' (uns fs).length c') (uns fs).length (uns fs) ∧ Below w.heap.size w w' := by
  have HF := Lib.hid hf
  have HU1 : Hid (1024 < sz fs → uns fs = (nms (saf fs)).foldl ins (nms (ask fs))) := fun h => by rw [uns, if_pos h, fold_all]
  have HU2 : Hid (¬ 1024 < sz fs → uns fs = nms (ask fs)) := fun h => by rw [uns, if_neg h]
  have HE1 : Hid (sz (fs.take fs.length) = sz fs) := by show _ = _; rw [List.take_length]
  have HE2 : Hid (ask (fs.take fs.length) = ask fs) := by show _ = _; rw [List.take_length]
  have HE3 : Hid (saf (fs.take fs.length) = saf fs) := by show _ = _; rw [List.take_length]
  have HNk : Hid (∀ (k : Nat) f, fs[k]? = some f → f.1.length ≤ 9223372036854775807 ∧ f.2.length ≤ 9223372036854775807) := fun k f h => hN f (List.mem_of_getElem? h)
  have HSb : Hid (∀ k, sz (fs.take k) ≤ 12800) := fun k => Nat.le_trans (sz_le _) (by rw [List.length_take]; omega)
  have HAb : Hid (∀ k, (nms (ask (fs.take k))).length ≤ 100) := fun k => Nat.le_trans (nms_len _) (Nat.le_trans (ask_len _) (by rw [List.length_take]; omega))
  have HFb : Hid (∀ k, (nms (saf (fs.take k))).length ≤ 100) := fun k => Nat.le_trans (nms_len _) (Nat.le_trans (saf_len _) (by rw [List.length_take]; omega))
  have HSt : Hid (∀ k f, fs[k]? = some f → sz (fs.take (k + 1)) = sz (fs.take k) + if hdr f.1 f.2 then f.2.length else 0) := sz_take fs
  have HAt : Hid (∀ k f, fs[k]? = some f → ask (fs.take (k + 1)) = ask (fs.take k) ++ if hdr f.1 f.2 then [] else [f]) := ask_take fs
  have HFt : Hid (∀ k f, fs[k]? = some f → saf (fs.take (k + 1)) = saf (fs.take k) ++ if hdr f.1 f.2 then [f] else []) := saf_take fs
  obtain ⟨S, hS⟩ : ∃ S, S = fs.length := ⟨_, rfl⟩
  rw [← hS] at hn HF HE1 HE2 HE3 ⊢
  clear hf hN hS
  have HO0 : Hid (OwnT ((w.alloc (.cells #[] 9)).alloc (.cells #[] 9)) w.heap.size (.slice (some ⟨w.heap.size, 0, none⟩) 0 0) 0 []) := (ownT_made w w.heap.size (Nat.le_refl _)).alloc _
  have hs0 : OwnT ((w.alloc (.cells #[] 9)).alloc (.cells #[] 9)) w.heap.size (.slice (some ⟨w.heap.size + 1, 0, none⟩) 0 0) 0 [] := by
    have h := ownT_made (w.alloc (.cells #[] 9)) w.heap.size (by simp)
    simpa using h
  have HS0 := Lib.hid hs0
  clear hs0
  have HK0 : Hid (Kept w ((w.alloc (.cells #[] 9)).alloc (.cells #[] 9))) := ((Kept.refl w).alloc _).alloc _
  go_enter Tryz.func18, Tryz.ntmps18
  go_wp2_with fail
  go_loopw [6, 5, 4, 3] (fun i nn sf ou wr => ∃ (k sN a bb : Nat) (A1 : Option Addr) (c1 : Nat) (A2 : Option Addr) (c2 : Nat), k ≤ S ∧ i = .int .i64 (k : Int) ∧ nn = .int .i64 (sN : Int) ∧ sf = .slice A1 a c1 ∧ ou = .slice A2 bb c2 ∧ sN = sz (fs.take k) ∧ OwnT wr w.heap.size (.slice A1 a c1) a (nms (saf (fs.take k))) ∧ OwnT wr w.heap.size (.slice A2 bb c2) bb (nms (ask (fs.take k))) ∧ Kept w wr) (fun i _ _ _ _ => S - (intOf i).toNat)
  case atStart => exact ⟨0, 0, 0, 0, _, _, _, _, by omega, rfl, rfl, rfl, rfl, rfl, HS0.out, HO0.out, HK0.out⟩
  case round =>
    obtain ⟨k, sN, a, bb, A1, c1, A2, c2, hk, rfl, rfl, rfl, rfl, hsz, hsf, hof, hkp⟩ := hrel
    clear HO0 HS0 HK0
    have HS_ := Lib.hid hsf
    have HO := Lib.hid hof
    have HK := Lib.hid hkp
    have Hsz := Lib.hid hsz
    have hsb : sN ≤ 12800 := by rw [hsz]; exact HSb.out k
    have Ha9 : Hid (a ≤ 100) := by show _ ≤ _; rw [← hsf.len]; exact HFb.out k
    have Hb9 : Hid (bb ≤ 100) := by show _ ≤ _; rw [← hof.len]; exact HAb.out k
    clear hof hkp hsz hsf
    by_cases hlt : k < S
    · have hkS : (k : Int) < (S : Int) := by omega
      obtain ⟨b, off, f, rfl, hbl, hfk, h0, h1⟩ := (HF.out.below HK.out).at_ hlt
      have hNf := HNk.out k f hfk
      have hSt := HSt.out k f hfk
      have hAt := HAt.out k f hfk
      have hFt := HFt.out k f hfk
      obtain ⟨p, q⟩ := f
      have h0 : wr.cell? ⟨b, off + k * 2, none⟩ = some (.string (str p)) := h0
      have h1 : wr.cell? ⟨b, off + k * 2 + 1, none⟩ = some (.string (str q)) := h1
      have hSt : sz (fs.take (k + 1)) = sz (fs.take k) + if hdr p q then q.length else 0 := hSt
      have hAt : ask (fs.take (k + 1)) = ask (fs.take k) ++ if hdr p q then [] else [(p, q)] := hAt
      have hFt : saf (fs.take (k + 1)) = saf (fs.take k) ++ if hdr p q then [(p, q)] else [] := hFt
      have HLo : Hid (∀ w', Calls Tryz.prog 24 #[.string (str p)] w' fun e w2 => e = .returned (.string (str (low p))) ∧ Below w'.heap.size w' w2) := fun w' => rlower_any p w' hNf.1
      have HHd : Hid (∀ w', Calls Tryz.prog 9 #[.string (str (low p)), .string (str q)] w' fun e w2 => e = .returned (.bool (hdr p q)) ∧ Below w'.heap.size w' w2) := fun w' => by rw [← hdr_low p q]; exact rheader_any (low p) q w' (by rw [low_length]; exact hNf.1) hNf.2
      have hsq := str_size q
      by_cases hh : hdr p q = true
      · have HSz : Hid (sN + q.length = sz (fs.take (k + 1))) := by show _ = _; rw [hSt, if_pos hh, Hsz.out]
        have HAs : Hid (ask (fs.take (k + 1)) = ask (fs.take k)) := by show _ = _; rw [hAt, if_pos hh, List.append_nil]
        have HSf : Hid (nms (saf (fs.take (k + 1))) = ins (nms (saf (fs.take k))) (low p)) := by show _ = _; rw [hFt, if_pos hh, nms_snoc]
        have hql := hdr_len hh
        rw [hh] at HHd
        obtain ⟨Q, hQ⟩ : ∃ Q, Q = q.length := ⟨_, rfl⟩
        rw [← hQ] at hsq hql HSz
        obtain ⟨s2, hs2⟩ : ∃ s2, s2 = sN + Q := ⟨_, rfl⟩
        rw [← hs2] at HSz
        have hw1 : IntKind.i64.wrap ((sN : Int) + (Q : Int)) = (s2 : Int) := by rw [IntKind.wrap_i64]; omega
        clear hNf hSt hAt hFt hfk hbl hh hs2 hQ hql
        go_wp2_with (first
          | (go_at_call 24; (with_reducible refine (HLo.out _).mono ?_); (rintro e w1 ⟨rfl, hb⟩); have HK1 := Lib.hid (HK.out.step hb); have HS1 := Lib.hid (HS_.out.kept hb); have HO1 := Lib.hid (HO.out.kept hb); have d1 : w1.cell? ⟨b, off + k * 2 + 1, none⟩ = some (.string (str q)) := (hb.cell (p := ⟨b, off + k * 2 + 1, none⟩) (World.block_lt_of_cell? _ _ h1)).trans h1; clear hb HLo)
          | (go_at_call 9; (with_reducible refine (HHd.out _).mono ?_); (rintro e w2 ⟨rfl, hb⟩); have HK2 := Lib.hid (HK1.out.step hb); have HS2 := Lib.hid (HS1.out.kept hb); have HO2 := Lib.hid (HO1.out.kept hb); have d2 : w2.cell? ⟨b, off + k * 2 + 1, none⟩ = some (.string (str q)) := (hb.cell (p := ⟨b, off + k * 2 + 1, none⟩) (World.block_lt_of_cell? _ _ d1)).trans d1; clear hb HHd)
          | (go_at_call 33; (with_reducible refine (with_any (nms (saf (fs.take k))) (low p) a c1 w.heap.size A1 w2 HS2.out (by have := Ha9.out; omega) HK2.out.sz).mono ?_); (rintro e w3 ⟨A3, c3, rfl, hown3, hb⟩); have HK3 := Lib.hid (HK2.out.step hb); have HS3 := Lib.hid (HS2.out.kept hb); have HO3 := Lib.hid (HO2.out.kept hb); have d3 : w3.cell? ⟨b, off + k * 2 + 1, none⟩ = some (.string (str q)) := (hb.cell (p := ⟨b, off + k * 2 + 1, none⟩) (World.block_lt_of_cell? _ _ d2)).trans d2; have HW3 := Lib.hid hown3; clear hb hown3))
        go_roundw
        case rel => exact ⟨k + 1, s2, (ins (nms (saf (fs.take k))) (low p)).length, bb, A3, c3, A2, c2, by omega, by go_num, rfl, rfl, rfl, HSz.out, by rw [HSf.out]; exact HW3.out, by rw [HAs.out]; exact HO3.out, HK3.out⟩
        case measure => simp [intOf]; omega
      · have hh2 : hdr p q = false := by simpa using hh
        have HSz : Hid (sN = sz (fs.take (k + 1))) := by show _ = _; rw [hSt, if_neg hh, Nat.add_zero, Hsz.out]
        have HAs : Hid (nms (ask (fs.take (k + 1))) = ins (nms (ask (fs.take k))) (low p)) := by show _ = _; rw [hAt, if_neg hh, nms_snoc]
        have HSf : Hid (saf (fs.take (k + 1)) = saf (fs.take k)) := by show _ = _; rw [hFt, if_neg hh, List.append_nil]
        rw [hh2] at HHd
        clear hNf hSt hAt hFt hfk hbl hh hh2
        go_wp2_with (first
          | (go_at_call 24; (with_reducible refine (HLo.out _).mono ?_); (rintro e w1 ⟨rfl, hb⟩); have HK1 := Lib.hid (HK.out.step hb); have HS1 := Lib.hid (HS_.out.kept hb); have HO1 := Lib.hid (HO.out.kept hb); have d1 : w1.cell? ⟨b, off + k * 2 + 1, none⟩ = some (.string (str q)) := (hb.cell (p := ⟨b, off + k * 2 + 1, none⟩) (World.block_lt_of_cell? _ _ h1)).trans h1; clear hb HLo)
          | (go_at_call 9; (with_reducible refine (HHd.out _).mono ?_); (rintro e w2 ⟨rfl, hb⟩); have HK2 := Lib.hid (HK1.out.step hb); have HS2 := Lib.hid (HS1.out.kept hb); have HO2 := Lib.hid (HO1.out.kept hb); have d2 : w2.cell? ⟨b, off + k * 2 + 1, none⟩ = some (.string (str q)) := (hb.cell (p := ⟨b, off + k * 2 + 1, none⟩) (World.block_lt_of_cell? _ _ d1)).trans d1; clear hb HHd)
          | (go_at_call 33; (with_reducible refine (with_any (nms (ask (fs.take k))) (low p) bb c2 w.heap.size A2 w2 HO2.out (by have := Hb9.out; omega) HK2.out.sz).mono ?_); (rintro e w3 ⟨A3, c3, rfl, hown3, hb⟩); have HK3 := Lib.hid (HK2.out.step hb); have HS3 := Lib.hid (HS2.out.kept hb); have HO3 := Lib.hid (HO2.out.kept hb); have d3 : w3.cell? ⟨b, off + k * 2 + 1, none⟩ = some (.string (str q)) := (hb.cell (p := ⟨b, off + k * 2 + 1, none⟩) (World.block_lt_of_cell? _ _ d2)).trans d2; have HW3 := Lib.hid hown3; clear hb hown3))
        go_roundw
        case rel => exact ⟨k + 1, sN, a, (ins (nms (ask (fs.take k))) (low p)).length, A1, c1, A3, c3, by omega, by go_num, rfl, rfl, rfl, HSz.out, by rw [HSf.out]; exact HS3.out, by rw [HAs.out]; exact HW3.out, HK3.out⟩
        case measure => simp [intOf]; omega
    · have hkS : ¬ (k : Int) < (S : Int) := by omega
      have hke : Hid (k = S) := by show _ = _; omega
      have HSe : Hid (sN = sz fs) := by show _ = _; rw [Hsz.out, hke.out, HE1.out]
      have HSA : Hid (OwnT wr w.heap.size (.slice A1 a c1) a (nms (saf fs))) := by have h := HS_.out; rw [hke.out, HE3.out] at h; exact h
      have HOA : Hid (OwnT wr w.heap.size (.slice A2 bb c2) bb (nms (ask fs))) := by have h := HO.out; rw [hke.out, HE2.out] at h; exact h
      have HUa : Hid (1024 < sN → uns fs = (nms (saf fs)).foldl ins (nms (ask fs))) := fun h => HU1.out (by rw [← HSe.out]; exact h)
      have HUb : Hid (¬ 1024 < sN → uns fs = nms (ask fs)) := fun h => HU2.out (by rw [← HSe.out]; exact h)
      have hSl := HSA.out.len
      have HTk : Hid (∀ j x, (nms (saf fs))[j]? = some x → ((nms (saf fs)).take (j + 1)).foldl ins (nms (ask fs)) = ins (((nms (saf fs)).take j).foldl ins (nms (ask fs))) x) := fun j x h => by rw [take_snoc _ j x h, List.foldl_append]; rfl
      have HTe : Hid (((nms (saf fs)).take a).foldl ins (nms (ask fs)) = (nms (saf fs)).foldl ins (nms (ask fs))) := by show _ = _; rw [← hSl, List.take_length]
      have HTx : Hid (∀ j, j < a → ∃ x, (nms (saf fs))[j]? = some x) := fun j hj => ⟨(nms (saf fs))[j]'(by omega), List.getElem?_eq_getElem (by omega)⟩
      have HTl : Hid (∀ j, (((nms (saf fs)).take j).foldl ins (nms (ask fs))).length ≤ 200) := fun j => by
        have h1 := fold_len ((nms (saf fs)).take j) (nms (ask fs))
        have h2 := HOA.out.len
        have h3 := Hb9.out
        have h4 : ((nms (saf fs)).take j).length ≤ a := by rw [List.length_take]; omega
        have h5 := Ha9.out
        omega
      have HT0 : Hid (((nms (saf fs)).take 0).foldl ins (nms (ask fs)) = nms (ask fs)) := rfl
      generalize nms (saf fs) = SA at *
      generalize nms (ask fs) = OA at *
      clear HS_ HO HU1 HU2 HE1 HE2 HE3 HSb HAb HFb HSt HAt HFt Hsz HSe hSl hke
      go_wp2_with fail
      go_loopw [9, 3] (fun i ou wz => ∃ (j d : Nat) (A3 : Option Addr) (c3 : Nat), j ≤ a ∧ i = .int .i64 (j : Int) ∧ ou = .slice A3 d c3 ∧ (1024 < sN ∨ j = 0) ∧ OwnT wz w.heap.size (.slice A1 a c1) a SA ∧ OwnT wz w.heap.size (.slice A3 d c3) d ((SA.take j).foldl ins OA) ∧ Kept w wz) (fun i _ _ => a - (intOf i).toNat)
      case atStart => exact ⟨0, bb, A2, c2, by omega, rfl, rfl, .inr rfl, HSA.out, by rw [HT0.out]; exact HOA.out, HK.out⟩
      case round =>
        obtain ⟨j, d, A3, c3, hj, rfl, rfl, hor, hsa, hoa, hkz⟩ := hrel
        have HSz := Lib.hid hsa
        have HOz := Lib.hid hoa
        have HKz := Lib.hid hkz
        have Hd9 : Hid (d ≤ 200) := by show _ ≤ _; rw [← hoa.len]; exact HTl.out j
        have Hor := Lib.hid hor
        clear hsa hoa hkz hor HSA HOA
        by_cases hb : 1024 < sN
        · have hb2 : decide ((1024 : Int) < (sN : Int)) = true := by simp; omega
          have hb3 : (1024 : Int) < (sN : Int) := by omega
          by_cases hja : j < a
          · have hjS : (j : Int) < (a : Int) := by omega
            have hjd : decide ((j : Int) < (a : Int)) = true := by simp; omega
            have ha9 : a ≤ 100 := Ha9.out
            obtain ⟨x, hx⟩ := HTx.out j hja
            have HTj := Lib.hid (HTk.out j x hx)
            obtain ⟨ga, hga, hcell⟩ := (Tw.of HSz.out).1.2 j x hx
            have hac : (a : Int) ≤ (c1 : Int) := by have := (Tw.of HSz.out).2; omega
            subst hga
            unfold vstr at hcell
            have HBx := Lib.hid hb
            clear hx hb
            go_wp2_with (first
              | (go_at_call 33; (with_reducible refine (with_any ((SA.take j).foldl ins OA) x d c3 w.heap.size A3 wr HOz.out (by have := Hd9.out; omega) HKz.out.sz).mono ?_); (rintro e w4 ⟨A4, c4, rfl, hown4, hb⟩); have HK4 := Lib.hid (HKz.out.step hb); have HS4 := Lib.hid (HSz.out.kept hb); have HW4 := Lib.hid hown4; clear hb hown4))
            go_roundw
            case rel => exact ⟨j + 1, (ins ((SA.take j).foldl ins OA) x).length, A4, c4, by omega, by go_num, rfl, .inl HBx.out, HS4.out, by rw [HTj.out]; exact HW4.out, HK4.out⟩
            case measure => simp [intOf]; omega
          · have hjS : ¬ (j : Int) < (a : Int) := by omega
            have hjd : decide ((j : Int) < (a : Int)) = false := by simp; omega
            have hje : Hid (j = a) := by show _ = _; omega
            have HUe := Lib.hid (HUa.out hb)
            have ho := HOz.out
            rw [hje.out, HTe.out, ← HUe.out] at ho
            have Ho := Lib.hid ho
            have hl := Lib.hid ho.len
            clear ho hb
            go_wp2_with fail
            go_ret
            exact ⟨A3, c3, by rw [hl.out]; rfl, by rw [hl.out]; exact Ho.out, HKz.out⟩
        · have hb2 : decide ((1024 : Int) < (sN : Int)) = false := by simp; omega
          have hb3 : ¬ (1024 : Int) < (sN : Int) := by omega
          have HUe := Lib.hid (HUb.out hb)
          have hj0 : Hid (j = 0) := Hor.out.resolve_left hb
          have ho := HOz.out
          rw [hj0.out, HT0.out, ← HUe.out] at ho
          have Ho := Lib.hid ho
          have hl := Lib.hid ho.len
          clear ho hb
          by_cases hja : j < a
          · have hjS : (j : Int) < (a : Int) := by omega
            have hjd : decide ((j : Int) < (a : Int)) = true := by simp; omega
            go_wp2_with fail
            go_ret
            exact ⟨A3, c3, by rw [hl.out]; rfl, by rw [hl.out]; exact Ho.out, HKz.out⟩
          · have hjS : ¬ (j : Int) < (a : Int) := by omega
            have hjd : decide ((j : Int) < (a : Int)) = false := by simp; omega
            go_wp2_with fail
            go_ret
            exact ⟨A3, c3, by rw [hl.out]; rfl, by rw [hl.out]; exact Ho.out, HKz.out⟩
end Go.Proofs.YtonchnmcklgpoaaGreatDoor
