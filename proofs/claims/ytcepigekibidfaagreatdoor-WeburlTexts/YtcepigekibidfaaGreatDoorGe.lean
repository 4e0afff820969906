/-
  What the document's own Decode (transeptref06) tells; nothing that was there turns. Condition: texts of at most 100000000 bytes.
  What the document's own answer (transeptref06) tells: In, digit, Digit; nothing that was there turns. No condition.
  What the document's own Encode (transeptref06) tells; nothing that was there turns. Condition: texts of at most 100000000 bytes.
-/
import Derived.Test.YtcepigekibidfaaGreatDoorGa
import Derived.Test.YtcepigekibidfaaGreatDoorGd
namespace Go.Proofs.YtcepigekibidfaaGreatDoor
open Go.RowKit

set_option maxHeartbeats 1000000 in
theorem refDig_in (c : UInt8) (h : dig c < 16) (w : World) : Calls Tryz.prog 76 #[vb c] w fun e w' => e = .returned (.int .i64 (dig c : Int)) ∧ w' = w := by
  obtain ⟨m, hm⟩ : ∃ m, c.toNat = m := ⟨_, rfl⟩
  have hc := (dig_lt hm).1 h
  have hd : Hid (dig c = if 48 ≤ m ∧ m ≤ 57 then m - 48 else if 65 ≤ m ∧ m ≤ 70 then m - 65 + 10 else if 97 ≤ m ∧ m ≤ 102 then m - 97 + 10 else 16) := by show _ = _; unfold dig; rw [hm]
  obtain ⟨d, hdd⟩ : ∃ d, d = dig c := ⟨_, rfl⟩
  rw [← hdd] at hd ⊢
  unfold vb
  rw [hm]
  clear h hm hdd
  rcases hc with hc | hc | hc
  · have e1 : Hid (d = m - 48) := by show _ = _; rw [hd.out, if_pos hc]
    have a0 : decide ((48 : Int) ≤ (m : Int)) = true := by simp; omega
    have b0 : decide ((m : Int) ≤ 57) = true := by simp; omega
    have a1 : decide ((65 : Int) ≤ (m : Int)) = false := by simp; omega
    have b1 : decide ((m : Int) ≤ 70) = true := by simp; omega
    have a2 : decide ((97 : Int) ≤ (m : Int)) = false := by simp; omega
    have b2 : decide ((m : Int) ≤ 102) = true := by simp; omega
    go_enter Tryz.func76, Tryz.ntmps76
    go_wp2_with fail
    go_ret
    refine ⟨?_, rfl⟩
    have := e1.out
    have e2 : (d : Int) = (m : Int) - 48 := by omega
    rw [e2]
    rfl
  · have e1 : Hid (d = m - 65 + 10) := by show _ = _; rw [hd.out, if_neg (by omega), if_pos hc]
    have a0 : decide ((48 : Int) ≤ (m : Int)) = true := by simp; omega
    have b0 : decide ((m : Int) ≤ 57) = false := by simp; omega
    have a1 : decide ((65 : Int) ≤ (m : Int)) = true := by simp; omega
    have b1 : decide ((m : Int) ≤ 70) = true := by simp; omega
    have a2 : decide ((97 : Int) ≤ (m : Int)) = false := by simp; omega
    have b2 : decide ((m : Int) ≤ 102) = true := by simp; omega
    go_enter Tryz.func76, Tryz.ntmps76
    go_wp2_with fail
    go_ret
    refine ⟨?_, rfl⟩
    have := e1.out
    have e2 : (d : Int) = (m : Int) - 65 + 10 := by omega
    rw [e2]
    rfl
  · have e1 : Hid (d = m - 97 + 10) := by show _ = _; rw [hd.out, if_neg (by omega), if_neg (by omega), if_pos hc]
    have a0 : decide ((48 : Int) ≤ (m : Int)) = true := by simp; omega
    have b0 : decide ((m : Int) ≤ 57) = false := by simp; omega
    have a1 : decide ((65 : Int) ≤ (m : Int)) = true := by simp; omega
    have b1 : decide ((m : Int) ≤ 70) = false := by simp; omega
    have a2 : decide ((97 : Int) ≤ (m : Int)) = true := by simp; omega
    have b2 : decide ((m : Int) ≤ 102) = true := by simp; omega
    go_enter Tryz.func76, Tryz.ntmps76
    go_wp2_with fail
    go_ret
    refine ⟨?_, rfl⟩
    have := e1.out
    have e2 : (d : Int) = (m : Int) - 97 + 10 := by omega
    rw [e2]
    rfl

set_option maxHeartbeats 1000000 in
theorem refDig_out (c : UInt8) (h : ¬ dig c < 16) (w : World) : Calls Tryz.prog 76 #[vb c] w fun e w' => e = .returned (.int .i64 (-1)) ∧ w' = w := by
  obtain ⟨m, hm⟩ : ∃ m, c.toNat = m := ⟨_, rfl⟩
  rw [dig_lt hm] at h
  unfold vb
  rw [hm]
  clear hm
  have hc : m < 48 ∨ (57 < m ∧ m < 65) ∨ (70 < m ∧ m < 97) ∨ 102 < m := by omega
  clear h
  rcases hc with hc | hc | hc | hc
  · have a0 : decide ((48 : Int) ≤ (m : Int)) = false := by simp; omega
    have b0 : decide ((m : Int) ≤ 57) = true := by simp; omega
    have a1 : decide ((65 : Int) ≤ (m : Int)) = false := by simp; omega
    have b1 : decide ((m : Int) ≤ 70) = true := by simp; omega
    have a2 : decide ((97 : Int) ≤ (m : Int)) = false := by simp; omega
    have b2 : decide ((m : Int) ≤ 102) = true := by simp; omega
    go_enter Tryz.func76, Tryz.ntmps76
    go_wp2_with fail
    go_ret
    exact ⟨rfl, rfl⟩
  · have a0 : decide ((48 : Int) ≤ (m : Int)) = true := by simp; omega
    have b0 : decide ((m : Int) ≤ 57) = false := by simp; omega
    have a1 : decide ((65 : Int) ≤ (m : Int)) = false := by simp; omega
    have b1 : decide ((m : Int) ≤ 70) = true := by simp; omega
    have a2 : decide ((97 : Int) ≤ (m : Int)) = false := by simp; omega
    have b2 : decide ((m : Int) ≤ 102) = true := by simp; omega
    go_enter Tryz.func76, Tryz.ntmps76
    go_wp2_with fail
    go_ret
    exact ⟨rfl, rfl⟩
  · have a0 : decide ((48 : Int) ≤ (m : Int)) = true := by simp; omega
    have b0 : decide ((m : Int) ≤ 57) = false := by simp; omega
    have a1 : decide ((65 : Int) ≤ (m : Int)) = true := by simp; omega
    have b1 : decide ((m : Int) ≤ 70) = false := by simp; omega
    have a2 : decide ((97 : Int) ≤ (m : Int)) = false := by simp; omega
    have b2 : decide ((m : Int) ≤ 102) = true := by simp; omega
    go_enter Tryz.func76, Tryz.ntmps76
    go_wp2_with fail
    go_ret
    exact ⟨rfl, rfl⟩
  · have a0 : decide ((48 : Int) ≤ (m : Int)) = true := by simp; omega
    have b0 : decide ((m : Int) ≤ 57) = false := by simp; omega
    have a1 : decide ((65 : Int) ≤ (m : Int)) = true := by simp; omega
    have b1 : decide ((m : Int) ≤ 70) = false := by simp; omega
    have a2 : decide ((97 : Int) ≤ (m : Int)) = true := by simp; omega
    have b2 : decide ((m : Int) ≤ 102) = false := by simp; omega
    go_enter Tryz.func76, Tryz.ntmps76
    go_wp2_with fail
    go_ret
    exact ⟨rfl, rfl⟩

set_option maxHeartbeats 8000000 in
set_option maxRecDepth 100000 in
theorem refDecode_any (l : List UInt8) (w : World) (hl : l.length ≤ 100000000) : Calls Tryz.prog 50 #[.string (str l)] w fun e w' => e = .returned (.string (str (dec l))) ∧ Below w.heap.size w w' := by
  have hsz := str_size l
  obtain ⟨S, hS⟩ : ∃ S, S = l.length := ⟨_, rfl⟩
  have hdl : Hid ((dec l).length ≤ S) := by show _ ≤ _; rw [hS]; exact dec_len _ l (Nat.le_refl _)
  have hgb : ∀ k, k < S → ∀ h, ((str l)[k]'h).toNat = (l.getD k 0).toNat := fun k hk h => str_at l k (by rw [← hS]; exact hk) h
  obtain ⟨D, hD⟩ : ∃ D, D = dec l := ⟨_, rfl⟩
  rw [← hD] at hdl ⊢
  rw [← hS] at hsz hl
  have HS := Lib.hid (And.intro hS hD)
  have HG := Lib.hid hgb
  clear hS hD hgb
  go_enter Tryz.func50, Tryz.ntmps50
  go_wp2_with fail
  have b4 : Kept w (w.alloc (.cells #[] 5)) := (Kept.refl w).alloc _
  have hown4 : Own (w.alloc (.cells #[] 5)) w.heap.size _ 0 [] := own_empty w w.heap.size (Nat.le_refl _)
  go_loopw [4, 3] (fun i v wr => ∃ (k : Nat) (L : List UInt8), k ≤ S ∧ i = .int .i64 (k : Int) ∧ L ++ dec (l.drop k) = D ∧ Kept w wr ∧ Own wr w.heap.size v L.length L) (fun i _ _ => S - (intOf i).toNat)
  case atStart => exact ⟨0, [], by omega, rfl, by rw [HS.out.2]; rfl, b4, hown4⟩
  case round =>
    obtain ⟨k, L, hk, rfl, hLD, hkp, hown⟩ := hrel
    clear hown4 b4
    have hLl : L.length ≤ S := by
      have h1 := hdl.out
      rw [← hLD, List.length_append] at h1
      omega
    obtain ⟨NL, hNL⟩ : ∃ NL, NL = L.length := ⟨_, rfl⟩
    rw [← hNL] at hown hLl
    have hkz := hkp.size
    by_cases hlt : k < S
    · have hkS : (k : Int) < (S : Int) := by omega
      have hdrop : ∀ i, (l.drop k).getD i 0 = l.getD (k + i) 0 := fun i => by simp [List.getD, List.getElem?_drop]
      have hlen : Hid ((l.drop k).length = S - k) := by show _ = _; rw [List.length_drop, ← HS.out.1]
      obtain ⟨a, t, hat⟩ : ∃ a t, l.drop k = a :: t := by
        match hd : l.drop k with
        | [] =>
          have := hlen.out
          rw [hd] at this
          simp at this
          omega
        | a :: t => exact ⟨a, t, rfl⟩
      have ha0 : a = l.getD k 0 := by
        have := hdrop 0
        rw [hat] at this
        simpa using this
      obtain ⟨m, hm⟩ : ∃ m, m = a.toNat := ⟨_, rfl⟩
      have hget : ∀ h, ((str l)[k]'h).toNat = m := fun h => by rw [hm, ha0]; exact HG.out k hlt h
      have hdt : Hid (l.drop (k + 1) = t) := by
        show _ = _
        rw [← List.drop_drop, hat]
        rfl
      obtain ⟨z, hz⟩ : ∃ z, z = S - k := ⟨_, rfl⟩
      have hzi : (S : Int) - (k : Int) = (z : Int) := by omega
      have HM := Lib.hid (And.intro hm ha0)
      have HLD := Lib.hid (And.intro hLD hNL)
      clear hLD hNL hm ha0
      by_cases ha : a = 37
      · have hm37 : ((m : Int) == 37) = true := by rw [HM.out.1, ha]; rfl
        by_cases hz2 : 2 < z
        · have hzb : decide ((2 : Int) < (z : Int)) = true := by simp; omega
          match t, hat, hdt with
          | [], hat, _ =>
            have := hlen.out
            rw [hat] at this
            simp at this
            omega
          | [x], hat, _ =>
            have := hlen.out
            rw [hat] at this
            simp at this
            omega
          | b :: c :: r, hat, hdt =>
            have hb1 : b = l.getD (k + 1) 0 := by
              have := hdrop 1
              rw [hat] at this
              simpa using this
            have hc1 : c = l.getD (k + 2) 0 := by
              have := hdrop 2
              rw [hat] at this
              simpa using this
            obtain ⟨k1, hk1⟩ : ∃ k1, k1 = k + 1 := ⟨_, rfl⟩
            obtain ⟨k2, hk2⟩ : ∃ k2, k2 = k + 2 := ⟨_, rfl⟩
            obtain ⟨k3, hk3⟩ : ∃ k3, k3 = k + 3 := ⟨_, rfl⟩
            obtain ⟨x, hx⟩ : ∃ x, x = b.toNat := ⟨_, rfl⟩
            obtain ⟨y, hy⟩ : ∃ y, y = c.toNat := ⟨_, rfl⟩
            have hget1 : ∀ h, ((str l)[k1]'h).toNat = x := fun h => by rw [hx, hb1, ← hk1]; exact HG.out k1 (by omega) h
            have hget2 : ∀ h, ((str l)[k2]'h).toNat = y := fun h => by rw [hy, hc1, ← hk2]; exact HG.out k2 (by omega) h
            have hk1i : (k : Int) + 1 = (k1 : Int) := by omega
            have hk2i : (k : Int) + 2 = (k2 : Int) := by omega
            have hk3i : (k2 : Int) + 1 = (k3 : Int) := by omega
            have hw1 : IntKind.i64.wrap ((k : Int) + 1) = (k1 : Int) := by rw [IntKind.wrap_i64]; omega
            have hw2 : IntKind.i64.wrap ((k : Int) + 2) = (k2 : Int) := by rw [IntKind.wrap_i64]; omega
            have hw1' : IntKind.i64.wrap (k1 : Int) = (k1 : Int) := by rw [IntKind.wrap_i64]; omega
            have hw2' : IntKind.i64.wrap (k2 : Int) = (k2 : Int) := by rw [IntKind.wrap_i64]; omega
            have hk1S : (k1 : Int) < (S : Int) := by omega
            have hk2S : (k2 : Int) < (S : Int) := by omega
            have hk1n : k1 < S := by omega
            have hk2n : k2 < S := by omega
            have hk3n : k3 ≤ S := by omega
            have hkk3 : k < k3 := by omega
            have hdr : Hid (l.drop k3 = r) := by
              show _ = _
              rw [hk3, ← List.drop_drop, hat]
              rfl
            have HK := Lib.hid (And.intro hk1 (And.intro hk2 hk3))
            have BI : Hid (dig b < 16 → ∀ W, Calls Tryz.prog 76 #[.int .u8 (x : Int)] W fun e w' => e = .returned (.int .i64 (dig b : Int)) ∧ w' = W) := fun h W => by rw [hx]; exact refDig_in b h W
            have BO : Hid (¬ dig b < 16 → ∀ W, Calls Tryz.prog 76 #[.int .u8 (x : Int)] W fun e w' => e = .returned (.int .i64 (-1)) ∧ w' = W) := fun h W => by rw [hx]; exact refDig_out b h W
            have CI : Hid (dig c < 16 → ∀ W, Calls Tryz.prog 76 #[.int .u8 (y : Int)] W fun e w' => e = .returned (.int .i64 (dig c : Int)) ∧ w' = W) := fun h W => by rw [hy]; exact refDig_in c h W
            have CO : Hid (¬ dig c < 16 → ∀ W, Calls Tryz.prog 76 #[.int .u8 (y : Int)] W fun e w' => e = .returned (.int .i64 (-1)) ∧ w' = W) := fun h W => by rw [hy]; exact refDig_out c h W
            clear hk1 hk2 hk3 hb1 hc1 hx hy hlen hdrop hz
            subst ha
            by_cases hb : dig b < 16
            · obtain ⟨u, hu⟩ : ∃ u, u = dig b := ⟨_, rfl⟩
              have BI' : Hid (∀ W, Calls Tryz.prog 76 #[.int .u8 (x : Int)] W fun e w' => e = .returned (.int .i64 (u : Int)) ∧ w' = W) := fun W => by rw [hu]; exact BI.out hb W
              have hu16 : u < 16 := by rw [hu]; exact hb
              clear BI BO
              by_cases hc : dig c < 16
              · obtain ⟨v, hv⟩ : ∃ v, v = dig c := ⟨_, rfl⟩
                have CI' : Hid (∀ W, Calls Tryz.prog 76 #[.int .u8 (y : Int)] W fun e w' => e = .returned (.int .i64 (v : Int)) ∧ w' = W) := fun W => by rw [hv]; exact CI.out hc W
                have hv16 : v < 16 := by rw [hv]; exact hc
                clear CI CO
                have hpair : pair b c = some (UInt8.ofNat (u * 16 + v)) := by unfold pair; rw [if_pos ⟨hb, hc⟩, hu, hv]
                obtain ⟨f, hf⟩ : ∃ f, f = UInt8.ofNat (u * 16 + v) := ⟨_, rfl⟩
                obtain ⟨p, hp⟩ : ∃ p, p = u * 16 := ⟨_, rfl⟩
                obtain ⟨q, hq⟩ : ∃ q, q = p + v := ⟨_, rfl⟩
                have hfq : Hid ((q : Int) = (f.toNat : Int)) := by
                  show _ = _
                  rw [hf, toNat_ofNat_lt _ (by omega)]
                  omega
                have hpi : (u : Int) * 16 = (p : Int) := by omega
                have hqi : (p : Int) + (v : Int) = (q : Int) := by omega
                have hp9 : p < 256 := by omega
                have hq9 : q < 256 := by omega
                have hwp : IntKind.i64.wrap ((u : Int) * 16) = (p : Int) := by rw [IntKind.wrap_i64]; omega
                have hwp' : IntKind.i64.wrap (p : Int) = (p : Int) := by rw [IntKind.wrap_i64]; omega
                have hwq : IntKind.i64.wrap ((p : Int) + (v : Int)) = (q : Int) := by rw [IntKind.wrap_i64]; omega
                have hwq' : IntKind.i64.wrap (q : Int) = (q : Int) := by rw [IntKind.wrap_i64]; omega
                have hwq8 : IntKind.u8.wrap (q : Int) = (q : Int) := by rw [IntKind.wrap_u8]; omega
                have hm8 : (q : Int) % 256 = (q : Int) := by omega
                have hstep : Hid (L ++ [f] ++ dec (l.drop k3) = D) := by
                  show _ = _
                  rw [hdr.out, ← HLD.out.1, hat, dec_pair b c _ r hpair, ← hf, List.append_assoc]
                  rfl
                clear hpair hf hp hq hb hc hu hv hat hdt hdr
                go_wp2_with (first | (go_at_call 76; with_reducible refine (BI'.out _).mono ?_; rintro e w5 ⟨rfl, rfl⟩) | (go_at_call 76; with_reducible refine (CI'.out _).mono ?_; rintro e w6 ⟨rfl, rfl⟩))
                refine wp_region_held_drew (S := fun W => Kept w W) (by kernel_rfl) hkp.drew (fun hS => ?_)
                refine wpAnyH_take (i := 0) (oi := ⟨some 39, _, _, _, _, _⟩) (v := ?va0) rfl (by kernel_rfl) (by kernel_rfl) (by kernel_rfl) (fun _ _ _ h => h) (Or.inl ⟨by rfl, ?ya0⟩) hS ?ra0
                case ya0 => intro W hW; go_simp; first | done | with_reducible rfl
                simp only [Act.put, List.setIfInBounds_toArray, List.set_cons_zero, List.set_cons_succ]
                refine wpAnyH_take (i := 1) (oi := ⟨some 40, _, _, _, _, _⟩) (v := ?va1) rfl (by kernel_rfl) (by kernel_rfl) (by kernel_rfl) (fun _ _ _ h => h) (Or.inl ⟨by rfl, ?ya1⟩) hS ?ra1
                case ya1 => intro W hW; go_simp; first | done | with_reducible rfl
                simp only [Act.put, List.setIfInBounds_toArray, List.set_cons_zero, List.set_cons_succ]
                refine wpAnyH_take (i := 2) (oi := ⟨some 41, _, _, _, _, _⟩) (v := ?va2) rfl (by kernel_rfl) (by kernel_rfl) (by kernel_rfl) (fun _ _ _ h => h) (Or.inl ⟨by rfl, ?ya2⟩) hS ?ra2
                case ya2 => intro W hW; go_simp; first | done | with_reducible rfl
                simp only [Act.put, List.setIfInBounds_toArray, List.set_cons_zero, List.set_cons_succ]
                refine wpAnyH_take (i := 3) (oi := ⟨some 42, _, _, _, _, _⟩) (v := ?va3) rfl (by kernel_rfl) (by kernel_rfl) (by kernel_rfl) (fun _ _ _ h => h) (Or.inl ⟨by rfl, ?ya3⟩) hS ?ra3
                case ya3 => intro W hW; go_simp; first | done | with_reducible rfl
                simp only [Act.put, List.setIfInBounds_toArray, List.set_cons_zero, List.set_cons_succ]
                refine wpAnyH_take (i := 4) (oi := ⟨some 43, _, _, _, _, _⟩) (v := ?va4) rfl (by kernel_rfl) (by kernel_rfl) (by kernel_rfl) (fun _ _ _ h => h) (Or.inl ⟨by rfl, ?ya4⟩) hS ?ra4
                case ya4 => intro W hW; go_simp; first | done | with_reducible rfl
                simp only [Act.put, List.setIfInBounds_toArray, List.set_cons_zero, List.set_cons_succ]
                refine wpAnyH_take (i := 7) (oi := ⟨some 46, _, _, _, _, _⟩) (v := ?va7) rfl (by kernel_rfl) (by kernel_rfl) (by kernel_rfl) (fun _ _ _ h => h) (Or.inl ⟨by rfl, ?ya7⟩) hS ?ra7
                case ya7 => intro W hW; go_simp; first | done | with_reducible rfl
                simp only [Act.put, List.setIfInBounds_toArray, List.set_cons_zero, List.set_cons_succ]
                refine wpAnyH_take (i := 8) (oi := ⟨some 47, _, _, _, _, _⟩) (v := ?va8) rfl (by kernel_rfl) (by kernel_rfl) (by kernel_rfl) (fun _ _ _ h => h) (Or.inl ⟨by rfl, ?ya8⟩) hS ?ra8
                case ya8 => intro W hW; go_simp; first | done | with_reducible rfl
                simp only [Act.put, List.setIfInBounds_toArray, List.set_cons_zero, List.set_cons_succ]
                refine wpAnyH_take (i := 9) (oi := ⟨some 48, _, _, _, _, _⟩) (v := ?va9) rfl (by kernel_rfl) (by kernel_rfl) (by kernel_rfl) (fun _ _ _ h => h) (Or.inl ⟨by rfl, ?ya9⟩) hS ?ra9
                case ya9 => intro W hW; go_simp; first | done | with_reducible rfl
                simp only [Act.put, List.setIfInBounds_toArray, List.set_cons_zero, List.set_cons_succ]
                refine wpAnyH_take (i := 10) (oi := ⟨some 49, _, _, _, _, _⟩) (v := ?va10) rfl (by kernel_rfl) (by kernel_rfl) (by kernel_rfl) (fun _ _ _ h => h) (Or.inl ⟨by rfl, ?ya10⟩) hS ?ra10
                case ya10 => intro W hW; go_simp; first | done | with_reducible rfl
                simp only [Act.put, List.setIfInBounds_toArray, List.set_cons_zero, List.set_cons_succ]
                refine wpAnyH_ready (rs := [5]) (by kernel_rfl) (by simp) ?_
                refine (AllReadyH.cons (o := ⟨some 44, _, _, _, _, _⟩) rfl (fun K hK_ => ?_) AllReadyH.nil)
                go_simp
                with_reducible refine (BI'.out _).mono ?_
                rintro e w7 ⟨rfl, rfl⟩
                refine hK_.out _ _ hS (fun _ => ?_)
                clear hK_ K
                try simp only [Act.put, List.setIfInBounds_toArray, List.set_cons_zero, List.set_cons_succ]
                refine wpAnyH_take (i := 6) (oi := ⟨some 45, _, _, _, _, _⟩) (v := ?vc6) rfl (by kernel_rfl) (by kernel_rfl) (by kernel_rfl) (fun _ _ _ h => h) (Or.inl ⟨by rfl, ?yc6⟩) hS ?rc6
                case yc6 => intro W hW; go_simp; first | done | with_reducible rfl
                simp only [Act.put, List.setIfInBounds_toArray, List.set_cons_zero, List.set_cons_succ]
                refine wpAnyH_ready (rs := [11]) (by kernel_rfl) (by simp) ?_
                refine (AllReadyH.cons (o := ⟨some 50, _, _, _, _, _⟩) rfl (fun K hK_ => ?_) AllReadyH.nil)
                go_simp
                with_reducible refine (CI'.out _).mono ?_
                rintro e w8 ⟨rfl, rfl⟩
                refine hK_.out _ _ hS (fun _ => ?_)
                clear hK_ K
                try simp only [Act.put, List.setIfInBounds_toArray, List.set_cons_zero, List.set_cons_succ]
                refine wpAnyH_take (i := 12) (oi := ⟨some 51, _, _, _, _, _⟩) (v := ?vc12) rfl (by kernel_rfl) (by kernel_rfl) (by kernel_rfl) (fun _ _ _ h => h) (Or.inl ⟨by rfl, ?yc12⟩) hS ?rc12
                case yc12 => intro W hW; go_simp; first | done | with_reducible rfl
                simp only [Act.put, List.setIfInBounds_toArray, List.set_cons_zero, List.set_cons_succ]
                refine wpAnyH_take (i := 13) (oi := ⟨some 52, _, _, _, _, _⟩) (v := ?vc13) rfl (by kernel_rfl) (by kernel_rfl) (by kernel_rfl) (fun _ _ _ h => h) (Or.inl ⟨by rfl, ?yc13⟩) hS ?rc13
                case yc13 => intro W hW; go_simp; first | done | with_reducible rfl
                simp only [Act.put, List.setIfInBounds_toArray, List.set_cons_zero, List.set_cons_succ]
                refine wpAnyH_ready (rs := [14]) (by kernel_rfl) (by simp) ?_
                refine (AllReadyH.cons (o := ⟨some 53, _, _, _, _, _⟩) rfl (fun K hK_ => ?_) AllReadyH.nil)
                go_simp
                refine hK_.out _ _ (hS.alloc _) (fun hS3 => ?_)
                clear hK_ K
                refine wpAnyH_ready (rs := [15]) (by kernel_rfl) (by simp) ?_
                refine (AllReadyH.cons (o := ⟨some 54, _, _, _, _, _⟩) rfl (fun K hK_ => ?_) AllReadyH.nil)
                refine step_appS _ rfl (.tmp 39) (.tmp 53) rfl w.heap.size _ NL L rfl (hown.alloc _).drew (w6.heap.size + 1) _ 1 1 [f] rfl (Bs.one' w6 _ f ?e1).drew (by omega) (by simp; omega) (NL + 1) (L ++ [f]) rfl rfl ?_
                case e1 => exact hfq.out
                intro A9 c9 w9 hc9 hS9 hown9 hbel9
                have K9 : Kept w w9 := hS3.base hbel9
                refine hK_.out _ _ K9 (fun _ => ?_)
                clear hK_ K
                simp only [Act.put, List.setIfInBounds_toArray, List.set_cons_zero, List.set_cons_succ]
                refine wpAnyH_take (i := 16) (oi := ⟨some 3, _, _, _, _, _⟩) (v := ?vo16) rfl (by kernel_rfl) (by kernel_rfl) (by kernel_rfl) (fun _ _ _ h => h) (Or.inl ⟨by rfl, ?yo16⟩) K9 ?ro16
                case yo16 => intro W hW; go_simp; first | done | with_reducible rfl
                simp only [Act.put, List.setIfInBounds_toArray, List.set_cons_zero, List.set_cons_succ]
                refine wpAnyH_done (by kernel_rfl) ?_ _
                go_wp2_with fail
                go_roundw
                case rel =>
                  refine ⟨k3, L ++ [f], hk3n, by go_num, hstep.out, K9, ?_⟩
                  rw [List.length_append, ← HLD.out.2]
                  exact hown9
                case measure => simp [intOf]; omega
              · have CO' := Lib.hid (CO.out hc)
                clear CI CO
                have hpair : pair b c = none := pair_none_r b hc
                have hstep : Hid (L ++ [37] ++ dec (l.drop (k + 1)) = D) := by
                  show _ = _
                  rw [hdt.out, ← HLD.out.1, hat, dec_nopair b c r hpair, List.append_assoc]
                  rfl
                clear hpair hb hc hu hat hdt hdr hkk3 hk3n hk3i
                go_wp2_with (first
                  | (go_at_call 76; with_reducible refine (BI'.out _).mono ?_; rintro e w5 ⟨rfl, rfl⟩)
                  | (go_at_call 76; with_reducible refine (CO'.out _).mono ?_; rintro e w6 ⟨rfl, rfl⟩)
                  | (at_builtin; refine wp_app _ rfl (.tmp 57) (.tmp 61) rfl w.heap.size _ NL L rfl (hown.alloc _) (w6.heap.size + 1) _ 1 1 [37] rfl (Bs.one' _ _ _ (by rw [HM.out.1])) (by omega) (by simp; omega) ?_; intro v8 w8 hown8 hb8))
                go_roundw
                case rel =>
                  refine ⟨k + 1, L ++ [37], by omega, by go_num, hstep.out, hkp.base (((Below.refl _ _).alloc hkz _).trans hb8), ?_⟩
                  rw [List.length_append, ← HLD.out.2]
                  exact hown8
                case measure => simp [intOf]; omega
            · have BO' := Lib.hid (BO.out hb)
              clear BI BO CI CO
              have hpair : pair b c = none := pair_none_l c hb
              have hstep : Hid (L ++ [37] ++ dec (l.drop (k + 1)) = D) := by
                show _ = _
                rw [hdt.out, ← HLD.out.1, hat, dec_nopair b c r hpair, List.append_assoc]
                rfl
              clear hpair hb hat hdt hdr hkk3 hk3n hk3i
              go_wp2_with (first
                | (go_at_call 76; with_reducible refine (BO'.out _).mono ?_; rintro e w5 ⟨rfl, rfl⟩)
                | (at_builtin; refine wp_app _ rfl (.tmp 57) (.tmp 61) rfl w.heap.size _ NL L rfl (hown.alloc _) (w5.heap.size + 1) _ 1 1 [37] rfl (Bs.one' _ _ _ (by rw [HM.out.1])) (by omega) (by simp; omega) ?_; intro v8 w8 hown8 hb8))
              go_roundw
              case rel =>
                refine ⟨k + 1, L ++ [37], by omega, by go_num, hstep.out, hkp.base (((Below.refl _ _).alloc hkz _).trans hb8), ?_⟩
                rw [List.length_append, ← HLD.out.2]
                exact hown8
              case measure => simp [intOf]; omega
        · have hzb : decide ((2 : Int) < (z : Int)) = false := by simp; omega
          have hstep : Hid (L ++ [a] ++ dec (l.drop (k + 1)) = D) := by
            show _ = _
            rw [hdt.out, ← HLD.out.1, hat, List.append_assoc]
            have ht : t.length < 2 := by
              have := hlen.out
              rw [hat] at this
              simp at this
              omega
            match t, ht with
            | [], _ => rfl
            | [x], _ => rfl
            | _ :: _ :: _, ht => simp at ht; omega
          clear hat hdt hlen hdrop ha
          go_wp2_with (first
            | (at_builtin; refine wp_app _ rfl (.tmp 57) (.tmp 61) rfl w.heap.size _ NL L rfl (hown.alloc _) (wr.heap.size + 1) _ 1 1 [a] rfl (Bs.one' _ _ _ (by rw [HM.out.1])) (by omega) (by simp; omega) ?_; intro v8 w8 hown8 hb8))
          go_roundw
          case rel =>
            refine ⟨k + 1, L ++ [a], by omega, by go_num, hstep.out, hkp.base (((Below.refl _ _).alloc hkz _).trans hb8), ?_⟩
            rw [List.length_append, ← HLD.out.2]
            exact hown8
          case measure => simp [intOf]; omega
      · have hm37 : ((m : Int) == 37) = false := by
          have : m ≠ 37 := fun h => ha (by rw [HM.out.1] at h; exact UInt8.toNat_inj.1 h)
          simp
          omega
        have hstep : Hid (L ++ [a] ++ dec (l.drop (k + 1)) = D) := by
          show _ = _
          rw [hdt.out, ← HLD.out.1, hat, dec_other a t ha, List.append_assoc]
          rfl
        clear hat hdt hlen hdrop ha
        go_wp2_with (first
          | (at_builtin; refine wp_app _ rfl (.tmp 57) (.tmp 61) rfl w.heap.size _ NL L rfl (hown.alloc _) (wr.heap.size + 1) _ 1 1 [a] rfl (Bs.one' _ _ _ (by rw [HM.out.1])) (by omega) (by simp; omega) ?_; intro v8 w8 hown8 hb8))
        go_roundw
        case rel =>
          refine ⟨k + 1, L ++ [a], by omega, by go_num, hstep.out, hkp.base (((Below.refl _ _).alloc hkz _).trans hb8), ?_⟩
          rw [List.length_append, ← HLD.out.2]
          exact hown8
        case measure => simp [intOf]; omega
    · have hk' : Hid (k = S) := by show k = S; omega
      have hkS : (S : Int) ≤ (k : Int) := by omega
      clear hk hlt
      obtain ⟨A, cc, rfl, hcc, hs⟩ := hown.form
      have HLD := Lib.hid (And.intro hLD hNL)
      clear hLD hNL
      have hst := run_str wr _ A NL cc L hs
      go_wp2_with fail
      go_ret
      refine ⟨?_, hkp⟩
      have h1 := HLD.out.1
      rw [hk'.out, HS.out.1, List.drop_length] at h1
      rw [← h1]
      simp [dec]
end Go.Proofs.YtcepigekibidfaaGreatDoor
namespace Go.Proofs.YtcepigekibidfaaGreatDoor
open Go.RowKit

theorem among_take (l : List UInt8) (k : Nat) (hk : k < l.length) (c : UInt8) : among (l.take (k + 1)) c = (among (l.take k) c || l.getD k 0 == c) := by
  rw [List.take_succ_eq_append_getElem hk]
  unfold among
  rw [List.contains_eq_any_beq, List.contains_eq_any_beq, List.any_append]
  simp only [List.getD, List.getElem?_eq_getElem hk, List.any_cons, List.any_nil, Bool.or_false, Option.getD_some]
  congr 1
  rw [Bool.eq_iff_iff, beq_iff_eq, beq_iff_eq]
  exact eq_comm
theorem among_found (l : List UInt8) (k : Nat) (hk : k < l.length) (c : UInt8) (h : l.getD k 0 = c) : among l c = true := by
  unfold among
  rw [List.contains_iff_mem, ← h]
  simp [List.getD, List.getElem?_eq_getElem hk]

set_option maxHeartbeats 1000000 in
theorem refHas_any (l : List UInt8) (c : UInt8) (hl : l.length ≤ 1000) (w : World) : Calls Tryz.prog 103 #[.string (str l), vb c] w fun e w' => e = .returned (.bool (among l c)) ∧ w' = w := by
  have hsz := str_size l
  obtain ⟨S, hS⟩ : ∃ S, S = l.length := ⟨_, rfl⟩
  have hgb : ∀ k, k < S → ∀ h, ((str l)[k]'h).toNat = (l.getD k 0).toNat := fun k hk h => str_at l k (by rw [← hS]; exact hk) h
  have ham : ∀ k, k < S → among (l.take (k + 1)) c = (among (l.take k) c || l.getD k 0 == c) := fun k hk => among_take l k (by rw [← hS]; exact hk) c
  have haf : ∀ k, k < S → l.getD k 0 = c → among l c = true := fun k hk h => among_found l k (by rw [← hS]; exact hk) c h
  have hfull : Hid (among (l.take S) c = among l c) := by show _ = _; rw [hS, List.take_length]
  have HG := Lib.hid (And.intro hgb (And.intro ham haf))
  rw [← hS] at hsz hl
  unfold vb
  obtain ⟨m, hm⟩ : ∃ m, m = c.toNat := ⟨_, rfl⟩
  rw [← hm]
  have HM := Lib.hid hm
  obtain ⟨R, hR⟩ : ∃ R, R = among l c := ⟨_, rfl⟩
  have HR := Lib.hid hR
  rw [← hR]
  clear hgb ham haf hS hm hR
  go_enter Tryz.func103, Tryz.ntmps103
  go_wp2_with fail
  go_loop [5] (fun a => ∃ k : Nat, k ≤ S ∧ a = .int .i64 (k : Int) ∧ among (l.take k) c = false) (fun a => S - (intOf a).toNat)
  case atStart => exact ⟨0, by omega, rfl, rfl⟩
  case round =>
    obtain ⟨k, hk, rfl, hnone⟩ := hrel
    have HN := Lib.hid hnone
    clear hnone
    by_cases hlt : k < S
    · obtain ⟨x, hx⟩ : ∃ x, x = (l.getD k 0).toNat := ⟨_, rfl⟩
      have hget : ∀ h, ((str l)[k]'h).toNat = x := fun h => by rw [hx]; exact HG.out.1 k hlt h
      have hkS : (k : Int) < (S : Int) := by omega
      have HX := Lib.hid hx
      clear hx
      by_cases hxm : x = m
      · have hb : ((x : Int) == (m : Int)) = true := by simp; omega
        have hRt : Hid (R = true) := by
          show _ = _
          rw [HR.out]
          exact HG.out.2.2 k hlt (UInt8.toNat_inj.1 (by rw [← HX.out, ← HM.out]; exact hxm))
        clear hxm
        go_wp2_with fail
        go_ret
        exact ⟨by rw [hRt.out]; rfl, rfl⟩
      · have hb : ((x : Int) == (m : Int)) = false := by simp; omega
        have hnx : Hid (among (l.take (k + 1)) c = false) := by
          show _ = _
          rw [HG.out.2.1 k hlt, HN.out, show (l.getD k 0 == c) = false from beq_eq_false_iff_ne.2 (fun h => hxm (by rw [HX.out, HM.out, h]))]
          rfl
        clear hxm
        go_wp2_with fail
        go_round
        case rel => exact ⟨k + 1, by omega, by go_num, hnx.out⟩
        case measure => simp [intOf]; omega
    · have hkS : ¬ (k : Int) < (S : Int) := by omega
      have hRf : Hid (R = false) := by
        show _ = _
        rw [HR.out, ← hfull.out, ← show k = S by omega]
        exact HN.out
      go_wp2_with fail
      go_ret
      exact ⟨by rw [hRf.out]; rfl, rfl⟩

def tab6 : List (List UInt8) := [[], [], s0, s1, [32, 34, 35, 60, 62, 39], [32, 34, 35, 60, 62, 63, 94, 96, 123, 125]]
theorem inS_tab : ∀ m, m < 256 → ∀ n : Nat, n < 6 → 0 < n → inS (n : Int) (UInt8.ofNat m) = (c0 (UInt8.ofNat m) || among (tab6.getD n []) (UInt8.ofNat m)) := by decide +kernel

set_option maxHeartbeats 4000000 in
theorem refIn_any (n : Int) (c : UInt8) (w : World) : Calls Tryz.prog 68 #[.int .i64 n, vb c] w fun e w' => e = .returned (.bool (inS n c)) ∧ Below w.heap.size w w' := by
  have hc : n < 1 ∨ 5 < n ∨ n = 1 ∨ n = 2 ∨ n = 3 ∨ n = 4 ∨ n = 5 := by omega
  have ht := inS_tab c.toNat c.toNat_lt
  simp only [UInt8.ofNat_toNat] at ht
  have HH := fun (k : Nat) W => refHas_any (tab6.getD k []) c (by
    match k with
    | 0 | 1 | 2 | 3 | 4 | 5 => decide
    | k + 6 => exact Nat.zero_le _) W
  have hcd : c0 c = (decide (c.toNat < 32) || decide (126 < c.toNat)) := rfl
  unfold vb at HH ⊢
  obtain ⟨m, hm⟩ : ∃ m, m = c.toNat := ⟨_, rfl⟩
  rw [← hm] at HH hcd ⊢
  have HT := Lib.hid ht
  have HHH := Lib.hid HH
  have HC := Lib.hid hcd
  clear ht HH hcd hm
  rcases hc with h | h | rfl | rfl | rfl | rfl | rfl
  · rw [inS_out n (Or.inl h)]
    go_enter Tryz.func68, Tryz.ntmps68
    go_wp2_with fail
    go_ret
    exact ⟨rfl, Below.refl _ _⟩
  · rw [inS_out n (Or.inr h)]
    have h1 : ¬ n < 1 := by omega
    have h2 : decide (n < 1) = false := by simpa using h1
    go_enter Tryz.func68, Tryz.ntmps68
    go_wp2_with fail
    go_ret
    exact ⟨rfl, Below.refl _ _⟩
  · have hin := HT.out 1 (by omega) (by omega)
    change inS 1 c = _ at hin
    rw [hin]
    clear hin
    by_cases h1 : m < 32
    · have hb : decide ((m : Int) < 32) = true := by simp; omega
      have hc0 : Hid (c0 c = true) := by show _ = _; rw [HC.out]; simp [h1]
      go_enter Tryz.func68, Tryz.ntmps68
      go_wp2_with fail
      go_ret
      exact ⟨by rw [hc0.out]; rfl, Below.refl _ _⟩
    · have hb : decide ((m : Int) < 32) = false := by simp; omega
      by_cases h2 : 126 < m
      · have hb2 : decide ((126 : Int) < (m : Int)) = true := by simp; omega
        have hc0 : Hid (c0 c = true) := by show _ = _; rw [HC.out]; simp [h2]
        go_enter Tryz.func68, Tryz.ntmps68
        go_wp2_with fail
        go_ret
        exact ⟨by rw [hc0.out]; rfl, Below.refl _ _⟩
      · have hb2 : decide ((126 : Int) < (m : Int)) = false := by simp; omega
        have hc0 : Hid (c0 c = false) := by show _ = _; rw [HC.out]; simp [h1, h2]
        go_enter Tryz.func68, Tryz.ntmps68
        go_wp2_with fail
        refine (HHH.out 1 _).mono ?_
        rintro e w1 ⟨rfl, rfl⟩
        go_wp2_with fail
        go_ret
        exact ⟨by rw [hc0.out]; rfl, (Below.refl _ _).alloc (Nat.le_refl _) _⟩
  · have hin := HT.out 2 (by omega) (by omega)
    change inS 2 c = _ at hin
    rw [hin]
    clear hin
    by_cases h1 : m < 32
    · have hb : decide ((m : Int) < 32) = true := by simp; omega
      have hc0 : Hid (c0 c = true) := by show _ = _; rw [HC.out]; simp [h1]
      go_enter Tryz.func68, Tryz.ntmps68
      go_wp2_with fail
      go_ret
      exact ⟨by rw [hc0.out]; rfl, Below.refl _ _⟩
    · have hb : decide ((m : Int) < 32) = false := by simp; omega
      by_cases h2 : 126 < m
      · have hb2 : decide ((126 : Int) < (m : Int)) = true := by simp; omega
        have hc0 : Hid (c0 c = true) := by show _ = _; rw [HC.out]; simp [h2]
        go_enter Tryz.func68, Tryz.ntmps68
        go_wp2_with fail
        go_ret
        exact ⟨by rw [hc0.out]; rfl, Below.refl _ _⟩
      · have hb2 : decide ((126 : Int) < (m : Int)) = false := by simp; omega
        have hc0 : Hid (c0 c = false) := by show _ = _; rw [HC.out]; simp [h1, h2]
        go_enter Tryz.func68, Tryz.ntmps68
        go_wp2_with fail
        refine (HHH.out 2 _).mono ?_
        rintro e w1 ⟨rfl, rfl⟩
        go_wp2_with fail
        go_ret
        exact ⟨by rw [hc0.out]; rfl, (Below.refl _ _).alloc (Nat.le_refl _) _⟩
  · have hin := HT.out 3 (by omega) (by omega)
    change inS 3 c = _ at hin
    rw [hin]
    clear hin
    by_cases h1 : m < 32
    · have hb : decide ((m : Int) < 32) = true := by simp; omega
      have hc0 : Hid (c0 c = true) := by show _ = _; rw [HC.out]; simp [h1]
      go_enter Tryz.func68, Tryz.ntmps68
      go_wp2_with fail
      go_ret
      exact ⟨by rw [hc0.out]; rfl, Below.refl _ _⟩
    · have hb : decide ((m : Int) < 32) = false := by simp; omega
      by_cases h2 : 126 < m
      · have hb2 : decide ((126 : Int) < (m : Int)) = true := by simp; omega
        have hc0 : Hid (c0 c = true) := by show _ = _; rw [HC.out]; simp [h2]
        go_enter Tryz.func68, Tryz.ntmps68
        go_wp2_with fail
        go_ret
        exact ⟨by rw [hc0.out]; rfl, Below.refl _ _⟩
      · have hb2 : decide ((126 : Int) < (m : Int)) = false := by simp; omega
        have hc0 : Hid (c0 c = false) := by show _ = _; rw [HC.out]; simp [h1, h2]
        go_enter Tryz.func68, Tryz.ntmps68
        go_wp2_with fail
        refine (HHH.out 3 _).mono ?_
        rintro e w1 ⟨rfl, rfl⟩
        go_wp2_with fail
        go_ret
        exact ⟨by rw [hc0.out]; rfl, (Below.refl _ _).alloc (Nat.le_refl _) _⟩
  · have hin := HT.out 4 (by omega) (by omega)
    change inS 4 c = _ at hin
    rw [hin]
    clear hin
    by_cases h1 : m < 32
    · have hb : decide ((m : Int) < 32) = true := by simp; omega
      have hc0 : Hid (c0 c = true) := by show _ = _; rw [HC.out]; simp [h1]
      go_enter Tryz.func68, Tryz.ntmps68
      go_wp2_with fail
      go_ret
      exact ⟨by rw [hc0.out]; rfl, Below.refl _ _⟩
    · have hb : decide ((m : Int) < 32) = false := by simp; omega
      by_cases h2 : 126 < m
      · have hb2 : decide ((126 : Int) < (m : Int)) = true := by simp; omega
        have hc0 : Hid (c0 c = true) := by show _ = _; rw [HC.out]; simp [h2]
        go_enter Tryz.func68, Tryz.ntmps68
        go_wp2_with fail
        go_ret
        exact ⟨by rw [hc0.out]; rfl, Below.refl _ _⟩
      · have hb2 : decide ((126 : Int) < (m : Int)) = false := by simp; omega
        have hc0 : Hid (c0 c = false) := by show _ = _; rw [HC.out]; simp [h1, h2]
        go_enter Tryz.func68, Tryz.ntmps68
        go_wp2_with fail
        refine (HHH.out 4 _).mono ?_
        rintro e w1 ⟨rfl, rfl⟩
        go_wp2_with fail
        go_ret
        exact ⟨by rw [hc0.out]; rfl, (Below.refl _ _).alloc (Nat.le_refl _) _⟩
  · have hin := HT.out 5 (by omega) (by omega)
    change inS 5 c = _ at hin
    rw [hin]
    clear hin
    by_cases h1 : m < 32
    · have hb : decide ((m : Int) < 32) = true := by simp; omega
      have hc0 : Hid (c0 c = true) := by show _ = _; rw [HC.out]; simp [h1]
      go_enter Tryz.func68, Tryz.ntmps68
      go_wp2_with fail
      go_ret
      exact ⟨by rw [hc0.out]; rfl, Below.refl _ _⟩
    · have hb : decide ((m : Int) < 32) = false := by simp; omega
      by_cases h2 : 126 < m
      · have hb2 : decide ((126 : Int) < (m : Int)) = true := by simp; omega
        have hc0 : Hid (c0 c = true) := by show _ = _; rw [HC.out]; simp [h2]
        go_enter Tryz.func68, Tryz.ntmps68
        go_wp2_with fail
        go_ret
        exact ⟨by rw [hc0.out]; rfl, Below.refl _ _⟩
      · have hb2 : decide ((126 : Int) < (m : Int)) = false := by simp; omega
        have hc0 : Hid (c0 c = false) := by show _ = _; rw [HC.out]; simp [h1, h2]
        go_enter Tryz.func68, Tryz.ntmps68
        go_wp2_with fail
        refine (HHH.out 5 _).mono ?_
        rintro e w1 ⟨rfl, rfl⟩
        go_wp2_with fail
        go_ret
        exact ⟨by rw [hc0.out]; rfl, (Below.refl _ _).alloc (Nat.le_refl _) _⟩
end Go.Proofs.YtcepigekibidfaaGreatDoor
namespace Go.Proofs.YtcepigekibidfaaGreatDoor
open Go.RowKit

theorem hex_lo : ∀ k, k < 10 → (hex k).toNat = 48 + k := by decide +kernel
theorem hex_hi : ∀ k, k < 16 → 10 ≤ k → (hex k).toNat = 65 + k - 10 := by decide +kernel

set_option maxHeartbeats 1000000 in
theorem refDigit_any (k : Nat) (hk : k < 16) (w : World) : Calls Tryz.prog 69 #[.int .u8 (k : Int)] w fun e w' => e = .returned (vb (hex k)) ∧ w' = w := by
  by_cases h : k < 10
  · have hb : decide ((k : Int) < 10) = true := by simp; omega
    have hv := hex_lo k h
    obtain ⟨x, hx⟩ : ∃ x, x = (hex k).toNat := ⟨_, rfl⟩
    unfold vb
    rw [← hx] at hv ⊢
    clear hx
    go_enter Tryz.func69, Tryz.ntmps69
    go_wp2_with fail
    go_ret
    refine ⟨?_, rfl⟩
    rw [show (x : Int) = 48 + (k : Int) by omega]
    rfl
  · have hb : decide ((k : Int) < 10) = false := by simp; omega
    have hv := hex_hi k hk (by omega)
    obtain ⟨x, hx⟩ : ∃ x, x = (hex k).toNat := ⟨_, rfl⟩
    unfold vb
    rw [← hx] at hv ⊢
    clear hx
    go_enter Tryz.func69, Tryz.ntmps69
    go_wp2_with fail
    go_ret
    refine ⟨?_, rfl⟩
    rw [show (x : Int) = 65 + (k : Int) - 10 by omega]
    rfl

set_option maxHeartbeats 4000000 in
set_option maxRecDepth 100000 in
theorem refEncode_any (n : Int) (l : List UInt8) (w : World) (hl : l.length ≤ 100000000) : Calls Tryz.prog 43 #[.int .i64 n, .string (str l)] w fun e w' => e = .returned (.string (str (enc (inS n) l))) ∧ Below w.heap.size w w' := by
  have hsz := str_size l
  have hgb := fun k hk h => str_at l k hk h
  have hts := fun k hk => enc_take_succ (inS n) l k hk
  have hel := fun k => enc_len (inS n) (l.take k)
  have hel' : Hid (∀ k, (enc (inS n) (l.take k)).length ≤ 300000000) := fun k => by have := hel k; rw [List.length_take] at this; omega
  clear hel
  have hall : Hid (enc (inS n) (l.take l.length) = enc (inS n) l) := by
    show _ = _
    rw [List.take_length]
  obtain ⟨S, hS⟩ : ∃ S, S = l.length := ⟨_, rfl⟩
  obtain ⟨p, hp⟩ : ∃ p, p = inS n := ⟨_, rfl⟩
  have FA := Lib.hid (fun c W => refIn_any n c W)
  rw [← hS] at hsz hgb hts hl hall
  rw [← hp] at hts hel' hall ⊢
  have FA' : Hid (∀ (c : UInt8) (m : Nat), m = c.toNat → ∀ W, Calls Tryz.prog 68 #[.int .i64 n, .int .u8 (m : Int)] W fun e w' => e = .returned (.bool (p c)) ∧ Below W.heap.size W w') := fun c m hm W => by
    have h := FA.out c W
    rw [← hp, vb, ← hm] at h
    exact h
  clear hp hS FA
  have HGB := Lib.hid hgb
  have HTS := Lib.hid hts
  clear hgb hts
  go_enter Tryz.func43, Tryz.ntmps43
  go_wp2_with fail
  have b4 : Kept w (w.alloc (.cells #[] 5)) := (Kept.refl w).alloc _
  have hown4 : Own (w.alloc (.cells #[] 5)) w.heap.size _ 0 [] := own_empty w w.heap.size (Nat.le_refl _)
  go_loopw [6, 5] (fun i v wr => ∃ k : Nat, k ≤ S ∧ i = .int .i64 (k : Int) ∧ Kept w wr ∧ Own wr w.heap.size v (enc p (l.take k)).length (enc p (l.take k))) (fun i _ _ => S - (intOf i).toNat)
  case atStart => exact ⟨0, by omega, rfl, b4, by simpa [enc] using hown4⟩
  case round =>
    obtain ⟨k, hk, rfl, hkp, hown⟩ := hrel
    clear hown4 b4
    obtain ⟨L, hL⟩ : ∃ L, L = enc p (l.take k) := ⟨_, rfl⟩
    have hLl : Hid (L.length ≤ 300000000) := by show L.length ≤ _; rw [hL]; exact hel'.out k
    rw [← hL] at hown
    obtain ⟨NL, hNL⟩ : ∃ NL, NL = L.length := ⟨_, rfl⟩
    rw [← hNL] at hown hLl
    by_cases hlt : k < S
    · obtain ⟨c, hcd⟩ : ∃ c, c = l.getD k 0 := ⟨_, rfl⟩
      have hts : Hid (enc p (l.take (k + 1)) = L ++ enc1 p c) := by show _ = _; rw [HTS.out k hlt, hL, hcd]
      obtain ⟨m, hm⟩ : ∃ m, m = c.toNat := ⟨_, rfl⟩
      have hm8 : m < 256 := by rw [hm]; exact c.toNat_lt
      have hget : ∀ h, ((str l)[k]'h).toNat = m := fun h => by rw [hm, hcd]; exact HGB.out k hlt h
      have hcall := FA'.out c m hm wr
      have HM := Lib.hid hm
      have HL := Lib.hid (And.intro hL hNL)
      have hkS : (k : Int) < (S : Int) := by omega
      clear hm hcd hL hNL
      cases hpc : p c
      · rw [hpc] at hcall
        have h1 : Hid (enc1 p c = [c]) := by show _ = _; simp [enc1, hpc]
        have HCALL := Lib.hid hcall
        clear hpc hcall
        go_wp2_with (first
          | (go_at_call 68; (with_reducible refine HCALL.out.mono ?_); rintro e w5 ⟨rfl, b5⟩; have hkp5 : Kept w w5 := hkp.step b5; have hkz := hkp5.size; have hown5 := hown.kept b5)
          | (at_builtin; refine wp_app _ rfl (.tmp 34) (.tmp 38) rfl w.heap.size _ NL L rfl (hown5.alloc _) (w5.heap.size + 1) _ 1 1 [c] rfl (Bs.one' _ _ _ (by rw [HM.out])) (by have := hLl.out; omega) (by simp; omega) ?_; intro v6 w6 hown6 hb6))
        go_roundw
        case rel =>
          refine ⟨k + 1, by omega, by go_num, hkp5.base (((Below.refl _ _).alloc hkz _).trans hb6), ?_⟩
          rw [hts.out, h1.out, List.length_append, ← HL.out.2]
          exact hown6
        case measure => simp [intOf]; omega
      · rw [hpc] at hcall
        have h1 : Hid (enc1 p c = [37, hex (m / 16), hex (m % 16)]) := by show _ = _; simp [enc1, hpc, HM.out]
        have HCALL := Lib.hid hcall
        clear hpc hcall
        obtain ⟨q, hq⟩ : ∃ q, q = m / 16 := ⟨_, rfl⟩
        obtain ⟨r, hr⟩ : ∃ r, r = m % 16 := ⟨_, rfl⟩
        have hq16 : q < 16 := by omega
        have hr16 : r < 16 := by omega
        have hqi : (m : Int) / 16 = (q : Int) := by omega
        have hri : (m : Int) % 16 = (r : Int) := by omega
        have hqi' : Int.tdiv (m : Int) 16 = (q : Int) := by
          have : Int.tdiv (m : Int) 16 = ((m / 16 : Nat) : Int) := rfl
          omega
        have hri' : Int.tmod (m : Int) 16 = (r : Int) := by
          have : Int.tmod (m : Int) 16 = ((m % 16 : Nat) : Int) := rfl
          omega
        have hwq : IntKind.u8.wrap (q : Int) = (q : Int) := by rw [IntKind.wrap_u8]; omega
        have hwr : IntKind.u8.wrap (r : Int) = (r : Int) := by rw [IntKind.wrap_u8]; omega
        obtain ⟨x, hx⟩ : ∃ x, x = (hex q).toNat := ⟨_, rfl⟩
        obtain ⟨y, hy⟩ : ∃ y, y = (hex r).toNat := ⟨_, rfl⟩
        have DQ : Hid (∀ W, Calls Tryz.prog 69 #[.int .u8 (q : Int)] W fun e w' => e = .returned (.int .u8 (x : Int)) ∧ w' = W) := fun W => by
          have h := refDigit_any q hq16 W
          rw [vb, ← hx] at h
          exact h
        have DR : Hid (∀ W, Calls Tryz.prog 69 #[.int .u8 (r : Int)] W fun e w' => e = .returned (.int .u8 (y : Int)) ∧ w' = W) := fun W => by
          have h := refDigit_any r hr16 W
          rw [vb, ← hy] at h
          exact h
        rw [← hq, ← hr] at h1
        have HX := Lib.hid (And.intro hx hy)
        clear hq hr hx hy
        go_wp2_with (go_at_call 68; (with_reducible refine HCALL.out.mono ?_); rintro e w5 ⟨rfl, b5⟩; have hkp5 : Kept w w5 := hkp.step b5; have hkz := hkp5.size; have hown5 := hown.kept b5)
        refine wp_region_held_drew (S := fun W => Kept w W) (by kernel_rfl) hkp5.drew (fun hS => ?_)
        refine wpAnyH_take (i := 0) (oi := ⟨some 21, _, _, _, _, _⟩) (v := ?va0) rfl (by kernel_rfl) (by kernel_rfl) (by kernel_rfl) (fun _ _ _ h => h) (Or.inl ⟨by rfl, ?ya0⟩) hS ?ra0
        case ya0 => intro W hW; go_simp; first | done | with_reducible rfl
        simp only [Act.put, List.setIfInBounds_toArray, List.set_cons_zero, List.set_cons_succ]
        refine wpAnyH_take (i := 1) (oi := ⟨some 22, _, _, _, _, _⟩) (v := ?va1) rfl (by kernel_rfl) (by kernel_rfl) (by kernel_rfl) (fun _ _ _ h => h) (Or.inl ⟨by rfl, ?ya1⟩) hS ?ra1
        case ya1 => intro W hW; go_simp; first | done | with_reducible rfl
        simp only [Act.put, List.setIfInBounds_toArray, List.set_cons_zero, List.set_cons_succ]
        refine wpAnyH_take (i := 2) (oi := ⟨some 23, _, _, _, _, _⟩) (v := ?va2) rfl (by kernel_rfl) (by kernel_rfl) (by kernel_rfl) (fun _ _ _ h => h) (Or.inl ⟨by rfl, ?ya2⟩) hS ?ra2
        case ya2 => intro W hW; go_simp; first | done | with_reducible rfl
        simp only [Act.put, List.setIfInBounds_toArray, List.set_cons_zero, List.set_cons_succ]
        refine wpAnyH_take (i := 3) (oi := ⟨some 24, _, _, _, _, _⟩) (v := ?va3) rfl (by kernel_rfl) (by kernel_rfl) (by kernel_rfl) (fun _ _ _ h => h) (Or.inl ⟨by rfl, ?ya3⟩) hS ?ra3
        case ya3 => intro W hW; go_simp; first | done | with_reducible rfl
        simp only [Act.put, List.setIfInBounds_toArray, List.set_cons_zero, List.set_cons_succ]
        refine wpAnyH_take (i := 4) (oi := ⟨some 25, _, _, _, _, _⟩) (v := ?va4) rfl (by kernel_rfl) (by kernel_rfl) (by kernel_rfl) (fun _ _ _ h => h) (Or.inl ⟨by rfl, ?ya4⟩) hS ?ra4
        case ya4 => intro W hW; go_simp; first | done | with_reducible rfl
        simp only [Act.put, List.setIfInBounds_toArray, List.set_cons_zero, List.set_cons_succ]
        refine wpAnyH_take (i := 6) (oi := ⟨some 27, _, _, _, _, _⟩) (v := ?va6) rfl (by kernel_rfl) (by kernel_rfl) (by kernel_rfl) (fun _ _ _ h => h) (Or.inl ⟨by rfl, ?ya6⟩) hS ?ra6
        case ya6 => intro W hW; go_simp; first | done | with_reducible rfl
        simp only [Act.put, List.setIfInBounds_toArray, List.set_cons_zero, List.set_cons_succ]
        refine wpAnyH_take (i := 7) (oi := ⟨some 28, _, _, _, _, _⟩) (v := ?va7) rfl (by kernel_rfl) (by kernel_rfl) (by kernel_rfl) (fun _ _ _ h => h) (Or.inl ⟨by rfl, ?ya7⟩) hS ?ra7
        case ya7 => intro W hW; go_simp; first | done | with_reducible rfl
        simp only [Act.put, List.setIfInBounds_toArray, List.set_cons_zero, List.set_cons_succ]
        refine wpAnyH_take (i := 8) (oi := ⟨some 29, _, _, _, _, _⟩) (v := ?va8) rfl (by kernel_rfl) (by kernel_rfl) (by kernel_rfl) (fun _ _ _ h => h) (Or.inl ⟨by rfl, ?ya8⟩) hS ?ra8
        case ya8 => intro W hW; go_simp; first | done | with_reducible rfl
        simp only [Act.put, List.setIfInBounds_toArray, List.set_cons_zero, List.set_cons_succ]
        refine wpAnyH_take (i := 9) (oi := ⟨some 30, _, _, _, _, _⟩) (v := ?va9) rfl (by kernel_rfl) (by kernel_rfl) (by kernel_rfl) (fun _ _ _ h => h) (Or.inl ⟨by rfl, ?ya9⟩) hS ?ra9
        case ya9 => intro W hW; go_simp; first | done | with_reducible rfl
        simp only [Act.put, List.setIfInBounds_toArray, List.set_cons_zero, List.set_cons_succ]
        refine wpAnyH_ready (rs := [5]) (by kernel_rfl) (by simp) ?_
        refine (AllReadyH.cons (o := ⟨some 26, _, _, _, _, _⟩) rfl (fun K hK_ => ?_) AllReadyH.nil)
        go_simp
        with_reducible refine (DQ.out _).mono ?_
        rintro e w6 ⟨rfl, rfl⟩
        refine hK_.out _ _ hS (fun _ => ?_)
        clear hK_ K
        try simp only [Act.put, List.setIfInBounds_toArray, List.set_cons_zero, List.set_cons_succ]
        refine wpAnyH_ready (rs := [10]) (by kernel_rfl) (by simp) ?_
        refine (AllReadyH.cons (o := ⟨some 31, _, _, _, _, _⟩) rfl (fun K hK_ => ?_) AllReadyH.nil)
        go_simp
        with_reducible refine (DR.out _).mono ?_
        rintro e w7 ⟨rfl, rfl⟩
        refine hK_.out _ _ hS (fun _ => ?_)
        clear hK_ K
        try simp only [Act.put, List.setIfInBounds_toArray, List.set_cons_zero, List.set_cons_succ]
        refine wpAnyH_ready (rs := [11]) (by kernel_rfl) (by simp) ?_
        refine (AllReadyH.cons (o := ⟨some 32, _, _, _, _, _⟩) rfl (fun K hK_ => ?_) AllReadyH.nil)
        go_simp
        refine hK_.out _ _ (hS.alloc _) (fun hS3 => ?_)
        clear hK_ K
        refine wpAnyH_ready (rs := [12]) (by kernel_rfl) (by simp) ?_
        refine (AllReadyH.cons (o := ⟨some 33, _, _, _, _, _⟩) rfl (fun K hK_ => ?_) AllReadyH.nil)
        refine step_appS _ rfl (.tmp 21) (.tmp 32) rfl w.heap.size _ NL L rfl (hown5.alloc _).drew (w5.heap.size + 1) _ 3 3 _ rfl (bs_three w5 _ _ _ 37 (hex q) (hex r) rfl ?e2 ?e3).drew (by have := hLl.out; omega) (by simp; omega) (NL + 3) (L ++ [37, hex q, hex r]) rfl rfl ?_
        case e2 => rw [HX.out.1]
        case e3 => rw [HX.out.2]
        intro A7 c7 w7 hc7 hS7 hown7 hbel7
        have K7 : Kept w w7 := hS3.base hbel7
        refine hK_.out _ _ K7 (fun _ => ?_)
        clear hK_ K
        simp only [Act.put, List.setIfInBounds_toArray, List.set_cons_zero, List.set_cons_succ]
        refine wpAnyH_take (i := 13) (oi := ⟨some 5, _, _, _, _, _⟩) (v := ?vo13) rfl (by kernel_rfl) (by kernel_rfl) (by kernel_rfl) (fun _ _ _ h => h) (Or.inl ⟨by rfl, ?yo13⟩) K7 ?ro13
        case yo13 => intro W hW; go_simp; first | done | with_reducible rfl
        simp only [Act.put, List.setIfInBounds_toArray, List.set_cons_zero, List.set_cons_succ]
        refine wpAnyH_done (by kernel_rfl) ?_ _
        go_wp2_with fail
        go_roundw
        case rel =>
          refine ⟨k + 1, by omega, by go_num, K7, ?_⟩
          rw [hts.out, h1.out, List.length_append, ← HL.out.2]
          exact hown7
        case measure => simp [intOf]; omega
    · have hk' : Hid (k = S) := by show k = S; omega
      have hkS : (S : Int) ≤ (k : Int) := by omega
      clear hk hlt
      obtain ⟨A, cc, rfl, hcc, hs⟩ := hown.form
      have HL := Lib.hid (And.intro hL hNL)
      clear hL hNL
      have hst := run_str wr _ A NL cc L hs
      go_wp2_with fail
      go_ret
      refine ⟨?_, hkp⟩
      rw [← hall.out, ← hk'.out, ← HL.out.1]
      rfl
end Go.Proofs.YtcepigekibidfaaGreatDoor
