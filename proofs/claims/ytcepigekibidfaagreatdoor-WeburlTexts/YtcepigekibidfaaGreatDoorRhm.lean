/-
  What transeptref07.IPv6 answers; nothing that was there turns. Condition: texts of at most 100000000 bytes.
-/
import Derived.Test.YtcepigekibidfaaGreatDoorRhl
namespace Go.Proofs.YtcepigekibidfaaGreatDoor
open Go.RowKit
set_option linter.unusedVariables false

theorem aft6 {w : World} {g t : Nat} {C : List Value} {A : Option Addr} (h : Blk w g t C) (hA : ∀ b off, A = some ⟨b, off, none⟩ → w.heap.size ≤ b) : Hid (∀ b off, A = some ⟨b, off, none⟩ → b ≠ g) := fun b off e => by have := hA b off e; have := h.lt; omega
theorem Hs.upd8 {w w' : World} {g n : Nat} {A : Option Addr} {l : List Nat} (h : Hs w w.heap.size A n l) (hu : Upd g w w') (hne : ∀ b off, A = some ⟨b, off, none⟩ → b ≠ g) : Hs w' w'.heap.size A n l := by
  refine ⟨h.1, fun h0 => ?_⟩
  obtain ⟨b, off, hA, hb, hc⟩ := h.2 h0
  have hn := hne b off hA
  exact ⟨b, off, hA, by have := hu.size; omega, fun j c hj => by rw [← hc j c hj]; show w'.cell? ⟨b, off + j, none⟩ = w.cell? ⟨b, off + j, none⟩; simp only [World.cell?, hu.block b hn]⟩
theorem set_mid (L : List Nat) (m v : Nat) (k : Nat) (hk : L.length = k) : (L ++ List.replicate (m + 1) 0).set k v = L ++ [v] ++ List.replicate m 0 := by
  rw [← hk, List.set_append_right _ _ (Nat.le_refl _), Nat.sub_self, List.replicate_succ, List.set_cons_zero]
  simp
theorem take_more (l : List Nat) (k : Nat) (h : k < l.length) : l.take k ++ [l.getD k 0] = l.take (k + 1) := by
  rw [List.take_add_one, List.getElem?_eq_getElem h, List.getD_eq_getElem?_getD, List.getElem?_eq_getElem h]
  rfl
theorem fill1 (xs : List Nat) (k : Nat) (h : k < xs.length) (h8 : k < 8) : (xs.take k ++ List.replicate (8 - k) 0).set k (xs.getD k 0) = xs.take (k + 1) ++ List.replicate (8 - (k + 1)) 0 := by
  have := set_mid (xs.take k) (8 - (k + 1)) (xs.getD k 0) k (by rw [List.length_take]; omega)
  rw [show 8 - (k + 1) + 1 = 8 - k by omega, take_more xs k h] at this
  exact this
theorem fill2 (xs ys : List Nat) (p q k : Nat) (hp : xs.length = p) (hq : ys.length = q) (h8 : p + q ≤ 8) (h : k < q) : (xs ++ List.replicate (8 - p - q) 0 ++ ys.take k ++ List.replicate (q - k) 0).set (8 - q + k) (ys.getD k 0) = xs ++ List.replicate (8 - p - q) 0 ++ ys.take (k + 1) ++ List.replicate (q - (k + 1)) 0 := by
  have := set_mid (xs ++ List.replicate (8 - p - q) 0 ++ ys.take k) (q - (k + 1)) (ys.getD k 0) (8 - q + k) (by
    rw [List.length_append, List.length_append, List.length_replicate, List.length_take, hp, hq]; omega)
  rw [show q - (k + 1) + 1 = q - k by omega] at this
  rw [this, List.append_assoc (xs ++ _) (ys.take k), take_more ys k (by omega)]
theorem fill3 (xs ys : List Nat) (p q : Nat) (hp : xs.length = p) (h8 : p + q ≤ 8) : xs.take p ++ List.replicate (8 - p) 0 = xs ++ List.replicate (8 - p - q) 0 ++ ys.take 0 ++ List.replicate (q - 0) 0 := by
  rw [← hp, List.take_length, List.take_zero, List.append_nil, Nat.sub_zero, List.append_assoc, List.replicate_append_replicate, show 8 - xs.length - q + q = 8 - xs.length by omega]
theorem Hs.kept8 {w w' : World} {A : Option Addr} {n : Nat} {l : List Nat} (h : Hs w w.heap.size A n l) (hb : Below w.heap.size w w') : Hs w' w'.heap.size A n l := (h.below hb).more hb.size
set_option maxHeartbeats 8000000 in
set_option maxRecDepth 100000 in
theorem r6_A_N3 (l lx ly : List UInt8) (X Y : List (List UInt8)) (xs ys : List Nat) (S nx ny p q n j : Nat) (w : World) (hS : S = l.length) (hS2 : S ≤ 100000000) (hat : Hid (atI l 0 = -1)) (hX : X = []) (HY : Hid (∀ W, Calls Tryz.prog 73 #[.string (str l), .int .u8 58] W fun e w' => ∃ g c, e = .returned (.slice (some ⟨g, 0, none⟩) ny c) ∧ Ps w' g Y ∧ Below W.heap.size W w')) (HRX : Hid (∀ g c W, Ps W g X → Calls Tryz.prog 74 #[.slice (some ⟨g, 0, none⟩) 0 c, .bool false] W fun e w' => (∃ A c, e = .returned (.tuple #[.slice A p c, .bool true]) ∧ Hs w' w'.heap.size A p xs ∧ ∀ b off, A = some ⟨b, off, none⟩ → W.heap.size ≤ b) ∧ Below W.heap.size W w')) (HRY : Hid (∀ g c W, Ps W g Y → Calls Tryz.prog 74 #[.slice (some ⟨g, 0, none⟩) ny c, .bool true] W fun e w' => (e = .returned (.tuple #[.slice none 0 0, .bool false])) ∧ Below W.heap.size W w')) : Calls Tryz.prog 48 #[.string (str l)] w fun e w' => e = .returned (ip6V none) ∧ Below w.heap.size w w' := by
    have hsz := str_size l
    have hgb : Hid (∀ k, k < S → ∀ h, ((str l)[k]'h).toNat = (l.getD k 0).toNat) := fun k hk h => str_at l k (by omega) h
    have hst : Hid (∀ k, k + 1 < S → atI l k = if l.getD k 0 = 58 ∧ l.getD (k + 1) 0 = 58 then (k : Int) else atI l (k + 1)) := fun k hk => atI_step l k (by omega)
    have hen : Hid (atI l (S - 1) = -1) := atI_end l (S - 1) (by omega)
    have h58 : Hid (∀ k, (l.getD k 0).toNat = 58 ↔ l.getD k 0 = 58) := fun k => ⟨fun h => UInt8.toNat.inj h, fun h => by rw [h]; rfl⟩
    rw [← hS] at hsz
    clear hS
    go_enter Tryz.func48, Tryz.ntmps48
    go_wp2_with (first
      | ((with_reducible show wpList _ _ _ (⟨some 2, .alloc _, _, _, _, _⟩ :: _) _ _); refine wp_new _ rfl 62 rfl _ type38 ?_; intro w1 g2 B2 F2; simp only [Act.put, List.setIfInBounds_toArray, List.set_cons_zero, List.set_cons_succ])
      | ((with_reducible show wpList _ _ _ (⟨some 16, .build _ _, _, _, _, _⟩ :: _) _ _); refine wp_build0 _ rfl 62 rfl _ (build38 _) ?_; simp only [Act.put, List.setIfInBounds_toArray, List.set_cons_zero, List.set_cons_succ])
      | ((with_reducible show wpList _ _ _ (⟨some 4, .alloc _, _, _, _, _⟩ :: _) _ _); refine wp_new _ rfl 62 rfl _ type38 ?_; intro w2 g4 B4 F4; simp only [Act.put, List.setIfInBounds_toArray, List.set_cons_zero, List.set_cons_succ])
      | ((with_reducible show wpList _ _ _ (⟨none, .store 62 (.tmp 4) (.tmp 16), _, _, _, _⟩ :: _) _ _); refine wp_putAll _ rfl 62 (.tmp 4) (.tmp 16) rfl g4 62 _ (vhs zero8) rfl rfl B4 rfl (size38' zero8 rfl) (Hs_one _) ?_; intro w3 B3 U3; simp only [Act.put]))
    have Z3 : Z6 w w3 g2 g4 (vhs zero8) (vhs zero8) := ⟨(F4.blk B2).upd U3 (by have := B2.lt; rw [F4.is]; omega), B3, ((show Kept w w1 from F2.below).step F4.below).base (U3.below (by have := F2.below.size; have := F2.is; have := F4.is; omega)), by rw [F2.is]; exact Nat.le_refl _, by have := B2.lt; rw [F4.is]; exact this⟩
    clear B2 F2 B4 F4 B3 U3
    go_loop [6, 5] (fun i a => ∃ i0 : Int, i = .int .i64 i0 ∧ -2 ≤ i0 ∧ i0 + 2 ≤ (S : Int) ∧ a = .int .i64 (atI l (i0 + 1).toNat)) (fun i _ => (intOf i + 2).toNat)
    case atStart => exact ⟨(S : Int) - 2, by go_num, by omega, by omega, by rw [show ((S : Int) - 2 + 1).toNat = S - 1 by omega, hen.out]⟩
    case round =>
      obtain ⟨i0, rfl, hi1, hi2, rfl⟩ := hrel
      by_cases hi0 : 0 ≤ i0
      · obtain ⟨k, rfl⟩ := Int.eq_ofNat_of_zero_le hi0
        obtain ⟨k1, hk1⟩ : ∃ k1, k1 = k + 1 := ⟨_, rfl⟩
        have hk1i : (k : Int) + 1 = (k1 : Int) := by omega
        have hks : k < S := by omega
        have hk1s : k1 < S := by omega
        have HG1 := hgb.out k hks
        have HG2 := hgb.out k1 hk1s
        have hs1 := hst.out k (by omega)
        have h581 := h58.out k
        have h582 := h58.out k1
        rw [show ((k : Int) + 1).toNat = k1 by omega]
        rw [← hk1] at hs1
        obtain ⟨x, hx⟩ : ∃ x, x = (l.getD k 0).toNat := ⟨_, rfl⟩
        obtain ⟨y, hy⟩ : ∃ y, y = (l.getD k1 0).toNat := ⟨_, rfl⟩
        rw [← hx] at HG1 h581
        rw [← hy] at HG2 h582
        obtain ⟨T, hT⟩ : ∃ T, T = atI l k := ⟨_, rfl⟩
        obtain ⟨T1, hT1⟩ : ∃ T, T = atI l k1 := ⟨_, rfl⟩
        rw [← hT1]
        rw [← hT, ← hT1] at hs1
        have HT : Hid (T = atI l k) := hT
        clear hx hy hT hT1 hk1 hi1 hi0
        by_cases hxx : x = 58
        · have c1 : ((x : Int) == 58) = true := by simp [hxx]
          by_cases hyy : y = 58
          · have c2 : ((y : Int) == 58) = true := by simp [hyy]
            have hR : Hid (T = (k : Int)) := by show _ = _; rw [hs1, if_pos ⟨h581.1 hxx, h582.1 hyy⟩]
            clear hs1 hxx hyy h581 h582
            go_wp2_with fail
            go_round
            case rel => exact ⟨(k : Int) - 1, by go_num, by omega, by omega, by rw [show ((k : Int) - 1 + 1).toNat = k by omega, ← HT.out, hR.out]⟩
            case measure => simp [intOf]; omega
          · have c2 : ((y : Int) == 58) = false := by simp; omega
            have hR : Hid (T = T1) := by show _ = _; rw [hs1, if_neg (fun h => hyy (h582.2 h.2))]
            clear hs1 hxx hyy h581 h582
            go_wp2_with fail
            go_round
            case rel => exact ⟨(k : Int) - 1, by go_num, by omega, by omega, by rw [show ((k : Int) - 1 + 1).toNat = k by omega, ← HT.out, hR.out]⟩
            case measure => simp [intOf]; omega
        · have c1 : ((x : Int) == 58) = false := by simp; omega
          have hR : Hid (T = T1) := by show _ = _; rw [hs1, if_neg (fun h => hxx (h581.2 h.1))]
          clear hs1 hxx h581 h582
          go_wp2_with fail
          go_round
          case rel => exact ⟨(k : Int) - 1, by go_num, by omega, by omega, by rw [show ((k : Int) - 1 + 1).toNat = k by omega, ← HT.out, hR.out]⟩
          case measure => simp [intOf]; omega
      · rw [show (i0 + 1).toNat = 0 by omega, hat.out]
        have hi0n : ¬ (0 : Int) ≤ i0 := hi0
        clear hi0 hi1 hi2 hgb hst hen h58 hat
        have Z4 := (Z3.alloc (.cells #[] 9)).alloc (.cells #[] 9)
        have PX : Hid (Ps ((w3.alloc (.cells #[] 9)).alloc (.cells #[] 9)) w3.heap.size X) := ⟨by simp; omega, fun j p hj => by rw [hX] at hj; simp at hj⟩
        clear Z3
        go_wp2_with (first
          | (go_at_call 73; (with_reducible refine (HY.out _).mono ?_); (rintro e wy ⟨gy, cy, rfl, hps, hb⟩; have Z6' := Z4.step hb; have PY2 : Hid (Ps wy gy Y) := hps; have PX2 : Hid (Ps wy w3.heap.size X) := PX.out.kept8 hb; clear hps hb))
          | (go_at_call 74; (with_reducible refine (HRX.out _ _ _ PX2.out).mono ?_); (rintro e w7 ⟨⟨A1, c1, rfl, hH1, hA1⟩, hb⟩; have Z7 := Z6'.step hb; have PY7 := PY2.out.kept8 hb; have HH1 := Lib.hid hH1; have GA1 := aft6 Z6'.b4 hA1; clear hH1 hA1; clear hb))
          | (go_at_call 74; (with_reducible refine (HRY.out _ _ _ PY7).mono ?_); (rintro e w8 ⟨rfl, hb⟩; have Z8 := Z7.step hb; have HH8 := Lib.hid (HH1.out.kept8 hb); clear hb))
          | ((with_reducible show wpList _ _ _ (⟨some 95, .load 62 (.tmp 4), _, _, _, _⟩ :: _) _ _); refine wp_get _ rfl 62 (.tmp 4) rfl g4 0 (vhs zero8) _ rfl Z8.b4.whole Tryz.underlying62 rfl (size38' zero8 rfl) ?_; simp only [Act.put, List.setIfInBounds_toArray, List.set_cons_zero, List.set_cons_succ])
          | ((with_reducible show wpList _ _ _ (⟨none, .store 62 (.tmp 2) (.tmp 95), _, _, _, _⟩ :: _) _ _); refine wp_putAll _ rfl 62 (.tmp 2) (.tmp 95) rfl g2 62 _ (vhs zero8) rfl rfl Z8.b2 rfl (size38' zero8 rfl) (Hs_one _) ?_; intro w9 B9 U9; simp only [Act.put]; have Z9 := Z8.set2 B9 U9; clear B9 U9))
        refine ret_cell2 2 3 62 rfl g2 (vhs zero8) _ rfl Z9.b2.whole Tryz.underlying62 rfl (size38' zero8 rfl) rfl (.int .i64 7) rfl ⟨rfl, Z9.kp⟩
set_option maxHeartbeats 8000000 in
set_option maxRecDepth 100000 in
theorem r6_A_F (l lx ly : List UInt8) (X Y : List (List UInt8)) (xs ys : List Nat) (S nx ny p q n j : Nat) (w : World) (hS : S = l.length) (hS2 : S ≤ 100000000) (hat : Hid (atI l 0 = -1)) (hX : X = []) (HY : Hid (∀ W, Calls Tryz.prog 73 #[.string (str l), .int .u8 58] W fun e w' => ∃ g c, e = .returned (.slice (some ⟨g, 0, none⟩) ny c) ∧ Ps w' g Y ∧ Below W.heap.size W w')) (HRX : Hid (∀ g c W, Ps W g X → Calls Tryz.prog 74 #[.slice (some ⟨g, 0, none⟩) 0 c, .bool false] W fun e w' => (∃ A c, e = .returned (.tuple #[.slice A p c, .bool true]) ∧ Hs w' w'.heap.size A p xs ∧ ∀ b off, A = some ⟨b, off, none⟩ → W.heap.size ≤ b) ∧ Below W.heap.size W w')) (HRY : Hid (∀ g c W, Ps W g Y → Calls Tryz.prog 74 #[.slice (some ⟨g, 0, none⟩) ny c, .bool true] W fun e w' => (∃ A c, e = .returned (.tuple #[.slice A q c, .bool true]) ∧ Hs w' w'.heap.size A q ys ∧ ∀ b off, A = some ⟨b, off, none⟩ → W.heap.size ≤ b) ∧ Below W.heap.size W w')) (hn : (p : Int) + (q : Int) = (n : Int)) (hn9 : n ≤ 300000000) (hc : ((n : Int) != 8) = true) : Calls Tryz.prog 48 #[.string (str l)] w fun e w' => e = .returned (ip6V none) ∧ Below w.heap.size w w' := by
    have hsz := str_size l
    have hgb : Hid (∀ k, k < S → ∀ h, ((str l)[k]'h).toNat = (l.getD k 0).toNat) := fun k hk h => str_at l k (by omega) h
    have hst : Hid (∀ k, k + 1 < S → atI l k = if l.getD k 0 = 58 ∧ l.getD (k + 1) 0 = 58 then (k : Int) else atI l (k + 1)) := fun k hk => atI_step l k (by omega)
    have hen : Hid (atI l (S - 1) = -1) := atI_end l (S - 1) (by omega)
    have h58 : Hid (∀ k, (l.getD k 0).toNat = 58 ↔ l.getD k 0 = 58) := fun k => ⟨fun h => UInt8.toNat.inj h, fun h => by rw [h]; rfl⟩
    rw [← hS] at hsz
    clear hS
    go_enter Tryz.func48, Tryz.ntmps48
    go_wp2_with (first
      | ((with_reducible show wpList _ _ _ (⟨some 2, .alloc _, _, _, _, _⟩ :: _) _ _); refine wp_new _ rfl 62 rfl _ type38 ?_; intro w1 g2 B2 F2; simp only [Act.put, List.setIfInBounds_toArray, List.set_cons_zero, List.set_cons_succ])
      | ((with_reducible show wpList _ _ _ (⟨some 16, .build _ _, _, _, _, _⟩ :: _) _ _); refine wp_build0 _ rfl 62 rfl _ (build38 _) ?_; simp only [Act.put, List.setIfInBounds_toArray, List.set_cons_zero, List.set_cons_succ])
      | ((with_reducible show wpList _ _ _ (⟨some 4, .alloc _, _, _, _, _⟩ :: _) _ _); refine wp_new _ rfl 62 rfl _ type38 ?_; intro w2 g4 B4 F4; simp only [Act.put, List.setIfInBounds_toArray, List.set_cons_zero, List.set_cons_succ])
      | ((with_reducible show wpList _ _ _ (⟨none, .store 62 (.tmp 4) (.tmp 16), _, _, _, _⟩ :: _) _ _); refine wp_putAll _ rfl 62 (.tmp 4) (.tmp 16) rfl g4 62 _ (vhs zero8) rfl rfl B4 rfl (size38' zero8 rfl) (Hs_one _) ?_; intro w3 B3 U3; simp only [Act.put]))
    have Z3 : Z6 w w3 g2 g4 (vhs zero8) (vhs zero8) := ⟨(F4.blk B2).upd U3 (by have := B2.lt; rw [F4.is]; omega), B3, ((show Kept w w1 from F2.below).step F4.below).base (U3.below (by have := F2.below.size; have := F2.is; have := F4.is; omega)), by rw [F2.is]; exact Nat.le_refl _, by have := B2.lt; rw [F4.is]; exact this⟩
    clear B2 F2 B4 F4 B3 U3
    go_loop [6, 5] (fun i a => ∃ i0 : Int, i = .int .i64 i0 ∧ -2 ≤ i0 ∧ i0 + 2 ≤ (S : Int) ∧ a = .int .i64 (atI l (i0 + 1).toNat)) (fun i _ => (intOf i + 2).toNat)
    case atStart => exact ⟨(S : Int) - 2, by go_num, by omega, by omega, by rw [show ((S : Int) - 2 + 1).toNat = S - 1 by omega, hen.out]⟩
    case round =>
      obtain ⟨i0, rfl, hi1, hi2, rfl⟩ := hrel
      by_cases hi0 : 0 ≤ i0
      · obtain ⟨k, rfl⟩ := Int.eq_ofNat_of_zero_le hi0
        obtain ⟨k1, hk1⟩ : ∃ k1, k1 = k + 1 := ⟨_, rfl⟩
        have hk1i : (k : Int) + 1 = (k1 : Int) := by omega
        have hks : k < S := by omega
        have hk1s : k1 < S := by omega
        have HG1 := hgb.out k hks
        have HG2 := hgb.out k1 hk1s
        have hs1 := hst.out k (by omega)
        have h581 := h58.out k
        have h582 := h58.out k1
        rw [show ((k : Int) + 1).toNat = k1 by omega]
        rw [← hk1] at hs1
        obtain ⟨x, hx⟩ : ∃ x, x = (l.getD k 0).toNat := ⟨_, rfl⟩
        obtain ⟨y, hy⟩ : ∃ y, y = (l.getD k1 0).toNat := ⟨_, rfl⟩
        rw [← hx] at HG1 h581
        rw [← hy] at HG2 h582
        obtain ⟨T, hT⟩ : ∃ T, T = atI l k := ⟨_, rfl⟩
        obtain ⟨T1, hT1⟩ : ∃ T, T = atI l k1 := ⟨_, rfl⟩
        rw [← hT1]
        rw [← hT, ← hT1] at hs1
        have HT : Hid (T = atI l k) := hT
        clear hx hy hT hT1 hk1 hi1 hi0
        by_cases hxx : x = 58
        · have c1 : ((x : Int) == 58) = true := by simp [hxx]
          by_cases hyy : y = 58
          · have c2 : ((y : Int) == 58) = true := by simp [hyy]
            have hR : Hid (T = (k : Int)) := by show _ = _; rw [hs1, if_pos ⟨h581.1 hxx, h582.1 hyy⟩]
            clear hs1 hxx hyy h581 h582
            go_wp2_with fail
            go_round
            case rel => exact ⟨(k : Int) - 1, by go_num, by omega, by omega, by rw [show ((k : Int) - 1 + 1).toNat = k by omega, ← HT.out, hR.out]⟩
            case measure => simp [intOf]; omega
          · have c2 : ((y : Int) == 58) = false := by simp; omega
            have hR : Hid (T = T1) := by show _ = _; rw [hs1, if_neg (fun h => hyy (h582.2 h.2))]
            clear hs1 hxx hyy h581 h582
            go_wp2_with fail
            go_round
            case rel => exact ⟨(k : Int) - 1, by go_num, by omega, by omega, by rw [show ((k : Int) - 1 + 1).toNat = k by omega, ← HT.out, hR.out]⟩
            case measure => simp [intOf]; omega
        · have c1 : ((x : Int) == 58) = false := by simp; omega
          have hR : Hid (T = T1) := by show _ = _; rw [hs1, if_neg (fun h => hxx (h581.2 h.1))]
          clear hs1 hxx h581 h582
          go_wp2_with fail
          go_round
          case rel => exact ⟨(k : Int) - 1, by go_num, by omega, by omega, by rw [show ((k : Int) - 1 + 1).toNat = k by omega, ← HT.out, hR.out]⟩
          case measure => simp [intOf]; omega
      · rw [show (i0 + 1).toNat = 0 by omega, hat.out]
        have hi0n : ¬ (0 : Int) ≤ i0 := hi0
        clear hi0 hi1 hi2 hgb hst hen h58 hat
        have Z4 := (Z3.alloc (.cells #[] 9)).alloc (.cells #[] 9)
        have PX : Hid (Ps ((w3.alloc (.cells #[] 9)).alloc (.cells #[] 9)) w3.heap.size X) := ⟨by simp; omega, fun j p hj => by rw [hX] at hj; simp at hj⟩
        clear Z3
        go_wp2_with (first
          | (go_at_call 73; (with_reducible refine (HY.out _).mono ?_); (rintro e wy ⟨gy, cy, rfl, hps, hb⟩; have Z6' := Z4.step hb; have PY2 : Hid (Ps wy gy Y) := hps; have PX2 : Hid (Ps wy w3.heap.size X) := PX.out.kept8 hb; clear hps hb))
          | (go_at_call 74; (with_reducible refine (HRX.out _ _ _ PX2.out).mono ?_); (rintro e w7 ⟨⟨A1, c1, rfl, hH1, hA1⟩, hb⟩; have Z7 := Z6'.step hb; have PY7 := PY2.out.kept8 hb; have HH1 := Lib.hid hH1; have GA1 := aft6 Z6'.b4 hA1; clear hH1 hA1; clear hb))
          | (go_at_call 74; (with_reducible refine (HRY.out _ _ _ PY7).mono ?_); (rintro e w8 ⟨⟨A2, c2, rfl, hH2, hA2⟩, hb⟩; have Z8 := Z7.step hb; have HH8 := Lib.hid (HH1.out.kept8 hb); have HH2 := Lib.hid hH2; have GA2 := aft6 Z7.b4 hA2; clear hH2 hA2; clear hb))
          | ((with_reducible show wpList _ _ _ (⟨some 95, .load 62 (.tmp 4), _, _, _, _⟩ :: _) _ _); refine wp_get _ rfl 62 (.tmp 4) rfl g4 0 (vhs zero8) _ rfl Z8.b4.whole Tryz.underlying62 rfl (size38' zero8 rfl) ?_; simp only [Act.put, List.setIfInBounds_toArray, List.set_cons_zero, List.set_cons_succ])
          | ((with_reducible show wpList _ _ _ (⟨none, .store 62 (.tmp 2) (.tmp 95), _, _, _, _⟩ :: _) _ _); refine wp_putAll _ rfl 62 (.tmp 2) (.tmp 95) rfl g2 62 _ (vhs zero8) rfl rfl Z8.b2 rfl (size38' zero8 rfl) (Hs_one _) ?_; intro w9 B9 U9; simp only [Act.put]; have Z9 := Z8.set2 B9 U9; clear B9 U9))
        refine ret_cell2 2 3 62 rfl g2 (vhs zero8) _ rfl Z9.b2.whole Tryz.underlying62 rfl (size38' zero8 rfl) rfl (.int .i64 7) rfl ⟨rfl, Z9.kp⟩
set_option maxHeartbeats 8000000 in
set_option maxRecDepth 100000 in
theorem r6_A_O (l lx ly : List UInt8) (X Y : List (List UInt8)) (xs ys : List Nat) (S nx ny p q n j : Nat) (w : World) (hS : S = l.length) (hS2 : S ≤ 100000000) (hat : Hid (atI l 0 = -1)) (hX : X = []) (HY : Hid (∀ W, Calls Tryz.prog 73 #[.string (str l), .int .u8 58] W fun e w' => ∃ g c, e = .returned (.slice (some ⟨g, 0, none⟩) ny c) ∧ Ps w' g Y ∧ Below W.heap.size W w')) (HRX : Hid (∀ g c W, Ps W g X → Calls Tryz.prog 74 #[.slice (some ⟨g, 0, none⟩) 0 c, .bool false] W fun e w' => (∃ A c, e = .returned (.tuple #[.slice A p c, .bool true]) ∧ Hs w' w'.heap.size A p xs ∧ ∀ b off, A = some ⟨b, off, none⟩ → W.heap.size ≤ b) ∧ Below W.heap.size W w')) (HRY : Hid (∀ g c W, Ps W g Y → Calls Tryz.prog 74 #[.slice (some ⟨g, 0, none⟩) ny c, .bool true] W fun e w' => (∃ A c, e = .returned (.tuple #[.slice A q c, .bool true]) ∧ Hs w' w'.heap.size A q ys ∧ ∀ b off, A = some ⟨b, off, none⟩ → W.heap.size ≤ b) ∧ Below W.heap.size W w')) (hn : (p : Int) + (q : Int) = (n : Int)) (hn9 : n ≤ 300000000) (hc : ((n : Int) != 8) = false) (hpq : p + q ≤ 8) (hxl : xs.length = p) (hyl : ys.length = q) (FF : List Nat) (hFF : Hid (xs ++ List.replicate (8 - p - q) 0 ++ ys = FF)) : Calls Tryz.prog 48 #[.string (str l)] w fun e w' => e = .returned (ip6V (some FF)) ∧ Below w.heap.size w w' := by
    have hsz := str_size l
    have hgb : Hid (∀ k, k < S → ∀ h, ((str l)[k]'h).toNat = (l.getD k 0).toNat) := fun k hk h => str_at l k (by omega) h
    have hst : Hid (∀ k, k + 1 < S → atI l k = if l.getD k 0 = 58 ∧ l.getD (k + 1) 0 = 58 then (k : Int) else atI l (k + 1)) := fun k hk => atI_step l k (by omega)
    have hen : Hid (atI l (S - 1) = -1) := atI_end l (S - 1) (by omega)
    have h58 : Hid (∀ k, (l.getD k 0).toNat = 58 ↔ l.getD k 0 = 58) := fun k => ⟨fun h => UInt8.toNat.inj h, fun h => by rw [h]; rfl⟩
    rw [← hS] at hsz
    clear hS
    go_enter Tryz.func48, Tryz.ntmps48
    go_wp2_with (first
      | ((with_reducible show wpList _ _ _ (⟨some 2, .alloc _, _, _, _, _⟩ :: _) _ _); refine wp_new _ rfl 62 rfl _ type38 ?_; intro w1 g2 B2 F2; simp only [Act.put, List.setIfInBounds_toArray, List.set_cons_zero, List.set_cons_succ])
      | ((with_reducible show wpList _ _ _ (⟨some 16, .build _ _, _, _, _, _⟩ :: _) _ _); refine wp_build0 _ rfl 62 rfl _ (build38 _) ?_; simp only [Act.put, List.setIfInBounds_toArray, List.set_cons_zero, List.set_cons_succ])
      | ((with_reducible show wpList _ _ _ (⟨some 4, .alloc _, _, _, _, _⟩ :: _) _ _); refine wp_new _ rfl 62 rfl _ type38 ?_; intro w2 g4 B4 F4; simp only [Act.put, List.setIfInBounds_toArray, List.set_cons_zero, List.set_cons_succ])
      | ((with_reducible show wpList _ _ _ (⟨none, .store 62 (.tmp 4) (.tmp 16), _, _, _, _⟩ :: _) _ _); refine wp_putAll _ rfl 62 (.tmp 4) (.tmp 16) rfl g4 62 _ (vhs zero8) rfl rfl B4 rfl (size38' zero8 rfl) (Hs_one _) ?_; intro w3 B3 U3; simp only [Act.put]))
    have Z3 : Z6 w w3 g2 g4 (vhs zero8) (vhs zero8) := ⟨(F4.blk B2).upd U3 (by have := B2.lt; rw [F4.is]; omega), B3, ((show Kept w w1 from F2.below).step F4.below).base (U3.below (by have := F2.below.size; have := F2.is; have := F4.is; omega)), by rw [F2.is]; exact Nat.le_refl _, by have := B2.lt; rw [F4.is]; exact this⟩
    clear B2 F2 B4 F4 B3 U3
    go_loop [6, 5] (fun i a => ∃ i0 : Int, i = .int .i64 i0 ∧ -2 ≤ i0 ∧ i0 + 2 ≤ (S : Int) ∧ a = .int .i64 (atI l (i0 + 1).toNat)) (fun i _ => (intOf i + 2).toNat)
    case atStart => exact ⟨(S : Int) - 2, by go_num, by omega, by omega, by rw [show ((S : Int) - 2 + 1).toNat = S - 1 by omega, hen.out]⟩
    case round =>
      obtain ⟨i0, rfl, hi1, hi2, rfl⟩ := hrel
      by_cases hi0 : 0 ≤ i0
      · obtain ⟨k, rfl⟩ := Int.eq_ofNat_of_zero_le hi0
        obtain ⟨k1, hk1⟩ : ∃ k1, k1 = k + 1 := ⟨_, rfl⟩
        have hk1i : (k : Int) + 1 = (k1 : Int) := by omega
        have hks : k < S := by omega
        have hk1s : k1 < S := by omega
        have HG1 := hgb.out k hks
        have HG2 := hgb.out k1 hk1s
        have hs1 := hst.out k (by omega)
        have h581 := h58.out k
        have h582 := h58.out k1
        rw [show ((k : Int) + 1).toNat = k1 by omega]
        rw [← hk1] at hs1
        obtain ⟨x, hx⟩ : ∃ x, x = (l.getD k 0).toNat := ⟨_, rfl⟩
        obtain ⟨y, hy⟩ : ∃ y, y = (l.getD k1 0).toNat := ⟨_, rfl⟩
        rw [← hx] at HG1 h581
        rw [← hy] at HG2 h582
        obtain ⟨T, hT⟩ : ∃ T, T = atI l k := ⟨_, rfl⟩
        obtain ⟨T1, hT1⟩ : ∃ T, T = atI l k1 := ⟨_, rfl⟩
        rw [← hT1]
        rw [← hT, ← hT1] at hs1
        have HT : Hid (T = atI l k) := hT
        clear hx hy hT hT1 hk1 hi1 hi0
        by_cases hxx : x = 58
        · have c1 : ((x : Int) == 58) = true := by simp [hxx]
          by_cases hyy : y = 58
          · have c2 : ((y : Int) == 58) = true := by simp [hyy]
            have hR : Hid (T = (k : Int)) := by show _ = _; rw [hs1, if_pos ⟨h581.1 hxx, h582.1 hyy⟩]
            clear hs1 hxx hyy h581 h582
            go_wp2_with fail
            go_round
            case rel => exact ⟨(k : Int) - 1, by go_num, by omega, by omega, by rw [show ((k : Int) - 1 + 1).toNat = k by omega, ← HT.out, hR.out]⟩
            case measure => simp [intOf]; omega
          · have c2 : ((y : Int) == 58) = false := by simp; omega
            have hR : Hid (T = T1) := by show _ = _; rw [hs1, if_neg (fun h => hyy (h582.2 h.2))]
            clear hs1 hxx hyy h581 h582
            go_wp2_with fail
            go_round
            case rel => exact ⟨(k : Int) - 1, by go_num, by omega, by omega, by rw [show ((k : Int) - 1 + 1).toNat = k by omega, ← HT.out, hR.out]⟩
            case measure => simp [intOf]; omega
        · have c1 : ((x : Int) == 58) = false := by simp; omega
          have hR : Hid (T = T1) := by show _ = _; rw [hs1, if_neg (fun h => hxx (h581.2 h.1))]
          clear hs1 hxx h581 h582
          go_wp2_with fail
          go_round
          case rel => exact ⟨(k : Int) - 1, by go_num, by omega, by omega, by rw [show ((k : Int) - 1 + 1).toNat = k by omega, ← HT.out, hR.out]⟩
          case measure => simp [intOf]; omega
      · rw [show (i0 + 1).toNat = 0 by omega, hat.out]
        have hi0n : ¬ (0 : Int) ≤ i0 := hi0
        clear hi0 hi1 hi2 hgb hst hen h58 hat
        have Z4 := (Z3.alloc (.cells #[] 9)).alloc (.cells #[] 9)
        have PX : Hid (Ps ((w3.alloc (.cells #[] 9)).alloc (.cells #[] 9)) w3.heap.size X) := ⟨by simp; omega, fun j p hj => by rw [hX] at hj; simp at hj⟩
        clear Z3
        go_wp2_with (first
          | (go_at_call 73; (with_reducible refine (HY.out _).mono ?_); (rintro e wy ⟨gy, cy, rfl, hps, hb⟩; have Z6' := Z4.step hb; have PY2 : Hid (Ps wy gy Y) := hps; have PX2 : Hid (Ps wy w3.heap.size X) := PX.out.kept8 hb; clear hps hb))
          | (go_at_call 74; (with_reducible refine (HRX.out _ _ _ PX2.out).mono ?_); (rintro e w7 ⟨⟨A1, c1, rfl, hH1, hA1⟩, hb⟩; have Z7 := Z6'.step hb; have PY7 := PY2.out.kept8 hb; have HH1 := Lib.hid hH1; have GA1 := aft6 Z6'.b4 hA1; clear hH1 hA1; clear hb))
          | (go_at_call 74; (with_reducible refine (HRY.out _ _ _ PY7).mono ?_); (rintro e w8 ⟨⟨A2, c2, rfl, hH2, hA2⟩, hb⟩; have Z8 := Z7.step hb; have HH8 := Lib.hid (HH1.out.kept8 hb); have HH2 := Lib.hid hH2; have GA2 := aft6 Z7.b4 hA2; clear hH2 hA2; clear hb)))
        have HA1 := Lib.hid (And.intro hxl hyl)
        clear hxl hyl
        go_loopw [14] (fun i wr => ∃ k : Nat, k ≤ p ∧ i = .int .i64 (k : Int) ∧ Z6 w wr g2 g4 (vhs zero8) (vhs (xs.take k ++ List.replicate (8 - k) 0)) ∧ Hs wr wr.heap.size A1 p xs ∧ Hs wr wr.heap.size A2 q ys) (fun i _ => p - (intOf i).toNat)
        case atStart => exact ⟨0, by omega, rfl, Z8, HH8.out, HH2.out⟩
        case round =>
          obtain ⟨k, hk, rfl, Z9, hh1, hh2⟩ := hrel
          clear Z8 HH8 HH2
          have HE1 := Lib.hid hh1
          have HE2 := Lib.hid hh2
          have HZ9 := Lib.hid Z9
          clear hh1 hh2 Z9
          by_cases hlt : k < p
          · have hkp : (k : Int) < (p : Int) := by omega
            have hk8 : k < 8 := by omega
            obtain ⟨b, off, hA, hbl, hcell⟩ := HE1.out.at_ hlt
            unfold vh at hcell
            have hfl := fill1 xs k (by rw [HA1.out.1]; exact hlt) hk8
            have hlen : Hid (k < (vhs (xs.take k ++ List.replicate (8 - k) 0)).length) := by show _ < _; rw [Hs_len, List.length_append, List.length_replicate, List.length_take, HA1.out.1]; omega
            have hset := vhs_set (xs.take k ++ List.replicate (8 - k) 0) k (xs.getD k 0)
            rw [hfl] at hset
            obtain ⟨x, hx⟩ : ∃ x, x = xs.getD k 0 := ⟨_, rfl⟩
            rw [← hx] at hcell hset
            have HSt := Lib.hid hset
            clear hfl hset hx
            subst hA
            go_wp2_with (first
              | ((with_reducible show wpList _ _ _ (⟨none, .store 61 (.tmp 107) (.tmp 106), _, _, _, _⟩ :: _) _ _); refine wp_set _ rfl 61 (.tmp 107) (.tmp 106) rfl g4 k 62 _ (.int .u16 (x : Int)) rfl rfl rfl rfl HZ9.out.b4 hlen.out size37 ?_; intro w10 B10 U10; simp only [Act.put]))
            rw [HSt.out] at B10
            go_roundw
            case rel => exact ⟨k + 1, by omega, by go_num, HZ9.out.set4 B10 U10, HE1.out.upd8 U10 GA1.out, HE2.out.upd8 U10 GA2.out⟩
            case measure => simp [intOf]; omega
          · have hkp : ¬ (k : Int) < (p : Int) := by omega
            obtain rfl : k = p := by omega
            have hf3 := fill3 xs ys k q HA1.out.1 hpq
            have HZ10 : Hid (Z6 w wr g2 g4 (vhs zero8) (vhs (xs ++ List.replicate (8 - k - q) 0 ++ ys.take 0 ++ List.replicate (q - 0) 0))) := by show Z6 _ _ _ _ _ _; rw [← hf3]; exact HZ9.out
            clear hf3 HZ9 hlt hk
            go_wp2_with fail
            go_loopw [15] (fun i wr => ∃ m : Nat, m ≤ q ∧ i = .int .i64 (m : Int) ∧ Z6 w wr g2 g4 (vhs zero8) (vhs (xs ++ List.replicate (8 - k - q) 0 ++ ys.take m ++ List.replicate (q - m) 0)) ∧ Hs wr wr.heap.size A2 q ys) (fun i _ => q - (intOf i).toNat)
            case atStart => exact ⟨0, by omega, rfl, HZ10.out, HE2.out⟩
            case round =>
              obtain ⟨m, hm, rfl, Z11, hh2⟩ := hrel
              clear HZ10 HE1 HE2
              have HE3 := Lib.hid hh2
              have HZ11 := Lib.hid Z11
              clear hh2 Z11
              by_cases hlt : m < q
              · have hmq : (m : Int) < (q : Int) := by omega
                obtain ⟨b, off, hA, hbl, hcell⟩ := HE3.out.at_ hlt
                unfold vh at hcell
                have hfl := fill2 xs ys k q m HA1.out.1 HA1.out.2 hpq hlt
                have hlen : Hid (8 - q + m < (vhs (xs ++ List.replicate (8 - k - q) 0 ++ ys.take m ++ List.replicate (q - m) 0)).length) := by
                  show _ < _
                  rw [Hs_len, List.length_append, List.length_append, List.length_append, List.length_replicate, List.length_replicate, List.length_take, HA1.out.1, HA1.out.2]
                  omega
                have hset := vhs_set (xs ++ List.replicate (8 - k - q) 0 ++ ys.take m ++ List.replicate (q - m) 0) (8 - q + m) (ys.getD m 0)
                rw [hfl] at hset
                obtain ⟨x, hx⟩ : ∃ x, x = ys.getD m 0 := ⟨_, rfl⟩
                rw [← hx] at hcell hset
                obtain ⟨e1, he1⟩ : ∃ e1, e1 = 8 - q := ⟨_, rfl⟩
                obtain ⟨e2, he2⟩ : ∃ e2, e2 = 8 - q + m := ⟨_, rfl⟩
                rw [← he2] at hset hlen
                have hq1 : (8 : Int) - (q : Int) = (e1 : Int) := by omega
                have hq2 : (e1 : Int) + (m : Int) = (e2 : Int) := by omega
                have he8 : e2 < 8 := by omega
                have HSt := Lib.hid hset
                clear hfl hset hx he1 he2
                subst hA
                go_wp2_with (first
                  | ((with_reducible show wpList _ _ _ (⟨none, .store 61 (.tmp 123) (.tmp 122), _, _, _, _⟩ :: _) _ _); refine wp_set _ rfl 61 (.tmp 123) (.tmp 122) rfl g4 e2 62 _ (.int .u16 (x : Int)) rfl rfl rfl rfl HZ11.out.b4 hlen.out size37 ?_; intro w12 B12 U12; simp only [Act.put]))
                rw [HSt.out] at B12
                go_roundw
                case rel => exact ⟨m + 1, by omega, by go_num, HZ11.out.set4 B12 U12, HE3.out.upd8 U12 GA2.out⟩
                case measure => simp [intOf]; omega
              · have hmq : ¬ (m : Int) < (q : Int) := by omega
                obtain rfl : m = q := by omega
                have hF : Hid (xs ++ List.replicate (8 - k - m) 0 ++ ys.take m ++ List.replicate (m - m) 0 = xs ++ List.replicate (8 - k - m) 0 ++ ys) := by
                  show _ = _
                  rw [Nat.sub_self, ← HA1.out.2, List.take_length]
                  simp
                have HZ12 : Hid (Z6 w wr g2 g4 (vhs zero8) (vhs FF)) := by show Z6 _ _ _ _ _ _; rw [← hFF.out, ← hF.out]; exact HZ11.out
                have hFl : FF.length = 8 := by
                  rw [← hFF.out, List.length_append, List.length_append, List.length_replicate, HA1.out.1, HA1.out.2]
                  omega
                clear hFF
                have HFl := Lib.hid hFl
                clear hF HZ11 hlt hm hFl
                go_wp2_with (first
                  | ((with_reducible show wpList _ _ _ (⟨some 124, .load 62 (.tmp 4), _, _, _, _⟩ :: _) _ _); refine wp_get _ rfl 62 (.tmp 4) rfl g4 0 (vhs FF) _ rfl HZ12.out.b4.whole Tryz.underlying62 rfl (size38' FF HFl.out) ?_; simp only [Act.put, List.setIfInBounds_toArray, List.set_cons_zero, List.set_cons_succ])
                  | ((with_reducible show wpList _ _ _ (⟨none, .store 62 (.tmp 2) (.tmp 124), _, _, _, _⟩ :: _) _ _); refine wp_putAll _ rfl 62 (.tmp 2) (.tmp 124) rfl g2 62 _ (vhs FF) rfl rfl HZ12.out.b2 (by rw [Hs_len, Hs_len, HFl.out]; rfl) (size38' FF HFl.out) (Hs_one _) ?_; intro w13 B13 U13; simp only [Act.put]; have Z13 := HZ12.out.set2 B13 U13; clear B13 U13))
                refine ret_cell2 2 3 62 rfl g2 (vhs FF) _ rfl Z13.b2.whole Tryz.underlying62 rfl (size38' FF HFl.out) rfl (.int .i64 0) rfl ⟨rfl, Z13.kp⟩
set_option maxHeartbeats 8000000 in
set_option maxRecDepth 100000 in
theorem r6_B00_O (l lx ly : List UInt8) (X Y : List (List UInt8)) (xs ys : List Nat) (S nx ny p q n j : Nat) (w : World) (hS : S = l.length) (hS2 : S ≤ 100000000) (hat : Hid (atI l 0 = (j : Int))) (hj : j ≤ S) (hj0 : ¬ (0 : Int) < (j : Int)) (j2 : Nat) (hj2 : (j : Int) + 2 = (j2 : Int)) (hj3 : ¬ (j2 : Int) < (S : Int)) (hX : X = []) (hY : Y = []) (HRX : Hid (∀ g c W, Ps W g X → Calls Tryz.prog 74 #[.slice (some ⟨g, 0, none⟩) 0 c, .bool false] W fun e w' => (∃ A c, e = .returned (.tuple #[.slice A p c, .bool true]) ∧ Hs w' w'.heap.size A p xs ∧ ∀ b off, A = some ⟨b, off, none⟩ → W.heap.size ≤ b) ∧ Below W.heap.size W w')) (HRY : Hid (∀ g c W, Ps W g Y → Calls Tryz.prog 74 #[.slice (some ⟨g, 0, none⟩) 0 c, .bool true] W fun e w' => (∃ A c, e = .returned (.tuple #[.slice A q c, .bool true]) ∧ Hs w' w'.heap.size A q ys ∧ ∀ b off, A = some ⟨b, off, none⟩ → W.heap.size ≤ b) ∧ Below W.heap.size W w')) (hn : (p : Int) + (q : Int) = (n : Int)) (hn9 : n ≤ 300000000) (hc : ¬ (7 : Int) < (n : Int)) (hpq : p + q ≤ 8) (hxl : xs.length = p) (hyl : ys.length = q) (FF : List Nat) (hFF : Hid (xs ++ List.replicate (8 - p - q) 0 ++ ys = FF)) : Calls Tryz.prog 48 #[.string (str l)] w fun e w' => e = .returned (ip6V (some FF)) ∧ Below w.heap.size w w' := by
    have hsz := str_size l
    have hgb : Hid (∀ k, k < S → ∀ h, ((str l)[k]'h).toNat = (l.getD k 0).toNat) := fun k hk h => str_at l k (by omega) h
    have hst : Hid (∀ k, k + 1 < S → atI l k = if l.getD k 0 = 58 ∧ l.getD (k + 1) 0 = 58 then (k : Int) else atI l (k + 1)) := fun k hk => atI_step l k (by omega)
    have hen : Hid (atI l (S - 1) = -1) := atI_end l (S - 1) (by omega)
    have h58 : Hid (∀ k, (l.getD k 0).toNat = 58 ↔ l.getD k 0 = 58) := fun k => ⟨fun h => UInt8.toNat.inj h, fun h => by rw [h]; rfl⟩
    rw [← hS] at hsz
    clear hS
    go_enter Tryz.func48, Tryz.ntmps48
    go_wp2_with (first
      | ((with_reducible show wpList _ _ _ (⟨some 2, .alloc _, _, _, _, _⟩ :: _) _ _); refine wp_new _ rfl 62 rfl _ type38 ?_; intro w1 g2 B2 F2; simp only [Act.put, List.setIfInBounds_toArray, List.set_cons_zero, List.set_cons_succ])
      | ((with_reducible show wpList _ _ _ (⟨some 16, .build _ _, _, _, _, _⟩ :: _) _ _); refine wp_build0 _ rfl 62 rfl _ (build38 _) ?_; simp only [Act.put, List.setIfInBounds_toArray, List.set_cons_zero, List.set_cons_succ])
      | ((with_reducible show wpList _ _ _ (⟨some 4, .alloc _, _, _, _, _⟩ :: _) _ _); refine wp_new _ rfl 62 rfl _ type38 ?_; intro w2 g4 B4 F4; simp only [Act.put, List.setIfInBounds_toArray, List.set_cons_zero, List.set_cons_succ])
      | ((with_reducible show wpList _ _ _ (⟨none, .store 62 (.tmp 4) (.tmp 16), _, _, _, _⟩ :: _) _ _); refine wp_putAll _ rfl 62 (.tmp 4) (.tmp 16) rfl g4 62 _ (vhs zero8) rfl rfl B4 rfl (size38' zero8 rfl) (Hs_one _) ?_; intro w3 B3 U3; simp only [Act.put]))
    have Z3 : Z6 w w3 g2 g4 (vhs zero8) (vhs zero8) := ⟨(F4.blk B2).upd U3 (by have := B2.lt; rw [F4.is]; omega), B3, ((show Kept w w1 from F2.below).step F4.below).base (U3.below (by have := F2.below.size; have := F2.is; have := F4.is; omega)), by rw [F2.is]; exact Nat.le_refl _, by have := B2.lt; rw [F4.is]; exact this⟩
    clear B2 F2 B4 F4 B3 U3
    go_loop [6, 5] (fun i a => ∃ i0 : Int, i = .int .i64 i0 ∧ -2 ≤ i0 ∧ i0 + 2 ≤ (S : Int) ∧ a = .int .i64 (atI l (i0 + 1).toNat)) (fun i _ => (intOf i + 2).toNat)
    case atStart => exact ⟨(S : Int) - 2, by go_num, by omega, by omega, by rw [show ((S : Int) - 2 + 1).toNat = S - 1 by omega, hen.out]⟩
    case round =>
      obtain ⟨i0, rfl, hi1, hi2, rfl⟩ := hrel
      by_cases hi0 : 0 ≤ i0
      · obtain ⟨k, rfl⟩ := Int.eq_ofNat_of_zero_le hi0
        obtain ⟨k1, hk1⟩ : ∃ k1, k1 = k + 1 := ⟨_, rfl⟩
        have hk1i : (k : Int) + 1 = (k1 : Int) := by omega
        have hks : k < S := by omega
        have hk1s : k1 < S := by omega
        have HG1 := hgb.out k hks
        have HG2 := hgb.out k1 hk1s
        have hs1 := hst.out k (by omega)
        have h581 := h58.out k
        have h582 := h58.out k1
        rw [show ((k : Int) + 1).toNat = k1 by omega]
        rw [← hk1] at hs1
        obtain ⟨x, hx⟩ : ∃ x, x = (l.getD k 0).toNat := ⟨_, rfl⟩
        obtain ⟨y, hy⟩ : ∃ y, y = (l.getD k1 0).toNat := ⟨_, rfl⟩
        rw [← hx] at HG1 h581
        rw [← hy] at HG2 h582
        obtain ⟨T, hT⟩ : ∃ T, T = atI l k := ⟨_, rfl⟩
        obtain ⟨T1, hT1⟩ : ∃ T, T = atI l k1 := ⟨_, rfl⟩
        rw [← hT1]
        rw [← hT, ← hT1] at hs1
        have HT : Hid (T = atI l k) := hT
        clear hx hy hT hT1 hk1 hi1 hi0
        by_cases hxx : x = 58
        · have c1 : ((x : Int) == 58) = true := by simp [hxx]
          by_cases hyy : y = 58
          · have c2 : ((y : Int) == 58) = true := by simp [hyy]
            have hR : Hid (T = (k : Int)) := by show _ = _; rw [hs1, if_pos ⟨h581.1 hxx, h582.1 hyy⟩]
            clear hs1 hxx hyy h581 h582
            go_wp2_with fail
            go_round
            case rel => exact ⟨(k : Int) - 1, by go_num, by omega, by omega, by rw [show ((k : Int) - 1 + 1).toNat = k by omega, ← HT.out, hR.out]⟩
            case measure => simp [intOf]; omega
          · have c2 : ((y : Int) == 58) = false := by simp; omega
            have hR : Hid (T = T1) := by show _ = _; rw [hs1, if_neg (fun h => hyy (h582.2 h.2))]
            clear hs1 hxx hyy h581 h582
            go_wp2_with fail
            go_round
            case rel => exact ⟨(k : Int) - 1, by go_num, by omega, by omega, by rw [show ((k : Int) - 1 + 1).toNat = k by omega, ← HT.out, hR.out]⟩
            case measure => simp [intOf]; omega
        · have c1 : ((x : Int) == 58) = false := by simp; omega
          have hR : Hid (T = T1) := by show _ = _; rw [hs1, if_neg (fun h => hxx (h581.2 h.1))]
          clear hs1 hxx h581 h582
          go_wp2_with fail
          go_round
          case rel => exact ⟨(k : Int) - 1, by go_num, by omega, by omega, by rw [show ((k : Int) - 1 + 1).toNat = k by omega, ← HT.out, hR.out]⟩
          case measure => simp [intOf]; omega
      · rw [show (i0 + 1).toNat = 0 by omega, hat.out]
        have hi0n : ¬ (0 : Int) ≤ i0 := hi0
        clear hi0 hi1 hi2 hgb hst hen h58 hat
        have Z4 := (Z3.alloc (.cells #[] 9)).alloc (.cells #[] 9)
        have PX : Hid (Ps ((w3.alloc (.cells #[] 9)).alloc (.cells #[] 9)) w3.heap.size X) := ⟨by simp; omega, fun j p hj => by rw [hX] at hj; simp at hj⟩
        have PY : Hid (Ps ((w3.alloc (.cells #[] 9)).alloc (.cells #[] 9)) (w3.heap.size + 1) Y) := ⟨by simp, fun j p hj => by rw [hY] at hj; simp at hj⟩
        clear Z3
        go_wp2_with (first
          | (go_at_call 74; (with_reducible refine (HRX.out _ _ _ PX.out).mono ?_); (rintro e w7 ⟨⟨A1, c1, rfl, hH1, hA1⟩, hb⟩; have Z7 := Z4.step hb; have PY7 := PY.out.kept8 hb; have HH1 := Lib.hid hH1; have GA1 := aft6 Z4.b4 hA1; clear hH1 hA1; clear hb))
          | (go_at_call 74; (with_reducible refine (HRY.out _ _ _ PY7).mono ?_); (rintro e w8 ⟨⟨A2, c2, rfl, hH2, hA2⟩, hb⟩; have Z8 := Z7.step hb; have HH8 := Lib.hid (HH1.out.kept8 hb); have HH2 := Lib.hid hH2; have GA2 := aft6 Z7.b4 hA2; clear hH2 hA2; clear hb)))
        have HA1 := Lib.hid (And.intro hxl hyl)
        clear hxl hyl
        go_loopw [14] (fun i wr => ∃ k : Nat, k ≤ p ∧ i = .int .i64 (k : Int) ∧ Z6 w wr g2 g4 (vhs zero8) (vhs (xs.take k ++ List.replicate (8 - k) 0)) ∧ Hs wr wr.heap.size A1 p xs ∧ Hs wr wr.heap.size A2 q ys) (fun i _ => p - (intOf i).toNat)
        case atStart => exact ⟨0, by omega, rfl, Z8, HH8.out, HH2.out⟩
        case round =>
          obtain ⟨k, hk, rfl, Z9, hh1, hh2⟩ := hrel
          clear Z8 HH8 HH2
          have HE1 := Lib.hid hh1
          have HE2 := Lib.hid hh2
          have HZ9 := Lib.hid Z9
          clear hh1 hh2 Z9
          by_cases hlt : k < p
          · have hkp : (k : Int) < (p : Int) := by omega
            have hk8 : k < 8 := by omega
            obtain ⟨b, off, hA, hbl, hcell⟩ := HE1.out.at_ hlt
            unfold vh at hcell
            have hfl := fill1 xs k (by rw [HA1.out.1]; exact hlt) hk8
            have hlen : Hid (k < (vhs (xs.take k ++ List.replicate (8 - k) 0)).length) := by show _ < _; rw [Hs_len, List.length_append, List.length_replicate, List.length_take, HA1.out.1]; omega
            have hset := vhs_set (xs.take k ++ List.replicate (8 - k) 0) k (xs.getD k 0)
            rw [hfl] at hset
            obtain ⟨x, hx⟩ : ∃ x, x = xs.getD k 0 := ⟨_, rfl⟩
            rw [← hx] at hcell hset
            have HSt := Lib.hid hset
            clear hfl hset hx
            subst hA
            go_wp2_with (first
              | ((with_reducible show wpList _ _ _ (⟨none, .store 61 (.tmp 107) (.tmp 106), _, _, _, _⟩ :: _) _ _); refine wp_set _ rfl 61 (.tmp 107) (.tmp 106) rfl g4 k 62 _ (.int .u16 (x : Int)) rfl rfl rfl rfl HZ9.out.b4 hlen.out size37 ?_; intro w10 B10 U10; simp only [Act.put]))
            rw [HSt.out] at B10
            go_roundw
            case rel => exact ⟨k + 1, by omega, by go_num, HZ9.out.set4 B10 U10, HE1.out.upd8 U10 GA1.out, HE2.out.upd8 U10 GA2.out⟩
            case measure => simp [intOf]; omega
          · have hkp : ¬ (k : Int) < (p : Int) := by omega
            obtain rfl : k = p := by omega
            have hf3 := fill3 xs ys k q HA1.out.1 hpq
            have HZ10 : Hid (Z6 w wr g2 g4 (vhs zero8) (vhs (xs ++ List.replicate (8 - k - q) 0 ++ ys.take 0 ++ List.replicate (q - 0) 0))) := by show Z6 _ _ _ _ _ _; rw [← hf3]; exact HZ9.out
            clear hf3 HZ9 hlt hk
            go_wp2_with fail
            go_loopw [15] (fun i wr => ∃ m : Nat, m ≤ q ∧ i = .int .i64 (m : Int) ∧ Z6 w wr g2 g4 (vhs zero8) (vhs (xs ++ List.replicate (8 - k - q) 0 ++ ys.take m ++ List.replicate (q - m) 0)) ∧ Hs wr wr.heap.size A2 q ys) (fun i _ => q - (intOf i).toNat)
            case atStart => exact ⟨0, by omega, rfl, HZ10.out, HE2.out⟩
            case round =>
              obtain ⟨m, hm, rfl, Z11, hh2⟩ := hrel
              clear HZ10 HE1 HE2
              have HE3 := Lib.hid hh2
              have HZ11 := Lib.hid Z11
              clear hh2 Z11
              by_cases hlt : m < q
              · have hmq : (m : Int) < (q : Int) := by omega
                obtain ⟨b, off, hA, hbl, hcell⟩ := HE3.out.at_ hlt
                unfold vh at hcell
                have hfl := fill2 xs ys k q m HA1.out.1 HA1.out.2 hpq hlt
                have hlen : Hid (8 - q + m < (vhs (xs ++ List.replicate (8 - k - q) 0 ++ ys.take m ++ List.replicate (q - m) 0)).length) := by
                  show _ < _
                  rw [Hs_len, List.length_append, List.length_append, List.length_append, List.length_replicate, List.length_replicate, List.length_take, HA1.out.1, HA1.out.2]
                  omega
                have hset := vhs_set (xs ++ List.replicate (8 - k - q) 0 ++ ys.take m ++ List.replicate (q - m) 0) (8 - q + m) (ys.getD m 0)
                rw [hfl] at hset
                obtain ⟨x, hx⟩ : ∃ x, x = ys.getD m 0 := ⟨_, rfl⟩
                rw [← hx] at hcell hset
                obtain ⟨e1, he1⟩ : ∃ e1, e1 = 8 - q := ⟨_, rfl⟩
                obtain ⟨e2, he2⟩ : ∃ e2, e2 = 8 - q + m := ⟨_, rfl⟩
                rw [← he2] at hset hlen
                have hq1 : (8 : Int) - (q : Int) = (e1 : Int) := by omega
                have hq2 : (e1 : Int) + (m : Int) = (e2 : Int) := by omega
                have he8 : e2 < 8 := by omega
                have HSt := Lib.hid hset
                clear hfl hset hx he1 he2
                subst hA
                go_wp2_with (first
                  | ((with_reducible show wpList _ _ _ (⟨none, .store 61 (.tmp 123) (.tmp 122), _, _, _, _⟩ :: _) _ _); refine wp_set _ rfl 61 (.tmp 123) (.tmp 122) rfl g4 e2 62 _ (.int .u16 (x : Int)) rfl rfl rfl rfl HZ11.out.b4 hlen.out size37 ?_; intro w12 B12 U12; simp only [Act.put]))
                rw [HSt.out] at B12
                go_roundw
                case rel => exact ⟨m + 1, by omega, by go_num, HZ11.out.set4 B12 U12, HE3.out.upd8 U12 GA2.out⟩
                case measure => simp [intOf]; omega
              · have hmq : ¬ (m : Int) < (q : Int) := by omega
                obtain rfl : m = q := by omega
                have hF : Hid (xs ++ List.replicate (8 - k - m) 0 ++ ys.take m ++ List.replicate (m - m) 0 = xs ++ List.replicate (8 - k - m) 0 ++ ys) := by
                  show _ = _
                  rw [Nat.sub_self, ← HA1.out.2, List.take_length]
                  simp
                have HZ12 : Hid (Z6 w wr g2 g4 (vhs zero8) (vhs FF)) := by show Z6 _ _ _ _ _ _; rw [← hFF.out, ← hF.out]; exact HZ11.out
                have hFl : FF.length = 8 := by
                  rw [← hFF.out, List.length_append, List.length_append, List.length_replicate, HA1.out.1, HA1.out.2]
                  omega
                clear hFF
                have HFl := Lib.hid hFl
                clear hF HZ11 hlt hm hFl
                go_wp2_with (first
                  | ((with_reducible show wpList _ _ _ (⟨some 124, .load 62 (.tmp 4), _, _, _, _⟩ :: _) _ _); refine wp_get _ rfl 62 (.tmp 4) rfl g4 0 (vhs FF) _ rfl HZ12.out.b4.whole Tryz.underlying62 rfl (size38' FF HFl.out) ?_; simp only [Act.put, List.setIfInBounds_toArray, List.set_cons_zero, List.set_cons_succ])
                  | ((with_reducible show wpList _ _ _ (⟨none, .store 62 (.tmp 2) (.tmp 124), _, _, _, _⟩ :: _) _ _); refine wp_putAll _ rfl 62 (.tmp 2) (.tmp 124) rfl g2 62 _ (vhs FF) rfl rfl HZ12.out.b2 (by rw [Hs_len, Hs_len, HFl.out]; rfl) (size38' FF HFl.out) (Hs_one _) ?_; intro w13 B13 U13; simp only [Act.put]; have Z13 := HZ12.out.set2 B13 U13; clear B13 U13))
                refine ret_cell2 2 3 62 rfl g2 (vhs FF) _ rfl Z13.b2.whole Tryz.underlying62 rfl (size38' FF HFl.out) rfl (.int .i64 0) rfl ⟨rfl, Z13.kp⟩
set_option maxHeartbeats 8000000 in
set_option maxRecDepth 100000 in
theorem r6_B01_N3 (l lx ly : List UInt8) (X Y : List (List UInt8)) (xs ys : List Nat) (S nx ny p q n j : Nat) (w : World) (hS : S = l.length) (hS2 : S ≤ 100000000) (hat : Hid (atI l 0 = (j : Int))) (hj : j ≤ S) (hj0 : ¬ (0 : Int) < (j : Int)) (j2 : Nat) (hj2 : (j : Int) + 2 = (j2 : Int)) (hj3 : (j2 : Int) < (S : Int)) (ty : (str l).extract j2 S = str ly) (hX : X = []) (HY : Hid (∀ W, Calls Tryz.prog 73 #[.string (str ly), .int .u8 58] W fun e w' => ∃ g c, e = .returned (.slice (some ⟨g, 0, none⟩) ny c) ∧ Ps w' g Y ∧ Below W.heap.size W w')) (HRX : Hid (∀ g c W, Ps W g X → Calls Tryz.prog 74 #[.slice (some ⟨g, 0, none⟩) 0 c, .bool false] W fun e w' => (∃ A c, e = .returned (.tuple #[.slice A p c, .bool true]) ∧ Hs w' w'.heap.size A p xs ∧ ∀ b off, A = some ⟨b, off, none⟩ → W.heap.size ≤ b) ∧ Below W.heap.size W w')) (HRY : Hid (∀ g c W, Ps W g Y → Calls Tryz.prog 74 #[.slice (some ⟨g, 0, none⟩) ny c, .bool true] W fun e w' => (e = .returned (.tuple #[.slice none 0 0, .bool false])) ∧ Below W.heap.size W w')) : Calls Tryz.prog 48 #[.string (str l)] w fun e w' => e = .returned (ip6V none) ∧ Below w.heap.size w w' := by
    have hsz := str_size l
    have hgb : Hid (∀ k, k < S → ∀ h, ((str l)[k]'h).toNat = (l.getD k 0).toNat) := fun k hk h => str_at l k (by omega) h
    have hst : Hid (∀ k, k + 1 < S → atI l k = if l.getD k 0 = 58 ∧ l.getD (k + 1) 0 = 58 then (k : Int) else atI l (k + 1)) := fun k hk => atI_step l k (by omega)
    have hen : Hid (atI l (S - 1) = -1) := atI_end l (S - 1) (by omega)
    have h58 : Hid (∀ k, (l.getD k 0).toNat = 58 ↔ l.getD k 0 = 58) := fun k => ⟨fun h => UInt8.toNat.inj h, fun h => by rw [h]; rfl⟩
    rw [← hS] at hsz
    clear hS
    go_enter Tryz.func48, Tryz.ntmps48
    go_wp2_with (first
      | ((with_reducible show wpList _ _ _ (⟨some 2, .alloc _, _, _, _, _⟩ :: _) _ _); refine wp_new _ rfl 62 rfl _ type38 ?_; intro w1 g2 B2 F2; simp only [Act.put, List.setIfInBounds_toArray, List.set_cons_zero, List.set_cons_succ])
      | ((with_reducible show wpList _ _ _ (⟨some 16, .build _ _, _, _, _, _⟩ :: _) _ _); refine wp_build0 _ rfl 62 rfl _ (build38 _) ?_; simp only [Act.put, List.setIfInBounds_toArray, List.set_cons_zero, List.set_cons_succ])
      | ((with_reducible show wpList _ _ _ (⟨some 4, .alloc _, _, _, _, _⟩ :: _) _ _); refine wp_new _ rfl 62 rfl _ type38 ?_; intro w2 g4 B4 F4; simp only [Act.put, List.setIfInBounds_toArray, List.set_cons_zero, List.set_cons_succ])
      | ((with_reducible show wpList _ _ _ (⟨none, .store 62 (.tmp 4) (.tmp 16), _, _, _, _⟩ :: _) _ _); refine wp_putAll _ rfl 62 (.tmp 4) (.tmp 16) rfl g4 62 _ (vhs zero8) rfl rfl B4 rfl (size38' zero8 rfl) (Hs_one _) ?_; intro w3 B3 U3; simp only [Act.put]))
    have Z3 : Z6 w w3 g2 g4 (vhs zero8) (vhs zero8) := ⟨(F4.blk B2).upd U3 (by have := B2.lt; rw [F4.is]; omega), B3, ((show Kept w w1 from F2.below).step F4.below).base (U3.below (by have := F2.below.size; have := F2.is; have := F4.is; omega)), by rw [F2.is]; exact Nat.le_refl _, by have := B2.lt; rw [F4.is]; exact this⟩
    clear B2 F2 B4 F4 B3 U3
    go_loop [6, 5] (fun i a => ∃ i0 : Int, i = .int .i64 i0 ∧ -2 ≤ i0 ∧ i0 + 2 ≤ (S : Int) ∧ a = .int .i64 (atI l (i0 + 1).toNat)) (fun i _ => (intOf i + 2).toNat)
    case atStart => exact ⟨(S : Int) - 2, by go_num, by omega, by omega, by rw [show ((S : Int) - 2 + 1).toNat = S - 1 by omega, hen.out]⟩
    case round =>
      obtain ⟨i0, rfl, hi1, hi2, rfl⟩ := hrel
      by_cases hi0 : 0 ≤ i0
      · obtain ⟨k, rfl⟩ := Int.eq_ofNat_of_zero_le hi0
        obtain ⟨k1, hk1⟩ : ∃ k1, k1 = k + 1 := ⟨_, rfl⟩
        have hk1i : (k : Int) + 1 = (k1 : Int) := by omega
        have hks : k < S := by omega
        have hk1s : k1 < S := by omega
        have HG1 := hgb.out k hks
        have HG2 := hgb.out k1 hk1s
        have hs1 := hst.out k (by omega)
        have h581 := h58.out k
        have h582 := h58.out k1
        rw [show ((k : Int) + 1).toNat = k1 by omega]
        rw [← hk1] at hs1
        obtain ⟨x, hx⟩ : ∃ x, x = (l.getD k 0).toNat := ⟨_, rfl⟩
        obtain ⟨y, hy⟩ : ∃ y, y = (l.getD k1 0).toNat := ⟨_, rfl⟩
        rw [← hx] at HG1 h581
        rw [← hy] at HG2 h582
        obtain ⟨T, hT⟩ : ∃ T, T = atI l k := ⟨_, rfl⟩
        obtain ⟨T1, hT1⟩ : ∃ T, T = atI l k1 := ⟨_, rfl⟩
        rw [← hT1]
        rw [← hT, ← hT1] at hs1
        have HT : Hid (T = atI l k) := hT
        clear hx hy hT hT1 hk1 hi1 hi0
        by_cases hxx : x = 58
        · have c1 : ((x : Int) == 58) = true := by simp [hxx]
          by_cases hyy : y = 58
          · have c2 : ((y : Int) == 58) = true := by simp [hyy]
            have hR : Hid (T = (k : Int)) := by show _ = _; rw [hs1, if_pos ⟨h581.1 hxx, h582.1 hyy⟩]
            clear hs1 hxx hyy h581 h582
            go_wp2_with fail
            go_round
            case rel => exact ⟨(k : Int) - 1, by go_num, by omega, by omega, by rw [show ((k : Int) - 1 + 1).toNat = k by omega, ← HT.out, hR.out]⟩
            case measure => simp [intOf]; omega
          · have c2 : ((y : Int) == 58) = false := by simp; omega
            have hR : Hid (T = T1) := by show _ = _; rw [hs1, if_neg (fun h => hyy (h582.2 h.2))]
            clear hs1 hxx hyy h581 h582
            go_wp2_with fail
            go_round
            case rel => exact ⟨(k : Int) - 1, by go_num, by omega, by omega, by rw [show ((k : Int) - 1 + 1).toNat = k by omega, ← HT.out, hR.out]⟩
            case measure => simp [intOf]; omega
        · have c1 : ((x : Int) == 58) = false := by simp; omega
          have hR : Hid (T = T1) := by show _ = _; rw [hs1, if_neg (fun h => hxx (h581.2 h.1))]
          clear hs1 hxx h581 h582
          go_wp2_with fail
          go_round
          case rel => exact ⟨(k : Int) - 1, by go_num, by omega, by omega, by rw [show ((k : Int) - 1 + 1).toNat = k by omega, ← HT.out, hR.out]⟩
          case measure => simp [intOf]; omega
      · rw [show (i0 + 1).toNat = 0 by omega, hat.out]
        have hi0n : ¬ (0 : Int) ≤ i0 := hi0
        clear hi0 hi1 hi2 hgb hst hen h58 hat
        have Z4 := (Z3.alloc (.cells #[] 9)).alloc (.cells #[] 9)
        have PX : Hid (Ps ((w3.alloc (.cells #[] 9)).alloc (.cells #[] 9)) w3.heap.size X) := ⟨by simp; omega, fun j p hj => by rw [hX] at hj; simp at hj⟩
        clear Z3
        go_wp2_with (first
          | (go_at_call 73; (with_reducible refine (HY.out _).mono ?_); (rintro e wy ⟨gy, cy, rfl, hps, hb⟩; have Z6' := Z4.step hb; have PY2 : Hid (Ps wy gy Y) := hps; have PX2 : Hid (Ps wy w3.heap.size X) := PX.out.kept8 hb; clear hps hb))
          | (go_at_call 74; (with_reducible refine (HRX.out _ _ _ PX2.out).mono ?_); (rintro e w7 ⟨⟨A1, c1, rfl, hH1, hA1⟩, hb⟩; have Z7 := Z6'.step hb; have PY7 := PY2.out.kept8 hb; have HH1 := Lib.hid hH1; have GA1 := aft6 Z6'.b4 hA1; clear hH1 hA1; clear hb))
          | (go_at_call 74; (with_reducible refine (HRY.out _ _ _ PY7).mono ?_); (rintro e w8 ⟨rfl, hb⟩; have Z8 := Z7.step hb; have HH8 := Lib.hid (HH1.out.kept8 hb); clear hb))
          | ((with_reducible show wpList _ _ _ (⟨some 95, .load 62 (.tmp 4), _, _, _, _⟩ :: _) _ _); refine wp_get _ rfl 62 (.tmp 4) rfl g4 0 (vhs zero8) _ rfl Z8.b4.whole Tryz.underlying62 rfl (size38' zero8 rfl) ?_; simp only [Act.put, List.setIfInBounds_toArray, List.set_cons_zero, List.set_cons_succ])
          | ((with_reducible show wpList _ _ _ (⟨none, .store 62 (.tmp 2) (.tmp 95), _, _, _, _⟩ :: _) _ _); refine wp_putAll _ rfl 62 (.tmp 2) (.tmp 95) rfl g2 62 _ (vhs zero8) rfl rfl Z8.b2 rfl (size38' zero8 rfl) (Hs_one _) ?_; intro w9 B9 U9; simp only [Act.put]; have Z9 := Z8.set2 B9 U9; clear B9 U9))
        refine ret_cell2 2 3 62 rfl g2 (vhs zero8) _ rfl Z9.b2.whole Tryz.underlying62 rfl (size38' zero8 rfl) rfl (.int .i64 7) rfl ⟨rfl, Z9.kp⟩
set_option maxHeartbeats 8000000 in
set_option maxRecDepth 100000 in
theorem r6_B01_F (l lx ly : List UInt8) (X Y : List (List UInt8)) (xs ys : List Nat) (S nx ny p q n j : Nat) (w : World) (hS : S = l.length) (hS2 : S ≤ 100000000) (hat : Hid (atI l 0 = (j : Int))) (hj : j ≤ S) (hj0 : ¬ (0 : Int) < (j : Int)) (j2 : Nat) (hj2 : (j : Int) + 2 = (j2 : Int)) (hj3 : (j2 : Int) < (S : Int)) (ty : (str l).extract j2 S = str ly) (hX : X = []) (HY : Hid (∀ W, Calls Tryz.prog 73 #[.string (str ly), .int .u8 58] W fun e w' => ∃ g c, e = .returned (.slice (some ⟨g, 0, none⟩) ny c) ∧ Ps w' g Y ∧ Below W.heap.size W w')) (HRX : Hid (∀ g c W, Ps W g X → Calls Tryz.prog 74 #[.slice (some ⟨g, 0, none⟩) 0 c, .bool false] W fun e w' => (∃ A c, e = .returned (.tuple #[.slice A p c, .bool true]) ∧ Hs w' w'.heap.size A p xs ∧ ∀ b off, A = some ⟨b, off, none⟩ → W.heap.size ≤ b) ∧ Below W.heap.size W w')) (HRY : Hid (∀ g c W, Ps W g Y → Calls Tryz.prog 74 #[.slice (some ⟨g, 0, none⟩) ny c, .bool true] W fun e w' => (∃ A c, e = .returned (.tuple #[.slice A q c, .bool true]) ∧ Hs w' w'.heap.size A q ys ∧ ∀ b off, A = some ⟨b, off, none⟩ → W.heap.size ≤ b) ∧ Below W.heap.size W w')) (hn : (p : Int) + (q : Int) = (n : Int)) (hn9 : n ≤ 300000000) (hc : (7 : Int) < (n : Int)) : Calls Tryz.prog 48 #[.string (str l)] w fun e w' => e = .returned (ip6V none) ∧ Below w.heap.size w w' := by
    have hsz := str_size l
    have hgb : Hid (∀ k, k < S → ∀ h, ((str l)[k]'h).toNat = (l.getD k 0).toNat) := fun k hk h => str_at l k (by omega) h
    have hst : Hid (∀ k, k + 1 < S → atI l k = if l.getD k 0 = 58 ∧ l.getD (k + 1) 0 = 58 then (k : Int) else atI l (k + 1)) := fun k hk => atI_step l k (by omega)
    have hen : Hid (atI l (S - 1) = -1) := atI_end l (S - 1) (by omega)
    have h58 : Hid (∀ k, (l.getD k 0).toNat = 58 ↔ l.getD k 0 = 58) := fun k => ⟨fun h => UInt8.toNat.inj h, fun h => by rw [h]; rfl⟩
    rw [← hS] at hsz
    clear hS
    go_enter Tryz.func48, Tryz.ntmps48
    go_wp2_with (first
      | ((with_reducible show wpList _ _ _ (⟨some 2, .alloc _, _, _, _, _⟩ :: _) _ _); refine wp_new _ rfl 62 rfl _ type38 ?_; intro w1 g2 B2 F2; simp only [Act.put, List.setIfInBounds_toArray, List.set_cons_zero, List.set_cons_succ])
      | ((with_reducible show wpList _ _ _ (⟨some 16, .build _ _, _, _, _, _⟩ :: _) _ _); refine wp_build0 _ rfl 62 rfl _ (build38 _) ?_; simp only [Act.put, List.setIfInBounds_toArray, List.set_cons_zero, List.set_cons_succ])
      | ((with_reducible show wpList _ _ _ (⟨some 4, .alloc _, _, _, _, _⟩ :: _) _ _); refine wp_new _ rfl 62 rfl _ type38 ?_; intro w2 g4 B4 F4; simp only [Act.put, List.setIfInBounds_toArray, List.set_cons_zero, List.set_cons_succ])
      | ((with_reducible show wpList _ _ _ (⟨none, .store 62 (.tmp 4) (.tmp 16), _, _, _, _⟩ :: _) _ _); refine wp_putAll _ rfl 62 (.tmp 4) (.tmp 16) rfl g4 62 _ (vhs zero8) rfl rfl B4 rfl (size38' zero8 rfl) (Hs_one _) ?_; intro w3 B3 U3; simp only [Act.put]))
    have Z3 : Z6 w w3 g2 g4 (vhs zero8) (vhs zero8) := ⟨(F4.blk B2).upd U3 (by have := B2.lt; rw [F4.is]; omega), B3, ((show Kept w w1 from F2.below).step F4.below).base (U3.below (by have := F2.below.size; have := F2.is; have := F4.is; omega)), by rw [F2.is]; exact Nat.le_refl _, by have := B2.lt; rw [F4.is]; exact this⟩
    clear B2 F2 B4 F4 B3 U3
    go_loop [6, 5] (fun i a => ∃ i0 : Int, i = .int .i64 i0 ∧ -2 ≤ i0 ∧ i0 + 2 ≤ (S : Int) ∧ a = .int .i64 (atI l (i0 + 1).toNat)) (fun i _ => (intOf i + 2).toNat)
    case atStart => exact ⟨(S : Int) - 2, by go_num, by omega, by omega, by rw [show ((S : Int) - 2 + 1).toNat = S - 1 by omega, hen.out]⟩
    case round =>
      obtain ⟨i0, rfl, hi1, hi2, rfl⟩ := hrel
      by_cases hi0 : 0 ≤ i0
      · obtain ⟨k, rfl⟩ := Int.eq_ofNat_of_zero_le hi0
        obtain ⟨k1, hk1⟩ : ∃ k1, k1 = k + 1 := ⟨_, rfl⟩
        have hk1i : (k : Int) + 1 = (k1 : Int) := by omega
        have hks : k < S := by omega
        have hk1s : k1 < S := by omega
        have HG1 := hgb.out k hks
        have HG2 := hgb.out k1 hk1s
        have hs1 := hst.out k (by omega)
        have h581 := h58.out k
        have h582 := h58.out k1
        rw [show ((k : Int) + 1).toNat = k1 by omega]
        rw [← hk1] at hs1
        obtain ⟨x, hx⟩ : ∃ x, x = (l.getD k 0).toNat := ⟨_, rfl⟩
        obtain ⟨y, hy⟩ : ∃ y, y = (l.getD k1 0).toNat := ⟨_, rfl⟩
        rw [← hx] at HG1 h581
        rw [← hy] at HG2 h582
        obtain ⟨T, hT⟩ : ∃ T, T = atI l k := ⟨_, rfl⟩
        obtain ⟨T1, hT1⟩ : ∃ T, T = atI l k1 := ⟨_, rfl⟩
        rw [← hT1]
        rw [← hT, ← hT1] at hs1
        have HT : Hid (T = atI l k) := hT
        clear hx hy hT hT1 hk1 hi1 hi0
        by_cases hxx : x = 58
        · have c1 : ((x : Int) == 58) = true := by simp [hxx]
          by_cases hyy : y = 58
          · have c2 : ((y : Int) == 58) = true := by simp [hyy]
            have hR : Hid (T = (k : Int)) := by show _ = _; rw [hs1, if_pos ⟨h581.1 hxx, h582.1 hyy⟩]
            clear hs1 hxx hyy h581 h582
            go_wp2_with fail
            go_round
            case rel => exact ⟨(k : Int) - 1, by go_num, by omega, by omega, by rw [show ((k : Int) - 1 + 1).toNat = k by omega, ← HT.out, hR.out]⟩
            case measure => simp [intOf]; omega
          · have c2 : ((y : Int) == 58) = false := by simp; omega
            have hR : Hid (T = T1) := by show _ = _; rw [hs1, if_neg (fun h => hyy (h582.2 h.2))]
            clear hs1 hxx hyy h581 h582
            go_wp2_with fail
            go_round
            case rel => exact ⟨(k : Int) - 1, by go_num, by omega, by omega, by rw [show ((k : Int) - 1 + 1).toNat = k by omega, ← HT.out, hR.out]⟩
            case measure => simp [intOf]; omega
        · have c1 : ((x : Int) == 58) = false := by simp; omega
          have hR : Hid (T = T1) := by show _ = _; rw [hs1, if_neg (fun h => hxx (h581.2 h.1))]
          clear hs1 hxx h581 h582
          go_wp2_with fail
          go_round
          case rel => exact ⟨(k : Int) - 1, by go_num, by omega, by omega, by rw [show ((k : Int) - 1 + 1).toNat = k by omega, ← HT.out, hR.out]⟩
          case measure => simp [intOf]; omega
      · rw [show (i0 + 1).toNat = 0 by omega, hat.out]
        have hi0n : ¬ (0 : Int) ≤ i0 := hi0
        clear hi0 hi1 hi2 hgb hst hen h58 hat
        have Z4 := (Z3.alloc (.cells #[] 9)).alloc (.cells #[] 9)
        have PX : Hid (Ps ((w3.alloc (.cells #[] 9)).alloc (.cells #[] 9)) w3.heap.size X) := ⟨by simp; omega, fun j p hj => by rw [hX] at hj; simp at hj⟩
        clear Z3
        go_wp2_with (first
          | (go_at_call 73; (with_reducible refine (HY.out _).mono ?_); (rintro e wy ⟨gy, cy, rfl, hps, hb⟩; have Z6' := Z4.step hb; have PY2 : Hid (Ps wy gy Y) := hps; have PX2 : Hid (Ps wy w3.heap.size X) := PX.out.kept8 hb; clear hps hb))
          | (go_at_call 74; (with_reducible refine (HRX.out _ _ _ PX2.out).mono ?_); (rintro e w7 ⟨⟨A1, c1, rfl, hH1, hA1⟩, hb⟩; have Z7 := Z6'.step hb; have PY7 := PY2.out.kept8 hb; have HH1 := Lib.hid hH1; have GA1 := aft6 Z6'.b4 hA1; clear hH1 hA1; clear hb))
          | (go_at_call 74; (with_reducible refine (HRY.out _ _ _ PY7).mono ?_); (rintro e w8 ⟨⟨A2, c2, rfl, hH2, hA2⟩, hb⟩; have Z8 := Z7.step hb; have HH8 := Lib.hid (HH1.out.kept8 hb); have HH2 := Lib.hid hH2; have GA2 := aft6 Z7.b4 hA2; clear hH2 hA2; clear hb))
          | ((with_reducible show wpList _ _ _ (⟨some 95, .load 62 (.tmp 4), _, _, _, _⟩ :: _) _ _); refine wp_get _ rfl 62 (.tmp 4) rfl g4 0 (vhs zero8) _ rfl Z8.b4.whole Tryz.underlying62 rfl (size38' zero8 rfl) ?_; simp only [Act.put, List.setIfInBounds_toArray, List.set_cons_zero, List.set_cons_succ])
          | ((with_reducible show wpList _ _ _ (⟨none, .store 62 (.tmp 2) (.tmp 95), _, _, _, _⟩ :: _) _ _); refine wp_putAll _ rfl 62 (.tmp 2) (.tmp 95) rfl g2 62 _ (vhs zero8) rfl rfl Z8.b2 rfl (size38' zero8 rfl) (Hs_one _) ?_; intro w9 B9 U9; simp only [Act.put]; have Z9 := Z8.set2 B9 U9; clear B9 U9))
        refine ret_cell2 2 3 62 rfl g2 (vhs zero8) _ rfl Z9.b2.whole Tryz.underlying62 rfl (size38' zero8 rfl) rfl (.int .i64 7) rfl ⟨rfl, Z9.kp⟩
set_option maxHeartbeats 8000000 in
set_option maxRecDepth 100000 in
theorem r6_B01_O (l lx ly : List UInt8) (X Y : List (List UInt8)) (xs ys : List Nat) (S nx ny p q n j : Nat) (w : World) (hS : S = l.length) (hS2 : S ≤ 100000000) (hat : Hid (atI l 0 = (j : Int))) (hj : j ≤ S) (hj0 : ¬ (0 : Int) < (j : Int)) (j2 : Nat) (hj2 : (j : Int) + 2 = (j2 : Int)) (hj3 : (j2 : Int) < (S : Int)) (ty : (str l).extract j2 S = str ly) (hX : X = []) (HY : Hid (∀ W, Calls Tryz.prog 73 #[.string (str ly), .int .u8 58] W fun e w' => ∃ g c, e = .returned (.slice (some ⟨g, 0, none⟩) ny c) ∧ Ps w' g Y ∧ Below W.heap.size W w')) (HRX : Hid (∀ g c W, Ps W g X → Calls Tryz.prog 74 #[.slice (some ⟨g, 0, none⟩) 0 c, .bool false] W fun e w' => (∃ A c, e = .returned (.tuple #[.slice A p c, .bool true]) ∧ Hs w' w'.heap.size A p xs ∧ ∀ b off, A = some ⟨b, off, none⟩ → W.heap.size ≤ b) ∧ Below W.heap.size W w')) (HRY : Hid (∀ g c W, Ps W g Y → Calls Tryz.prog 74 #[.slice (some ⟨g, 0, none⟩) ny c, .bool true] W fun e w' => (∃ A c, e = .returned (.tuple #[.slice A q c, .bool true]) ∧ Hs w' w'.heap.size A q ys ∧ ∀ b off, A = some ⟨b, off, none⟩ → W.heap.size ≤ b) ∧ Below W.heap.size W w')) (hn : (p : Int) + (q : Int) = (n : Int)) (hn9 : n ≤ 300000000) (hc : ¬ (7 : Int) < (n : Int)) (hpq : p + q ≤ 8) (hxl : xs.length = p) (hyl : ys.length = q) (FF : List Nat) (hFF : Hid (xs ++ List.replicate (8 - p - q) 0 ++ ys = FF)) : Calls Tryz.prog 48 #[.string (str l)] w fun e w' => e = .returned (ip6V (some FF)) ∧ Below w.heap.size w w' := by
    have hsz := str_size l
    have hgb : Hid (∀ k, k < S → ∀ h, ((str l)[k]'h).toNat = (l.getD k 0).toNat) := fun k hk h => str_at l k (by omega) h
    have hst : Hid (∀ k, k + 1 < S → atI l k = if l.getD k 0 = 58 ∧ l.getD (k + 1) 0 = 58 then (k : Int) else atI l (k + 1)) := fun k hk => atI_step l k (by omega)
    have hen : Hid (atI l (S - 1) = -1) := atI_end l (S - 1) (by omega)
    have h58 : Hid (∀ k, (l.getD k 0).toNat = 58 ↔ l.getD k 0 = 58) := fun k => ⟨fun h => UInt8.toNat.inj h, fun h => by rw [h]; rfl⟩
    rw [← hS] at hsz
    clear hS
    go_enter Tryz.func48, Tryz.ntmps48
    go_wp2_with (first
      | ((with_reducible show wpList _ _ _ (⟨some 2, .alloc _, _, _, _, _⟩ :: _) _ _); refine wp_new _ rfl 62 rfl _ type38 ?_; intro w1 g2 B2 F2; simp only [Act.put, List.setIfInBounds_toArray, List.set_cons_zero, List.set_cons_succ])
      | ((with_reducible show wpList _ _ _ (⟨some 16, .build _ _, _, _, _, _⟩ :: _) _ _); refine wp_build0 _ rfl 62 rfl _ (build38 _) ?_; simp only [Act.put, List.setIfInBounds_toArray, List.set_cons_zero, List.set_cons_succ])
      | ((with_reducible show wpList _ _ _ (⟨some 4, .alloc _, _, _, _, _⟩ :: _) _ _); refine wp_new _ rfl 62 rfl _ type38 ?_; intro w2 g4 B4 F4; simp only [Act.put, List.setIfInBounds_toArray, List.set_cons_zero, List.set_cons_succ])
      | ((with_reducible show wpList _ _ _ (⟨none, .store 62 (.tmp 4) (.tmp 16), _, _, _, _⟩ :: _) _ _); refine wp_putAll _ rfl 62 (.tmp 4) (.tmp 16) rfl g4 62 _ (vhs zero8) rfl rfl B4 rfl (size38' zero8 rfl) (Hs_one _) ?_; intro w3 B3 U3; simp only [Act.put]))
    have Z3 : Z6 w w3 g2 g4 (vhs zero8) (vhs zero8) := ⟨(F4.blk B2).upd U3 (by have := B2.lt; rw [F4.is]; omega), B3, ((show Kept w w1 from F2.below).step F4.below).base (U3.below (by have := F2.below.size; have := F2.is; have := F4.is; omega)), by rw [F2.is]; exact Nat.le_refl _, by have := B2.lt; rw [F4.is]; exact this⟩
    clear B2 F2 B4 F4 B3 U3
    go_loop [6, 5] (fun i a => ∃ i0 : Int, i = .int .i64 i0 ∧ -2 ≤ i0 ∧ i0 + 2 ≤ (S : Int) ∧ a = .int .i64 (atI l (i0 + 1).toNat)) (fun i _ => (intOf i + 2).toNat)
    case atStart => exact ⟨(S : Int) - 2, by go_num, by omega, by omega, by rw [show ((S : Int) - 2 + 1).toNat = S - 1 by omega, hen.out]⟩
    case round =>
      obtain ⟨i0, rfl, hi1, hi2, rfl⟩ := hrel
      by_cases hi0 : 0 ≤ i0
      · obtain ⟨k, rfl⟩ := Int.eq_ofNat_of_zero_le hi0
        obtain ⟨k1, hk1⟩ : ∃ k1, k1 = k + 1 := ⟨_, rfl⟩
        have hk1i : (k : Int) + 1 = (k1 : Int) := by omega
        have hks : k < S := by omega
        have hk1s : k1 < S := by omega
        have HG1 := hgb.out k hks
        have HG2 := hgb.out k1 hk1s
        have hs1 := hst.out k (by omega)
        have h581 := h58.out k
        have h582 := h58.out k1
        rw [show ((k : Int) + 1).toNat = k1 by omega]
        rw [← hk1] at hs1
        obtain ⟨x, hx⟩ : ∃ x, x = (l.getD k 0).toNat := ⟨_, rfl⟩
        obtain ⟨y, hy⟩ : ∃ y, y = (l.getD k1 0).toNat := ⟨_, rfl⟩
        rw [← hx] at HG1 h581
        rw [← hy] at HG2 h582
        obtain ⟨T, hT⟩ : ∃ T, T = atI l k := ⟨_, rfl⟩
        obtain ⟨T1, hT1⟩ : ∃ T, T = atI l k1 := ⟨_, rfl⟩
        rw [← hT1]
        rw [← hT, ← hT1] at hs1
        have HT : Hid (T = atI l k) := hT
        clear hx hy hT hT1 hk1 hi1 hi0
        by_cases hxx : x = 58
        · have c1 : ((x : Int) == 58) = true := by simp [hxx]
          by_cases hyy : y = 58
          · have c2 : ((y : Int) == 58) = true := by simp [hyy]
            have hR : Hid (T = (k : Int)) := by show _ = _; rw [hs1, if_pos ⟨h581.1 hxx, h582.1 hyy⟩]
            clear hs1 hxx hyy h581 h582
            go_wp2_with fail
            go_round
            case rel => exact ⟨(k : Int) - 1, by go_num, by omega, by omega, by rw [show ((k : Int) - 1 + 1).toNat = k by omega, ← HT.out, hR.out]⟩
            case measure => simp [intOf]; omega
          · have c2 : ((y : Int) == 58) = false := by simp; omega
            have hR : Hid (T = T1) := by show _ = _; rw [hs1, if_neg (fun h => hyy (h582.2 h.2))]
            clear hs1 hxx hyy h581 h582
            go_wp2_with fail
            go_round
            case rel => exact ⟨(k : Int) - 1, by go_num, by omega, by omega, by rw [show ((k : Int) - 1 + 1).toNat = k by omega, ← HT.out, hR.out]⟩
            case measure => simp [intOf]; omega
        · have c1 : ((x : Int) == 58) = false := by simp; omega
          have hR : Hid (T = T1) := by show _ = _; rw [hs1, if_neg (fun h => hxx (h581.2 h.1))]
          clear hs1 hxx h581 h582
          go_wp2_with fail
          go_round
          case rel => exact ⟨(k : Int) - 1, by go_num, by omega, by omega, by rw [show ((k : Int) - 1 + 1).toNat = k by omega, ← HT.out, hR.out]⟩
          case measure => simp [intOf]; omega
      · rw [show (i0 + 1).toNat = 0 by omega, hat.out]
        have hi0n : ¬ (0 : Int) ≤ i0 := hi0
        clear hi0 hi1 hi2 hgb hst hen h58 hat
        have Z4 := (Z3.alloc (.cells #[] 9)).alloc (.cells #[] 9)
        have PX : Hid (Ps ((w3.alloc (.cells #[] 9)).alloc (.cells #[] 9)) w3.heap.size X) := ⟨by simp; omega, fun j p hj => by rw [hX] at hj; simp at hj⟩
        clear Z3
        go_wp2_with (first
          | (go_at_call 73; (with_reducible refine (HY.out _).mono ?_); (rintro e wy ⟨gy, cy, rfl, hps, hb⟩; have Z6' := Z4.step hb; have PY2 : Hid (Ps wy gy Y) := hps; have PX2 : Hid (Ps wy w3.heap.size X) := PX.out.kept8 hb; clear hps hb))
          | (go_at_call 74; (with_reducible refine (HRX.out _ _ _ PX2.out).mono ?_); (rintro e w7 ⟨⟨A1, c1, rfl, hH1, hA1⟩, hb⟩; have Z7 := Z6'.step hb; have PY7 := PY2.out.kept8 hb; have HH1 := Lib.hid hH1; have GA1 := aft6 Z6'.b4 hA1; clear hH1 hA1; clear hb))
          | (go_at_call 74; (with_reducible refine (HRY.out _ _ _ PY7).mono ?_); (rintro e w8 ⟨⟨A2, c2, rfl, hH2, hA2⟩, hb⟩; have Z8 := Z7.step hb; have HH8 := Lib.hid (HH1.out.kept8 hb); have HH2 := Lib.hid hH2; have GA2 := aft6 Z7.b4 hA2; clear hH2 hA2; clear hb)))
        have HA1 := Lib.hid (And.intro hxl hyl)
        clear hxl hyl
        go_loopw [14] (fun i wr => ∃ k : Nat, k ≤ p ∧ i = .int .i64 (k : Int) ∧ Z6 w wr g2 g4 (vhs zero8) (vhs (xs.take k ++ List.replicate (8 - k) 0)) ∧ Hs wr wr.heap.size A1 p xs ∧ Hs wr wr.heap.size A2 q ys) (fun i _ => p - (intOf i).toNat)
        case atStart => exact ⟨0, by omega, rfl, Z8, HH8.out, HH2.out⟩
        case round =>
          obtain ⟨k, hk, rfl, Z9, hh1, hh2⟩ := hrel
          clear Z8 HH8 HH2
          have HE1 := Lib.hid hh1
          have HE2 := Lib.hid hh2
          have HZ9 := Lib.hid Z9
          clear hh1 hh2 Z9
          by_cases hlt : k < p
          · have hkp : (k : Int) < (p : Int) := by omega
            have hk8 : k < 8 := by omega
            obtain ⟨b, off, hA, hbl, hcell⟩ := HE1.out.at_ hlt
            unfold vh at hcell
            have hfl := fill1 xs k (by rw [HA1.out.1]; exact hlt) hk8
            have hlen : Hid (k < (vhs (xs.take k ++ List.replicate (8 - k) 0)).length) := by show _ < _; rw [Hs_len, List.length_append, List.length_replicate, List.length_take, HA1.out.1]; omega
            have hset := vhs_set (xs.take k ++ List.replicate (8 - k) 0) k (xs.getD k 0)
            rw [hfl] at hset
            obtain ⟨x, hx⟩ : ∃ x, x = xs.getD k 0 := ⟨_, rfl⟩
            rw [← hx] at hcell hset
            have HSt := Lib.hid hset
            clear hfl hset hx
            subst hA
            go_wp2_with (first
              | ((with_reducible show wpList _ _ _ (⟨none, .store 61 (.tmp 107) (.tmp 106), _, _, _, _⟩ :: _) _ _); refine wp_set _ rfl 61 (.tmp 107) (.tmp 106) rfl g4 k 62 _ (.int .u16 (x : Int)) rfl rfl rfl rfl HZ9.out.b4 hlen.out size37 ?_; intro w10 B10 U10; simp only [Act.put]))
            rw [HSt.out] at B10
            go_roundw
            case rel => exact ⟨k + 1, by omega, by go_num, HZ9.out.set4 B10 U10, HE1.out.upd8 U10 GA1.out, HE2.out.upd8 U10 GA2.out⟩
            case measure => simp [intOf]; omega
          · have hkp : ¬ (k : Int) < (p : Int) := by omega
            obtain rfl : k = p := by omega
            have hf3 := fill3 xs ys k q HA1.out.1 hpq
            have HZ10 : Hid (Z6 w wr g2 g4 (vhs zero8) (vhs (xs ++ List.replicate (8 - k - q) 0 ++ ys.take 0 ++ List.replicate (q - 0) 0))) := by show Z6 _ _ _ _ _ _; rw [← hf3]; exact HZ9.out
            clear hf3 HZ9 hlt hk
            go_wp2_with fail
            go_loopw [15] (fun i wr => ∃ m : Nat, m ≤ q ∧ i = .int .i64 (m : Int) ∧ Z6 w wr g2 g4 (vhs zero8) (vhs (xs ++ List.replicate (8 - k - q) 0 ++ ys.take m ++ List.replicate (q - m) 0)) ∧ Hs wr wr.heap.size A2 q ys) (fun i _ => q - (intOf i).toNat)
            case atStart => exact ⟨0, by omega, rfl, HZ10.out, HE2.out⟩
            case round =>
              obtain ⟨m, hm, rfl, Z11, hh2⟩ := hrel
              clear HZ10 HE1 HE2
              have HE3 := Lib.hid hh2
              have HZ11 := Lib.hid Z11
              clear hh2 Z11
              by_cases hlt : m < q
              · have hmq : (m : Int) < (q : Int) := by omega
                obtain ⟨b, off, hA, hbl, hcell⟩ := HE3.out.at_ hlt
                unfold vh at hcell
                have hfl := fill2 xs ys k q m HA1.out.1 HA1.out.2 hpq hlt
                have hlen : Hid (8 - q + m < (vhs (xs ++ List.replicate (8 - k - q) 0 ++ ys.take m ++ List.replicate (q - m) 0)).length) := by
                  show _ < _
                  rw [Hs_len, List.length_append, List.length_append, List.length_append, List.length_replicate, List.length_replicate, List.length_take, HA1.out.1, HA1.out.2]
                  omega
                have hset := vhs_set (xs ++ List.replicate (8 - k - q) 0 ++ ys.take m ++ List.replicate (q - m) 0) (8 - q + m) (ys.getD m 0)
                rw [hfl] at hset
                obtain ⟨x, hx⟩ : ∃ x, x = ys.getD m 0 := ⟨_, rfl⟩
                rw [← hx] at hcell hset
                obtain ⟨e1, he1⟩ : ∃ e1, e1 = 8 - q := ⟨_, rfl⟩
                obtain ⟨e2, he2⟩ : ∃ e2, e2 = 8 - q + m := ⟨_, rfl⟩
                rw [← he2] at hset hlen
                have hq1 : (8 : Int) - (q : Int) = (e1 : Int) := by omega
                have hq2 : (e1 : Int) + (m : Int) = (e2 : Int) := by omega
                have he8 : e2 < 8 := by omega
                have HSt := Lib.hid hset
                clear hfl hset hx he1 he2
                subst hA
                go_wp2_with (first
                  | ((with_reducible show wpList _ _ _ (⟨none, .store 61 (.tmp 123) (.tmp 122), _, _, _, _⟩ :: _) _ _); refine wp_set _ rfl 61 (.tmp 123) (.tmp 122) rfl g4 e2 62 _ (.int .u16 (x : Int)) rfl rfl rfl rfl HZ11.out.b4 hlen.out size37 ?_; intro w12 B12 U12; simp only [Act.put]))
                rw [HSt.out] at B12
                go_roundw
                case rel => exact ⟨m + 1, by omega, by go_num, HZ11.out.set4 B12 U12, HE3.out.upd8 U12 GA2.out⟩
                case measure => simp [intOf]; omega
              · have hmq : ¬ (m : Int) < (q : Int) := by omega
                obtain rfl : m = q := by omega
                have hF : Hid (xs ++ List.replicate (8 - k - m) 0 ++ ys.take m ++ List.replicate (m - m) 0 = xs ++ List.replicate (8 - k - m) 0 ++ ys) := by
                  show _ = _
                  rw [Nat.sub_self, ← HA1.out.2, List.take_length]
                  simp
                have HZ12 : Hid (Z6 w wr g2 g4 (vhs zero8) (vhs FF)) := by show Z6 _ _ _ _ _ _; rw [← hFF.out, ← hF.out]; exact HZ11.out
                have hFl : FF.length = 8 := by
                  rw [← hFF.out, List.length_append, List.length_append, List.length_replicate, HA1.out.1, HA1.out.2]
                  omega
                clear hFF
                have HFl := Lib.hid hFl
                clear hF HZ11 hlt hm hFl
                go_wp2_with (first
                  | ((with_reducible show wpList _ _ _ (⟨some 124, .load 62 (.tmp 4), _, _, _, _⟩ :: _) _ _); refine wp_get _ rfl 62 (.tmp 4) rfl g4 0 (vhs FF) _ rfl HZ12.out.b4.whole Tryz.underlying62 rfl (size38' FF HFl.out) ?_; simp only [Act.put, List.setIfInBounds_toArray, List.set_cons_zero, List.set_cons_succ])
                  | ((with_reducible show wpList _ _ _ (⟨none, .store 62 (.tmp 2) (.tmp 124), _, _, _, _⟩ :: _) _ _); refine wp_putAll _ rfl 62 (.tmp 2) (.tmp 124) rfl g2 62 _ (vhs FF) rfl rfl HZ12.out.b2 (by rw [Hs_len, Hs_len, HFl.out]; rfl) (size38' FF HFl.out) (Hs_one _) ?_; intro w13 B13 U13; simp only [Act.put]; have Z13 := HZ12.out.set2 B13 U13; clear B13 U13))
                refine ret_cell2 2 3 62 rfl g2 (vhs FF) _ rfl Z13.b2.whole Tryz.underlying62 rfl (size38' FF HFl.out) rfl (.int .i64 0) rfl ⟨rfl, Z13.kp⟩
set_option maxHeartbeats 8000000 in
set_option maxRecDepth 100000 in
theorem r6_B10_N2 (l lx ly : List UInt8) (X Y : List (List UInt8)) (xs ys : List Nat) (S nx ny p q n j : Nat) (w : World) (hS : S = l.length) (hS2 : S ≤ 100000000) (hat : Hid (atI l 0 = (j : Int))) (hj : j ≤ S) (hj0 : (0 : Int) < (j : Int)) (tx : (str l).extract 0 j = str lx) (j2 : Nat) (hj2 : (j : Int) + 2 = (j2 : Int)) (hj3 : ¬ (j2 : Int) < (S : Int)) (HX : Hid (∀ W, Calls Tryz.prog 73 #[.string (str lx), .int .u8 58] W fun e w' => ∃ g c, e = .returned (.slice (some ⟨g, 0, none⟩) nx c) ∧ Ps w' g X ∧ Below W.heap.size W w')) (hY : Y = []) (HRX : Hid (∀ g c W, Ps W g X → Calls Tryz.prog 74 #[.slice (some ⟨g, 0, none⟩) nx c, .bool false] W fun e w' => (e = .returned (.tuple #[.slice none 0 0, .bool false])) ∧ Below W.heap.size W w')) (HRY : Hid (∀ g c W, Ps W g Y → Calls Tryz.prog 74 #[.slice (some ⟨g, 0, none⟩) 0 c, .bool true] W fun e w' => (∃ A c, e = .returned (.tuple #[.slice A q c, .bool true]) ∧ Hs w' w'.heap.size A q ys ∧ ∀ b off, A = some ⟨b, off, none⟩ → W.heap.size ≤ b) ∧ Below W.heap.size W w')) : Calls Tryz.prog 48 #[.string (str l)] w fun e w' => e = .returned (ip6V none) ∧ Below w.heap.size w w' := by
    have hsz := str_size l
    have hgb : Hid (∀ k, k < S → ∀ h, ((str l)[k]'h).toNat = (l.getD k 0).toNat) := fun k hk h => str_at l k (by omega) h
    have hst : Hid (∀ k, k + 1 < S → atI l k = if l.getD k 0 = 58 ∧ l.getD (k + 1) 0 = 58 then (k : Int) else atI l (k + 1)) := fun k hk => atI_step l k (by omega)
    have hen : Hid (atI l (S - 1) = -1) := atI_end l (S - 1) (by omega)
    have h58 : Hid (∀ k, (l.getD k 0).toNat = 58 ↔ l.getD k 0 = 58) := fun k => ⟨fun h => UInt8.toNat.inj h, fun h => by rw [h]; rfl⟩
    rw [← hS] at hsz
    clear hS
    go_enter Tryz.func48, Tryz.ntmps48
    go_wp2_with (first
      | ((with_reducible show wpList _ _ _ (⟨some 2, .alloc _, _, _, _, _⟩ :: _) _ _); refine wp_new _ rfl 62 rfl _ type38 ?_; intro w1 g2 B2 F2; simp only [Act.put, List.setIfInBounds_toArray, List.set_cons_zero, List.set_cons_succ])
      | ((with_reducible show wpList _ _ _ (⟨some 16, .build _ _, _, _, _, _⟩ :: _) _ _); refine wp_build0 _ rfl 62 rfl _ (build38 _) ?_; simp only [Act.put, List.setIfInBounds_toArray, List.set_cons_zero, List.set_cons_succ])
      | ((with_reducible show wpList _ _ _ (⟨some 4, .alloc _, _, _, _, _⟩ :: _) _ _); refine wp_new _ rfl 62 rfl _ type38 ?_; intro w2 g4 B4 F4; simp only [Act.put, List.setIfInBounds_toArray, List.set_cons_zero, List.set_cons_succ])
      | ((with_reducible show wpList _ _ _ (⟨none, .store 62 (.tmp 4) (.tmp 16), _, _, _, _⟩ :: _) _ _); refine wp_putAll _ rfl 62 (.tmp 4) (.tmp 16) rfl g4 62 _ (vhs zero8) rfl rfl B4 rfl (size38' zero8 rfl) (Hs_one _) ?_; intro w3 B3 U3; simp only [Act.put]))
    have Z3 : Z6 w w3 g2 g4 (vhs zero8) (vhs zero8) := ⟨(F4.blk B2).upd U3 (by have := B2.lt; rw [F4.is]; omega), B3, ((show Kept w w1 from F2.below).step F4.below).base (U3.below (by have := F2.below.size; have := F2.is; have := F4.is; omega)), by rw [F2.is]; exact Nat.le_refl _, by have := B2.lt; rw [F4.is]; exact this⟩
    clear B2 F2 B4 F4 B3 U3
    go_loop [6, 5] (fun i a => ∃ i0 : Int, i = .int .i64 i0 ∧ -2 ≤ i0 ∧ i0 + 2 ≤ (S : Int) ∧ a = .int .i64 (atI l (i0 + 1).toNat)) (fun i _ => (intOf i + 2).toNat)
    case atStart => exact ⟨(S : Int) - 2, by go_num, by omega, by omega, by rw [show ((S : Int) - 2 + 1).toNat = S - 1 by omega, hen.out]⟩
    case round =>
      obtain ⟨i0, rfl, hi1, hi2, rfl⟩ := hrel
      by_cases hi0 : 0 ≤ i0
      · obtain ⟨k, rfl⟩ := Int.eq_ofNat_of_zero_le hi0
        obtain ⟨k1, hk1⟩ : ∃ k1, k1 = k + 1 := ⟨_, rfl⟩
        have hk1i : (k : Int) + 1 = (k1 : Int) := by omega
        have hks : k < S := by omega
        have hk1s : k1 < S := by omega
        have HG1 := hgb.out k hks
        have HG2 := hgb.out k1 hk1s
        have hs1 := hst.out k (by omega)
        have h581 := h58.out k
        have h582 := h58.out k1
        rw [show ((k : Int) + 1).toNat = k1 by omega]
        rw [← hk1] at hs1
        obtain ⟨x, hx⟩ : ∃ x, x = (l.getD k 0).toNat := ⟨_, rfl⟩
        obtain ⟨y, hy⟩ : ∃ y, y = (l.getD k1 0).toNat := ⟨_, rfl⟩
        rw [← hx] at HG1 h581
        rw [← hy] at HG2 h582
        obtain ⟨T, hT⟩ : ∃ T, T = atI l k := ⟨_, rfl⟩
        obtain ⟨T1, hT1⟩ : ∃ T, T = atI l k1 := ⟨_, rfl⟩
        rw [← hT1]
        rw [← hT, ← hT1] at hs1
        have HT : Hid (T = atI l k) := hT
        clear hx hy hT hT1 hk1 hi1 hi0
        by_cases hxx : x = 58
        · have c1 : ((x : Int) == 58) = true := by simp [hxx]
          by_cases hyy : y = 58
          · have c2 : ((y : Int) == 58) = true := by simp [hyy]
            have hR : Hid (T = (k : Int)) := by show _ = _; rw [hs1, if_pos ⟨h581.1 hxx, h582.1 hyy⟩]
            clear hs1 hxx hyy h581 h582
            go_wp2_with fail
            go_round
            case rel => exact ⟨(k : Int) - 1, by go_num, by omega, by omega, by rw [show ((k : Int) - 1 + 1).toNat = k by omega, ← HT.out, hR.out]⟩
            case measure => simp [intOf]; omega
          · have c2 : ((y : Int) == 58) = false := by simp; omega
            have hR : Hid (T = T1) := by show _ = _; rw [hs1, if_neg (fun h => hyy (h582.2 h.2))]
            clear hs1 hxx hyy h581 h582
            go_wp2_with fail
            go_round
            case rel => exact ⟨(k : Int) - 1, by go_num, by omega, by omega, by rw [show ((k : Int) - 1 + 1).toNat = k by omega, ← HT.out, hR.out]⟩
            case measure => simp [intOf]; omega
        · have c1 : ((x : Int) == 58) = false := by simp; omega
          have hR : Hid (T = T1) := by show _ = _; rw [hs1, if_neg (fun h => hxx (h581.2 h.1))]
          clear hs1 hxx h581 h582
          go_wp2_with fail
          go_round
          case rel => exact ⟨(k : Int) - 1, by go_num, by omega, by omega, by rw [show ((k : Int) - 1 + 1).toNat = k by omega, ← HT.out, hR.out]⟩
          case measure => simp [intOf]; omega
      · rw [show (i0 + 1).toNat = 0 by omega, hat.out]
        have hi0n : ¬ (0 : Int) ≤ i0 := hi0
        clear hi0 hi1 hi2 hgb hst hen h58 hat
        have Z4 := (Z3.alloc (.cells #[] 9)).alloc (.cells #[] 9)
        have PY : Hid (Ps ((w3.alloc (.cells #[] 9)).alloc (.cells #[] 9)) (w3.heap.size + 1) Y) := ⟨by simp, fun j p hj => by rw [hY] at hj; simp at hj⟩
        clear Z3
        go_wp2_with (first
          | (go_at_call 73; (with_reducible refine (HX.out _).mono ?_); (rintro e wx ⟨gx, cx, rfl, hps, hb⟩; have Z5 := Z4.step hb; have PX1 : Hid (Ps wx gx X) := hps; have PY1 : Hid (Ps wx (w3.heap.size + 1) Y) := PY.out.kept8 hb; clear hps hb))
          | (go_at_call 74; (with_reducible refine (HRX.out _ _ _ PX1.out).mono ?_); (rintro e w7 ⟨rfl, hb⟩; have Z7 := Z5.step hb; have PY7 := PY1.out.kept8 hb; clear hb))
          | (go_at_call 74; (with_reducible refine (HRY.out _ _ _ PY7).mono ?_); (rintro e w8 ⟨⟨A2, c2, rfl, hH2, hA2⟩, hb⟩; have Z8 := Z7.step hb; have HH2 := Lib.hid hH2; have GA2 := aft6 Z7.b4 hA2; clear hH2 hA2; clear hb))
          | ((with_reducible show wpList _ _ _ (⟨some 95, .load 62 (.tmp 4), _, _, _, _⟩ :: _) _ _); refine wp_get _ rfl 62 (.tmp 4) rfl g4 0 (vhs zero8) _ rfl Z8.b4.whole Tryz.underlying62 rfl (size38' zero8 rfl) ?_; simp only [Act.put, List.setIfInBounds_toArray, List.set_cons_zero, List.set_cons_succ])
          | ((with_reducible show wpList _ _ _ (⟨none, .store 62 (.tmp 2) (.tmp 95), _, _, _, _⟩ :: _) _ _); refine wp_putAll _ rfl 62 (.tmp 2) (.tmp 95) rfl g2 62 _ (vhs zero8) rfl rfl Z8.b2 rfl (size38' zero8 rfl) (Hs_one _) ?_; intro w9 B9 U9; simp only [Act.put]; have Z9 := Z8.set2 B9 U9; clear B9 U9))
        refine ret_cell2 2 3 62 rfl g2 (vhs zero8) _ rfl Z9.b2.whole Tryz.underlying62 rfl (size38' zero8 rfl) rfl (.int .i64 7) rfl ⟨rfl, Z9.kp⟩
set_option maxHeartbeats 8000000 in
set_option maxRecDepth 100000 in
theorem r6_B10_F (l lx ly : List UInt8) (X Y : List (List UInt8)) (xs ys : List Nat) (S nx ny p q n j : Nat) (w : World) (hS : S = l.length) (hS2 : S ≤ 100000000) (hat : Hid (atI l 0 = (j : Int))) (hj : j ≤ S) (hj0 : (0 : Int) < (j : Int)) (tx : (str l).extract 0 j = str lx) (j2 : Nat) (hj2 : (j : Int) + 2 = (j2 : Int)) (hj3 : ¬ (j2 : Int) < (S : Int)) (HX : Hid (∀ W, Calls Tryz.prog 73 #[.string (str lx), .int .u8 58] W fun e w' => ∃ g c, e = .returned (.slice (some ⟨g, 0, none⟩) nx c) ∧ Ps w' g X ∧ Below W.heap.size W w')) (hY : Y = []) (HRX : Hid (∀ g c W, Ps W g X → Calls Tryz.prog 74 #[.slice (some ⟨g, 0, none⟩) nx c, .bool false] W fun e w' => (∃ A c, e = .returned (.tuple #[.slice A p c, .bool true]) ∧ Hs w' w'.heap.size A p xs ∧ ∀ b off, A = some ⟨b, off, none⟩ → W.heap.size ≤ b) ∧ Below W.heap.size W w')) (HRY : Hid (∀ g c W, Ps W g Y → Calls Tryz.prog 74 #[.slice (some ⟨g, 0, none⟩) 0 c, .bool true] W fun e w' => (∃ A c, e = .returned (.tuple #[.slice A q c, .bool true]) ∧ Hs w' w'.heap.size A q ys ∧ ∀ b off, A = some ⟨b, off, none⟩ → W.heap.size ≤ b) ∧ Below W.heap.size W w')) (hn : (p : Int) + (q : Int) = (n : Int)) (hn9 : n ≤ 300000000) (hc : (7 : Int) < (n : Int)) : Calls Tryz.prog 48 #[.string (str l)] w fun e w' => e = .returned (ip6V none) ∧ Below w.heap.size w w' := by
    have hsz := str_size l
    have hgb : Hid (∀ k, k < S → ∀ h, ((str l)[k]'h).toNat = (l.getD k 0).toNat) := fun k hk h => str_at l k (by omega) h
    have hst : Hid (∀ k, k + 1 < S → atI l k = if l.getD k 0 = 58 ∧ l.getD (k + 1) 0 = 58 then (k : Int) else atI l (k + 1)) := fun k hk => atI_step l k (by omega)
    have hen : Hid (atI l (S - 1) = -1) := atI_end l (S - 1) (by omega)
    have h58 : Hid (∀ k, (l.getD k 0).toNat = 58 ↔ l.getD k 0 = 58) := fun k => ⟨fun h => UInt8.toNat.inj h, fun h => by rw [h]; rfl⟩
    rw [← hS] at hsz
    clear hS
    go_enter Tryz.func48, Tryz.ntmps48
    go_wp2_with (first
      | ((with_reducible show wpList _ _ _ (⟨some 2, .alloc _, _, _, _, _⟩ :: _) _ _); refine wp_new _ rfl 62 rfl _ type38 ?_; intro w1 g2 B2 F2; simp only [Act.put, List.setIfInBounds_toArray, List.set_cons_zero, List.set_cons_succ])
      | ((with_reducible show wpList _ _ _ (⟨some 16, .build _ _, _, _, _, _⟩ :: _) _ _); refine wp_build0 _ rfl 62 rfl _ (build38 _) ?_; simp only [Act.put, List.setIfInBounds_toArray, List.set_cons_zero, List.set_cons_succ])
      | ((with_reducible show wpList _ _ _ (⟨some 4, .alloc _, _, _, _, _⟩ :: _) _ _); refine wp_new _ rfl 62 rfl _ type38 ?_; intro w2 g4 B4 F4; simp only [Act.put, List.setIfInBounds_toArray, List.set_cons_zero, List.set_cons_succ])
      | ((with_reducible show wpList _ _ _ (⟨none, .store 62 (.tmp 4) (.tmp 16), _, _, _, _⟩ :: _) _ _); refine wp_putAll _ rfl 62 (.tmp 4) (.tmp 16) rfl g4 62 _ (vhs zero8) rfl rfl B4 rfl (size38' zero8 rfl) (Hs_one _) ?_; intro w3 B3 U3; simp only [Act.put]))
    have Z3 : Z6 w w3 g2 g4 (vhs zero8) (vhs zero8) := ⟨(F4.blk B2).upd U3 (by have := B2.lt; rw [F4.is]; omega), B3, ((show Kept w w1 from F2.below).step F4.below).base (U3.below (by have := F2.below.size; have := F2.is; have := F4.is; omega)), by rw [F2.is]; exact Nat.le_refl _, by have := B2.lt; rw [F4.is]; exact this⟩
    clear B2 F2 B4 F4 B3 U3
    go_loop [6, 5] (fun i a => ∃ i0 : Int, i = .int .i64 i0 ∧ -2 ≤ i0 ∧ i0 + 2 ≤ (S : Int) ∧ a = .int .i64 (atI l (i0 + 1).toNat)) (fun i _ => (intOf i + 2).toNat)
    case atStart => exact ⟨(S : Int) - 2, by go_num, by omega, by omega, by rw [show ((S : Int) - 2 + 1).toNat = S - 1 by omega, hen.out]⟩
    case round =>
      obtain ⟨i0, rfl, hi1, hi2, rfl⟩ := hrel
      by_cases hi0 : 0 ≤ i0
      · obtain ⟨k, rfl⟩ := Int.eq_ofNat_of_zero_le hi0
        obtain ⟨k1, hk1⟩ : ∃ k1, k1 = k + 1 := ⟨_, rfl⟩
        have hk1i : (k : Int) + 1 = (k1 : Int) := by omega
        have hks : k < S := by omega
        have hk1s : k1 < S := by omega
        have HG1 := hgb.out k hks
        have HG2 := hgb.out k1 hk1s
        have hs1 := hst.out k (by omega)
        have h581 := h58.out k
        have h582 := h58.out k1
        rw [show ((k : Int) + 1).toNat = k1 by omega]
        rw [← hk1] at hs1
        obtain ⟨x, hx⟩ : ∃ x, x = (l.getD k 0).toNat := ⟨_, rfl⟩
        obtain ⟨y, hy⟩ : ∃ y, y = (l.getD k1 0).toNat := ⟨_, rfl⟩
        rw [← hx] at HG1 h581
        rw [← hy] at HG2 h582
        obtain ⟨T, hT⟩ : ∃ T, T = atI l k := ⟨_, rfl⟩
        obtain ⟨T1, hT1⟩ : ∃ T, T = atI l k1 := ⟨_, rfl⟩
        rw [← hT1]
        rw [← hT, ← hT1] at hs1
        have HT : Hid (T = atI l k) := hT
        clear hx hy hT hT1 hk1 hi1 hi0
        by_cases hxx : x = 58
        · have c1 : ((x : Int) == 58) = true := by simp [hxx]
          by_cases hyy : y = 58
          · have c2 : ((y : Int) == 58) = true := by simp [hyy]
            have hR : Hid (T = (k : Int)) := by show _ = _; rw [hs1, if_pos ⟨h581.1 hxx, h582.1 hyy⟩]
            clear hs1 hxx hyy h581 h582
            go_wp2_with fail
            go_round
            case rel => exact ⟨(k : Int) - 1, by go_num, by omega, by omega, by rw [show ((k : Int) - 1 + 1).toNat = k by omega, ← HT.out, hR.out]⟩
            case measure => simp [intOf]; omega
          · have c2 : ((y : Int) == 58) = false := by simp; omega
            have hR : Hid (T = T1) := by show _ = _; rw [hs1, if_neg (fun h => hyy (h582.2 h.2))]
            clear hs1 hxx hyy h581 h582
            go_wp2_with fail
            go_round
            case rel => exact ⟨(k : Int) - 1, by go_num, by omega, by omega, by rw [show ((k : Int) - 1 + 1).toNat = k by omega, ← HT.out, hR.out]⟩
            case measure => simp [intOf]; omega
        · have c1 : ((x : Int) == 58) = false := by simp; omega
          have hR : Hid (T = T1) := by show _ = _; rw [hs1, if_neg (fun h => hxx (h581.2 h.1))]
          clear hs1 hxx h581 h582
          go_wp2_with fail
          go_round
          case rel => exact ⟨(k : Int) - 1, by go_num, by omega, by omega, by rw [show ((k : Int) - 1 + 1).toNat = k by omega, ← HT.out, hR.out]⟩
          case measure => simp [intOf]; omega
      · rw [show (i0 + 1).toNat = 0 by omega, hat.out]
        have hi0n : ¬ (0 : Int) ≤ i0 := hi0
        clear hi0 hi1 hi2 hgb hst hen h58 hat
        have Z4 := (Z3.alloc (.cells #[] 9)).alloc (.cells #[] 9)
        have PY : Hid (Ps ((w3.alloc (.cells #[] 9)).alloc (.cells #[] 9)) (w3.heap.size + 1) Y) := ⟨by simp, fun j p hj => by rw [hY] at hj; simp at hj⟩
        clear Z3
        go_wp2_with (first
          | (go_at_call 73; (with_reducible refine (HX.out _).mono ?_); (rintro e wx ⟨gx, cx, rfl, hps, hb⟩; have Z5 := Z4.step hb; have PX1 : Hid (Ps wx gx X) := hps; have PY1 : Hid (Ps wx (w3.heap.size + 1) Y) := PY.out.kept8 hb; clear hps hb))
          | (go_at_call 74; (with_reducible refine (HRX.out _ _ _ PX1.out).mono ?_); (rintro e w7 ⟨⟨A1, c1, rfl, hH1, hA1⟩, hb⟩; have Z7 := Z5.step hb; have PY7 := PY1.out.kept8 hb; have HH1 := Lib.hid hH1; have GA1 := aft6 Z5.b4 hA1; clear hH1 hA1; clear hb))
          | (go_at_call 74; (with_reducible refine (HRY.out _ _ _ PY7).mono ?_); (rintro e w8 ⟨⟨A2, c2, rfl, hH2, hA2⟩, hb⟩; have Z8 := Z7.step hb; have HH8 := Lib.hid (HH1.out.kept8 hb); have HH2 := Lib.hid hH2; have GA2 := aft6 Z7.b4 hA2; clear hH2 hA2; clear hb))
          | ((with_reducible show wpList _ _ _ (⟨some 95, .load 62 (.tmp 4), _, _, _, _⟩ :: _) _ _); refine wp_get _ rfl 62 (.tmp 4) rfl g4 0 (vhs zero8) _ rfl Z8.b4.whole Tryz.underlying62 rfl (size38' zero8 rfl) ?_; simp only [Act.put, List.setIfInBounds_toArray, List.set_cons_zero, List.set_cons_succ])
          | ((with_reducible show wpList _ _ _ (⟨none, .store 62 (.tmp 2) (.tmp 95), _, _, _, _⟩ :: _) _ _); refine wp_putAll _ rfl 62 (.tmp 2) (.tmp 95) rfl g2 62 _ (vhs zero8) rfl rfl Z8.b2 rfl (size38' zero8 rfl) (Hs_one _) ?_; intro w9 B9 U9; simp only [Act.put]; have Z9 := Z8.set2 B9 U9; clear B9 U9))
        refine ret_cell2 2 3 62 rfl g2 (vhs zero8) _ rfl Z9.b2.whole Tryz.underlying62 rfl (size38' zero8 rfl) rfl (.int .i64 7) rfl ⟨rfl, Z9.kp⟩
set_option maxHeartbeats 8000000 in
set_option maxRecDepth 100000 in
theorem r6_B10_O (l lx ly : List UInt8) (X Y : List (List UInt8)) (xs ys : List Nat) (S nx ny p q n j : Nat) (w : World) (hS : S = l.length) (hS2 : S ≤ 100000000) (hat : Hid (atI l 0 = (j : Int))) (hj : j ≤ S) (hj0 : (0 : Int) < (j : Int)) (tx : (str l).extract 0 j = str lx) (j2 : Nat) (hj2 : (j : Int) + 2 = (j2 : Int)) (hj3 : ¬ (j2 : Int) < (S : Int)) (HX : Hid (∀ W, Calls Tryz.prog 73 #[.string (str lx), .int .u8 58] W fun e w' => ∃ g c, e = .returned (.slice (some ⟨g, 0, none⟩) nx c) ∧ Ps w' g X ∧ Below W.heap.size W w')) (hY : Y = []) (HRX : Hid (∀ g c W, Ps W g X → Calls Tryz.prog 74 #[.slice (some ⟨g, 0, none⟩) nx c, .bool false] W fun e w' => (∃ A c, e = .returned (.tuple #[.slice A p c, .bool true]) ∧ Hs w' w'.heap.size A p xs ∧ ∀ b off, A = some ⟨b, off, none⟩ → W.heap.size ≤ b) ∧ Below W.heap.size W w')) (HRY : Hid (∀ g c W, Ps W g Y → Calls Tryz.prog 74 #[.slice (some ⟨g, 0, none⟩) 0 c, .bool true] W fun e w' => (∃ A c, e = .returned (.tuple #[.slice A q c, .bool true]) ∧ Hs w' w'.heap.size A q ys ∧ ∀ b off, A = some ⟨b, off, none⟩ → W.heap.size ≤ b) ∧ Below W.heap.size W w')) (hn : (p : Int) + (q : Int) = (n : Int)) (hn9 : n ≤ 300000000) (hc : ¬ (7 : Int) < (n : Int)) (hpq : p + q ≤ 8) (hxl : xs.length = p) (hyl : ys.length = q) (FF : List Nat) (hFF : Hid (xs ++ List.replicate (8 - p - q) 0 ++ ys = FF)) : Calls Tryz.prog 48 #[.string (str l)] w fun e w' => e = .returned (ip6V (some FF)) ∧ Below w.heap.size w w' := by
    have hsz := str_size l
    have hgb : Hid (∀ k, k < S → ∀ h, ((str l)[k]'h).toNat = (l.getD k 0).toNat) := fun k hk h => str_at l k (by omega) h
    have hst : Hid (∀ k, k + 1 < S → atI l k = if l.getD k 0 = 58 ∧ l.getD (k + 1) 0 = 58 then (k : Int) else atI l (k + 1)) := fun k hk => atI_step l k (by omega)
    have hen : Hid (atI l (S - 1) = -1) := atI_end l (S - 1) (by omega)
    have h58 : Hid (∀ k, (l.getD k 0).toNat = 58 ↔ l.getD k 0 = 58) := fun k => ⟨fun h => UInt8.toNat.inj h, fun h => by rw [h]; rfl⟩
    rw [← hS] at hsz
    clear hS
    go_enter Tryz.func48, Tryz.ntmps48
    go_wp2_with (first
      | ((with_reducible show wpList _ _ _ (⟨some 2, .alloc _, _, _, _, _⟩ :: _) _ _); refine wp_new _ rfl 62 rfl _ type38 ?_; intro w1 g2 B2 F2; simp only [Act.put, List.setIfInBounds_toArray, List.set_cons_zero, List.set_cons_succ])
      | ((with_reducible show wpList _ _ _ (⟨some 16, .build _ _, _, _, _, _⟩ :: _) _ _); refine wp_build0 _ rfl 62 rfl _ (build38 _) ?_; simp only [Act.put, List.setIfInBounds_toArray, List.set_cons_zero, List.set_cons_succ])
      | ((with_reducible show wpList _ _ _ (⟨some 4, .alloc _, _, _, _, _⟩ :: _) _ _); refine wp_new _ rfl 62 rfl _ type38 ?_; intro w2 g4 B4 F4; simp only [Act.put, List.setIfInBounds_toArray, List.set_cons_zero, List.set_cons_succ])
      | ((with_reducible show wpList _ _ _ (⟨none, .store 62 (.tmp 4) (.tmp 16), _, _, _, _⟩ :: _) _ _); refine wp_putAll _ rfl 62 (.tmp 4) (.tmp 16) rfl g4 62 _ (vhs zero8) rfl rfl B4 rfl (size38' zero8 rfl) (Hs_one _) ?_; intro w3 B3 U3; simp only [Act.put]))
    have Z3 : Z6 w w3 g2 g4 (vhs zero8) (vhs zero8) := ⟨(F4.blk B2).upd U3 (by have := B2.lt; rw [F4.is]; omega), B3, ((show Kept w w1 from F2.below).step F4.below).base (U3.below (by have := F2.below.size; have := F2.is; have := F4.is; omega)), by rw [F2.is]; exact Nat.le_refl _, by have := B2.lt; rw [F4.is]; exact this⟩
    clear B2 F2 B4 F4 B3 U3
    go_loop [6, 5] (fun i a => ∃ i0 : Int, i = .int .i64 i0 ∧ -2 ≤ i0 ∧ i0 + 2 ≤ (S : Int) ∧ a = .int .i64 (atI l (i0 + 1).toNat)) (fun i _ => (intOf i + 2).toNat)
    case atStart => exact ⟨(S : Int) - 2, by go_num, by omega, by omega, by rw [show ((S : Int) - 2 + 1).toNat = S - 1 by omega, hen.out]⟩
    case round =>
      obtain ⟨i0, rfl, hi1, hi2, rfl⟩ := hrel
      by_cases hi0 : 0 ≤ i0
      · obtain ⟨k, rfl⟩ := Int.eq_ofNat_of_zero_le hi0
        obtain ⟨k1, hk1⟩ : ∃ k1, k1 = k + 1 := ⟨_, rfl⟩
        have hk1i : (k : Int) + 1 = (k1 : Int) := by omega
        have hks : k < S := by omega
        have hk1s : k1 < S := by omega
        have HG1 := hgb.out k hks
        have HG2 := hgb.out k1 hk1s
        have hs1 := hst.out k (by omega)
        have h581 := h58.out k
        have h582 := h58.out k1
        rw [show ((k : Int) + 1).toNat = k1 by omega]
        rw [← hk1] at hs1
        obtain ⟨x, hx⟩ : ∃ x, x = (l.getD k 0).toNat := ⟨_, rfl⟩
        obtain ⟨y, hy⟩ : ∃ y, y = (l.getD k1 0).toNat := ⟨_, rfl⟩
        rw [← hx] at HG1 h581
        rw [← hy] at HG2 h582
        obtain ⟨T, hT⟩ : ∃ T, T = atI l k := ⟨_, rfl⟩
        obtain ⟨T1, hT1⟩ : ∃ T, T = atI l k1 := ⟨_, rfl⟩
        rw [← hT1]
        rw [← hT, ← hT1] at hs1
        have HT : Hid (T = atI l k) := hT
        clear hx hy hT hT1 hk1 hi1 hi0
        by_cases hxx : x = 58
        · have c1 : ((x : Int) == 58) = true := by simp [hxx]
          by_cases hyy : y = 58
          · have c2 : ((y : Int) == 58) = true := by simp [hyy]
            have hR : Hid (T = (k : Int)) := by show _ = _; rw [hs1, if_pos ⟨h581.1 hxx, h582.1 hyy⟩]
            clear hs1 hxx hyy h581 h582
            go_wp2_with fail
            go_round
            case rel => exact ⟨(k : Int) - 1, by go_num, by omega, by omega, by rw [show ((k : Int) - 1 + 1).toNat = k by omega, ← HT.out, hR.out]⟩
            case measure => simp [intOf]; omega
          · have c2 : ((y : Int) == 58) = false := by simp; omega
            have hR : Hid (T = T1) := by show _ = _; rw [hs1, if_neg (fun h => hyy (h582.2 h.2))]
            clear hs1 hxx hyy h581 h582
            go_wp2_with fail
            go_round
            case rel => exact ⟨(k : Int) - 1, by go_num, by omega, by omega, by rw [show ((k : Int) - 1 + 1).toNat = k by omega, ← HT.out, hR.out]⟩
            case measure => simp [intOf]; omega
        · have c1 : ((x : Int) == 58) = false := by simp; omega
          have hR : Hid (T = T1) := by show _ = _; rw [hs1, if_neg (fun h => hxx (h581.2 h.1))]
          clear hs1 hxx h581 h582
          go_wp2_with fail
          go_round
          case rel => exact ⟨(k : Int) - 1, by go_num, by omega, by omega, by rw [show ((k : Int) - 1 + 1).toNat = k by omega, ← HT.out, hR.out]⟩
          case measure => simp [intOf]; omega
      · rw [show (i0 + 1).toNat = 0 by omega, hat.out]
        have hi0n : ¬ (0 : Int) ≤ i0 := hi0
        clear hi0 hi1 hi2 hgb hst hen h58 hat
        have Z4 := (Z3.alloc (.cells #[] 9)).alloc (.cells #[] 9)
        have PY : Hid (Ps ((w3.alloc (.cells #[] 9)).alloc (.cells #[] 9)) (w3.heap.size + 1) Y) := ⟨by simp, fun j p hj => by rw [hY] at hj; simp at hj⟩
        clear Z3
        go_wp2_with (first
          | (go_at_call 73; (with_reducible refine (HX.out _).mono ?_); (rintro e wx ⟨gx, cx, rfl, hps, hb⟩; have Z5 := Z4.step hb; have PX1 : Hid (Ps wx gx X) := hps; have PY1 : Hid (Ps wx (w3.heap.size + 1) Y) := PY.out.kept8 hb; clear hps hb))
          | (go_at_call 74; (with_reducible refine (HRX.out _ _ _ PX1.out).mono ?_); (rintro e w7 ⟨⟨A1, c1, rfl, hH1, hA1⟩, hb⟩; have Z7 := Z5.step hb; have PY7 := PY1.out.kept8 hb; have HH1 := Lib.hid hH1; have GA1 := aft6 Z5.b4 hA1; clear hH1 hA1; clear hb))
          | (go_at_call 74; (with_reducible refine (HRY.out _ _ _ PY7).mono ?_); (rintro e w8 ⟨⟨A2, c2, rfl, hH2, hA2⟩, hb⟩; have Z8 := Z7.step hb; have HH8 := Lib.hid (HH1.out.kept8 hb); have HH2 := Lib.hid hH2; have GA2 := aft6 Z7.b4 hA2; clear hH2 hA2; clear hb)))
        have HA1 := Lib.hid (And.intro hxl hyl)
        clear hxl hyl
        go_loopw [14] (fun i wr => ∃ k : Nat, k ≤ p ∧ i = .int .i64 (k : Int) ∧ Z6 w wr g2 g4 (vhs zero8) (vhs (xs.take k ++ List.replicate (8 - k) 0)) ∧ Hs wr wr.heap.size A1 p xs ∧ Hs wr wr.heap.size A2 q ys) (fun i _ => p - (intOf i).toNat)
        case atStart => exact ⟨0, by omega, rfl, Z8, HH8.out, HH2.out⟩
        case round =>
          obtain ⟨k, hk, rfl, Z9, hh1, hh2⟩ := hrel
          clear Z8 HH8 HH2
          have HE1 := Lib.hid hh1
          have HE2 := Lib.hid hh2
          have HZ9 := Lib.hid Z9
          clear hh1 hh2 Z9
          by_cases hlt : k < p
          · have hkp : (k : Int) < (p : Int) := by omega
            have hk8 : k < 8 := by omega
            obtain ⟨b, off, hA, hbl, hcell⟩ := HE1.out.at_ hlt
            unfold vh at hcell
            have hfl := fill1 xs k (by rw [HA1.out.1]; exact hlt) hk8
            have hlen : Hid (k < (vhs (xs.take k ++ List.replicate (8 - k) 0)).length) := by show _ < _; rw [Hs_len, List.length_append, List.length_replicate, List.length_take, HA1.out.1]; omega
            have hset := vhs_set (xs.take k ++ List.replicate (8 - k) 0) k (xs.getD k 0)
            rw [hfl] at hset
            obtain ⟨x, hx⟩ : ∃ x, x = xs.getD k 0 := ⟨_, rfl⟩
            rw [← hx] at hcell hset
            have HSt := Lib.hid hset
            clear hfl hset hx
            subst hA
            go_wp2_with (first
              | ((with_reducible show wpList _ _ _ (⟨none, .store 61 (.tmp 107) (.tmp 106), _, _, _, _⟩ :: _) _ _); refine wp_set _ rfl 61 (.tmp 107) (.tmp 106) rfl g4 k 62 _ (.int .u16 (x : Int)) rfl rfl rfl rfl HZ9.out.b4 hlen.out size37 ?_; intro w10 B10 U10; simp only [Act.put]))
            rw [HSt.out] at B10
            go_roundw
            case rel => exact ⟨k + 1, by omega, by go_num, HZ9.out.set4 B10 U10, HE1.out.upd8 U10 GA1.out, HE2.out.upd8 U10 GA2.out⟩
            case measure => simp [intOf]; omega
          · have hkp : ¬ (k : Int) < (p : Int) := by omega
            obtain rfl : k = p := by omega
            have hf3 := fill3 xs ys k q HA1.out.1 hpq
            have HZ10 : Hid (Z6 w wr g2 g4 (vhs zero8) (vhs (xs ++ List.replicate (8 - k - q) 0 ++ ys.take 0 ++ List.replicate (q - 0) 0))) := by show Z6 _ _ _ _ _ _; rw [← hf3]; exact HZ9.out
            clear hf3 HZ9 hlt hk
            go_wp2_with fail
            go_loopw [15] (fun i wr => ∃ m : Nat, m ≤ q ∧ i = .int .i64 (m : Int) ∧ Z6 w wr g2 g4 (vhs zero8) (vhs (xs ++ List.replicate (8 - k - q) 0 ++ ys.take m ++ List.replicate (q - m) 0)) ∧ Hs wr wr.heap.size A2 q ys) (fun i _ => q - (intOf i).toNat)
            case atStart => exact ⟨0, by omega, rfl, HZ10.out, HE2.out⟩
            case round =>
              obtain ⟨m, hm, rfl, Z11, hh2⟩ := hrel
              clear HZ10 HE1 HE2
              have HE3 := Lib.hid hh2
              have HZ11 := Lib.hid Z11
              clear hh2 Z11
              by_cases hlt : m < q
              · have hmq : (m : Int) < (q : Int) := by omega
                obtain ⟨b, off, hA, hbl, hcell⟩ := HE3.out.at_ hlt
                unfold vh at hcell
                have hfl := fill2 xs ys k q m HA1.out.1 HA1.out.2 hpq hlt
                have hlen : Hid (8 - q + m < (vhs (xs ++ List.replicate (8 - k - q) 0 ++ ys.take m ++ List.replicate (q - m) 0)).length) := by
                  show _ < _
                  rw [Hs_len, List.length_append, List.length_append, List.length_append, List.length_replicate, List.length_replicate, List.length_take, HA1.out.1, HA1.out.2]
                  omega
                have hset := vhs_set (xs ++ List.replicate (8 - k - q) 0 ++ ys.take m ++ List.replicate (q - m) 0) (8 - q + m) (ys.getD m 0)
                rw [hfl] at hset
                obtain ⟨x, hx⟩ : ∃ x, x = ys.getD m 0 := ⟨_, rfl⟩
                rw [← hx] at hcell hset
                obtain ⟨e1, he1⟩ : ∃ e1, e1 = 8 - q := ⟨_, rfl⟩
                obtain ⟨e2, he2⟩ : ∃ e2, e2 = 8 - q + m := ⟨_, rfl⟩
                rw [← he2] at hset hlen
                have hq1 : (8 : Int) - (q : Int) = (e1 : Int) := by omega
                have hq2 : (e1 : Int) + (m : Int) = (e2 : Int) := by omega
                have he8 : e2 < 8 := by omega
                have HSt := Lib.hid hset
                clear hfl hset hx he1 he2
                subst hA
                go_wp2_with (first
                  | ((with_reducible show wpList _ _ _ (⟨none, .store 61 (.tmp 123) (.tmp 122), _, _, _, _⟩ :: _) _ _); refine wp_set _ rfl 61 (.tmp 123) (.tmp 122) rfl g4 e2 62 _ (.int .u16 (x : Int)) rfl rfl rfl rfl HZ11.out.b4 hlen.out size37 ?_; intro w12 B12 U12; simp only [Act.put]))
                rw [HSt.out] at B12
                go_roundw
                case rel => exact ⟨m + 1, by omega, by go_num, HZ11.out.set4 B12 U12, HE3.out.upd8 U12 GA2.out⟩
                case measure => simp [intOf]; omega
              · have hmq : ¬ (m : Int) < (q : Int) := by omega
                obtain rfl : m = q := by omega
                have hF : Hid (xs ++ List.replicate (8 - k - m) 0 ++ ys.take m ++ List.replicate (m - m) 0 = xs ++ List.replicate (8 - k - m) 0 ++ ys) := by
                  show _ = _
                  rw [Nat.sub_self, ← HA1.out.2, List.take_length]
                  simp
                have HZ12 : Hid (Z6 w wr g2 g4 (vhs zero8) (vhs FF)) := by show Z6 _ _ _ _ _ _; rw [← hFF.out, ← hF.out]; exact HZ11.out
                have hFl : FF.length = 8 := by
                  rw [← hFF.out, List.length_append, List.length_append, List.length_replicate, HA1.out.1, HA1.out.2]
                  omega
                clear hFF
                have HFl := Lib.hid hFl
                clear hF HZ11 hlt hm hFl
                go_wp2_with (first
                  | ((with_reducible show wpList _ _ _ (⟨some 124, .load 62 (.tmp 4), _, _, _, _⟩ :: _) _ _); refine wp_get _ rfl 62 (.tmp 4) rfl g4 0 (vhs FF) _ rfl HZ12.out.b4.whole Tryz.underlying62 rfl (size38' FF HFl.out) ?_; simp only [Act.put, List.setIfInBounds_toArray, List.set_cons_zero, List.set_cons_succ])
                  | ((with_reducible show wpList _ _ _ (⟨none, .store 62 (.tmp 2) (.tmp 124), _, _, _, _⟩ :: _) _ _); refine wp_putAll _ rfl 62 (.tmp 2) (.tmp 124) rfl g2 62 _ (vhs FF) rfl rfl HZ12.out.b2 (by rw [Hs_len, Hs_len, HFl.out]; rfl) (size38' FF HFl.out) (Hs_one _) ?_; intro w13 B13 U13; simp only [Act.put]; have Z13 := HZ12.out.set2 B13 U13; clear B13 U13))
                refine ret_cell2 2 3 62 rfl g2 (vhs FF) _ rfl Z13.b2.whole Tryz.underlying62 rfl (size38' FF HFl.out) rfl (.int .i64 0) rfl ⟨rfl, Z13.kp⟩
set_option maxHeartbeats 8000000 in
set_option maxRecDepth 100000 in
theorem r6_B11_N1 (l lx ly : List UInt8) (X Y : List (List UInt8)) (xs ys : List Nat) (S nx ny p q n j : Nat) (w : World) (hS : S = l.length) (hS2 : S ≤ 100000000) (hat : Hid (atI l 0 = (j : Int))) (hj : j ≤ S) (hj0 : (0 : Int) < (j : Int)) (tx : (str l).extract 0 j = str lx) (j2 : Nat) (hj2 : (j : Int) + 2 = (j2 : Int)) (hj3 : (j2 : Int) < (S : Int)) (ty : (str l).extract j2 S = str ly) (HX : Hid (∀ W, Calls Tryz.prog 73 #[.string (str lx), .int .u8 58] W fun e w' => ∃ g c, e = .returned (.slice (some ⟨g, 0, none⟩) nx c) ∧ Ps w' g X ∧ Below W.heap.size W w')) (HY : Hid (∀ W, Calls Tryz.prog 73 #[.string (str ly), .int .u8 58] W fun e w' => ∃ g c, e = .returned (.slice (some ⟨g, 0, none⟩) ny c) ∧ Ps w' g Y ∧ Below W.heap.size W w')) (HRX : Hid (∀ g c W, Ps W g X → Calls Tryz.prog 74 #[.slice (some ⟨g, 0, none⟩) nx c, .bool false] W fun e w' => (e = .returned (.tuple #[.slice none 0 0, .bool false])) ∧ Below W.heap.size W w')) (HRY : Hid (∀ g c W, Ps W g Y → Calls Tryz.prog 74 #[.slice (some ⟨g, 0, none⟩) ny c, .bool true] W fun e w' => (e = .returned (.tuple #[.slice none 0 0, .bool false])) ∧ Below W.heap.size W w')) : Calls Tryz.prog 48 #[.string (str l)] w fun e w' => e = .returned (ip6V none) ∧ Below w.heap.size w w' := by
    have hsz := str_size l
    have hgb : Hid (∀ k, k < S → ∀ h, ((str l)[k]'h).toNat = (l.getD k 0).toNat) := fun k hk h => str_at l k (by omega) h
    have hst : Hid (∀ k, k + 1 < S → atI l k = if l.getD k 0 = 58 ∧ l.getD (k + 1) 0 = 58 then (k : Int) else atI l (k + 1)) := fun k hk => atI_step l k (by omega)
    have hen : Hid (atI l (S - 1) = -1) := atI_end l (S - 1) (by omega)
    have h58 : Hid (∀ k, (l.getD k 0).toNat = 58 ↔ l.getD k 0 = 58) := fun k => ⟨fun h => UInt8.toNat.inj h, fun h => by rw [h]; rfl⟩
    rw [← hS] at hsz
    clear hS
    go_enter Tryz.func48, Tryz.ntmps48
    go_wp2_with (first
      | ((with_reducible show wpList _ _ _ (⟨some 2, .alloc _, _, _, _, _⟩ :: _) _ _); refine wp_new _ rfl 62 rfl _ type38 ?_; intro w1 g2 B2 F2; simp only [Act.put, List.setIfInBounds_toArray, List.set_cons_zero, List.set_cons_succ])
      | ((with_reducible show wpList _ _ _ (⟨some 16, .build _ _, _, _, _, _⟩ :: _) _ _); refine wp_build0 _ rfl 62 rfl _ (build38 _) ?_; simp only [Act.put, List.setIfInBounds_toArray, List.set_cons_zero, List.set_cons_succ])
      | ((with_reducible show wpList _ _ _ (⟨some 4, .alloc _, _, _, _, _⟩ :: _) _ _); refine wp_new _ rfl 62 rfl _ type38 ?_; intro w2 g4 B4 F4; simp only [Act.put, List.setIfInBounds_toArray, List.set_cons_zero, List.set_cons_succ])
      | ((with_reducible show wpList _ _ _ (⟨none, .store 62 (.tmp 4) (.tmp 16), _, _, _, _⟩ :: _) _ _); refine wp_putAll _ rfl 62 (.tmp 4) (.tmp 16) rfl g4 62 _ (vhs zero8) rfl rfl B4 rfl (size38' zero8 rfl) (Hs_one _) ?_; intro w3 B3 U3; simp only [Act.put]))
    have Z3 : Z6 w w3 g2 g4 (vhs zero8) (vhs zero8) := ⟨(F4.blk B2).upd U3 (by have := B2.lt; rw [F4.is]; omega), B3, ((show Kept w w1 from F2.below).step F4.below).base (U3.below (by have := F2.below.size; have := F2.is; have := F4.is; omega)), by rw [F2.is]; exact Nat.le_refl _, by have := B2.lt; rw [F4.is]; exact this⟩
    clear B2 F2 B4 F4 B3 U3
    go_loop [6, 5] (fun i a => ∃ i0 : Int, i = .int .i64 i0 ∧ -2 ≤ i0 ∧ i0 + 2 ≤ (S : Int) ∧ a = .int .i64 (atI l (i0 + 1).toNat)) (fun i _ => (intOf i + 2).toNat)
    case atStart => exact ⟨(S : Int) - 2, by go_num, by omega, by omega, by rw [show ((S : Int) - 2 + 1).toNat = S - 1 by omega, hen.out]⟩
    case round =>
      obtain ⟨i0, rfl, hi1, hi2, rfl⟩ := hrel
      by_cases hi0 : 0 ≤ i0
      · obtain ⟨k, rfl⟩ := Int.eq_ofNat_of_zero_le hi0
        obtain ⟨k1, hk1⟩ : ∃ k1, k1 = k + 1 := ⟨_, rfl⟩
        have hk1i : (k : Int) + 1 = (k1 : Int) := by omega
        have hks : k < S := by omega
        have hk1s : k1 < S := by omega
        have HG1 := hgb.out k hks
        have HG2 := hgb.out k1 hk1s
        have hs1 := hst.out k (by omega)
        have h581 := h58.out k
        have h582 := h58.out k1
        rw [show ((k : Int) + 1).toNat = k1 by omega]
        rw [← hk1] at hs1
        obtain ⟨x, hx⟩ : ∃ x, x = (l.getD k 0).toNat := ⟨_, rfl⟩
        obtain ⟨y, hy⟩ : ∃ y, y = (l.getD k1 0).toNat := ⟨_, rfl⟩
        rw [← hx] at HG1 h581
        rw [← hy] at HG2 h582
        obtain ⟨T, hT⟩ : ∃ T, T = atI l k := ⟨_, rfl⟩
        obtain ⟨T1, hT1⟩ : ∃ T, T = atI l k1 := ⟨_, rfl⟩
        rw [← hT1]
        rw [← hT, ← hT1] at hs1
        have HT : Hid (T = atI l k) := hT
        clear hx hy hT hT1 hk1 hi1 hi0
        by_cases hxx : x = 58
        · have c1 : ((x : Int) == 58) = true := by simp [hxx]
          by_cases hyy : y = 58
          · have c2 : ((y : Int) == 58) = true := by simp [hyy]
            have hR : Hid (T = (k : Int)) := by show _ = _; rw [hs1, if_pos ⟨h581.1 hxx, h582.1 hyy⟩]
            clear hs1 hxx hyy h581 h582
            go_wp2_with fail
            go_round
            case rel => exact ⟨(k : Int) - 1, by go_num, by omega, by omega, by rw [show ((k : Int) - 1 + 1).toNat = k by omega, ← HT.out, hR.out]⟩
            case measure => simp [intOf]; omega
          · have c2 : ((y : Int) == 58) = false := by simp; omega
            have hR : Hid (T = T1) := by show _ = _; rw [hs1, if_neg (fun h => hyy (h582.2 h.2))]
            clear hs1 hxx hyy h581 h582
            go_wp2_with fail
            go_round
            case rel => exact ⟨(k : Int) - 1, by go_num, by omega, by omega, by rw [show ((k : Int) - 1 + 1).toNat = k by omega, ← HT.out, hR.out]⟩
            case measure => simp [intOf]; omega
        · have c1 : ((x : Int) == 58) = false := by simp; omega
          have hR : Hid (T = T1) := by show _ = _; rw [hs1, if_neg (fun h => hxx (h581.2 h.1))]
          clear hs1 hxx h581 h582
          go_wp2_with fail
          go_round
          case rel => exact ⟨(k : Int) - 1, by go_num, by omega, by omega, by rw [show ((k : Int) - 1 + 1).toNat = k by omega, ← HT.out, hR.out]⟩
          case measure => simp [intOf]; omega
      · rw [show (i0 + 1).toNat = 0 by omega, hat.out]
        have hi0n : ¬ (0 : Int) ≤ i0 := hi0
        clear hi0 hi1 hi2 hgb hst hen h58 hat
        have Z4 := (Z3.alloc (.cells #[] 9)).alloc (.cells #[] 9)
        clear Z3
        go_wp2_with (first
          | (go_at_call 73; (with_reducible refine (HX.out _).mono ?_); (rintro e wx ⟨gx, cx, rfl, hps, hb⟩; have Z5 := Z4.step hb; have PX1 : Hid (Ps wx gx X) := hps; clear hps hb))
          | (go_at_call 73; (with_reducible refine (HY.out _).mono ?_); (rintro e wy ⟨gy, cy, rfl, hps, hb⟩; have Z6' := Z5.step hb; have PY2 : Hid (Ps wy gy Y) := hps; have PX2 : Hid (Ps wy gx X) := PX1.out.kept8 hb; clear hps hb))
          | (go_at_call 74; (with_reducible refine (HRX.out _ _ _ PX2.out).mono ?_); (rintro e w7 ⟨rfl, hb⟩; have Z7 := Z6'.step hb; have PY7 := PY2.out.kept8 hb; clear hb))
          | (go_at_call 74; (with_reducible refine (HRY.out _ _ _ PY7).mono ?_); (rintro e w8 ⟨rfl, hb⟩; have Z8 := Z7.step hb; clear hb))
          | ((with_reducible show wpList _ _ _ (⟨some 95, .load 62 (.tmp 4), _, _, _, _⟩ :: _) _ _); refine wp_get _ rfl 62 (.tmp 4) rfl g4 0 (vhs zero8) _ rfl Z8.b4.whole Tryz.underlying62 rfl (size38' zero8 rfl) ?_; simp only [Act.put, List.setIfInBounds_toArray, List.set_cons_zero, List.set_cons_succ])
          | ((with_reducible show wpList _ _ _ (⟨none, .store 62 (.tmp 2) (.tmp 95), _, _, _, _⟩ :: _) _ _); refine wp_putAll _ rfl 62 (.tmp 2) (.tmp 95) rfl g2 62 _ (vhs zero8) rfl rfl Z8.b2 rfl (size38' zero8 rfl) (Hs_one _) ?_; intro w9 B9 U9; simp only [Act.put]; have Z9 := Z8.set2 B9 U9; clear B9 U9))
        refine ret_cell2 2 3 62 rfl g2 (vhs zero8) _ rfl Z9.b2.whole Tryz.underlying62 rfl (size38' zero8 rfl) rfl (.int .i64 7) rfl ⟨rfl, Z9.kp⟩
set_option maxHeartbeats 8000000 in
set_option maxRecDepth 100000 in
theorem r6_B11_N2 (l lx ly : List UInt8) (X Y : List (List UInt8)) (xs ys : List Nat) (S nx ny p q n j : Nat) (w : World) (hS : S = l.length) (hS2 : S ≤ 100000000) (hat : Hid (atI l 0 = (j : Int))) (hj : j ≤ S) (hj0 : (0 : Int) < (j : Int)) (tx : (str l).extract 0 j = str lx) (j2 : Nat) (hj2 : (j : Int) + 2 = (j2 : Int)) (hj3 : (j2 : Int) < (S : Int)) (ty : (str l).extract j2 S = str ly) (HX : Hid (∀ W, Calls Tryz.prog 73 #[.string (str lx), .int .u8 58] W fun e w' => ∃ g c, e = .returned (.slice (some ⟨g, 0, none⟩) nx c) ∧ Ps w' g X ∧ Below W.heap.size W w')) (HY : Hid (∀ W, Calls Tryz.prog 73 #[.string (str ly), .int .u8 58] W fun e w' => ∃ g c, e = .returned (.slice (some ⟨g, 0, none⟩) ny c) ∧ Ps w' g Y ∧ Below W.heap.size W w')) (HRX : Hid (∀ g c W, Ps W g X → Calls Tryz.prog 74 #[.slice (some ⟨g, 0, none⟩) nx c, .bool false] W fun e w' => (e = .returned (.tuple #[.slice none 0 0, .bool false])) ∧ Below W.heap.size W w')) (HRY : Hid (∀ g c W, Ps W g Y → Calls Tryz.prog 74 #[.slice (some ⟨g, 0, none⟩) ny c, .bool true] W fun e w' => (∃ A c, e = .returned (.tuple #[.slice A q c, .bool true]) ∧ Hs w' w'.heap.size A q ys ∧ ∀ b off, A = some ⟨b, off, none⟩ → W.heap.size ≤ b) ∧ Below W.heap.size W w')) : Calls Tryz.prog 48 #[.string (str l)] w fun e w' => e = .returned (ip6V none) ∧ Below w.heap.size w w' := by
    have hsz := str_size l
    have hgb : Hid (∀ k, k < S → ∀ h, ((str l)[k]'h).toNat = (l.getD k 0).toNat) := fun k hk h => str_at l k (by omega) h
    have hst : Hid (∀ k, k + 1 < S → atI l k = if l.getD k 0 = 58 ∧ l.getD (k + 1) 0 = 58 then (k : Int) else atI l (k + 1)) := fun k hk => atI_step l k (by omega)
    have hen : Hid (atI l (S - 1) = -1) := atI_end l (S - 1) (by omega)
    have h58 : Hid (∀ k, (l.getD k 0).toNat = 58 ↔ l.getD k 0 = 58) := fun k => ⟨fun h => UInt8.toNat.inj h, fun h => by rw [h]; rfl⟩
    rw [← hS] at hsz
    clear hS
    go_enter Tryz.func48, Tryz.ntmps48
    go_wp2_with (first
      | ((with_reducible show wpList _ _ _ (⟨some 2, .alloc _, _, _, _, _⟩ :: _) _ _); refine wp_new _ rfl 62 rfl _ type38 ?_; intro w1 g2 B2 F2; simp only [Act.put, List.setIfInBounds_toArray, List.set_cons_zero, List.set_cons_succ])
      | ((with_reducible show wpList _ _ _ (⟨some 16, .build _ _, _, _, _, _⟩ :: _) _ _); refine wp_build0 _ rfl 62 rfl _ (build38 _) ?_; simp only [Act.put, List.setIfInBounds_toArray, List.set_cons_zero, List.set_cons_succ])
      | ((with_reducible show wpList _ _ _ (⟨some 4, .alloc _, _, _, _, _⟩ :: _) _ _); refine wp_new _ rfl 62 rfl _ type38 ?_; intro w2 g4 B4 F4; simp only [Act.put, List.setIfInBounds_toArray, List.set_cons_zero, List.set_cons_succ])
      | ((with_reducible show wpList _ _ _ (⟨none, .store 62 (.tmp 4) (.tmp 16), _, _, _, _⟩ :: _) _ _); refine wp_putAll _ rfl 62 (.tmp 4) (.tmp 16) rfl g4 62 _ (vhs zero8) rfl rfl B4 rfl (size38' zero8 rfl) (Hs_one _) ?_; intro w3 B3 U3; simp only [Act.put]))
    have Z3 : Z6 w w3 g2 g4 (vhs zero8) (vhs zero8) := ⟨(F4.blk B2).upd U3 (by have := B2.lt; rw [F4.is]; omega), B3, ((show Kept w w1 from F2.below).step F4.below).base (U3.below (by have := F2.below.size; have := F2.is; have := F4.is; omega)), by rw [F2.is]; exact Nat.le_refl _, by have := B2.lt; rw [F4.is]; exact this⟩
    clear B2 F2 B4 F4 B3 U3
    go_loop [6, 5] (fun i a => ∃ i0 : Int, i = .int .i64 i0 ∧ -2 ≤ i0 ∧ i0 + 2 ≤ (S : Int) ∧ a = .int .i64 (atI l (i0 + 1).toNat)) (fun i _ => (intOf i + 2).toNat)
    case atStart => exact ⟨(S : Int) - 2, by go_num, by omega, by omega, by rw [show ((S : Int) - 2 + 1).toNat = S - 1 by omega, hen.out]⟩
    case round =>
      obtain ⟨i0, rfl, hi1, hi2, rfl⟩ := hrel
      by_cases hi0 : 0 ≤ i0
      · obtain ⟨k, rfl⟩ := Int.eq_ofNat_of_zero_le hi0
        obtain ⟨k1, hk1⟩ : ∃ k1, k1 = k + 1 := ⟨_, rfl⟩
        have hk1i : (k : Int) + 1 = (k1 : Int) := by omega
        have hks : k < S := by omega
        have hk1s : k1 < S := by omega
        have HG1 := hgb.out k hks
        have HG2 := hgb.out k1 hk1s
        have hs1 := hst.out k (by omega)
        have h581 := h58.out k
        have h582 := h58.out k1
        rw [show ((k : Int) + 1).toNat = k1 by omega]
        rw [← hk1] at hs1
        obtain ⟨x, hx⟩ : ∃ x, x = (l.getD k 0).toNat := ⟨_, rfl⟩
        obtain ⟨y, hy⟩ : ∃ y, y = (l.getD k1 0).toNat := ⟨_, rfl⟩
        rw [← hx] at HG1 h581
        rw [← hy] at HG2 h582
        obtain ⟨T, hT⟩ : ∃ T, T = atI l k := ⟨_, rfl⟩
        obtain ⟨T1, hT1⟩ : ∃ T, T = atI l k1 := ⟨_, rfl⟩
        rw [← hT1]
        rw [← hT, ← hT1] at hs1
        have HT : Hid (T = atI l k) := hT
        clear hx hy hT hT1 hk1 hi1 hi0
        by_cases hxx : x = 58
        · have c1 : ((x : Int) == 58) = true := by simp [hxx]
          by_cases hyy : y = 58
          · have c2 : ((y : Int) == 58) = true := by simp [hyy]
            have hR : Hid (T = (k : Int)) := by show _ = _; rw [hs1, if_pos ⟨h581.1 hxx, h582.1 hyy⟩]
            clear hs1 hxx hyy h581 h582
            go_wp2_with fail
            go_round
            case rel => exact ⟨(k : Int) - 1, by go_num, by omega, by omega, by rw [show ((k : Int) - 1 + 1).toNat = k by omega, ← HT.out, hR.out]⟩
            case measure => simp [intOf]; omega
          · have c2 : ((y : Int) == 58) = false := by simp; omega
            have hR : Hid (T = T1) := by show _ = _; rw [hs1, if_neg (fun h => hyy (h582.2 h.2))]
            clear hs1 hxx hyy h581 h582
            go_wp2_with fail
            go_round
            case rel => exact ⟨(k : Int) - 1, by go_num, by omega, by omega, by rw [show ((k : Int) - 1 + 1).toNat = k by omega, ← HT.out, hR.out]⟩
            case measure => simp [intOf]; omega
        · have c1 : ((x : Int) == 58) = false := by simp; omega
          have hR : Hid (T = T1) := by show _ = _; rw [hs1, if_neg (fun h => hxx (h581.2 h.1))]
          clear hs1 hxx h581 h582
          go_wp2_with fail
          go_round
          case rel => exact ⟨(k : Int) - 1, by go_num, by omega, by omega, by rw [show ((k : Int) - 1 + 1).toNat = k by omega, ← HT.out, hR.out]⟩
          case measure => simp [intOf]; omega
      · rw [show (i0 + 1).toNat = 0 by omega, hat.out]
        have hi0n : ¬ (0 : Int) ≤ i0 := hi0
        clear hi0 hi1 hi2 hgb hst hen h58 hat
        have Z4 := (Z3.alloc (.cells #[] 9)).alloc (.cells #[] 9)
        clear Z3
        go_wp2_with (first
          | (go_at_call 73; (with_reducible refine (HX.out _).mono ?_); (rintro e wx ⟨gx, cx, rfl, hps, hb⟩; have Z5 := Z4.step hb; have PX1 : Hid (Ps wx gx X) := hps; clear hps hb))
          | (go_at_call 73; (with_reducible refine (HY.out _).mono ?_); (rintro e wy ⟨gy, cy, rfl, hps, hb⟩; have Z6' := Z5.step hb; have PY2 : Hid (Ps wy gy Y) := hps; have PX2 : Hid (Ps wy gx X) := PX1.out.kept8 hb; clear hps hb))
          | (go_at_call 74; (with_reducible refine (HRX.out _ _ _ PX2.out).mono ?_); (rintro e w7 ⟨rfl, hb⟩; have Z7 := Z6'.step hb; have PY7 := PY2.out.kept8 hb; clear hb))
          | (go_at_call 74; (with_reducible refine (HRY.out _ _ _ PY7).mono ?_); (rintro e w8 ⟨⟨A2, c2, rfl, hH2, hA2⟩, hb⟩; have Z8 := Z7.step hb; have HH2 := Lib.hid hH2; have GA2 := aft6 Z7.b4 hA2; clear hH2 hA2; clear hb))
          | ((with_reducible show wpList _ _ _ (⟨some 95, .load 62 (.tmp 4), _, _, _, _⟩ :: _) _ _); refine wp_get _ rfl 62 (.tmp 4) rfl g4 0 (vhs zero8) _ rfl Z8.b4.whole Tryz.underlying62 rfl (size38' zero8 rfl) ?_; simp only [Act.put, List.setIfInBounds_toArray, List.set_cons_zero, List.set_cons_succ])
          | ((with_reducible show wpList _ _ _ (⟨none, .store 62 (.tmp 2) (.tmp 95), _, _, _, _⟩ :: _) _ _); refine wp_putAll _ rfl 62 (.tmp 2) (.tmp 95) rfl g2 62 _ (vhs zero8) rfl rfl Z8.b2 rfl (size38' zero8 rfl) (Hs_one _) ?_; intro w9 B9 U9; simp only [Act.put]; have Z9 := Z8.set2 B9 U9; clear B9 U9))
        refine ret_cell2 2 3 62 rfl g2 (vhs zero8) _ rfl Z9.b2.whole Tryz.underlying62 rfl (size38' zero8 rfl) rfl (.int .i64 7) rfl ⟨rfl, Z9.kp⟩
set_option maxHeartbeats 8000000 in
set_option maxRecDepth 100000 in
theorem r6_B11_N3 (l lx ly : List UInt8) (X Y : List (List UInt8)) (xs ys : List Nat) (S nx ny p q n j : Nat) (w : World) (hS : S = l.length) (hS2 : S ≤ 100000000) (hat : Hid (atI l 0 = (j : Int))) (hj : j ≤ S) (hj0 : (0 : Int) < (j : Int)) (tx : (str l).extract 0 j = str lx) (j2 : Nat) (hj2 : (j : Int) + 2 = (j2 : Int)) (hj3 : (j2 : Int) < (S : Int)) (ty : (str l).extract j2 S = str ly) (HX : Hid (∀ W, Calls Tryz.prog 73 #[.string (str lx), .int .u8 58] W fun e w' => ∃ g c, e = .returned (.slice (some ⟨g, 0, none⟩) nx c) ∧ Ps w' g X ∧ Below W.heap.size W w')) (HY : Hid (∀ W, Calls Tryz.prog 73 #[.string (str ly), .int .u8 58] W fun e w' => ∃ g c, e = .returned (.slice (some ⟨g, 0, none⟩) ny c) ∧ Ps w' g Y ∧ Below W.heap.size W w')) (HRX : Hid (∀ g c W, Ps W g X → Calls Tryz.prog 74 #[.slice (some ⟨g, 0, none⟩) nx c, .bool false] W fun e w' => (∃ A c, e = .returned (.tuple #[.slice A p c, .bool true]) ∧ Hs w' w'.heap.size A p xs ∧ ∀ b off, A = some ⟨b, off, none⟩ → W.heap.size ≤ b) ∧ Below W.heap.size W w')) (HRY : Hid (∀ g c W, Ps W g Y → Calls Tryz.prog 74 #[.slice (some ⟨g, 0, none⟩) ny c, .bool true] W fun e w' => (e = .returned (.tuple #[.slice none 0 0, .bool false])) ∧ Below W.heap.size W w')) : Calls Tryz.prog 48 #[.string (str l)] w fun e w' => e = .returned (ip6V none) ∧ Below w.heap.size w w' := by
    have hsz := str_size l
    have hgb : Hid (∀ k, k < S → ∀ h, ((str l)[k]'h).toNat = (l.getD k 0).toNat) := fun k hk h => str_at l k (by omega) h
    have hst : Hid (∀ k, k + 1 < S → atI l k = if l.getD k 0 = 58 ∧ l.getD (k + 1) 0 = 58 then (k : Int) else atI l (k + 1)) := fun k hk => atI_step l k (by omega)
    have hen : Hid (atI l (S - 1) = -1) := atI_end l (S - 1) (by omega)
    have h58 : Hid (∀ k, (l.getD k 0).toNat = 58 ↔ l.getD k 0 = 58) := fun k => ⟨fun h => UInt8.toNat.inj h, fun h => by rw [h]; rfl⟩
    rw [← hS] at hsz
    clear hS
    go_enter Tryz.func48, Tryz.ntmps48
    go_wp2_with (first
      | ((with_reducible show wpList _ _ _ (⟨some 2, .alloc _, _, _, _, _⟩ :: _) _ _); refine wp_new _ rfl 62 rfl _ type38 ?_; intro w1 g2 B2 F2; simp only [Act.put, List.setIfInBounds_toArray, List.set_cons_zero, List.set_cons_succ])
      | ((with_reducible show wpList _ _ _ (⟨some 16, .build _ _, _, _, _, _⟩ :: _) _ _); refine wp_build0 _ rfl 62 rfl _ (build38 _) ?_; simp only [Act.put, List.setIfInBounds_toArray, List.set_cons_zero, List.set_cons_succ])
      | ((with_reducible show wpList _ _ _ (⟨some 4, .alloc _, _, _, _, _⟩ :: _) _ _); refine wp_new _ rfl 62 rfl _ type38 ?_; intro w2 g4 B4 F4; simp only [Act.put, List.setIfInBounds_toArray, List.set_cons_zero, List.set_cons_succ])
      | ((with_reducible show wpList _ _ _ (⟨none, .store 62 (.tmp 4) (.tmp 16), _, _, _, _⟩ :: _) _ _); refine wp_putAll _ rfl 62 (.tmp 4) (.tmp 16) rfl g4 62 _ (vhs zero8) rfl rfl B4 rfl (size38' zero8 rfl) (Hs_one _) ?_; intro w3 B3 U3; simp only [Act.put]))
    have Z3 : Z6 w w3 g2 g4 (vhs zero8) (vhs zero8) := ⟨(F4.blk B2).upd U3 (by have := B2.lt; rw [F4.is]; omega), B3, ((show Kept w w1 from F2.below).step F4.below).base (U3.below (by have := F2.below.size; have := F2.is; have := F4.is; omega)), by rw [F2.is]; exact Nat.le_refl _, by have := B2.lt; rw [F4.is]; exact this⟩
    clear B2 F2 B4 F4 B3 U3
    go_loop [6, 5] (fun i a => ∃ i0 : Int, i = .int .i64 i0 ∧ -2 ≤ i0 ∧ i0 + 2 ≤ (S : Int) ∧ a = .int .i64 (atI l (i0 + 1).toNat)) (fun i _ => (intOf i + 2).toNat)
    case atStart => exact ⟨(S : Int) - 2, by go_num, by omega, by omega, by rw [show ((S : Int) - 2 + 1).toNat = S - 1 by omega, hen.out]⟩
    case round =>
      obtain ⟨i0, rfl, hi1, hi2, rfl⟩ := hrel
      by_cases hi0 : 0 ≤ i0
      · obtain ⟨k, rfl⟩ := Int.eq_ofNat_of_zero_le hi0
        obtain ⟨k1, hk1⟩ : ∃ k1, k1 = k + 1 := ⟨_, rfl⟩
        have hk1i : (k : Int) + 1 = (k1 : Int) := by omega
        have hks : k < S := by omega
        have hk1s : k1 < S := by omega
        have HG1 := hgb.out k hks
        have HG2 := hgb.out k1 hk1s
        have hs1 := hst.out k (by omega)
        have h581 := h58.out k
        have h582 := h58.out k1
        rw [show ((k : Int) + 1).toNat = k1 by omega]
        rw [← hk1] at hs1
        obtain ⟨x, hx⟩ : ∃ x, x = (l.getD k 0).toNat := ⟨_, rfl⟩
        obtain ⟨y, hy⟩ : ∃ y, y = (l.getD k1 0).toNat := ⟨_, rfl⟩
        rw [← hx] at HG1 h581
        rw [← hy] at HG2 h582
        obtain ⟨T, hT⟩ : ∃ T, T = atI l k := ⟨_, rfl⟩
        obtain ⟨T1, hT1⟩ : ∃ T, T = atI l k1 := ⟨_, rfl⟩
        rw [← hT1]
        rw [← hT, ← hT1] at hs1
        have HT : Hid (T = atI l k) := hT
        clear hx hy hT hT1 hk1 hi1 hi0
        by_cases hxx : x = 58
        · have c1 : ((x : Int) == 58) = true := by simp [hxx]
          by_cases hyy : y = 58
          · have c2 : ((y : Int) == 58) = true := by simp [hyy]
            have hR : Hid (T = (k : Int)) := by show _ = _; rw [hs1, if_pos ⟨h581.1 hxx, h582.1 hyy⟩]
            clear hs1 hxx hyy h581 h582
            go_wp2_with fail
            go_round
            case rel => exact ⟨(k : Int) - 1, by go_num, by omega, by omega, by rw [show ((k : Int) - 1 + 1).toNat = k by omega, ← HT.out, hR.out]⟩
            case measure => simp [intOf]; omega
          · have c2 : ((y : Int) == 58) = false := by simp; omega
            have hR : Hid (T = T1) := by show _ = _; rw [hs1, if_neg (fun h => hyy (h582.2 h.2))]
            clear hs1 hxx hyy h581 h582
            go_wp2_with fail
            go_round
            case rel => exact ⟨(k : Int) - 1, by go_num, by omega, by omega, by rw [show ((k : Int) - 1 + 1).toNat = k by omega, ← HT.out, hR.out]⟩
            case measure => simp [intOf]; omega
        · have c1 : ((x : Int) == 58) = false := by simp; omega
          have hR : Hid (T = T1) := by show _ = _; rw [hs1, if_neg (fun h => hxx (h581.2 h.1))]
          clear hs1 hxx h581 h582
          go_wp2_with fail
          go_round
          case rel => exact ⟨(k : Int) - 1, by go_num, by omega, by omega, by rw [show ((k : Int) - 1 + 1).toNat = k by omega, ← HT.out, hR.out]⟩
          case measure => simp [intOf]; omega
      · rw [show (i0 + 1).toNat = 0 by omega, hat.out]
        have hi0n : ¬ (0 : Int) ≤ i0 := hi0
        clear hi0 hi1 hi2 hgb hst hen h58 hat
        have Z4 := (Z3.alloc (.cells #[] 9)).alloc (.cells #[] 9)
        clear Z3
        go_wp2_with (first
          | (go_at_call 73; (with_reducible refine (HX.out _).mono ?_); (rintro e wx ⟨gx, cx, rfl, hps, hb⟩; have Z5 := Z4.step hb; have PX1 : Hid (Ps wx gx X) := hps; clear hps hb))
          | (go_at_call 73; (with_reducible refine (HY.out _).mono ?_); (rintro e wy ⟨gy, cy, rfl, hps, hb⟩; have Z6' := Z5.step hb; have PY2 : Hid (Ps wy gy Y) := hps; have PX2 : Hid (Ps wy gx X) := PX1.out.kept8 hb; clear hps hb))
          | (go_at_call 74; (with_reducible refine (HRX.out _ _ _ PX2.out).mono ?_); (rintro e w7 ⟨⟨A1, c1, rfl, hH1, hA1⟩, hb⟩; have Z7 := Z6'.step hb; have PY7 := PY2.out.kept8 hb; have HH1 := Lib.hid hH1; have GA1 := aft6 Z6'.b4 hA1; clear hH1 hA1; clear hb))
          | (go_at_call 74; (with_reducible refine (HRY.out _ _ _ PY7).mono ?_); (rintro e w8 ⟨rfl, hb⟩; have Z8 := Z7.step hb; have HH8 := Lib.hid (HH1.out.kept8 hb); clear hb))
          | ((with_reducible show wpList _ _ _ (⟨some 95, .load 62 (.tmp 4), _, _, _, _⟩ :: _) _ _); refine wp_get _ rfl 62 (.tmp 4) rfl g4 0 (vhs zero8) _ rfl Z8.b4.whole Tryz.underlying62 rfl (size38' zero8 rfl) ?_; simp only [Act.put, List.setIfInBounds_toArray, List.set_cons_zero, List.set_cons_succ])
          | ((with_reducible show wpList _ _ _ (⟨none, .store 62 (.tmp 2) (.tmp 95), _, _, _, _⟩ :: _) _ _); refine wp_putAll _ rfl 62 (.tmp 2) (.tmp 95) rfl g2 62 _ (vhs zero8) rfl rfl Z8.b2 rfl (size38' zero8 rfl) (Hs_one _) ?_; intro w9 B9 U9; simp only [Act.put]; have Z9 := Z8.set2 B9 U9; clear B9 U9))
        refine ret_cell2 2 3 62 rfl g2 (vhs zero8) _ rfl Z9.b2.whole Tryz.underlying62 rfl (size38' zero8 rfl) rfl (.int .i64 7) rfl ⟨rfl, Z9.kp⟩
set_option maxHeartbeats 8000000 in
set_option maxRecDepth 100000 in
theorem r6_B11_F (l lx ly : List UInt8) (X Y : List (List UInt8)) (xs ys : List Nat) (S nx ny p q n j : Nat) (w : World) (hS : S = l.length) (hS2 : S ≤ 100000000) (hat : Hid (atI l 0 = (j : Int))) (hj : j ≤ S) (hj0 : (0 : Int) < (j : Int)) (tx : (str l).extract 0 j = str lx) (j2 : Nat) (hj2 : (j : Int) + 2 = (j2 : Int)) (hj3 : (j2 : Int) < (S : Int)) (ty : (str l).extract j2 S = str ly) (HX : Hid (∀ W, Calls Tryz.prog 73 #[.string (str lx), .int .u8 58] W fun e w' => ∃ g c, e = .returned (.slice (some ⟨g, 0, none⟩) nx c) ∧ Ps w' g X ∧ Below W.heap.size W w')) (HY : Hid (∀ W, Calls Tryz.prog 73 #[.string (str ly), .int .u8 58] W fun e w' => ∃ g c, e = .returned (.slice (some ⟨g, 0, none⟩) ny c) ∧ Ps w' g Y ∧ Below W.heap.size W w')) (HRX : Hid (∀ g c W, Ps W g X → Calls Tryz.prog 74 #[.slice (some ⟨g, 0, none⟩) nx c, .bool false] W fun e w' => (∃ A c, e = .returned (.tuple #[.slice A p c, .bool true]) ∧ Hs w' w'.heap.size A p xs ∧ ∀ b off, A = some ⟨b, off, none⟩ → W.heap.size ≤ b) ∧ Below W.heap.size W w')) (HRY : Hid (∀ g c W, Ps W g Y → Calls Tryz.prog 74 #[.slice (some ⟨g, 0, none⟩) ny c, .bool true] W fun e w' => (∃ A c, e = .returned (.tuple #[.slice A q c, .bool true]) ∧ Hs w' w'.heap.size A q ys ∧ ∀ b off, A = some ⟨b, off, none⟩ → W.heap.size ≤ b) ∧ Below W.heap.size W w')) (hn : (p : Int) + (q : Int) = (n : Int)) (hn9 : n ≤ 300000000) (hc : (7 : Int) < (n : Int)) : Calls Tryz.prog 48 #[.string (str l)] w fun e w' => e = .returned (ip6V none) ∧ Below w.heap.size w w' := by
    have hsz := str_size l
    have hgb : Hid (∀ k, k < S → ∀ h, ((str l)[k]'h).toNat = (l.getD k 0).toNat) := fun k hk h => str_at l k (by omega) h
    have hst : Hid (∀ k, k + 1 < S → atI l k = if l.getD k 0 = 58 ∧ l.getD (k + 1) 0 = 58 then (k : Int) else atI l (k + 1)) := fun k hk => atI_step l k (by omega)
    have hen : Hid (atI l (S - 1) = -1) := atI_end l (S - 1) (by omega)
    have h58 : Hid (∀ k, (l.getD k 0).toNat = 58 ↔ l.getD k 0 = 58) := fun k => ⟨fun h => UInt8.toNat.inj h, fun h => by rw [h]; rfl⟩
    rw [← hS] at hsz
    clear hS
    go_enter Tryz.func48, Tryz.ntmps48
    go_wp2_with (first
      | ((with_reducible show wpList _ _ _ (⟨some 2, .alloc _, _, _, _, _⟩ :: _) _ _); refine wp_new _ rfl 62 rfl _ type38 ?_; intro w1 g2 B2 F2; simp only [Act.put, List.setIfInBounds_toArray, List.set_cons_zero, List.set_cons_succ])
      | ((with_reducible show wpList _ _ _ (⟨some 16, .build _ _, _, _, _, _⟩ :: _) _ _); refine wp_build0 _ rfl 62 rfl _ (build38 _) ?_; simp only [Act.put, List.setIfInBounds_toArray, List.set_cons_zero, List.set_cons_succ])
      | ((with_reducible show wpList _ _ _ (⟨some 4, .alloc _, _, _, _, _⟩ :: _) _ _); refine wp_new _ rfl 62 rfl _ type38 ?_; intro w2 g4 B4 F4; simp only [Act.put, List.setIfInBounds_toArray, List.set_cons_zero, List.set_cons_succ])
      | ((with_reducible show wpList _ _ _ (⟨none, .store 62 (.tmp 4) (.tmp 16), _, _, _, _⟩ :: _) _ _); refine wp_putAll _ rfl 62 (.tmp 4) (.tmp 16) rfl g4 62 _ (vhs zero8) rfl rfl B4 rfl (size38' zero8 rfl) (Hs_one _) ?_; intro w3 B3 U3; simp only [Act.put]))
    have Z3 : Z6 w w3 g2 g4 (vhs zero8) (vhs zero8) := ⟨(F4.blk B2).upd U3 (by have := B2.lt; rw [F4.is]; omega), B3, ((show Kept w w1 from F2.below).step F4.below).base (U3.below (by have := F2.below.size; have := F2.is; have := F4.is; omega)), by rw [F2.is]; exact Nat.le_refl _, by have := B2.lt; rw [F4.is]; exact this⟩
    clear B2 F2 B4 F4 B3 U3
    go_loop [6, 5] (fun i a => ∃ i0 : Int, i = .int .i64 i0 ∧ -2 ≤ i0 ∧ i0 + 2 ≤ (S : Int) ∧ a = .int .i64 (atI l (i0 + 1).toNat)) (fun i _ => (intOf i + 2).toNat)
    case atStart => exact ⟨(S : Int) - 2, by go_num, by omega, by omega, by rw [show ((S : Int) - 2 + 1).toNat = S - 1 by omega, hen.out]⟩
    case round =>
      obtain ⟨i0, rfl, hi1, hi2, rfl⟩ := hrel
      by_cases hi0 : 0 ≤ i0
      · obtain ⟨k, rfl⟩ := Int.eq_ofNat_of_zero_le hi0
        obtain ⟨k1, hk1⟩ : ∃ k1, k1 = k + 1 := ⟨_, rfl⟩
        have hk1i : (k : Int) + 1 = (k1 : Int) := by omega
        have hks : k < S := by omega
        have hk1s : k1 < S := by omega
        have HG1 := hgb.out k hks
        have HG2 := hgb.out k1 hk1s
        have hs1 := hst.out k (by omega)
        have h581 := h58.out k
        have h582 := h58.out k1
        rw [show ((k : Int) + 1).toNat = k1 by omega]
        rw [← hk1] at hs1
        obtain ⟨x, hx⟩ : ∃ x, x = (l.getD k 0).toNat := ⟨_, rfl⟩
        obtain ⟨y, hy⟩ : ∃ y, y = (l.getD k1 0).toNat := ⟨_, rfl⟩
        rw [← hx] at HG1 h581
        rw [← hy] at HG2 h582
        obtain ⟨T, hT⟩ : ∃ T, T = atI l k := ⟨_, rfl⟩
        obtain ⟨T1, hT1⟩ : ∃ T, T = atI l k1 := ⟨_, rfl⟩
        rw [← hT1]
        rw [← hT, ← hT1] at hs1
        have HT : Hid (T = atI l k) := hT
        clear hx hy hT hT1 hk1 hi1 hi0
        by_cases hxx : x = 58
        · have c1 : ((x : Int) == 58) = true := by simp [hxx]
          by_cases hyy : y = 58
          · have c2 : ((y : Int) == 58) = true := by simp [hyy]
            have hR : Hid (T = (k : Int)) := by show _ = _; rw [hs1, if_pos ⟨h581.1 hxx, h582.1 hyy⟩]
            clear hs1 hxx hyy h581 h582
            go_wp2_with fail
            go_round
            case rel => exact ⟨(k : Int) - 1, by go_num, by omega, by omega, by rw [show ((k : Int) - 1 + 1).toNat = k by omega, ← HT.out, hR.out]⟩
            case measure => simp [intOf]; omega
          · have c2 : ((y : Int) == 58) = false := by simp; omega
            have hR : Hid (T = T1) := by show _ = _; rw [hs1, if_neg (fun h => hyy (h582.2 h.2))]
            clear hs1 hxx hyy h581 h582
            go_wp2_with fail
            go_round
            case rel => exact ⟨(k : Int) - 1, by go_num, by omega, by omega, by rw [show ((k : Int) - 1 + 1).toNat = k by omega, ← HT.out, hR.out]⟩
            case measure => simp [intOf]; omega
        · have c1 : ((x : Int) == 58) = false := by simp; omega
          have hR : Hid (T = T1) := by show _ = _; rw [hs1, if_neg (fun h => hxx (h581.2 h.1))]
          clear hs1 hxx h581 h582
          go_wp2_with fail
          go_round
          case rel => exact ⟨(k : Int) - 1, by go_num, by omega, by omega, by rw [show ((k : Int) - 1 + 1).toNat = k by omega, ← HT.out, hR.out]⟩
          case measure => simp [intOf]; omega
      · rw [show (i0 + 1).toNat = 0 by omega, hat.out]
        have hi0n : ¬ (0 : Int) ≤ i0 := hi0
        clear hi0 hi1 hi2 hgb hst hen h58 hat
        have Z4 := (Z3.alloc (.cells #[] 9)).alloc (.cells #[] 9)
        clear Z3
        go_wp2_with (first
          | (go_at_call 73; (with_reducible refine (HX.out _).mono ?_); (rintro e wx ⟨gx, cx, rfl, hps, hb⟩; have Z5 := Z4.step hb; have PX1 : Hid (Ps wx gx X) := hps; clear hps hb))
          | (go_at_call 73; (with_reducible refine (HY.out _).mono ?_); (rintro e wy ⟨gy, cy, rfl, hps, hb⟩; have Z6' := Z5.step hb; have PY2 : Hid (Ps wy gy Y) := hps; have PX2 : Hid (Ps wy gx X) := PX1.out.kept8 hb; clear hps hb))
          | (go_at_call 74; (with_reducible refine (HRX.out _ _ _ PX2.out).mono ?_); (rintro e w7 ⟨⟨A1, c1, rfl, hH1, hA1⟩, hb⟩; have Z7 := Z6'.step hb; have PY7 := PY2.out.kept8 hb; have HH1 := Lib.hid hH1; have GA1 := aft6 Z6'.b4 hA1; clear hH1 hA1; clear hb))
          | (go_at_call 74; (with_reducible refine (HRY.out _ _ _ PY7).mono ?_); (rintro e w8 ⟨⟨A2, c2, rfl, hH2, hA2⟩, hb⟩; have Z8 := Z7.step hb; have HH8 := Lib.hid (HH1.out.kept8 hb); have HH2 := Lib.hid hH2; have GA2 := aft6 Z7.b4 hA2; clear hH2 hA2; clear hb))
          | ((with_reducible show wpList _ _ _ (⟨some 95, .load 62 (.tmp 4), _, _, _, _⟩ :: _) _ _); refine wp_get _ rfl 62 (.tmp 4) rfl g4 0 (vhs zero8) _ rfl Z8.b4.whole Tryz.underlying62 rfl (size38' zero8 rfl) ?_; simp only [Act.put, List.setIfInBounds_toArray, List.set_cons_zero, List.set_cons_succ])
          | ((with_reducible show wpList _ _ _ (⟨none, .store 62 (.tmp 2) (.tmp 95), _, _, _, _⟩ :: _) _ _); refine wp_putAll _ rfl 62 (.tmp 2) (.tmp 95) rfl g2 62 _ (vhs zero8) rfl rfl Z8.b2 rfl (size38' zero8 rfl) (Hs_one _) ?_; intro w9 B9 U9; simp only [Act.put]; have Z9 := Z8.set2 B9 U9; clear B9 U9))
        refine ret_cell2 2 3 62 rfl g2 (vhs zero8) _ rfl Z9.b2.whole Tryz.underlying62 rfl (size38' zero8 rfl) rfl (.int .i64 7) rfl ⟨rfl, Z9.kp⟩
set_option maxHeartbeats 8000000 in
set_option maxRecDepth 100000 in
theorem r6_B11_O (l lx ly : List UInt8) (X Y : List (List UInt8)) (xs ys : List Nat) (S nx ny p q n j : Nat) (w : World) (hS : S = l.length) (hS2 : S ≤ 100000000) (hat : Hid (atI l 0 = (j : Int))) (hj : j ≤ S) (hj0 : (0 : Int) < (j : Int)) (tx : (str l).extract 0 j = str lx) (j2 : Nat) (hj2 : (j : Int) + 2 = (j2 : Int)) (hj3 : (j2 : Int) < (S : Int)) (ty : (str l).extract j2 S = str ly) (HX : Hid (∀ W, Calls Tryz.prog 73 #[.string (str lx), .int .u8 58] W fun e w' => ∃ g c, e = .returned (.slice (some ⟨g, 0, none⟩) nx c) ∧ Ps w' g X ∧ Below W.heap.size W w')) (HY : Hid (∀ W, Calls Tryz.prog 73 #[.string (str ly), .int .u8 58] W fun e w' => ∃ g c, e = .returned (.slice (some ⟨g, 0, none⟩) ny c) ∧ Ps w' g Y ∧ Below W.heap.size W w')) (HRX : Hid (∀ g c W, Ps W g X → Calls Tryz.prog 74 #[.slice (some ⟨g, 0, none⟩) nx c, .bool false] W fun e w' => (∃ A c, e = .returned (.tuple #[.slice A p c, .bool true]) ∧ Hs w' w'.heap.size A p xs ∧ ∀ b off, A = some ⟨b, off, none⟩ → W.heap.size ≤ b) ∧ Below W.heap.size W w')) (HRY : Hid (∀ g c W, Ps W g Y → Calls Tryz.prog 74 #[.slice (some ⟨g, 0, none⟩) ny c, .bool true] W fun e w' => (∃ A c, e = .returned (.tuple #[.slice A q c, .bool true]) ∧ Hs w' w'.heap.size A q ys ∧ ∀ b off, A = some ⟨b, off, none⟩ → W.heap.size ≤ b) ∧ Below W.heap.size W w')) (hn : (p : Int) + (q : Int) = (n : Int)) (hn9 : n ≤ 300000000) (hc : ¬ (7 : Int) < (n : Int)) (hpq : p + q ≤ 8) (hxl : xs.length = p) (hyl : ys.length = q) (FF : List Nat) (hFF : Hid (xs ++ List.replicate (8 - p - q) 0 ++ ys = FF)) : Calls Tryz.prog 48 #[.string (str l)] w fun e w' => e = .returned (ip6V (some FF)) ∧ Below w.heap.size w w' := by
    have hsz := str_size l
    have hgb : Hid (∀ k, k < S → ∀ h, ((str l)[k]'h).toNat = (l.getD k 0).toNat) := fun k hk h => str_at l k (by omega) h
    have hst : Hid (∀ k, k + 1 < S → atI l k = if l.getD k 0 = 58 ∧ l.getD (k + 1) 0 = 58 then (k : Int) else atI l (k + 1)) := fun k hk => atI_step l k (by omega)
    have hen : Hid (atI l (S - 1) = -1) := atI_end l (S - 1) (by omega)
    have h58 : Hid (∀ k, (l.getD k 0).toNat = 58 ↔ l.getD k 0 = 58) := fun k => ⟨fun h => UInt8.toNat.inj h, fun h => by rw [h]; rfl⟩
    rw [← hS] at hsz
    clear hS
    go_enter Tryz.func48, Tryz.ntmps48
    go_wp2_with (first
      | ((with_reducible show wpList _ _ _ (⟨some 2, .alloc _, _, _, _, _⟩ :: _) _ _); refine wp_new _ rfl 62 rfl _ type38 ?_; intro w1 g2 B2 F2; simp only [Act.put, List.setIfInBounds_toArray, List.set_cons_zero, List.set_cons_succ])
      | ((with_reducible show wpList _ _ _ (⟨some 16, .build _ _, _, _, _, _⟩ :: _) _ _); refine wp_build0 _ rfl 62 rfl _ (build38 _) ?_; simp only [Act.put, List.setIfInBounds_toArray, List.set_cons_zero, List.set_cons_succ])
      | ((with_reducible show wpList _ _ _ (⟨some 4, .alloc _, _, _, _, _⟩ :: _) _ _); refine wp_new _ rfl 62 rfl _ type38 ?_; intro w2 g4 B4 F4; simp only [Act.put, List.setIfInBounds_toArray, List.set_cons_zero, List.set_cons_succ])
      | ((with_reducible show wpList _ _ _ (⟨none, .store 62 (.tmp 4) (.tmp 16), _, _, _, _⟩ :: _) _ _); refine wp_putAll _ rfl 62 (.tmp 4) (.tmp 16) rfl g4 62 _ (vhs zero8) rfl rfl B4 rfl (size38' zero8 rfl) (Hs_one _) ?_; intro w3 B3 U3; simp only [Act.put]))
    have Z3 : Z6 w w3 g2 g4 (vhs zero8) (vhs zero8) := ⟨(F4.blk B2).upd U3 (by have := B2.lt; rw [F4.is]; omega), B3, ((show Kept w w1 from F2.below).step F4.below).base (U3.below (by have := F2.below.size; have := F2.is; have := F4.is; omega)), by rw [F2.is]; exact Nat.le_refl _, by have := B2.lt; rw [F4.is]; exact this⟩
    clear B2 F2 B4 F4 B3 U3
    go_loop [6, 5] (fun i a => ∃ i0 : Int, i = .int .i64 i0 ∧ -2 ≤ i0 ∧ i0 + 2 ≤ (S : Int) ∧ a = .int .i64 (atI l (i0 + 1).toNat)) (fun i _ => (intOf i + 2).toNat)
    case atStart => exact ⟨(S : Int) - 2, by go_num, by omega, by omega, by rw [show ((S : Int) - 2 + 1).toNat = S - 1 by omega, hen.out]⟩
    case round =>
      obtain ⟨i0, rfl, hi1, hi2, rfl⟩ := hrel
      by_cases hi0 : 0 ≤ i0
      · obtain ⟨k, rfl⟩ := Int.eq_ofNat_of_zero_le hi0
        obtain ⟨k1, hk1⟩ : ∃ k1, k1 = k + 1 := ⟨_, rfl⟩
        have hk1i : (k : Int) + 1 = (k1 : Int) := by omega
        have hks : k < S := by omega
        have hk1s : k1 < S := by omega
        have HG1 := hgb.out k hks
        have HG2 := hgb.out k1 hk1s
        have hs1 := hst.out k (by omega)
        have h581 := h58.out k
        have h582 := h58.out k1
        rw [show ((k : Int) + 1).toNat = k1 by omega]
        rw [← hk1] at hs1
        obtain ⟨x, hx⟩ : ∃ x, x = (l.getD k 0).toNat := ⟨_, rfl⟩
        obtain ⟨y, hy⟩ : ∃ y, y = (l.getD k1 0).toNat := ⟨_, rfl⟩
        rw [← hx] at HG1 h581
        rw [← hy] at HG2 h582
        obtain ⟨T, hT⟩ : ∃ T, T = atI l k := ⟨_, rfl⟩
        obtain ⟨T1, hT1⟩ : ∃ T, T = atI l k1 := ⟨_, rfl⟩
        rw [← hT1]
        rw [← hT, ← hT1] at hs1
        have HT : Hid (T = atI l k) := hT
        clear hx hy hT hT1 hk1 hi1 hi0
        by_cases hxx : x = 58
        · have c1 : ((x : Int) == 58) = true := by simp [hxx]
          by_cases hyy : y = 58
          · have c2 : ((y : Int) == 58) = true := by simp [hyy]
            have hR : Hid (T = (k : Int)) := by show _ = _; rw [hs1, if_pos ⟨h581.1 hxx, h582.1 hyy⟩]
            clear hs1 hxx hyy h581 h582
            go_wp2_with fail
            go_round
            case rel => exact ⟨(k : Int) - 1, by go_num, by omega, by omega, by rw [show ((k : Int) - 1 + 1).toNat = k by omega, ← HT.out, hR.out]⟩
            case measure => simp [intOf]; omega
          · have c2 : ((y : Int) == 58) = false := by simp; omega
            have hR : Hid (T = T1) := by show _ = _; rw [hs1, if_neg (fun h => hyy (h582.2 h.2))]
            clear hs1 hxx hyy h581 h582
            go_wp2_with fail
            go_round
            case rel => exact ⟨(k : Int) - 1, by go_num, by omega, by omega, by rw [show ((k : Int) - 1 + 1).toNat = k by omega, ← HT.out, hR.out]⟩
            case measure => simp [intOf]; omega
        · have c1 : ((x : Int) == 58) = false := by simp; omega
          have hR : Hid (T = T1) := by show _ = _; rw [hs1, if_neg (fun h => hxx (h581.2 h.1))]
          clear hs1 hxx h581 h582
          go_wp2_with fail
          go_round
          case rel => exact ⟨(k : Int) - 1, by go_num, by omega, by omega, by rw [show ((k : Int) - 1 + 1).toNat = k by omega, ← HT.out, hR.out]⟩
          case measure => simp [intOf]; omega
      · rw [show (i0 + 1).toNat = 0 by omega, hat.out]
        have hi0n : ¬ (0 : Int) ≤ i0 := hi0
        clear hi0 hi1 hi2 hgb hst hen h58 hat
        have Z4 := (Z3.alloc (.cells #[] 9)).alloc (.cells #[] 9)
        clear Z3
        go_wp2_with (first
          | (go_at_call 73; (with_reducible refine (HX.out _).mono ?_); (rintro e wx ⟨gx, cx, rfl, hps, hb⟩; have Z5 := Z4.step hb; have PX1 : Hid (Ps wx gx X) := hps; clear hps hb))
          | (go_at_call 73; (with_reducible refine (HY.out _).mono ?_); (rintro e wy ⟨gy, cy, rfl, hps, hb⟩; have Z6' := Z5.step hb; have PY2 : Hid (Ps wy gy Y) := hps; have PX2 : Hid (Ps wy gx X) := PX1.out.kept8 hb; clear hps hb))
          | (go_at_call 74; (with_reducible refine (HRX.out _ _ _ PX2.out).mono ?_); (rintro e w7 ⟨⟨A1, c1, rfl, hH1, hA1⟩, hb⟩; have Z7 := Z6'.step hb; have PY7 := PY2.out.kept8 hb; have HH1 := Lib.hid hH1; have GA1 := aft6 Z6'.b4 hA1; clear hH1 hA1; clear hb))
          | (go_at_call 74; (with_reducible refine (HRY.out _ _ _ PY7).mono ?_); (rintro e w8 ⟨⟨A2, c2, rfl, hH2, hA2⟩, hb⟩; have Z8 := Z7.step hb; have HH8 := Lib.hid (HH1.out.kept8 hb); have HH2 := Lib.hid hH2; have GA2 := aft6 Z7.b4 hA2; clear hH2 hA2; clear hb)))
        have HA1 := Lib.hid (And.intro hxl hyl)
        clear hxl hyl
        go_loopw [14] (fun i wr => ∃ k : Nat, k ≤ p ∧ i = .int .i64 (k : Int) ∧ Z6 w wr g2 g4 (vhs zero8) (vhs (xs.take k ++ List.replicate (8 - k) 0)) ∧ Hs wr wr.heap.size A1 p xs ∧ Hs wr wr.heap.size A2 q ys) (fun i _ => p - (intOf i).toNat)
        case atStart => exact ⟨0, by omega, rfl, Z8, HH8.out, HH2.out⟩
        case round =>
          obtain ⟨k, hk, rfl, Z9, hh1, hh2⟩ := hrel
          clear Z8 HH8 HH2
          have HE1 := Lib.hid hh1
          have HE2 := Lib.hid hh2
          have HZ9 := Lib.hid Z9
          clear hh1 hh2 Z9
          by_cases hlt : k < p
          · have hkp : (k : Int) < (p : Int) := by omega
            have hk8 : k < 8 := by omega
            obtain ⟨b, off, hA, hbl, hcell⟩ := HE1.out.at_ hlt
            unfold vh at hcell
            have hfl := fill1 xs k (by rw [HA1.out.1]; exact hlt) hk8
            have hlen : Hid (k < (vhs (xs.take k ++ List.replicate (8 - k) 0)).length) := by show _ < _; rw [Hs_len, List.length_append, List.length_replicate, List.length_take, HA1.out.1]; omega
            have hset := vhs_set (xs.take k ++ List.replicate (8 - k) 0) k (xs.getD k 0)
            rw [hfl] at hset
            obtain ⟨x, hx⟩ : ∃ x, x = xs.getD k 0 := ⟨_, rfl⟩
            rw [← hx] at hcell hset
            have HSt := Lib.hid hset
            clear hfl hset hx
            subst hA
            go_wp2_with (first
              | ((with_reducible show wpList _ _ _ (⟨none, .store 61 (.tmp 107) (.tmp 106), _, _, _, _⟩ :: _) _ _); refine wp_set _ rfl 61 (.tmp 107) (.tmp 106) rfl g4 k 62 _ (.int .u16 (x : Int)) rfl rfl rfl rfl HZ9.out.b4 hlen.out size37 ?_; intro w10 B10 U10; simp only [Act.put]))
            rw [HSt.out] at B10
            go_roundw
            case rel => exact ⟨k + 1, by omega, by go_num, HZ9.out.set4 B10 U10, HE1.out.upd8 U10 GA1.out, HE2.out.upd8 U10 GA2.out⟩
            case measure => simp [intOf]; omega
          · have hkp : ¬ (k : Int) < (p : Int) := by omega
            obtain rfl : k = p := by omega
            have hf3 := fill3 xs ys k q HA1.out.1 hpq
            have HZ10 : Hid (Z6 w wr g2 g4 (vhs zero8) (vhs (xs ++ List.replicate (8 - k - q) 0 ++ ys.take 0 ++ List.replicate (q - 0) 0))) := by show Z6 _ _ _ _ _ _; rw [← hf3]; exact HZ9.out
            clear hf3 HZ9 hlt hk
            go_wp2_with fail
            go_loopw [15] (fun i wr => ∃ m : Nat, m ≤ q ∧ i = .int .i64 (m : Int) ∧ Z6 w wr g2 g4 (vhs zero8) (vhs (xs ++ List.replicate (8 - k - q) 0 ++ ys.take m ++ List.replicate (q - m) 0)) ∧ Hs wr wr.heap.size A2 q ys) (fun i _ => q - (intOf i).toNat)
            case atStart => exact ⟨0, by omega, rfl, HZ10.out, HE2.out⟩
            case round =>
              obtain ⟨m, hm, rfl, Z11, hh2⟩ := hrel
              clear HZ10 HE1 HE2
              have HE3 := Lib.hid hh2
              have HZ11 := Lib.hid Z11
              clear hh2 Z11
              by_cases hlt : m < q
              · have hmq : (m : Int) < (q : Int) := by omega
                obtain ⟨b, off, hA, hbl, hcell⟩ := HE3.out.at_ hlt
                unfold vh at hcell
                have hfl := fill2 xs ys k q m HA1.out.1 HA1.out.2 hpq hlt
                have hlen : Hid (8 - q + m < (vhs (xs ++ List.replicate (8 - k - q) 0 ++ ys.take m ++ List.replicate (q - m) 0)).length) := by
                  show _ < _
                  rw [Hs_len, List.length_append, List.length_append, List.length_append, List.length_replicate, List.length_replicate, List.length_take, HA1.out.1, HA1.out.2]
                  omega
                have hset := vhs_set (xs ++ List.replicate (8 - k - q) 0 ++ ys.take m ++ List.replicate (q - m) 0) (8 - q + m) (ys.getD m 0)
                rw [hfl] at hset
                obtain ⟨x, hx⟩ : ∃ x, x = ys.getD m 0 := ⟨_, rfl⟩
                rw [← hx] at hcell hset
                obtain ⟨e1, he1⟩ : ∃ e1, e1 = 8 - q := ⟨_, rfl⟩
                obtain ⟨e2, he2⟩ : ∃ e2, e2 = 8 - q + m := ⟨_, rfl⟩
                rw [← he2] at hset hlen
                have hq1 : (8 : Int) - (q : Int) = (e1 : Int) := by omega
                have hq2 : (e1 : Int) + (m : Int) = (e2 : Int) := by omega
                have he8 : e2 < 8 := by omega
                have HSt := Lib.hid hset
                clear hfl hset hx he1 he2
                subst hA
                go_wp2_with (first
                  | ((with_reducible show wpList _ _ _ (⟨none, .store 61 (.tmp 123) (.tmp 122), _, _, _, _⟩ :: _) _ _); refine wp_set _ rfl 61 (.tmp 123) (.tmp 122) rfl g4 e2 62 _ (.int .u16 (x : Int)) rfl rfl rfl rfl HZ11.out.b4 hlen.out size37 ?_; intro w12 B12 U12; simp only [Act.put]))
                rw [HSt.out] at B12
                go_roundw
                case rel => exact ⟨m + 1, by omega, by go_num, HZ11.out.set4 B12 U12, HE3.out.upd8 U12 GA2.out⟩
                case measure => simp [intOf]; omega
              · have hmq : ¬ (m : Int) < (q : Int) := by omega
                obtain rfl : m = q := by omega
                have hF : Hid (xs ++ List.replicate (8 - k - m) 0 ++ ys.take m ++ List.replicate (m - m) 0 = xs ++ List.replicate (8 - k - m) 0 ++ ys) := by
                  show _ = _
                  rw [Nat.sub_self, ← HA1.out.2, List.take_length]
                  simp
                have HZ12 : Hid (Z6 w wr g2 g4 (vhs zero8) (vhs FF)) := by show Z6 _ _ _ _ _ _; rw [← hFF.out, ← hF.out]; exact HZ11.out
                have hFl : FF.length = 8 := by
                  rw [← hFF.out, List.length_append, List.length_append, List.length_replicate, HA1.out.1, HA1.out.2]
                  omega
                clear hFF
                have HFl := Lib.hid hFl
                clear hF HZ11 hlt hm hFl
                go_wp2_with (first
                  | ((with_reducible show wpList _ _ _ (⟨some 124, .load 62 (.tmp 4), _, _, _, _⟩ :: _) _ _); refine wp_get _ rfl 62 (.tmp 4) rfl g4 0 (vhs FF) _ rfl HZ12.out.b4.whole Tryz.underlying62 rfl (size38' FF HFl.out) ?_; simp only [Act.put, List.setIfInBounds_toArray, List.set_cons_zero, List.set_cons_succ])
                  | ((with_reducible show wpList _ _ _ (⟨none, .store 62 (.tmp 2) (.tmp 124), _, _, _, _⟩ :: _) _ _); refine wp_putAll _ rfl 62 (.tmp 2) (.tmp 124) rfl g2 62 _ (vhs FF) rfl rfl HZ12.out.b2 (by rw [Hs_len, Hs_len, HFl.out]; rfl) (size38' FF HFl.out) (Hs_one _) ?_; intro w13 B13 U13; simp only [Act.put]; have Z13 := HZ12.out.set2 B13 U13; clear B13 U13))
                refine ret_cell2 2 3 62 rfl g2 (vhs FF) _ rfl Z13.b2.whole Tryz.underlying62 rfl (size38' FF HFl.out) rfl (.int .i64 0) rfl ⟨rfl, Z13.kp⟩
end Go.Proofs.YtcepigekibidfaaGreatDoor
