/-
  What transeptref08.clean answers; nothing that was there turns. Condition: texts of at most 100000000 bytes.
-/
import Derived.Test.YtcepigekibidfaaGreatDoorTua
import Derived.Test.YtcepigekibidfaaGreatDoorTra
namespace Go.Proofs.YtcepigekibidfaaGreatDoor
open Go.RowKit

theorem lowc_at (c : UInt8) (m : Nat) (hm : m = c.toNat) : lowc c = decide (m ≤ 32) := by rw [hm]; rfl
theorem tnr_at (c : UInt8) (m : Nat) (hm : m = c.toNat) : tnr c = !(decide (m = 9) || decide (m = 10) || decide (m = 13)) := by
  rw [hm]
  refine u8_all (P := fun c => tnr c = !(decide (c.toNat = 9) || decide (c.toNat = 10) || decide (c.toNat = 13))) ?_ c
  decide +kernel
theorem flt_more (X : List UInt8) (k : Nat) (hk : k < X.length) : (X.take (k + 1)).filter tnr = (X.take k).filter tnr ++ (if tnr (X.getD k 0) then [X.getD k 0] else []) := by
  rw [List.take_add_one, List.filter_append, List.getElem?_eq_getElem hk, List.getD_eq_getElem?_getD, List.getElem?_eq_getElem hk]
  congr 1
  show List.filter tnr [X[k]] = _
  simp [List.filter]
  split <;> simp_all
set_option maxHeartbeats 16000000 in
set_option maxRecDepth 100000 in
theorem rclean_any (l : List UInt8) (w : World) (hl : l.length ≤ 100000000) : Calls Tryz.prog 40 #[.string (str l)] w fun e w' => e = .returned (.string (str (cln l))) ∧ Below w.heap.size w w' := by
  have hsz := str_size l
  have hgb : Hid (∀ k, k < l.length → ∀ h, ((str l)[k]'h).toNat = (l.getD k 0).toNat) := fun k hk h => str_at l k hk h
  obtain ⟨S, hS⟩ : ∃ S, S = l.length := ⟨_, rfl⟩
  have HS := Lib.hid hS
  rw [← hS] at hsz hl hgb
  clear hS
  go_enter Tryz.func40, Tryz.ntmps40
  go_wp2_with fail
  go_loop [3] (fun i => ∃ k : Nat, k ≤ S ∧ i = .int .i64 (k : Int) ∧ ∀ j, j < k → lowc (l.getD j 0) = true) (fun i => S - (intOf i).toNat)
  case atStart => exact ⟨0, by omega, rfl, fun j h => absurd h (by omega)⟩
  case round =>
    obtain ⟨F, hFS, rfl, hA⟩ := hrel
    have hF1 := Lib.hid hA
    clear hA
    by_cases hlt : F < S
    · have hkS : (F : Int) < (S : Int) := by omega
      have HG := hgb.out F hlt
      obtain ⟨c, hc⟩ : ∃ c, c = l.getD F 0 := ⟨_, rfl⟩
      rw [← hc] at HG
      obtain ⟨b, hb⟩ : ∃ b, b = c.toNat := ⟨_, rfl⟩
      have hlc := lowc_at c b hb
      rw [← hb] at HG
      have HC := Lib.hid hc
      clear hc hb
      by_cases hlo : b ≤ 32
      · have c1 : decide ((b : Int) ≤ 32) = true := by simp; omega
        have HL : Hid (lowc c = true) := by show _ = _; rw [hlc]; simp [hlo]
        clear hlc hlo
        go_wp2_with fail
        go_round
        case rel => exact ⟨F + 1, by omega, by go_num, fun j hj => by
          by_cases e : j = F
          · subst e; rw [← HC.out]; exact HL.out
          · exact hF1.out j (by omega)⟩
        case measure => simp [intOf]; omega
      · have c1 : decide ((b : Int) ≤ 32) = false := by simp; omega
        have hF2 : Hid (F < S → lowc (l.getD F 0) = false) := fun _ => by rw [← HC.out, hlc]; simp [hlo]
        clear hlc hlo hlt HC
        go_wp2_with fail
        go_loop [4] (fun i => ∃ t : Nat, F ≤ t ∧ t ≤ S ∧ i = .int .i64 (t : Int) ∧ ∀ j, t ≤ j → j < S → lowc (l.getD j 0) = true) (fun i => (intOf i).toNat)
        case atStart => exact ⟨S, by omega, Nat.le_refl _, rfl, fun j a b => absurd b (by omega)⟩
        case round =>
          obtain ⟨T, hFT0, hTS, rfl, hT3⟩ := hrel
          have HT3 := Lib.hid hT3
          clear hT3
          by_cases hgt : F < T
          · have hgi : (F : Int) < (T : Int) := by omega
            obtain ⟨t1, ht1⟩ : ∃ t1, T = t1 + 1 := ⟨T - 1, by omega⟩
            have hsb : (T : Int) - 1 = (t1 : Int) := by omega
            have hsw : IntKind.i64.wrap (t1 : Int) = (t1 : Int) := by rw [IntKind.wrap_i64]; omega
            have hlt1 : t1 < S := by omega
            have hlti : (t1 : Int) < (S : Int) := by omega
            have HG := hgb.out t1 hlt1
            obtain ⟨c, hc⟩ : ∃ c, c = l.getD t1 0 := ⟨_, rfl⟩
            rw [← hc] at HG
            obtain ⟨b, hb⟩ : ∃ b, b = c.toNat := ⟨_, rfl⟩
            have hlc := lowc_at c b hb
            rw [← hb] at HG
            have HC := Lib.hid hc
            have H1 := Lib.hid ht1
            clear hc hb ht1
            by_cases hlo : b ≤ 32
            · have c1 : decide ((b : Int) ≤ 32) = true := by simp; omega
              have HL : Hid (lowc c = true) := by show _ = _; rw [hlc]; simp [hlo]
              clear hlc hlo
              go_wp2_with fail
              go_round
              case rel => exact ⟨t1, by have := H1.out; omega, by omega, by go_num, fun j a b => by
                by_cases e : j = t1
                · subst e; rw [← HC.out]; exact HL.out
                · exact HT3.out j (by have := H1.out; omega) b⟩
              case measure => simp [intOf]; have := H1.out; omega
            · have c1 : decide ((b : Int) ≤ 32) = false := by simp; omega
              have HT4 : Hid (F < T → lowc (l.getD (T - 1) 0) = false) := fun _ => by
                rw [show T - 1 = t1 by have := H1.out; omega, ← HC.out, hlc]
                simp [hlo]
              clear hlc hlo H1 hgt
              obtain ⟨X, hX⟩ : ∃ X, X = (l.drop F).take (T - F) := ⟨_, rfl⟩
              have htrm : trm l = X := by
                rw [hX]
                exact trm_at l F T hFT0 (by rw [← HS.out]; exact hTS) (fun j hj => hF1.out j hj) (fun h => hF2.out (by rw [HS.out]; exact h)) (fun j h1 h2 => HT3.out j h1 (by rw [HS.out]; exact h2)) HT4.out
              obtain ⟨M, hM⟩ : ∃ M : Nat → List UInt8, M = fun k => (X.take (k - F)).filter tnr := ⟨_, rfl⟩
              have hM0 : Hid (M F = []) := by show _ = _; rw [hM]; simp
              have hMs : Hid (∀ k, F ≤ k → k < T → M (k + 1) = M k ++ (if tnr (l.getD k 0) then [l.getD k 0] else [])) := fun k h1 h2 => by
                rw [hM]
                have hlen : X.length = T - F := by rw [hX, List.length_take, List.length_drop, ← HS.out]; omega
                have hg : X.getD (k - F) 0 = l.getD k 0 := by
                  rw [hX, List.getD_eq_getElem?_getD, List.getElem?_take_of_lt (by omega), List.getElem?_drop, show F + (k - F) = k by omega, List.getD_eq_getElem?_getD]
                have := flt_more X (k - F) (by omega)
                rw [hg] at this
                show (X.take (k + 1 - F)).filter tnr = _
                rw [show k + 1 - F = k - F + 1 by omega, this]
              have hMe : Hid (M T = cln l) := by
                show _ = _
                unfold cln
                rw [htrm, hM]
                show (X.take (T - F)).filter tnr = _
                rw [List.take_of_length_le (by rw [hX, List.length_take]; omega)]
              clear hM hX htrm HT3 HT4
              have hFT : (F : Int) ≤ (T : Int) := by omega
              have hTS' : (T : Int) ≤ (S : Int) := by omega
              go_wp2_with fail
              have hown0 : Hid (Own (w.alloc (.cells #[] 5)) w.heap.size (.slice (some ⟨w.heap.size, 0, none⟩) 0 0) 0 []) := own_empty w w.heap.size (Nat.le_refl _)
              go_loopw [6, 5] (fun i v wr => ∃ (k n : Nat) (v0 : Value), F ≤ k ∧ k ≤ T ∧ n ≤ k ∧ i = .int .i64 (k : Int) ∧ v0 = v ∧ Own wr w.heap.size v0 n (M k) ∧ Kept w wr) (fun i _ _ => T - (intOf i).toNat)
              case atStart => exact ⟨F, 0, _, Nat.le_refl _, by omega, by omega, rfl, rfl, by rw [hM0.out]; exact hown0.out, (Kept.refl w).alloc _⟩
              case round =>
                obtain ⟨k, n, v0, hFk, hk, hnk, rfl, rfl, hown, hkp⟩ := hrel
                clear hown0
                have HOwn := Lib.hid hown
                have HK := Lib.hid hkp
                have hbs : Hid (w.heap.size ≤ wr.heap.size) := hkp.size
                clear hkp
                by_cases hlt : k < T
                · have hkS : (k : Int) < (T : Int) := by omega
                  have hkS2 : (k : Int) < (S : Int) := by omega
                  have hk2 : k < S := by omega
                  clear hown
                  have HG := hgb.out k hk2
                  have HN := hMs.out k hFk hlt
                  obtain ⟨c, hc⟩ : ∃ c, c = l.getD k 0 := ⟨_, rfl⟩
                  rw [← hc] at HG HN
                  obtain ⟨m, hm⟩ : ∃ m, m = c.toNat := ⟨_, rfl⟩
                  have ht := tnr_at c m hm
                  rw [← hm] at HG
                  have HB : Hid ((m : Int) = (c.toNat : Int)) := by show _ = _; rw [hm]
                  clear hc hm
                  rcases (by omega : m = 9 ∨ m = 10 ∨ m = 13 ∨ (m ≠ 9 ∧ m ≠ 10 ∧ m ≠ 13)) with h | h | h | h
                  · have c0 : ((m : Int) == 9) = true := by simp; omega
                    have c1 : ((m : Int) == 10) = false := by simp; omega
                    have c2 : ((m : Int) == 13) = false := by simp; omega
                    have d0 : ((m : Int) != 9) = false := by simp [bne, c0]
                    have d1 : ((m : Int) != 10) = true := by simp [bne, c1]
                    have d2 : ((m : Int) != 13) = true := by simp [bne, c2]
                    have ht2 : tnr c = false := by rw [ht]; simp [h]
                    rw [ht2] at HN
                    have HN' := Lib.hid HN
                    clear h ht ht2 HN c0 c1 c2
                    go_wp2_with fail
                    go_roundw
                    case rel => exact ⟨k + 1, n, _, by omega, by omega, by omega, by go_num, rfl, by rw [HN'.out]; simpa using HOwn.out, HK.out⟩
                    case measure => simp [intOf]; omega
                  · have c0 : ((m : Int) == 9) = false := by simp; omega
                    have c1 : ((m : Int) == 10) = true := by simp; omega
                    have c2 : ((m : Int) == 13) = false := by simp; omega
                    have d0 : ((m : Int) != 9) = true := by simp [bne, c0]
                    have d1 : ((m : Int) != 10) = false := by simp [bne, c1]
                    have d2 : ((m : Int) != 13) = true := by simp [bne, c2]
                    have ht2 : tnr c = false := by rw [ht]; simp [h]
                    rw [ht2] at HN
                    have HN' := Lib.hid HN
                    clear h ht ht2 HN c0 c1 c2
                    go_wp2_with fail
                    go_roundw
                    case rel => exact ⟨k + 1, n, _, by omega, by omega, by omega, by go_num, rfl, by rw [HN'.out]; simpa using HOwn.out, HK.out⟩
                    case measure => simp [intOf]; omega
                  · have c0 : ((m : Int) == 9) = false := by simp; omega
                    have c1 : ((m : Int) == 10) = false := by simp; omega
                    have c2 : ((m : Int) == 13) = true := by simp; omega
                    have d0 : ((m : Int) != 9) = true := by simp [bne, c0]
                    have d1 : ((m : Int) != 10) = true := by simp [bne, c1]
                    have d2 : ((m : Int) != 13) = false := by simp [bne, c2]
                    have ht2 : tnr c = false := by rw [ht]; simp [h]
                    rw [ht2] at HN
                    have HN' := Lib.hid HN
                    clear h ht ht2 HN c0 c1 c2
                    go_wp2_with fail
                    go_roundw
                    case rel => exact ⟨k + 1, n, _, by omega, by omega, by omega, by go_num, rfl, by rw [HN'.out]; simpa using HOwn.out, HK.out⟩
                    case measure => simp [intOf]; omega
                  · have c0 : ((m : Int) == 9) = false := by simp; omega
                    have c1 : ((m : Int) == 10) = false := by simp; omega
                    have c2 : ((m : Int) == 13) = false := by simp; omega
                    have d0 : ((m : Int) != 9) = true := by simp [bne, c0]
                    have d1 : ((m : Int) != 10) = true := by simp [bne, c1]
                    have d2 : ((m : Int) != 13) = true := by simp [bne, c2]
                    have ht2 : tnr c = true := by rw [ht]; simp [h]
                    rw [ht2] at HN
                    have HN' := Lib.hid HN
                    clear h ht ht2 HN c0 c1 c2
                    go_wp2_with (first
                      | ((with_reducible show wpList _ _ _ (⟨some 60, .call _, _, _, _, _⟩ :: _) _ _); refine wp_app _ rfl (.tmp 55) (.tmp 59) rfl w.heap.size _ n (M k) rfl (HOwn.out.alloc _) (wr.heap.size + 1) _ 1 1 [c] rfl (Bs.one' _ _ _ HB.out) (by omega) (by simp; have := hbs.out; omega) ?_; intro v6 w6 hown6 hb6; simp only [Act.put, List.setIfInBounds_toArray, List.set_cons_zero, List.set_cons_succ]))
                    exact ⟨⟨k + 1, n + 1, _, by omega, by omega, by omega, by go_num, rfl, by rw [HN'.out]; exact hown6, (HK.out.alloc _).base hb6⟩, by simp [intOf]; omega⟩
                · have hkS : ¬ (k : Int) < (T : Int) := by omega
                  have hkE : k = T := by omega
                  rw [hkE, hMe.out] at hown
                  clear hlt hk HOwn hkE hFk
                  obtain ⟨A, cc, rfl, hcc, hs⟩ := hown.form
                  have hst := run_str wr _ A n cc _ hs
                  go_wp2_with fail
                  go_ret
                  exact ⟨rfl, HK.out⟩
          · have hgi : ¬ (F : Int) < (T : Int) := by omega
            have HT4 : Hid (F < T → lowc (l.getD (T - 1) 0) = false) := fun h => absurd h hgt
            obtain ⟨X, hX⟩ : ∃ X, X = (l.drop F).take (T - F) := ⟨_, rfl⟩
            have htrm : trm l = X := by
              rw [hX]
              exact trm_at l F T hFT0 (by rw [← HS.out]; exact hTS) (fun j hj => hF1.out j hj) (fun h => hF2.out (by rw [HS.out]; exact h)) (fun j h1 h2 => HT3.out j h1 (by rw [HS.out]; exact h2)) HT4.out
            obtain ⟨M, hM⟩ : ∃ M : Nat → List UInt8, M = fun k => (X.take (k - F)).filter tnr := ⟨_, rfl⟩
            have hM0 : Hid (M F = []) := by show _ = _; rw [hM]; simp
            have hMs : Hid (∀ k, F ≤ k → k < T → M (k + 1) = M k ++ (if tnr (l.getD k 0) then [l.getD k 0] else [])) := fun k h1 h2 => by
              rw [hM]
              have hlen : X.length = T - F := by rw [hX, List.length_take, List.length_drop, ← HS.out]; omega
              have hg : X.getD (k - F) 0 = l.getD k 0 := by
                rw [hX, List.getD_eq_getElem?_getD, List.getElem?_take_of_lt (by omega), List.getElem?_drop, show F + (k - F) = k by omega, List.getD_eq_getElem?_getD]
              have := flt_more X (k - F) (by omega)
              rw [hg] at this
              show (X.take (k + 1 - F)).filter tnr = _
              rw [show k + 1 - F = k - F + 1 by omega, this]
            have hMe : Hid (M T = cln l) := by
              show _ = _
              unfold cln
              rw [htrm, hM]
              show (X.take (T - F)).filter tnr = _
              rw [List.take_of_length_le (by rw [hX, List.length_take]; omega)]
            clear hM hX htrm HT3 HT4
            have hFT : (F : Int) ≤ (T : Int) := by omega
            have hTS' : (T : Int) ≤ (S : Int) := by omega
            go_wp2_with fail
            have hown0 : Hid (Own (w.alloc (.cells #[] 5)) w.heap.size (.slice (some ⟨w.heap.size, 0, none⟩) 0 0) 0 []) := own_empty w w.heap.size (Nat.le_refl _)
            go_loopw [6, 5] (fun i v wr => ∃ (k n : Nat) (v0 : Value), F ≤ k ∧ k ≤ T ∧ n ≤ k ∧ i = .int .i64 (k : Int) ∧ v0 = v ∧ Own wr w.heap.size v0 n (M k) ∧ Kept w wr) (fun i _ _ => T - (intOf i).toNat)
            case atStart => exact ⟨F, 0, _, Nat.le_refl _, by omega, by omega, rfl, rfl, by rw [hM0.out]; exact hown0.out, (Kept.refl w).alloc _⟩
            case round =>
              obtain ⟨k, n, v0, hFk, hk, hnk, rfl, rfl, hown, hkp⟩ := hrel
              clear hown0
              have HOwn := Lib.hid hown
              have HK := Lib.hid hkp
              have hbs : Hid (w.heap.size ≤ wr.heap.size) := hkp.size
              clear hkp
              by_cases hlt : k < T
              · exfalso; omega
              · have hkS : ¬ (k : Int) < (T : Int) := by omega
                have hkE : k = T := by omega
                rw [hkE, hMe.out] at hown
                clear hlt hk HOwn hkE hFk
                obtain ⟨A, cc, rfl, hcc, hs⟩ := hown.form
                have hst := run_str wr _ A n cc _ hs
                go_wp2_with fail
                go_ret
                exact ⟨rfl, HK.out⟩
    · have hkS : ¬ (F : Int) < (S : Int) := by omega
      have hF2 : Hid (F < S → lowc (l.getD F 0) = false) := fun h => absurd h hlt
      clear hlt
      go_wp2_with fail
      go_loop [4] (fun i => ∃ t : Nat, F ≤ t ∧ t ≤ S ∧ i = .int .i64 (t : Int) ∧ ∀ j, t ≤ j → j < S → lowc (l.getD j 0) = true) (fun i => (intOf i).toNat)
      case atStart => exact ⟨S, by omega, Nat.le_refl _, rfl, fun j a b => absurd b (by omega)⟩
      case round =>
        obtain ⟨T, hFT0, hTS, rfl, hT3⟩ := hrel
        have HT3 := Lib.hid hT3
        clear hT3
        by_cases hgt : F < T
        · exfalso; omega
        · have hgi : ¬ (F : Int) < (T : Int) := by omega
          have HT4 : Hid (F < T → lowc (l.getD (T - 1) 0) = false) := fun h => absurd h hgt
          obtain ⟨X, hX⟩ : ∃ X, X = (l.drop F).take (T - F) := ⟨_, rfl⟩
          have htrm : trm l = X := by
            rw [hX]
            exact trm_at l F T hFT0 (by rw [← HS.out]; exact hTS) (fun j hj => hF1.out j hj) (fun h => hF2.out (by rw [HS.out]; exact h)) (fun j h1 h2 => HT3.out j h1 (by rw [HS.out]; exact h2)) HT4.out
          obtain ⟨M, hM⟩ : ∃ M : Nat → List UInt8, M = fun k => (X.take (k - F)).filter tnr := ⟨_, rfl⟩
          have hM0 : Hid (M F = []) := by show _ = _; rw [hM]; simp
          have hMs : Hid (∀ k, F ≤ k → k < T → M (k + 1) = M k ++ (if tnr (l.getD k 0) then [l.getD k 0] else [])) := fun k h1 h2 => by
            rw [hM]
            have hlen : X.length = T - F := by rw [hX, List.length_take, List.length_drop, ← HS.out]; omega
            have hg : X.getD (k - F) 0 = l.getD k 0 := by
              rw [hX, List.getD_eq_getElem?_getD, List.getElem?_take_of_lt (by omega), List.getElem?_drop, show F + (k - F) = k by omega, List.getD_eq_getElem?_getD]
            have := flt_more X (k - F) (by omega)
            rw [hg] at this
            show (X.take (k + 1 - F)).filter tnr = _
            rw [show k + 1 - F = k - F + 1 by omega, this]
          have hMe : Hid (M T = cln l) := by
            show _ = _
            unfold cln
            rw [htrm, hM]
            show (X.take (T - F)).filter tnr = _
            rw [List.take_of_length_le (by rw [hX, List.length_take]; omega)]
          clear hM hX htrm HT3 HT4
          have hFT : (F : Int) ≤ (T : Int) := by omega
          have hTS' : (T : Int) ≤ (S : Int) := by omega
          go_wp2_with fail
          have hown0 : Hid (Own (w.alloc (.cells #[] 5)) w.heap.size (.slice (some ⟨w.heap.size, 0, none⟩) 0 0) 0 []) := own_empty w w.heap.size (Nat.le_refl _)
          go_loopw [6, 5] (fun i v wr => ∃ (k n : Nat) (v0 : Value), F ≤ k ∧ k ≤ T ∧ n ≤ k ∧ i = .int .i64 (k : Int) ∧ v0 = v ∧ Own wr w.heap.size v0 n (M k) ∧ Kept w wr) (fun i _ _ => T - (intOf i).toNat)
          case atStart => exact ⟨F, 0, _, Nat.le_refl _, by omega, by omega, rfl, rfl, by rw [hM0.out]; exact hown0.out, (Kept.refl w).alloc _⟩
          case round =>
            obtain ⟨k, n, v0, hFk, hk, hnk, rfl, rfl, hown, hkp⟩ := hrel
            clear hown0
            have HOwn := Lib.hid hown
            have HK := Lib.hid hkp
            have hbs : Hid (w.heap.size ≤ wr.heap.size) := hkp.size
            clear hkp
            by_cases hlt : k < T
            · exfalso; omega
            · have hkS : ¬ (k : Int) < (T : Int) := by omega
              have hkE : k = T := by omega
              rw [hkE, hMe.out] at hown
              clear hlt hk HOwn hkE hFk
              obtain ⟨A, cc, rfl, hcc, hs⟩ := hown.form
              have hst := run_str wr _ A n cc _ hs
              go_wp2_with fail
              go_ret
              exact ⟨rfl, HK.out⟩
end Go.Proofs.YtcepigekibidfaaGreatDoor
