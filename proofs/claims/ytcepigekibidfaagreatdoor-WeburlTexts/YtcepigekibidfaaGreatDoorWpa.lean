/-
  What weburl.parsePath answers; nothing that was there turns. Condition: a text of at most 4000000 bytes.
-/
import Derived.Test.YtcepigekibidfaaGreatDoorGp
import Derived.Test.YtcepigekibidfaaGreatDoorGm
import Derived.Test.YtcepigekibidfaaGreatDoorGn
import Derived.Test.YtcepigekibidfaaGreatDoorGk
namespace Go.Proofs.YtcepigekibidfaaGreatDoor
open Go.RowKit

/-- What is put behind the first k parts. -/
def pk (L : List (List UInt8)) (k : Nat) : List (List UInt8) := if k < L.length then (L.take k).foldl pstp [] else pst [] L
theorem pk_all (L : List (List UInt8)) : pk L L.length = pst [] L := by rw [pk, if_neg (by omega)]
theorem pk_zero (L : List (List UInt8)) (h : L ≠ []) : pk L 0 = [] := by
  rw [pk, if_pos (by have := List.length_pos_iff.2 h; omega)]
  rfl
theorem pk_next (L : List (List UInt8)) (k : Nat) (x : List UInt8) (hx : L[k]? = some x) : pk L (k + 1) = if k + 1 < L.length then pstp (pk L k) x else fin (pk L k) x := by
  have hlt := (List.getElem?_eq_some_iff.1 hx).1
  have ht : L.take (k + 1) = L.take k ++ [x] := by rw [List.take_add_one, hx]; rfl
  have e : pk L k = (L.take k).foldl pstp [] := by rw [pk, if_pos hlt]
  rw [e]
  by_cases h : k + 1 < L.length
  · rw [pk, if_pos h, if_pos h, ht, List.foldl_append]
    rfl
  · rw [pk, if_neg h, if_neg h, ← pst_snoc, ← ht, List.take_of_length_le (by omega)]
theorem pstp_len (put : List (List UInt8)) (x : List UInt8) : (pstp put x).length ≤ put.length + 1 := by
  unfold pstp
  split
  · rw [List.length_dropLast]; omega
  · split <;> simp
theorem fin_len (put : List (List UInt8)) (x : List UInt8) : (fin put x).length ≤ put.length + 1 := by
  unfold fin
  split
  · rw [List.length_append, List.length_dropLast]; simp
  · split <;> simp
theorem pk_len (L : List (List UInt8)) (h : L ≠ []) : ∀ k, k ≤ L.length → (pk L k).length ≤ k
  | 0, _ => by rw [pk_zero L h]; simp
  | k + 1, hk => by
    have ih := pk_len L h k (by omega)
    obtain ⟨x, hx⟩ : ∃ x, L[k]? = some x := ⟨_, List.getElem?_eq_getElem (by omega)⟩
    rw [pk_next L k x hx]
    have h1 := pstp_len (pk L k) x
    have h2 := fin_len (pk L k) x
    split <;> omega
theorem join_len (M : Nat) : ∀ L : List (List UInt8), (∀ x ∈ L, x.length ≤ M) → (Lib.join L [47]).length ≤ L.length * (M + 1)
  | [], _ => by simp [Lib.join]
  | [x], h => by
    have := h x (by simp)
    simp [Lib.join]
    omega
  | x :: y :: r, h => by
    have ih := join_len M (y :: r) (fun z hz => h z (by simp [hz]))
    have := h x (by simp)
    have e : (Lib.join (x :: y :: r) [47]).length = x.length + 1 + (Lib.join (y :: r) [47]).length := by simp [Lib.join]; omega
    rw [e, List.length_cons, Nat.add_mul]
    omega
theorem pth_bound (l : List UInt8) (hl : l.length ≤ 4000000) : (Lib.join (pst [] (spl 47 l)) [47]).length ≤ 140737488355328 := by
  have hlen : (pst [] (spl 47 l)).length ≤ 4000001 := by
    have := pk_len (spl 47 l) (spl_ne 47 l) _ (Nat.le_refl _)
    rw [pk_all, spl_length] at this
    have := List.count_le_length (a := (47 : UInt8)) (l := l)
    omega
  have hel : ∀ x ∈ pst [] (spl 47 l), x.length ≤ 12000000 := pst_from (fun x => x.length ≤ 12000000) (by simp) (spl 47 l) [] (by simp) (fun x hx => by
    have := (spl_mem 47 l x hx).2.1
    have := enc_len (inS 5) x
    omega)
  have h1 := join_len 12000000 _ hel
  have h2 : (pst [] (spl 47 l)).length * (12000000 + 1) ≤ 4000001 * 12000001 := Nat.mul_le_mul_right _ hlen
  omega

set_option maxHeartbeats 8000000 in
set_option maxRecDepth 100000 in
theorem path_any (l : List UInt8) (w : World) (hl : l.length ≤ 4000000) (ht : Tb w) : Calls Tryz.prog 65 #[.string (str l)] w fun e w' => e = .returned (.string (str (pth l))) ∧ Below w.heap.size w w' := by
  obtain ⟨m, hm⟩ := ht.len
  have HSp := Lib.hid (split_one 47 l m w (by omega) hm)
  obtain ⟨L, hL⟩ : ∃ L, L = spl 47 l := ⟨_, rfl⟩
  have hne : L ≠ [] := by rw [hL]; exact spl_ne 47 l
  obtain ⟨n, hn⟩ : ∃ n, n = L.length := ⟨_, rfl⟩
  have hn1 : 1 ≤ n := by rw [hn]; exact List.length_pos_iff.2 hne
  have hn2 : n ≤ 4000001 := by
    rw [hn, hL, spl_length]
    have := List.count_le_length (a := (47 : UInt8)) (l := l)
    omega
  have hall : Hid (pk L n = pst [] L) := by show _ = _; rw [hn, pk_all]
  have hpl : Hid (∀ k, k ≤ n → (pk L k).length ≤ k) := fun k hk => pk_len L hne k (by omega)
  have hnx : Hid (∀ k x, L[k]? = some x → pk L (k + 1) = if k + 1 < n then pstp (pk L k) x else fin (pk L k) x) := fun k x hx => by rw [hn]; exact pk_next L k x hx
  have hel : Hid (∀ x ∈ L, x.length ≤ 4000000) := fun x hx => by rw [hL] at hx; have := (spl_mem 47 l x hx).2.1; omega
  have hz := Lib.hid (pk_zero L hne)
  have hLn := Lib.hid hn
  have hjl : Hid ((Lib.join (pst [] L) [47]).length ≤ 140737488355328) := by show _ ≤ _; rw [hL]; exact pth_bound l hl
  obtain ⟨R, hR⟩ : ∃ R, R = pth l := ⟨_, rfl⟩
  have hRe : Hid (R = 47 :: Lib.join (pst [] L) [47]) := by show _ = _; rw [hR, hL]; rfl
  rw [← hL, ← hn] at HSp
  rw [← hR]
  clear hL hR hn
  go_enter Tryz.func65, Tryz.ntmps65
  go_wp2_with (go_at_call 94; with_reducible refine HSp.out.mono ?_; rintro e w1 ⟨rfl, hps, hb1⟩)
  obtain ⟨B, hB⟩ : ∃ B, B = w1.heap.size := ⟨_, rfl⟩
  have hgB : w.heap.size < B := by rw [hB]; exact hps.1
  have hT1 := ht.kp hb1
  have hown0 := ownT_made w1 B (by omega)
  have hk0 : Kept w1 (w1.alloc (.cells #[] 9)) := (Below.refl _ _).alloc (Nat.le_refl _) _
  obtain ⟨w2, hw2⟩ : ∃ w2, w2 = w1.alloc (.cells #[] 9) := ⟨_, rfl⟩
  rw [← hB]
  rw [← hB, ← hw2] at hown0
  rw [← hw2] at hk0
  rw [← hw2]
  have HP1 := Lib.hid hps
  have HT1 := Lib.hid hT1
  have HB1 := Lib.hid hb1
  have HB := Lib.hid hB
  clear hps hT1 hb1 hB hw2 hm ht
  go_loopw [16, 5] (fun i v wr => ∃ k : Nat, k ≤ n ∧ i = .int .i64 (k : Int) ∧ Kept w1 wr ∧ ∃ A c, v = .slice A (pk L k).length c ∧ OwnT wr B (.slice A (pk L k).length c) (pk L k).length (pk L k)) (fun i _ _ => n - (intOf i).toNat)
  case atStart => exact ⟨0, by omega, rfl, hk0, some ⟨B, 0, none⟩, 0, by rw [hz.out]; rfl, by rw [hz.out]; exact hown0⟩
  case round =>
    obtain ⟨k, hk, rfl, hkp, A, c, rfl, hown⟩ := hrel
    by_cases hlt : k < n
    · have hkS : (k : Int) < (n : Int) := by omega
      obtain ⟨x, hx⟩ : ∃ x, L[k]? = some x := ⟨_, List.getElem?_eq_getElem (by rw [← hLn.out]; exact hlt)⟩
      have hpk := HP1.out.kept hkp
      have hcell : wr.cell? ⟨w.heap.size, k, none⟩ = some (.string (str x)) := hpk.2 k x hx
      have hxl := hel.out x (List.mem_of_getElem? hx)
      have HD := Lib.hid (dots_any x wr (by omega) (HT1.out.kp hkp))
      have HN := Lib.hid (hnx.out k x hx)
      have hle := hpl.out k hk
      have HX := Lib.hid hx
      have HPK := Lib.hid hpk
      clear hx hpk
      obtain ⟨N, hN⟩ : ∃ N, N = (pk L k).length := ⟨_, rfl⟩
      rw [← hN] at hown hle ⊢
      have hNN := Lib.hid hN
      obtain ⟨d, hd⟩ : ∃ d, d = dots x := ⟨_, rfl⟩
      have hd3 := dots_lt x
      rw [← hd] at HD hd3
      have hdd := Lib.hid hd
      have hkp' := Lib.hid hkp
      have hown' := Lib.hid hown
      clear hN hd hkp hown
      rcases hd3 with rfl | rfl | rfl
      · have HE := fun w' => Lib.hid (encode_any 5 x w' (by omega))
        go_wp2_with (first
          | (go_at_call 95; with_reducible refine HD.out.mono ?_; rintro e w3 ⟨rfl, hb3⟩)
          | (go_at_call 39; (with_reducible refine (HE w3).out.mono ?_); (rintro e w4 ⟨rfl, hb4⟩; have b4 : Kept wr w4 := Below.trans hb3 (hb4.mono (Below.size hb3)); have hBs : Hid (B ≤ w4.heap.size) := by (have q1 := Below.size b4; have q2 := Below.size hkp'.out; have q3 := HB.out; show _ ≤ _; omega)))
          | ((with_reducible show wpList _ _ _ (⟨some 43, .call _, _, _, _, _⟩ :: _) _ _); refine wp_appT _ rfl (.tmp 39) (.tmp 42) rfl B _ N (pk L k) rfl ((hown'.out.kept b4).alloc _) w4.heap.size 0 1 1 [enc (inS 5) x] rfl rfl (lit_one _ _ _ rfl) (by omega) (by simp; have := hBs.out; omega) (N + 1) rfl ?_; intro A4 c4 w5 hc5 hown5 hb5 hkb5 hgr5; simp only [Act.put, List.setIfInBounds_toArray, List.set_cons_zero, List.set_cons_succ]))
        have b6 : Kept w1 w5 := Below.trans (Below.trans hkp'.out (Below.mono (Below.alloc b4 (Below.size b4) _) (Below.size hkp'.out))) (HB.out ▸ hb5)
        go_round
        case rel =>
          have e : pk L (k + 1) = pk L k ++ [enc (inS 5) x] := by
            rw [HN.out]
            split
            · unfold pstp; rw [if_neg (by rw [← hdd.out]; decide), if_neg (by rw [← hdd.out]; decide)]
            · unfold fin; rw [if_neg (by rw [← hdd.out]; decide), if_neg (by rw [← hdd.out]; decide)]
          have e2 : (pk L (k + 1)).length = N + 1 := by rw [e, List.length_append, ← hNN.out]; rfl
          exact ⟨k + 1, by omega, by go_num, b6, A4, c4, by rw [e2], by rw [e2, e]; exact hown5⟩
        case measure => simp [intOf]; omega
      · by_cases hlast : k + 1 < n
        · have hne1 : ((k : Int) == (n : Int) - 1) = false := by rw [beq_eq_false_iff_ne]; omega
          go_wp2_with (first | (go_at_call 95; (with_reducible refine HD.out.mono ?_); (rintro e w3 ⟨rfl, hb3⟩; have hBs : Hid (B ≤ w3.heap.size) := by (have q1 := Below.size hb3; have q2 := Below.size hkp'.out; have q3 := HB.out; show _ ≤ _; omega))))
          have b6 : Kept w1 w3 := Below.trans hkp'.out (Below.mono hb3 (Below.size hkp'.out))
          go_round
          case rel =>
            have e : pk L (k + 1) = pk L k := by rw [HN.out, if_pos hlast]; unfold pstp; rw [if_neg (by rw [← hdd.out]; decide), if_pos hdd.out.symm]
            have e2 : (pk L (k + 1)).length = N := by rw [e, ← hNN.out]
            exact ⟨k + 1, by omega, by go_num, b6, A, c, by rw [e2], by rw [e2, e]; exact hown'.out.kept hb3⟩
          case measure => simp [intOf]; omega
        · have hne1 : ((k : Int) == (n : Int) - 1) = true := by rw [beq_iff_eq]; omega
          go_wp2_with (first | (go_at_call 95; (with_reducible refine HD.out.mono ?_); (rintro e w3 ⟨rfl, hb3⟩; have hBs : Hid (B ≤ w3.heap.size) := by (have q1 := Below.size hb3; have q2 := Below.size hkp'.out; have q3 := HB.out; show _ ≤ _; omega))) | ((with_reducible show wpList _ _ _ (⟨some 38, .call _, _, _, _, _⟩ :: _) _ _); refine wp_appT _ rfl (.tmp 36) (.tmp 37) rfl B _ N (pk L k) rfl ((hown'.out.kept hb3).alloc _) w3.heap.size 0 1 1 [([] : List UInt8)] rfl rfl (lit_one _ _ _ rfl) (by omega) (by simp; have := hBs.out; omega) (N + 1) rfl ?_; intro A4 c4 w5 hc5 hown5 hb5 hkb5 hgr5; simp only [Act.put, List.setIfInBounds_toArray, List.set_cons_zero, List.set_cons_succ]))
          have b6 : Kept w1 w5 := Below.trans (Below.trans hkp'.out (Below.mono (Below.alloc hb3 (Below.size hb3) _) (Below.size hkp'.out))) (HB.out ▸ hb5)
          go_round
          case rel =>
            have e : pk L (k + 1) = pk L k ++ [[]] := by rw [HN.out, if_neg hlast]; unfold fin; rw [if_neg (by rw [← hdd.out]; decide), if_pos hdd.out.symm]
            have e2 : (pk L (k + 1)).length = N + 1 := by rw [e, List.length_append, ← hNN.out]; rfl
            exact ⟨k + 1, by omega, by go_num, b6, A4, c4, by rw [e2], by rw [e2, e]; exact hown5⟩
          case measure => simp [intOf]; omega
      · obtain ⟨M, hM, hMN⟩ : ∃ M : Nat, max ((N : Int) - 1) 0 = (M : Int) ∧ M ≤ N := ⟨N - 1, by omega, by omega⟩
        have hdl : Hid ((pk L k).dropLast = (pk L k).take M) := by (show _ = _; rw [List.dropLast_eq_take, ← hNN.out]; congr 1; omega)
        have hlM : ((pk L k).take M).length = M := by rw [List.length_take, ← hNN.out]; omega
        have HLM := Lib.hid hlM
        clear hlM
        have hMc : M ≤ c := by
          obtain ⟨_, c9, e9, hc9, hm9, _⟩ := OwnT.form hown'.out
          cases e9
          omega
        by_cases hlast : k + 1 < n
        · have hne1 : ((k : Int) == (n : Int) - 1) = false := by rw [beq_eq_false_iff_ne]; omega
          go_wp2_with (first | (go_at_call 95; (with_reducible refine HD.out.mono ?_); (rintro e w3 ⟨rfl, hb3⟩; have hBs : Hid (B ≤ w3.heap.size) := by (have q1 := Below.size hb3; have q2 := Below.size hkp'.out; have q3 := HB.out; show _ ≤ _; omega))))
          have b6 : Kept w1 w3 := Below.trans hkp'.out (Below.mono hb3 (Below.size hkp'.out))
          go_round
          case rel =>
            have e : pk L (k + 1) = (pk L k).take M := by rw [HN.out, if_pos hlast]; unfold pstp; rw [if_pos hdd.out.symm, hdl.out]
            have e2 : (pk L (k + 1)).length = M := by rw [e, HLM.out]
            exact ⟨k + 1, by omega, by go_num, b6, A, c, by rw [e2], by rw [e2, e]; exact (OwnT.take hown'.out M hMN).kept hb3⟩
          case measure => simp [intOf]; omega
        · have hne1 : ((k : Int) == (n : Int) - 1) = true := by rw [beq_iff_eq]; omega
          go_wp2_with (first | (go_at_call 95; (with_reducible refine HD.out.mono ?_); (rintro e w3 ⟨rfl, hb3⟩; have hBs : Hid (B ≤ w3.heap.size) := by (have q1 := Below.size hb3; have q2 := Below.size hkp'.out; have q3 := HB.out; show _ ≤ _; omega))) | ((with_reducible show wpList _ _ _ (⟨some 38, .call _, _, _, _, _⟩ :: _) _ _); refine wp_appT _ rfl (.tmp 36) (.tmp 37) rfl B _ M ((pk L k).take M) rfl (((OwnT.take hown'.out M hMN).kept hb3).alloc _) w3.heap.size 0 1 1 [([] : List UInt8)] rfl rfl (lit_one _ _ _ rfl) (by omega) (by simp; have := hBs.out; omega) (M + 1) rfl ?_; intro A4 c4 w5 hc5 hown5 hb5 hkb5 hgr5; simp only [Act.put, List.setIfInBounds_toArray, List.set_cons_zero, List.set_cons_succ]))
          have b6 : Kept w1 w5 := Below.trans (Below.trans hkp'.out (Below.mono (Below.alloc hb3 (Below.size hb3) _) (Below.size hkp'.out))) (HB.out ▸ hb5)
          go_round
          case rel =>
            have e : pk L (k + 1) = (pk L k).take M ++ [[]] := by rw [HN.out, if_neg hlast]; unfold fin; rw [if_pos hdd.out.symm, hdl.out]
            have e2 : (pk L (k + 1)).length = M + 1 := by rw [e, List.length_append, HLM.out]; rfl
            exact ⟨k + 1, by omega, by go_num, b6, A4, c4, by rw [e2], by rw [e2, e]; exact hown5⟩
          case measure => simp [intOf]; omega
    · have hkS : ¬ (k : Int) < (n : Int) := by omega
      have hkn : k = n := by omega
      subst hkn
      rw [hall.out] at hown ⊢
      obtain ⟨X, hX⟩ : ∃ X, X = pst [] L := ⟨_, rfl⟩
      have hXn : X.length ≤ k := by rw [hX, ← hall.out]; exact hpl.out k (Nat.le_refl _)
      have hX0 : 0 < X.length := List.length_pos_iff.2 (by rw [hX]; exact pst_ne L [] hne)
      have hjl2 := hjl.out
      have hR2 := hRe.out
      rw [← hX] at hown hjl2 hR2 ⊢
      clear hX
      obtain ⟨_, _, e9, hc9, hm9, h9⟩ := OwnT.form hown
      cases e9
      obtain ⟨g, rfl, hg1, hg2, hg3⟩ := h9 (by omega)
      have em : (X.map str).map (fun x => x.data.toList) = X := by
        rw [List.map_map]
        exact (List.map_congr_left (g := id) fun a _ => by simp [str]).trans (List.map_id _)
      have hJ := Tryz.strings_Join g 0 c (X.map str) ⟨#[47]⟩ wr (fun j y hj => by
        rw [List.getElem?_map, Option.map_eq_some_iff] at hj
        obtain ⟨p, hp, rfl⟩ := hj
        rw [Nat.zero_add]
        exact hg3 j p hp) hg2 (by rw [List.length_map]; omega) (by rw [List.length_map]; exact hc9) (by rw [em]; exact hjl2)
      rw [em, List.length_map] at hJ
      obtain ⟨J, hJ2⟩ : ∃ J, J = Lib.join X [47] := ⟨_, rfl⟩
      have hJ3 : Hid (Calls Tryz.prog 96 #[.slice (some ⟨g, 0, none⟩) X.length c, .string ⟨#[47]⟩] wr fun e w' => e = .returned (.string (str J)) ∧ Below wr.heap.size wr w') := by rw [hJ2]; exact hJ
      have hR3 : Hid (R = 47 :: J) := by show _ = _; rw [hR2, hJ2]
      have hs2 : (str J).size ≤ 140737488355328 := by rw [str_size, hJ2]; exact hjl2
      have hroom : ¬ (9223372036854775807 : Nat) < 1 + (str J).size := by omega
      clear hJ em hJ2 hR2 hjl2 hc9 hm9 hg3 h9
      have hkp' := Lib.hid hkp
      clear hkp hown
      go_wp2_with (first | (go_at_call 96; (with_reducible refine hJ3.out.mono ?_); (rintro e w3 ⟨rfl, hb3⟩)))
      go_ret
      refine ⟨?_, ?_⟩
      · rw [hR3.out]
        rw [show ByteArray.mk #[47] = str [47] from rfl, str_add]
        rfl
      · exact Below.trans HB1.out (Below.mono (Below.trans hkp'.out (Below.mono hb3 (Below.size hkp'.out))) (Below.size HB1.out))
end Go.Proofs.YtcepigekibidfaaGreatDoor
