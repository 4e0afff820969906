/-
  What transeptref08.Path answers; nothing that was there turns. Condition: texts of at most 4000000 bytes.
-/
import Derived.Test.YtcepigekibidfaaGreatDoorTua
import Derived.Test.YtcepigekibidfaaGreatDoorTra
namespace Go.Proofs.YtcepigekibidfaaGreatDoor
open Go.RowKit

/-- Parts with a slash ahead of each. -/
def sl9 (Q : List (List UInt8)) : List UInt8 := Q.flatMap fun x => 47 :: x
theorem sl9_join : ∀ Q : List (List UInt8), Q ≠ [] → sl9 Q = 47 :: Lib.join Q [47] := by
  intro Q
  induction Q with
  | nil => intro h; exact absurd rfl h
  | cons x r ih =>
    intro _
    cases r with
    | nil => simp [sl9, Lib.join]
    | cons y r =>
      have h := ih (by simp)
      have e : sl9 (x :: y :: r) = 47 :: x ++ sl9 (y :: r) := rfl
      rw [e, h]
      simp [Lib.join]
theorem sl9_take (Q : List (List UInt8)) (k : Nat) (x : List UInt8) (h : Q[k]? = some x) : sl9 (Q.take (k + 1)) = sl9 (Q.take k) ++ [47] ++ x := by
  rw [List.take_add_one, h]
  simp [sl9]
theorem sl9_len (M : Nat) : ∀ Q : List (List UInt8), (∀ x ∈ Q, x.length ≤ M) → (sl9 Q).length ≤ Q.length * (M + 1) := by
  intro Q
  induction Q with
  | nil => intro _; simp [sl9]
  | cons x r ih =>
    intro h
    have h1 := ih fun z hz => h z (List.mem_cons_of_mem _ hz)
    have h2 := h x List.mem_cons_self
    have e : (sl9 (x :: r)).length = x.length + 1 + (sl9 r).length := by
      show (47 :: x ++ sl9 r).length = _
      simp
      omega
    rw [e, List.length_cons, Nat.add_mul]
    omega
theorem lit_empty (w : World) (g : Nat) (hg : g = w.heap.size) : ∀ (j : Nat) (r : List UInt8), ([[]] : List (List UInt8))[j]? = some r → (w.alloc (.cells #[.string ⟨#[]⟩] 9)).cell? ⟨g, 0 + j, none⟩ = some (vstr r) := lit_one w [] g hg
set_option maxHeartbeats 8000000 in
set_option maxRecDepth 100000 in
theorem rpath_any (z : List UInt8) (w : World) (hl : z.length ≤ 4000000) : Calls Tryz.prog 71 #[.string (str z)] w fun e w' => e = .returned (.string (str (pth (z.drop 1)))) ∧ Below w.heap.size w w' := by
  obtain ⟨l, hll⟩ : ∃ l, l = z.drop 1 := ⟨_, rfl⟩
  have hl1 : l.length ≤ 4000000 := by rw [hll, List.length_drop]; omega
  have HSp : Hid (∀ w', Calls Tryz.prog 73 #[.string (str l), .int .u8 47] w' fun e w2 => ∃ g c, e = .returned (.slice (some ⟨g, 0, none⟩) (spl 47 l).length c) ∧ (spl 47 l).length ≤ c ∧ Ps w2 g (spl 47 l) ∧ Below w'.heap.size w' w2) := fun w' => rsplit_one l 47 w' (by omega)
  obtain ⟨L, hL⟩ : ∃ L, L = spl 47 l := ⟨_, rfl⟩
  have hne : L ≠ [] := by rw [hL]; exact spl_ne 47 l
  obtain ⟨n, hn⟩ : ∃ n, n = L.length := ⟨_, rfl⟩
  have hn1 : 1 ≤ n := by rw [hn]; exact List.length_pos_iff.2 hne
  have hn2 : n ≤ 4000001 := by
    rw [hn, hL, spl_length]
    have := List.count_le_length (a := (47 : UInt8)) (l := l)
    omega
  have hall : Hid (pk L n = pst [] L) := by show _ = _; rw [hn, pk_all]
  have hpl : Hid (∀ k, k ≤ n → (pk L k).length ≤ k) := fun k hk => pk_len L hne k (by omega)
  have hnx : Hid (∀ k x, L[k]? = some x → pk L (k + 1) = if k + 1 < n then pstp (pk L k) x else fin (pk L k) x) := fun k x hx => by rw [hn]; exact pk_next L k x hx
  have hel : Hid (∀ x ∈ L, x.length ≤ 4000000) := fun x hx => by rw [hL] at hx; have := (spl_mem 47 l x hx).2.1; omega
  have hz := Lib.hid (pk_zero L hne)
  have hLn := Lib.hid hn
  have hQl : Hid (∀ x ∈ pst [] L, x.length ≤ 12000000) := pst_from (fun x => x.length ≤ 12000000) (by simp) L [] (by simp) (fun x hx => by
    have := hel.out x hx
    have := enc_len (inS 5) x
    omega)
  have hRe : Hid (sl9 (pst [] L) = pth l) := by show _ = _; rw [sl9_join _ (pst_ne L [] hne), hL]; rfl
  rw [← hL, ← hn] at HSp
  rw [← hll]
  have hLne := Lib.hid hne
  clear hL hn hne
  by_cases hz0 : z = []
  · subst hz0
    have hl0 : l = [] := hll
    have HSp' : Hid (∀ w', Calls Tryz.prog 73 #[.string ⟨#[]⟩, .int .u8 47] w' fun e w2 => ∃ g c, e = .returned (.slice (some ⟨g, 0, none⟩) n c) ∧ n ≤ c ∧ Ps w2 g L ∧ Below w'.heap.size w' w2) := by rw [hl0] at HSp; exact HSp
    have hem : (str ([] : List UInt8)).toList.isEmpty = true := by rw [toList_str]; rfl
    have e0 : str ([] : List UInt8) = ⟨#[]⟩ := rfl
    rw [e0] at hem ⊢
    clear hll hl0 HSp hl hl1 e0
    go_enter Tryz.func71, Tryz.ntmps71
    go_wp2_with (go_at_call 73; (with_reducible refine (HSp'.out _).mono ?_); (rintro e w1 ⟨g, c0, rfl, hc0, hps, hb1⟩))
    obtain ⟨B, hB⟩ : ∃ B, B = w1.heap.size := ⟨_, rfl⟩
    have hB1 : Hid (B ≤ w1.heap.size) := by show _ ≤ _; omega
    have hB2 : Hid (w1.heap.size ≤ B) := by show _ ≤ _; omega
    have hgB : Hid (g < B) := by show _ < _; rw [hB]; exact hps.1
    have hown0 := ownT_made w1 B (by omega)
    have hk0 : Hid (Kept w1 (w1.alloc (.cells #[] 9))) := (Below.refl _ _).alloc (Nat.le_refl _) _
    obtain ⟨w2, hw2⟩ : ∃ w2, w2 = w1.alloc (.cells #[] 9) := ⟨_, rfl⟩
    rw [← hB]
    rw [← hB, ← hw2] at hown0
    rw [← hw2] at hk0
    rw [← hw2]
    have hown0' := Lib.hid hown0
    have HP1 := Lib.hid hps
    have HB1 := Lib.hid hb1
    clear hps hb1 hB hw2 hown0
    go_loopw [5, 4] (fun i v wr => ∃ k : Nat, k ≤ n ∧ i = .int .i64 (k : Int) ∧ Kept w1 wr ∧ ∃ A c, v = .slice A (pk L k).length c ∧ OwnT wr B (.slice A (pk L k).length c) (pk L k).length (pk L k)) (fun i _ _ => n - (intOf i).toNat)
    case atStart => exact ⟨0, by omega, rfl, hk0.out, some ⟨B, 0, none⟩, 0, by rw [hz.out]; rfl, by rw [hz.out]; exact hown0'.out⟩
    case round =>
      obtain ⟨k, hk, rfl, hkp, A, c, rfl, hown⟩ := hrel
      clear hown0'
      by_cases hlt : k < n
      · have hkS : (k : Int) < (n : Int) := by omega
        obtain ⟨x, hx9⟩ : ∃ x, L[k]? = some x := ⟨_, List.getElem?_eq_getElem (by rw [← hLn.out]; exact hlt)⟩
        have hpk := HP1.out.kept hkp
        have hcell : wr.cell? ⟨g, k, none⟩ = some (.string (str x)) := hpk.2 k x hx9
        have hxl := hel.out x (List.mem_of_getElem? hx9)
        have HD : Hid (Calls Tryz.prog 104 #[.string (str x)] wr fun e w' => e = .returned (.int .i64 (dots x : Int)) ∧ w' = wr) := rdots_any x wr (by omega)
        have HN := hnx.out k x hx9
        have hle := hpl.out k hk
        clear hx9 hpk
        obtain ⟨P0, hP0⟩ : ∃ P, P = pk L k := ⟨_, rfl⟩
        rw [← hP0] at hown HN hle ⊢
        obtain ⟨N0, hN0⟩ : ∃ N, N = P0.length := ⟨_, rfl⟩
        rw [← hN0] at hown hle ⊢
        have HNN := Lib.hid hN0
        have hN5 : Hid (N0 ≤ 5000000) := by show _ ≤ _; omega
        have hd3 := dots_lt x
        have HK := Lib.hid hkp
        have HOwn := Lib.hid hown
        obtain ⟨k1, hk1e⟩ : ∃ k1, k1 = k + 1 := ⟨_, rfl⟩
        have hk1 : (k : Int) + 1 = (k1 : Int) := by omega
        have hkw : IntKind.i64.wrap (k1 : Int) = (k1 : Int) := by rw [IntKind.wrap_i64]; omega
        rw [← hk1e] at HN
        have HK1 := Lib.hid hk1e
        have HE : Hid (∀ w', Calls Tryz.prog 43 #[.int .i64 5, .string (str x)] w' fun e w2 => e = .returned (.string (str (enc (inS 5) x))) ∧ Below w'.heap.size w' w2) := fun w' => refEncode_any 5 x w' (by omega)
        clear hN0 hkp hown hP0
        unfold pstp fin at HN
        obtain ⟨d, hd⟩ : ∃ d, d = dots x := ⟨_, rfl⟩
        rw [← hd] at HD hd3 HN
        clear hd
        rcases hd3 with rfl | rfl | rfl
        · have HX : Hid (pk L k1 = P0 ++ [enc (inS 5) x]) := by show _ = _; rw [HN]; split <;> rfl
          clear HN hk1e
          generalize enc (inS 5) x = ex at HX HE
          go_wp2_with (first
            | (go_at_call 104; (with_reducible refine HD.out.mono ?_); (rintro e wd ⟨rfl, hwd⟩; subst wd))
            | (go_at_call 43; (with_reducible refine (HE.out _).mono ?_); (rintro e w3 ⟨rfl, hb3⟩; have HB3 := Lib.hid hb3; clear hb3))
            | ((with_reducible show wpList _ _ _ (⟨some 36, .call _, _, _, _, _⟩ :: _) _ _); refine wp_appT _ rfl (.tmp 29) (.tmp 35) rfl B _ N0 P0 rfl ((HOwn.out.kept HB3.out).alloc _) w3.heap.size 0 1 1 [ex] rfl rfl (lit_one _ _ _ rfl) (by have := hN5.out; omega) (by have h1 := (HK.out.step HB3.out).size; have h2 := hB1.out; simp; omega) (N0 + 1) rfl ?_; intro A4 c4 w4 hc4 hown4 hb4 hkb4 hgr4; simp only [Act.put, List.setIfInBounds_toArray, List.set_cons_zero, List.set_cons_succ]))
          go_roundw
          case rel =>
            have e1 : pk L k1 = P0 ++ [ex] := HX.out
            have e2 : (pk L k1).length = N0 + 1 := by rw [e1]; rw [List.length_append, ← HNN.out]; rfl
            exact ⟨k1, by have := HK1.out; omega, by first | rfl | go_num, ((HK.out.step HB3.out).alloc _).trans (hb4.mono hB2.out), A4, c4, by rw [e2], by rw [e2, e1]; exact hown4⟩
          case measure => simp [intOf]; have := HK1.out; omega
        · by_cases hlast : k1 < n
          · have hne1 : ((k1 : Int) == (n : Int)) = false := by rw [beq_eq_false_iff_ne]; omega
            have HX : Hid (pk L k1 = P0) := by show _ = _; rw [HN, if_pos hlast]; rfl
            clear HN hlast hk1e
            go_wp2_with (go_at_call 104; (with_reducible refine HD.out.mono ?_); (rintro e wd ⟨rfl, hwd⟩; subst wd))
            go_roundw
            case rel =>
              have e1 : pk L k1 = P0 := HX.out
              have e2 : (pk L k1).length = N0 := by rw [e1]; exact HNN.out.symm
              exact ⟨k1, by have := HK1.out; omega, by first | rfl | go_num, HK.out, A, c, by rw [e2], by rw [e2, e1]; exact HOwn.out⟩
            case measure => simp [intOf]; have := HK1.out; omega
          · have hne1 : ((k1 : Int) == (n : Int)) = true := by rw [beq_iff_eq]; omega
            have HX : Hid (pk L k1 = P0 ++ [[]]) := by show _ = _; rw [HN, if_neg hlast]; rfl
            clear HN hlast hk1e
            go_wp2_with (first
              | (go_at_call 104; (with_reducible refine HD.out.mono ?_); (rintro e wd ⟨rfl, hwd⟩; subst wd))
              | ((with_reducible show wpList _ _ _ (⟨some 56, .call _, _, _, _, _⟩ :: _) _ _); refine wp_appT _ rfl (.tmp 54) (.tmp 55) rfl B _ N0 P0 rfl (HOwn.out.alloc _) wr.heap.size 0 1 1 [[]] rfl rfl (lit_empty _ _ rfl) (by have := hN5.out; omega) (by have h1 := (HK.out).size; have h2 := hB1.out; simp; omega) (N0 + 1) rfl ?_; intro A4 c4 w4 hc4 hown4 hb4 hkb4 hgr4; simp only [Act.put, List.setIfInBounds_toArray, List.set_cons_zero, List.set_cons_succ]))
            go_roundw
            case rel =>
              have e1 : pk L k1 = P0 ++ [[]] := HX.out
              have e2 : (pk L k1).length = N0 + 1 := by rw [e1]; rw [List.length_append, ← HNN.out]; rfl
              exact ⟨k1, by have := HK1.out; omega, by first | rfl | go_num, (HK.out.alloc _).trans (hb4.mono hB2.out), A4, c4, by rw [e2], by rw [e2, e1]; exact hown4⟩
            case measure => simp [intOf]; have := HK1.out; omega
        · by_cases hN1 : 0 < N0
          · have hNi : (0 : Int) < (N0 : Int) := by omega
            obtain ⟨M, hM⟩ : ∃ M, N0 = M + 1 := ⟨N0 - 1, by omega⟩
            have hMi : (N0 : Int) - 1 = (M : Int) := by omega
            have hMw : IntKind.i64.wrap (M : Int) = (M : Int) := by rw [IntKind.wrap_i64]; have := hN5.out; omega
            have hdl : Hid (P0.dropLast = P0.take M) := by (show _ = _; rw [List.dropLast_eq_take, ← HNN.out]; congr 1; omega)
            have hlM : Hid ((P0.take M).length = M) := by show _ = _; rw [List.length_take, ← HNN.out]; omega
            have hMc : M ≤ c := by
              obtain ⟨_, c9, e9, hc9, hm9, _⟩ := OwnT.form HOwn.out
              cases e9
              omega
            have hMci : (M : Int) ≤ (c : Int) := by omega
            have HTk : Hid (OwnT wr B (.slice A M c) M (P0.take M)) := OwnT.take HOwn.out M (by omega)
            have hM0 : Hid (M ≤ N0) := by show _ ≤ _; omega
            clear hM
            by_cases hlast : k1 < n
            · have hne1 : ((k1 : Int) == (n : Int)) = false := by rw [beq_eq_false_iff_ne]; omega
              have HX : Hid (pk L k1 = P0.take M) := by show _ = _; rw [HN, if_pos hlast]; exact hdl.out
              clear HN hlast hk1e
              go_wp2_with (go_at_call 104; (with_reducible refine HD.out.mono ?_); (rintro e wd ⟨rfl, hwd⟩; subst wd))
              go_roundw
              case rel =>
                have e1 : pk L k1 = P0.take M := HX.out
                have e2 : (pk L k1).length = M := by rw [e1]; exact hlM.out
                exact ⟨k1, by have := HK1.out; omega, by first | rfl | go_num, HK.out, A, c, by rw [e2], by rw [e2, e1]; exact HTk.out⟩
              case measure => simp [intOf]; have := HK1.out; omega
            · have hne1 : ((k1 : Int) == (n : Int)) = true := by rw [beq_iff_eq]; omega
              have HX : Hid (pk L k1 = P0.take M ++ [[]]) := by show _ = _; rw [HN, if_neg hlast, ← hdl.out]; rfl
              clear HN hlast hk1e
              go_wp2_with (first
                | (go_at_call 104; (with_reducible refine HD.out.mono ?_); (rintro e wd ⟨rfl, hwd⟩; subst wd))
                | ((with_reducible show wpList _ _ _ (⟨some 56, .call _, _, _, _, _⟩ :: _) _ _); refine wp_appT _ rfl (.tmp 54) (.tmp 55) rfl B _ M (P0.take M) rfl (HTk.out.alloc _) wr.heap.size 0 1 1 [[]] rfl rfl (lit_empty _ _ rfl) (by have := hN5.out; have := hM0.out; omega) (by have h1 := (HK.out).size; have h2 := hB1.out; simp; omega) (M + 1) rfl ?_; intro A4 c4 w4 hc4 hown4 hb4 hkb4 hgr4; simp only [Act.put, List.setIfInBounds_toArray, List.set_cons_zero, List.set_cons_succ]))
              go_roundw
              case rel =>
                have e1 : pk L k1 = P0.take M ++ [[]] := HX.out
                have e2 : (pk L k1).length = M + 1 := by rw [e1]; rw [List.length_append, hlM.out]; rfl
                exact ⟨k1, by have := HK1.out; omega, by first | rfl | go_num, (HK.out.alloc _).trans (hb4.mono hB2.out), A4, c4, by rw [e2], by rw [e2, e1]; exact hown4⟩
              case measure => simp [intOf]; have := HK1.out; omega
          · have hNi : ¬ (0 : Int) < (N0 : Int) := by omega
            have hP0 : Hid (P0 = []) := List.eq_nil_of_length_eq_zero (by rw [← HNN.out]; omega)
            by_cases hlast : k1 < n
            · have hne1 : ((k1 : Int) == (n : Int)) = false := by rw [beq_eq_false_iff_ne]; omega
              have HX : Hid (pk L k1 = P0) := by show _ = _; rw [HN, if_pos hlast, hP0.out]; rfl
              clear HN hlast hk1e
              go_wp2_with (go_at_call 104; (with_reducible refine HD.out.mono ?_); (rintro e wd ⟨rfl, hwd⟩; subst wd))
              go_roundw
              case rel =>
                have e1 : pk L k1 = P0 := HX.out
                have e2 : (pk L k1).length = N0 := by rw [e1]; exact HNN.out.symm
                exact ⟨k1, by have := HK1.out; omega, by first | rfl | go_num, HK.out, A, c, by rw [e2], by rw [e2, e1]; exact HOwn.out⟩
              case measure => simp [intOf]; have := HK1.out; omega
            · have hne1 : ((k1 : Int) == (n : Int)) = true := by rw [beq_iff_eq]; omega
              have HX : Hid (pk L k1 = P0 ++ [[]]) := by show _ = _; rw [HN, if_neg hlast, hP0.out]; rfl
              clear HN hlast hk1e
              go_wp2_with (first
                | (go_at_call 104; (with_reducible refine HD.out.mono ?_); (rintro e wd ⟨rfl, hwd⟩; subst wd))
                | ((with_reducible show wpList _ _ _ (⟨some 56, .call _, _, _, _, _⟩ :: _) _ _); refine wp_appT _ rfl (.tmp 54) (.tmp 55) rfl B _ N0 P0 rfl (HOwn.out.alloc _) wr.heap.size 0 1 1 [[]] rfl rfl (lit_empty _ _ rfl) (by have := hN5.out; omega) (by have h1 := (HK.out).size; have h2 := hB1.out; simp; omega) (N0 + 1) rfl ?_; intro A4 c4 w4 hc4 hown4 hb4 hkb4 hgr4; simp only [Act.put, List.setIfInBounds_toArray, List.set_cons_zero, List.set_cons_succ]))
              go_roundw
              case rel =>
                have e1 : pk L k1 = P0 ++ [[]] := HX.out
                have e2 : (pk L k1).length = N0 + 1 := by rw [e1]; rw [List.length_append, ← HNN.out]; rfl
                exact ⟨k1, by have := HK1.out; omega, by first | rfl | go_num, (HK.out.alloc _).trans (hb4.mono hB2.out), A4, c4, by rw [e2], by rw [e2, e1]; exact hown4⟩
              case measure => simp [intOf]; have := HK1.out; omega
      · have hkS : ¬ (k : Int) < (n : Int) := by omega
        have hke : k = n := by omega
        rw [hke, hall.out] at hown ⊢
        have HK := Lib.hid hkp
        obtain ⟨A', c', he9, hc9, _, hf9⟩ := hown.form
        cases he9
        have hQ1 := pst_ne L [] hLne.out
        obtain ⟨Q, hQ⟩ : ∃ Q, Q = pst [] L := ⟨_, rfl⟩
        rw [← hQ] at hQl hRe hown hf9 hc9 hQ1 ⊢
        obtain ⟨m, hm⟩ : ∃ m, m = Q.length := ⟨_, rfl⟩
        have hm5 : m ≤ 4000001 := by
          have h1 := hpl.out n (Nat.le_refl _)
          rw [hall.out, ← hQ] at h1
          omega
        have hm1 : 1 ≤ m := by rw [hm]; exact List.length_pos_iff.2 hQ1
        rw [← hm] at hown hc9 ⊢
        obtain ⟨h, rfl, _, hh, hcells⟩ := hf9 (by omega)
        have HCl : Hid (∀ j, j < m → ∃ p, Q[j]? = some p ∧ wr.cell? ⟨h, j, none⟩ = some (.string (str p))) := fun j hj => ⟨_, List.getElem?_eq_getElem (by omega), hcells j _ (List.getElem?_eq_getElem (by omega))⟩
        have hTl : Hid (∀ k, (sl9 (Q.take k)).length ≤ 60000000000000) := fun k => by
          have h1 := sl9_len 12000000 (Q.take k) (fun x hx => hQl.out x (List.mem_of_mem_take hx))
          have h2 : (Q.take k).length ≤ 4000001 := by rw [List.length_take]; omega
          have h3 := Nat.mul_le_mul_right (12000000 + 1) h2
          exact Nat.le_trans h1 (Nat.le_trans h3 (by decide))
        have hTn : Hid (∀ (k : Nat) (x : List UInt8), Q[k]? = some x → sl9 (Q.take (k + 1)) = sl9 (Q.take k) ++ [47] ++ x) := fun k x h => sl9_take Q k x h
        have hTe : Hid (sl9 (Q.take m) = pth l) := by show _ = _; rw [hm, List.take_length, hRe.out]
        have hxl2 : Hid (∀ (k : Nat) (x : List UInt8), Q[k]? = some x → x.length ≤ 12000000) := fun k x h => hQl.out x (List.mem_of_getElem? h)
        have hmci : (m : Int) ≤ (c : Int) := by omega
        clear hlt hk hkp hown hcells hke hkS hQ hm hQ1 hh
        have hkS : ¬ (n : Int) < (n : Int) := by omega
        go_wp2_with fail
        go_loop [8, 7] (fun i t => ∃ k : Nat, k ≤ m ∧ i = .int .i64 (k : Int) ∧ t = .string (str (sl9 (Q.take k)))) (fun i _ => m - (intOf i).toNat)
        case atStart => exact ⟨0, by omega, rfl, rfl⟩
        case round =>
          obtain ⟨k, hk, rfl, rfl⟩ := hrel
          by_cases hlt : k < m
          · have hkS : (k : Int) < (m : Int) := by omega
            obtain ⟨p, hp, hcell⟩ := HCl.out k hlt
            have hn9 := hTn.out k p hp
            have hl9 := hTl.out k
            have hpl9 := hxl2.out k p hp
            obtain ⟨J, hJ⟩ : ∃ J, J = sl9 (Q.take k) := ⟨_, rfl⟩
            rw [← hJ] at hn9 hl9 ⊢
            obtain ⟨J1, hJ1⟩ : ∃ J1, J1 = J ++ [47] := ⟨_, rfl⟩
            obtain ⟨Y, hY⟩ : ∃ Y, Y = J1 ++ p := ⟨_, rfl⟩
            have e1 : str J ++ (⟨#[47]⟩ : ByteArray) = str J1 := by rw [hJ1]; exact str_add _ [47]
            have e2 : str J1 ++ str p = str Y := by rw [hY]; exact str_add _ _
            have HY : Hid (sl9 (Q.take (k + 1)) = Y) := by show _ = _; rw [hn9, hY, hJ1]
            have q1 : ¬ (9223372036854775807 : Nat) < (str J).size + 1 := by rw [str_size]; omega
            have q2 : ¬ (9223372036854775807 : Nat) < (str J1).size + (str p).size := by rw [str_size, str_size, hJ1]; simp; omega
            clear hp hn9 hl9 hpl9 hJ hJ1 hY
            go_wp2_with fail
            go_round
            case rel => exact ⟨k + 1, by omega, by go_num, by rw [HY.out]⟩
            case measure => simp [intOf]; omega
          · have hkS : ¬ (k : Int) < (m : Int) := by omega
            have hkm : k = m := by omega
            rw [hkm, hTe.out]
            have hmm : ¬ (m : Int) < (m : Int) := by omega
            have hem2 : (str (pth l)).toList.isEmpty = false := by rw [toList_str]; rfl
            obtain ⟨R, hR⟩ : ∃ R, R = pth l := ⟨_, rfl⟩
            rw [← hR] at hem2 ⊢
            have HRR := Lib.hid hR
            clear hlt hk hkm hkS hR
            go_wp2_with fail
            go_ret
            exact ⟨by rw [← HRR.out]; rfl, HB1.out.trans (HK.out.mono HB1.out.size)⟩
  · have hzl : 1 ≤ z.length := List.length_pos_iff.2 hz0
    have hem : (str z).toList.isEmpty = false := by rw [toList_str]; cases z with
      | nil => exact absurd rfl hz0
      | cons a r => rfl
    have hsz := str_size z
    have hx : (str z).extract 1 z.length = str l := by rw [hll]; exact str_drop z 1 z.length rfl hzl
    obtain ⟨S, hS⟩ : ∃ S, S = z.length := ⟨_, rfl⟩
    rw [← hS] at hsz hx hzl
    have hzi : (1 : Int) ≤ (S : Int) := by omega
    clear hll hS hl hz0
    go_enter Tryz.func71, Tryz.ntmps71
    go_wp2_with (go_at_call 73; (with_reducible refine (HSp.out _).mono ?_); (rintro e w1 ⟨g, c0, rfl, hc0, hps, hb1⟩))
    obtain ⟨B, hB⟩ : ∃ B, B = w1.heap.size := ⟨_, rfl⟩
    have hB1 : Hid (B ≤ w1.heap.size) := by show _ ≤ _; omega
    have hB2 : Hid (w1.heap.size ≤ B) := by show _ ≤ _; omega
    have hgB : Hid (g < B) := by show _ < _; rw [hB]; exact hps.1
    have hown0 := ownT_made w1 B (by omega)
    have hk0 : Hid (Kept w1 (w1.alloc (.cells #[] 9))) := (Below.refl _ _).alloc (Nat.le_refl _) _
    obtain ⟨w2, hw2⟩ : ∃ w2, w2 = w1.alloc (.cells #[] 9) := ⟨_, rfl⟩
    rw [← hB]
    rw [← hB, ← hw2] at hown0
    rw [← hw2] at hk0
    rw [← hw2]
    have hown0' := Lib.hid hown0
    have HP1 := Lib.hid hps
    have HB1 := Lib.hid hb1
    clear hps hb1 hB hw2 hown0
    go_loopw [5, 4] (fun i v wr => ∃ k : Nat, k ≤ n ∧ i = .int .i64 (k : Int) ∧ Kept w1 wr ∧ ∃ A c, v = .slice A (pk L k).length c ∧ OwnT wr B (.slice A (pk L k).length c) (pk L k).length (pk L k)) (fun i _ _ => n - (intOf i).toNat)
    case atStart => exact ⟨0, by omega, rfl, hk0.out, some ⟨B, 0, none⟩, 0, by rw [hz.out]; rfl, by rw [hz.out]; exact hown0'.out⟩
    case round =>
      obtain ⟨k, hk, rfl, hkp, A, c, rfl, hown⟩ := hrel
      clear hown0'
      by_cases hlt : k < n
      · have hkS : (k : Int) < (n : Int) := by omega
        obtain ⟨x, hx9⟩ : ∃ x, L[k]? = some x := ⟨_, List.getElem?_eq_getElem (by rw [← hLn.out]; exact hlt)⟩
        have hpk := HP1.out.kept hkp
        have hcell : wr.cell? ⟨g, k, none⟩ = some (.string (str x)) := hpk.2 k x hx9
        have hxl := hel.out x (List.mem_of_getElem? hx9)
        have HD : Hid (Calls Tryz.prog 104 #[.string (str x)] wr fun e w' => e = .returned (.int .i64 (dots x : Int)) ∧ w' = wr) := rdots_any x wr (by omega)
        have HN := hnx.out k x hx9
        have hle := hpl.out k hk
        clear hx9 hpk
        obtain ⟨P0, hP0⟩ : ∃ P, P = pk L k := ⟨_, rfl⟩
        rw [← hP0] at hown HN hle ⊢
        obtain ⟨N0, hN0⟩ : ∃ N, N = P0.length := ⟨_, rfl⟩
        rw [← hN0] at hown hle ⊢
        have HNN := Lib.hid hN0
        have hN5 : Hid (N0 ≤ 5000000) := by show _ ≤ _; omega
        have hd3 := dots_lt x
        have HK := Lib.hid hkp
        have HOwn := Lib.hid hown
        obtain ⟨k1, hk1e⟩ : ∃ k1, k1 = k + 1 := ⟨_, rfl⟩
        have hk1 : (k : Int) + 1 = (k1 : Int) := by omega
        have hkw : IntKind.i64.wrap (k1 : Int) = (k1 : Int) := by rw [IntKind.wrap_i64]; omega
        rw [← hk1e] at HN
        have HK1 := Lib.hid hk1e
        have HE : Hid (∀ w', Calls Tryz.prog 43 #[.int .i64 5, .string (str x)] w' fun e w2 => e = .returned (.string (str (enc (inS 5) x))) ∧ Below w'.heap.size w' w2) := fun w' => refEncode_any 5 x w' (by omega)
        clear hN0 hkp hown hP0
        unfold pstp fin at HN
        obtain ⟨d, hd⟩ : ∃ d, d = dots x := ⟨_, rfl⟩
        rw [← hd] at HD hd3 HN
        clear hd
        rcases hd3 with rfl | rfl | rfl
        · have HX : Hid (pk L k1 = P0 ++ [enc (inS 5) x]) := by show _ = _; rw [HN]; split <;> rfl
          clear HN hk1e
          generalize enc (inS 5) x = ex at HX HE
          go_wp2_with (first
            | (go_at_call 104; (with_reducible refine HD.out.mono ?_); (rintro e wd ⟨rfl, hwd⟩; subst wd))
            | (go_at_call 43; (with_reducible refine (HE.out _).mono ?_); (rintro e w3 ⟨rfl, hb3⟩; have HB3 := Lib.hid hb3; clear hb3))
            | ((with_reducible show wpList _ _ _ (⟨some 36, .call _, _, _, _, _⟩ :: _) _ _); refine wp_appT _ rfl (.tmp 29) (.tmp 35) rfl B _ N0 P0 rfl ((HOwn.out.kept HB3.out).alloc _) w3.heap.size 0 1 1 [ex] rfl rfl (lit_one _ _ _ rfl) (by have := hN5.out; omega) (by have h1 := (HK.out.step HB3.out).size; have h2 := hB1.out; simp; omega) (N0 + 1) rfl ?_; intro A4 c4 w4 hc4 hown4 hb4 hkb4 hgr4; simp only [Act.put, List.setIfInBounds_toArray, List.set_cons_zero, List.set_cons_succ]))
          go_roundw
          case rel =>
            have e1 : pk L k1 = P0 ++ [ex] := HX.out
            have e2 : (pk L k1).length = N0 + 1 := by rw [e1]; rw [List.length_append, ← HNN.out]; rfl
            exact ⟨k1, by have := HK1.out; omega, by first | rfl | go_num, ((HK.out.step HB3.out).alloc _).trans (hb4.mono hB2.out), A4, c4, by rw [e2], by rw [e2, e1]; exact hown4⟩
          case measure => simp [intOf]; have := HK1.out; omega
        · by_cases hlast : k1 < n
          · have hne1 : ((k1 : Int) == (n : Int)) = false := by rw [beq_eq_false_iff_ne]; omega
            have HX : Hid (pk L k1 = P0) := by show _ = _; rw [HN, if_pos hlast]; rfl
            clear HN hlast hk1e
            go_wp2_with (go_at_call 104; (with_reducible refine HD.out.mono ?_); (rintro e wd ⟨rfl, hwd⟩; subst wd))
            go_roundw
            case rel =>
              have e1 : pk L k1 = P0 := HX.out
              have e2 : (pk L k1).length = N0 := by rw [e1]; exact HNN.out.symm
              exact ⟨k1, by have := HK1.out; omega, by first | rfl | go_num, HK.out, A, c, by rw [e2], by rw [e2, e1]; exact HOwn.out⟩
            case measure => simp [intOf]; have := HK1.out; omega
          · have hne1 : ((k1 : Int) == (n : Int)) = true := by rw [beq_iff_eq]; omega
            have HX : Hid (pk L k1 = P0 ++ [[]]) := by show _ = _; rw [HN, if_neg hlast]; rfl
            clear HN hlast hk1e
            go_wp2_with (first
              | (go_at_call 104; (with_reducible refine HD.out.mono ?_); (rintro e wd ⟨rfl, hwd⟩; subst wd))
              | ((with_reducible show wpList _ _ _ (⟨some 56, .call _, _, _, _, _⟩ :: _) _ _); refine wp_appT _ rfl (.tmp 54) (.tmp 55) rfl B _ N0 P0 rfl (HOwn.out.alloc _) wr.heap.size 0 1 1 [[]] rfl rfl (lit_empty _ _ rfl) (by have := hN5.out; omega) (by have h1 := (HK.out).size; have h2 := hB1.out; simp; omega) (N0 + 1) rfl ?_; intro A4 c4 w4 hc4 hown4 hb4 hkb4 hgr4; simp only [Act.put, List.setIfInBounds_toArray, List.set_cons_zero, List.set_cons_succ]))
            go_roundw
            case rel =>
              have e1 : pk L k1 = P0 ++ [[]] := HX.out
              have e2 : (pk L k1).length = N0 + 1 := by rw [e1]; rw [List.length_append, ← HNN.out]; rfl
              exact ⟨k1, by have := HK1.out; omega, by first | rfl | go_num, (HK.out.alloc _).trans (hb4.mono hB2.out), A4, c4, by rw [e2], by rw [e2, e1]; exact hown4⟩
            case measure => simp [intOf]; have := HK1.out; omega
        · by_cases hN1 : 0 < N0
          · have hNi : (0 : Int) < (N0 : Int) := by omega
            obtain ⟨M, hM⟩ : ∃ M, N0 = M + 1 := ⟨N0 - 1, by omega⟩
            have hMi : (N0 : Int) - 1 = (M : Int) := by omega
            have hMw : IntKind.i64.wrap (M : Int) = (M : Int) := by rw [IntKind.wrap_i64]; have := hN5.out; omega
            have hdl : Hid (P0.dropLast = P0.take M) := by (show _ = _; rw [List.dropLast_eq_take, ← HNN.out]; congr 1; omega)
            have hlM : Hid ((P0.take M).length = M) := by show _ = _; rw [List.length_take, ← HNN.out]; omega
            have hMc : M ≤ c := by
              obtain ⟨_, c9, e9, hc9, hm9, _⟩ := OwnT.form HOwn.out
              cases e9
              omega
            have hMci : (M : Int) ≤ (c : Int) := by omega
            have HTk : Hid (OwnT wr B (.slice A M c) M (P0.take M)) := OwnT.take HOwn.out M (by omega)
            have hM0 : Hid (M ≤ N0) := by show _ ≤ _; omega
            clear hM
            by_cases hlast : k1 < n
            · have hne1 : ((k1 : Int) == (n : Int)) = false := by rw [beq_eq_false_iff_ne]; omega
              have HX : Hid (pk L k1 = P0.take M) := by show _ = _; rw [HN, if_pos hlast]; exact hdl.out
              clear HN hlast hk1e
              go_wp2_with (go_at_call 104; (with_reducible refine HD.out.mono ?_); (rintro e wd ⟨rfl, hwd⟩; subst wd))
              go_roundw
              case rel =>
                have e1 : pk L k1 = P0.take M := HX.out
                have e2 : (pk L k1).length = M := by rw [e1]; exact hlM.out
                exact ⟨k1, by have := HK1.out; omega, by first | rfl | go_num, HK.out, A, c, by rw [e2], by rw [e2, e1]; exact HTk.out⟩
              case measure => simp [intOf]; have := HK1.out; omega
            · have hne1 : ((k1 : Int) == (n : Int)) = true := by rw [beq_iff_eq]; omega
              have HX : Hid (pk L k1 = P0.take M ++ [[]]) := by show _ = _; rw [HN, if_neg hlast, ← hdl.out]; rfl
              clear HN hlast hk1e
              go_wp2_with (first
                | (go_at_call 104; (with_reducible refine HD.out.mono ?_); (rintro e wd ⟨rfl, hwd⟩; subst wd))
                | ((with_reducible show wpList _ _ _ (⟨some 56, .call _, _, _, _, _⟩ :: _) _ _); refine wp_appT _ rfl (.tmp 54) (.tmp 55) rfl B _ M (P0.take M) rfl (HTk.out.alloc _) wr.heap.size 0 1 1 [[]] rfl rfl (lit_empty _ _ rfl) (by have := hN5.out; have := hM0.out; omega) (by have h1 := (HK.out).size; have h2 := hB1.out; simp; omega) (M + 1) rfl ?_; intro A4 c4 w4 hc4 hown4 hb4 hkb4 hgr4; simp only [Act.put, List.setIfInBounds_toArray, List.set_cons_zero, List.set_cons_succ]))
              go_roundw
              case rel =>
                have e1 : pk L k1 = P0.take M ++ [[]] := HX.out
                have e2 : (pk L k1).length = M + 1 := by rw [e1]; rw [List.length_append, hlM.out]; rfl
                exact ⟨k1, by have := HK1.out; omega, by first | rfl | go_num, (HK.out.alloc _).trans (hb4.mono hB2.out), A4, c4, by rw [e2], by rw [e2, e1]; exact hown4⟩
              case measure => simp [intOf]; have := HK1.out; omega
          · have hNi : ¬ (0 : Int) < (N0 : Int) := by omega
            have hP0 : Hid (P0 = []) := List.eq_nil_of_length_eq_zero (by rw [← HNN.out]; omega)
            by_cases hlast : k1 < n
            · have hne1 : ((k1 : Int) == (n : Int)) = false := by rw [beq_eq_false_iff_ne]; omega
              have HX : Hid (pk L k1 = P0) := by show _ = _; rw [HN, if_pos hlast, hP0.out]; rfl
              clear HN hlast hk1e
              go_wp2_with (go_at_call 104; (with_reducible refine HD.out.mono ?_); (rintro e wd ⟨rfl, hwd⟩; subst wd))
              go_roundw
              case rel =>
                have e1 : pk L k1 = P0 := HX.out
                have e2 : (pk L k1).length = N0 := by rw [e1]; exact HNN.out.symm
                exact ⟨k1, by have := HK1.out; omega, by first | rfl | go_num, HK.out, A, c, by rw [e2], by rw [e2, e1]; exact HOwn.out⟩
              case measure => simp [intOf]; have := HK1.out; omega
            · have hne1 : ((k1 : Int) == (n : Int)) = true := by rw [beq_iff_eq]; omega
              have HX : Hid (pk L k1 = P0 ++ [[]]) := by show _ = _; rw [HN, if_neg hlast, hP0.out]; rfl
              clear HN hlast hk1e
              go_wp2_with (first
                | (go_at_call 104; (with_reducible refine HD.out.mono ?_); (rintro e wd ⟨rfl, hwd⟩; subst wd))
                | ((with_reducible show wpList _ _ _ (⟨some 56, .call _, _, _, _, _⟩ :: _) _ _); refine wp_appT _ rfl (.tmp 54) (.tmp 55) rfl B _ N0 P0 rfl (HOwn.out.alloc _) wr.heap.size 0 1 1 [[]] rfl rfl (lit_empty _ _ rfl) (by have := hN5.out; omega) (by have h1 := (HK.out).size; have h2 := hB1.out; simp; omega) (N0 + 1) rfl ?_; intro A4 c4 w4 hc4 hown4 hb4 hkb4 hgr4; simp only [Act.put, List.setIfInBounds_toArray, List.set_cons_zero, List.set_cons_succ]))
              go_roundw
              case rel =>
                have e1 : pk L k1 = P0 ++ [[]] := HX.out
                have e2 : (pk L k1).length = N0 + 1 := by rw [e1]; rw [List.length_append, ← HNN.out]; rfl
                exact ⟨k1, by have := HK1.out; omega, by first | rfl | go_num, (HK.out.alloc _).trans (hb4.mono hB2.out), A4, c4, by rw [e2], by rw [e2, e1]; exact hown4⟩
              case measure => simp [intOf]; have := HK1.out; omega
      · have hkS : ¬ (k : Int) < (n : Int) := by omega
        have hke : k = n := by omega
        rw [hke, hall.out] at hown ⊢
        have HK := Lib.hid hkp
        obtain ⟨A', c', he9, hc9, _, hf9⟩ := hown.form
        cases he9
        have hQ1 := pst_ne L [] hLne.out
        obtain ⟨Q, hQ⟩ : ∃ Q, Q = pst [] L := ⟨_, rfl⟩
        rw [← hQ] at hQl hRe hown hf9 hc9 hQ1 ⊢
        obtain ⟨m, hm⟩ : ∃ m, m = Q.length := ⟨_, rfl⟩
        have hm5 : m ≤ 4000001 := by
          have h1 := hpl.out n (Nat.le_refl _)
          rw [hall.out, ← hQ] at h1
          omega
        have hm1 : 1 ≤ m := by rw [hm]; exact List.length_pos_iff.2 hQ1
        rw [← hm] at hown hc9 ⊢
        obtain ⟨h, rfl, _, hh, hcells⟩ := hf9 (by omega)
        have HCl : Hid (∀ j, j < m → ∃ p, Q[j]? = some p ∧ wr.cell? ⟨h, j, none⟩ = some (.string (str p))) := fun j hj => ⟨_, List.getElem?_eq_getElem (by omega), hcells j _ (List.getElem?_eq_getElem (by omega))⟩
        have hTl : Hid (∀ k, (sl9 (Q.take k)).length ≤ 60000000000000) := fun k => by
          have h1 := sl9_len 12000000 (Q.take k) (fun x hx => hQl.out x (List.mem_of_mem_take hx))
          have h2 : (Q.take k).length ≤ 4000001 := by rw [List.length_take]; omega
          have h3 := Nat.mul_le_mul_right (12000000 + 1) h2
          exact Nat.le_trans h1 (Nat.le_trans h3 (by decide))
        have hTn : Hid (∀ (k : Nat) (x : List UInt8), Q[k]? = some x → sl9 (Q.take (k + 1)) = sl9 (Q.take k) ++ [47] ++ x) := fun k x h => sl9_take Q k x h
        have hTe : Hid (sl9 (Q.take m) = pth l) := by show _ = _; rw [hm, List.take_length, hRe.out]
        have hxl2 : Hid (∀ (k : Nat) (x : List UInt8), Q[k]? = some x → x.length ≤ 12000000) := fun k x h => hQl.out x (List.mem_of_getElem? h)
        have hmci : (m : Int) ≤ (c : Int) := by omega
        clear hlt hk hkp hown hcells hke hkS hQ hm hQ1 hh
        have hkS : ¬ (n : Int) < (n : Int) := by omega
        go_wp2_with fail
        go_loop [8, 7] (fun i t => ∃ k : Nat, k ≤ m ∧ i = .int .i64 (k : Int) ∧ t = .string (str (sl9 (Q.take k)))) (fun i _ => m - (intOf i).toNat)
        case atStart => exact ⟨0, by omega, rfl, rfl⟩
        case round =>
          obtain ⟨k, hk, rfl, rfl⟩ := hrel
          by_cases hlt : k < m
          · have hkS : (k : Int) < (m : Int) := by omega
            obtain ⟨p, hp, hcell⟩ := HCl.out k hlt
            have hn9 := hTn.out k p hp
            have hl9 := hTl.out k
            have hpl9 := hxl2.out k p hp
            obtain ⟨J, hJ⟩ : ∃ J, J = sl9 (Q.take k) := ⟨_, rfl⟩
            rw [← hJ] at hn9 hl9 ⊢
            obtain ⟨J1, hJ1⟩ : ∃ J1, J1 = J ++ [47] := ⟨_, rfl⟩
            obtain ⟨Y, hY⟩ : ∃ Y, Y = J1 ++ p := ⟨_, rfl⟩
            have e1 : str J ++ (⟨#[47]⟩ : ByteArray) = str J1 := by rw [hJ1]; exact str_add _ [47]
            have e2 : str J1 ++ str p = str Y := by rw [hY]; exact str_add _ _
            have HY : Hid (sl9 (Q.take (k + 1)) = Y) := by show _ = _; rw [hn9, hY, hJ1]
            have q1 : ¬ (9223372036854775807 : Nat) < (str J).size + 1 := by rw [str_size]; omega
            have q2 : ¬ (9223372036854775807 : Nat) < (str J1).size + (str p).size := by rw [str_size, str_size, hJ1]; simp; omega
            clear hp hn9 hl9 hpl9 hJ hJ1 hY
            go_wp2_with fail
            go_round
            case rel => exact ⟨k + 1, by omega, by go_num, by rw [HY.out]⟩
            case measure => simp [intOf]; omega
          · have hkS : ¬ (k : Int) < (m : Int) := by omega
            have hkm : k = m := by omega
            rw [hkm, hTe.out]
            have hmm : ¬ (m : Int) < (m : Int) := by omega
            have hem2 : (str (pth l)).toList.isEmpty = false := by rw [toList_str]; rfl
            obtain ⟨R, hR⟩ : ∃ R, R = pth l := ⟨_, rfl⟩
            rw [← hR] at hem2 ⊢
            have HRR := Lib.hid hR
            clear hlt hk hkm hkS hR
            go_wp2_with fail
            go_ret
            exact ⟨by rw [← HRR.out]; rfl, HB1.out.trans (HK.out.mono HB1.out.size)⟩
end Go.Proofs.YtcepigekibidfaaGreatDoor
