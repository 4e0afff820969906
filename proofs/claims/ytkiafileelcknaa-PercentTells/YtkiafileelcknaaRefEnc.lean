/-
  What the document's own Encode (transeptref06) tells; nothing that was there turns. Condition: texts of at most 100000000 bytes.
-/
import Derived.Test.YtkiafileelcknaaRefIn
namespace Go.Proofs.Ytkiafileelcknaa
open Go.RowKit

theorem hex_lo : ∀ k, k < 10 → (hex k).toNat = 48 + k := by decide +kernel
theorem hex_hi : ∀ k, k < 16 → 10 ≤ k → (hex k).toNat = 65 + k - 10 := by decide +kernel

set_option maxHeartbeats 1000000 in
theorem refDigit_any (k : Nat) (hk : k < 16) (w : World) : Calls Try.prog 19 #[.int .u8 (k : Int)] w fun e w' => e = .returned (vb (hex k)) ∧ w' = w := by
  by_cases h : k < 10
  · have hb : decide ((k : Int) < 10) = true := by simp; omega
    have hv := hex_lo k h
    obtain ⟨x, hx⟩ : ∃ x, x = (hex k).toNat := ⟨_, rfl⟩
    unfold vb
    rw [← hx] at hv ⊢
    clear hx
    go_enter Try.func19, Try.ntmps19
    go_wp2_with fail
    go_ret
    refine ⟨?_, rfl⟩
    rw [show (x : Int) = 48 + (k : Int) by omega]
    rfl
  · have hb : decide ((k : Int) < 10) = false := by simp; omega
    have hv := hex_hi k hk (by omega)
    obtain ⟨x, hx⟩ : ∃ x, x = (hex k).toNat := ⟨_, rfl⟩
    unfold vb
    rw [← hx] at hv ⊢
    clear hx
    go_enter Try.func19, Try.ntmps19
    go_wp2_with fail
    go_ret
    refine ⟨?_, rfl⟩
    rw [show (x : Int) = 65 + (k : Int) - 10 by omega]
    rfl

set_option maxHeartbeats 4000000 in
set_option maxRecDepth 100000 in
theorem refEncode_any (n : Int) (l : List UInt8) (w : World) (hl : l.length ≤ 100000000) : Calls Try.prog 14 #[.int .i64 n, .string (str l)] w fun e w' => e = .returned (.string (str (enc (inS n) l))) ∧ Below w.heap.size w w' := by
  have hsz := str_size l
  have hgb := fun k hk h => str_at l k hk h
  have hts := fun k hk => enc_take_succ (inS n) l k hk
  have hel := fun k => enc_len (inS n) (l.take k)
  have hel' : Hid (∀ k, (enc (inS n) (l.take k)).length ≤ 300000000) := fun k => by have := hel k; rw [List.length_take] at this; omega
  clear hel
  have hall : Hid (enc (inS n) (l.take l.length) = enc (inS n) l) := by
    show _ = _
    rw [List.take_length]
  obtain ⟨S, hS⟩ : ∃ S, S = l.length := ⟨_, rfl⟩
  obtain ⟨p, hp⟩ : ∃ p, p = inS n := ⟨_, rfl⟩
  have FA := Lib.hid (fun c W => refIn_any n c W)
  rw [← hS] at hsz hgb hts hl hall
  rw [← hp] at hts hel' hall ⊢
  have FA' : Hid (∀ (c : UInt8) (m : Nat), m = c.toNat → ∀ W, Calls Try.prog 12 #[.int .i64 n, .int .u8 (m : Int)] W fun e w' => e = .returned (.bool (p c)) ∧ Below W.heap.size W w') := fun c m hm W => by
    have h := FA.out c W
    rw [← hp, vb, ← hm] at h
    exact h
  clear hp hS FA
  have HGB := Lib.hid hgb
  have HTS := Lib.hid hts
  clear hgb hts
  go_enter Try.func14, Try.ntmps14
  go_wp2_with fail
  have b4 : Kept w (w.alloc (.cells #[] 5)) := (Kept.refl w).alloc _
  have hown4 : Own (w.alloc (.cells #[] 5)) w.heap.size _ 0 [] := own_empty w w.heap.size (Nat.le_refl _)
  go_loopw [6, 5] (fun i v wr => ∃ k : Nat, k ≤ S ∧ i = .int .i64 (k : Int) ∧ Kept w wr ∧ Own wr w.heap.size v (enc p (l.take k)).length (enc p (l.take k))) (fun i _ _ => S - (intOf i).toNat)
  case atStart => exact ⟨0, by omega, rfl, b4, by simpa [enc] using hown4⟩
  case round =>
    obtain ⟨k, hk, rfl, hkp, hown⟩ := hrel
    clear hown4 b4
    obtain ⟨L, hL⟩ : ∃ L, L = enc p (l.take k) := ⟨_, rfl⟩
    have hLl : Hid (L.length ≤ 300000000) := by show L.length ≤ _; rw [hL]; exact hel'.out k
    rw [← hL] at hown
    obtain ⟨NL, hNL⟩ : ∃ NL, NL = L.length := ⟨_, rfl⟩
    rw [← hNL] at hown hLl
    by_cases hlt : k < S
    · obtain ⟨c, hcd⟩ : ∃ c, c = l.getD k 0 := ⟨_, rfl⟩
      have hts : Hid (enc p (l.take (k + 1)) = L ++ enc1 p c) := by show _ = _; rw [HTS.out k hlt, hL, hcd]
      obtain ⟨m, hm⟩ : ∃ m, m = c.toNat := ⟨_, rfl⟩
      have hm8 : m < 256 := by rw [hm]; exact c.toNat_lt
      have hget : ∀ h, ((str l)[k]'h).toNat = m := fun h => by rw [hm, hcd]; exact HGB.out k hlt h
      have hcall := FA'.out c m hm wr
      have HM := Lib.hid hm
      have HL := Lib.hid (And.intro hL hNL)
      have hkS : (k : Int) < (S : Int) := by omega
      clear hm hcd hL hNL
      cases hpc : p c
      · rw [hpc] at hcall
        have h1 : Hid (enc1 p c = [c]) := by show _ = _; simp [enc1, hpc]
        have HCALL := Lib.hid hcall
        clear hpc hcall
        go_wp2_with (first
          | (go_at_call 12; (with_reducible refine HCALL.out.mono ?_); rintro e w5 ⟨rfl, b5⟩; have hkp5 : Kept w w5 := hkp.step b5; have hkz := hkp5.size; have hown5 := hown.kept b5)
          | (at_builtin; refine wp_app _ rfl (.tmp 34) (.tmp 38) rfl w.heap.size _ NL L rfl (hown5.alloc _) (w5.heap.size + 1) _ 1 1 [c] rfl (Bs.one' _ _ _ (by rw [HM.out])) (by have := hLl.out; omega) (by simp; omega) ?_; intro v6 w6 hown6 hb6))
        go_roundw
        case rel =>
          refine ⟨k + 1, by omega, by go_num, hkp5.base (((Below.refl _ _).alloc hkz _).trans hb6), ?_⟩
          rw [hts.out, h1.out, List.length_append, ← HL.out.2]
          exact hown6
        case measure => simp [intOf]; omega
      · rw [hpc] at hcall
        have h1 : Hid (enc1 p c = [37, hex (m / 16), hex (m % 16)]) := by show _ = _; simp [enc1, hpc, HM.out]
        have HCALL := Lib.hid hcall
        clear hpc hcall
        obtain ⟨q, hq⟩ : ∃ q, q = m / 16 := ⟨_, rfl⟩
        obtain ⟨r, hr⟩ : ∃ r, r = m % 16 := ⟨_, rfl⟩
        have hq16 : q < 16 := by omega
        have hr16 : r < 16 := by omega
        have hqi : (m : Int) / 16 = (q : Int) := by omega
        have hri : (m : Int) % 16 = (r : Int) := by omega
        have hqi' : Int.tdiv (m : Int) 16 = (q : Int) := by
          have : Int.tdiv (m : Int) 16 = ((m / 16 : Nat) : Int) := rfl
          omega
        have hri' : Int.tmod (m : Int) 16 = (r : Int) := by
          have : Int.tmod (m : Int) 16 = ((m % 16 : Nat) : Int) := rfl
          omega
        have hwq : IntKind.u8.wrap (q : Int) = (q : Int) := by rw [IntKind.wrap_u8]; omega
        have hwr : IntKind.u8.wrap (r : Int) = (r : Int) := by rw [IntKind.wrap_u8]; omega
        obtain ⟨x, hx⟩ : ∃ x, x = (hex q).toNat := ⟨_, rfl⟩
        obtain ⟨y, hy⟩ : ∃ y, y = (hex r).toNat := ⟨_, rfl⟩
        have DQ : Hid (∀ W, Calls Try.prog 19 #[.int .u8 (q : Int)] W fun e w' => e = .returned (.int .u8 (x : Int)) ∧ w' = W) := fun W => by
          have h := refDigit_any q hq16 W
          rw [vb, ← hx] at h
          exact h
        have DR : Hid (∀ W, Calls Try.prog 19 #[.int .u8 (r : Int)] W fun e w' => e = .returned (.int .u8 (y : Int)) ∧ w' = W) := fun W => by
          have h := refDigit_any r hr16 W
          rw [vb, ← hy] at h
          exact h
        rw [← hq, ← hr] at h1
        have HX := Lib.hid (And.intro hx hy)
        clear hq hr hx hy
        go_wp2_with (go_at_call 12; (with_reducible refine HCALL.out.mono ?_); rintro e w5 ⟨rfl, b5⟩; have hkp5 : Kept w w5 := hkp.step b5; have hkz := hkp5.size; have hown5 := hown.kept b5)
        refine wp_region_held_drew (S := fun W => Kept w W) (by kernel_rfl) hkp5.drew (fun hS => ?_)
        refine wpAnyH_take (i := 0) (oi := ⟨some 21, _, _, _, _, _⟩) (v := ?va0) rfl (by kernel_rfl) (by kernel_rfl) (by kernel_rfl) (fun _ _ _ h => h) (Or.inl ⟨by rfl, ?ya0⟩) hS ?ra0
        case ya0 => intro W hW; go_simp; first | done | with_reducible rfl
        simp only [Act.put, List.setIfInBounds_toArray, List.set_cons_zero, List.set_cons_succ]
        refine wpAnyH_take (i := 1) (oi := ⟨some 22, _, _, _, _, _⟩) (v := ?va1) rfl (by kernel_rfl) (by kernel_rfl) (by kernel_rfl) (fun _ _ _ h => h) (Or.inl ⟨by rfl, ?ya1⟩) hS ?ra1
        case ya1 => intro W hW; go_simp; first | done | with_reducible rfl
        simp only [Act.put, List.setIfInBounds_toArray, List.set_cons_zero, List.set_cons_succ]
        refine wpAnyH_take (i := 2) (oi := ⟨some 23, _, _, _, _, _⟩) (v := ?va2) rfl (by kernel_rfl) (by kernel_rfl) (by kernel_rfl) (fun _ _ _ h => h) (Or.inl ⟨by rfl, ?ya2⟩) hS ?ra2
        case ya2 => intro W hW; go_simp; first | done | with_reducible rfl
        simp only [Act.put, List.setIfInBounds_toArray, List.set_cons_zero, List.set_cons_succ]
        refine wpAnyH_take (i := 3) (oi := ⟨some 24, _, _, _, _, _⟩) (v := ?va3) rfl (by kernel_rfl) (by kernel_rfl) (by kernel_rfl) (fun _ _ _ h => h) (Or.inl ⟨by rfl, ?ya3⟩) hS ?ra3
        case ya3 => intro W hW; go_simp; first | done | with_reducible rfl
        simp only [Act.put, List.setIfInBounds_toArray, List.set_cons_zero, List.set_cons_succ]
        refine wpAnyH_take (i := 4) (oi := ⟨some 25, _, _, _, _, _⟩) (v := ?va4) rfl (by kernel_rfl) (by kernel_rfl) (by kernel_rfl) (fun _ _ _ h => h) (Or.inl ⟨by rfl, ?ya4⟩) hS ?ra4
        case ya4 => intro W hW; go_simp; first | done | with_reducible rfl
        simp only [Act.put, List.setIfInBounds_toArray, List.set_cons_zero, List.set_cons_succ]
        refine wpAnyH_take (i := 6) (oi := ⟨some 27, _, _, _, _, _⟩) (v := ?va6) rfl (by kernel_rfl) (by kernel_rfl) (by kernel_rfl) (fun _ _ _ h => h) (Or.inl ⟨by rfl, ?ya6⟩) hS ?ra6
        case ya6 => intro W hW; go_simp; first | done | with_reducible rfl
        simp only [Act.put, List.setIfInBounds_toArray, List.set_cons_zero, List.set_cons_succ]
        refine wpAnyH_take (i := 7) (oi := ⟨some 28, _, _, _, _, _⟩) (v := ?va7) rfl (by kernel_rfl) (by kernel_rfl) (by kernel_rfl) (fun _ _ _ h => h) (Or.inl ⟨by rfl, ?ya7⟩) hS ?ra7
        case ya7 => intro W hW; go_simp; first | done | with_reducible rfl
        simp only [Act.put, List.setIfInBounds_toArray, List.set_cons_zero, List.set_cons_succ]
        refine wpAnyH_take (i := 8) (oi := ⟨some 29, _, _, _, _, _⟩) (v := ?va8) rfl (by kernel_rfl) (by kernel_rfl) (by kernel_rfl) (fun _ _ _ h => h) (Or.inl ⟨by rfl, ?ya8⟩) hS ?ra8
        case ya8 => intro W hW; go_simp; first | done | with_reducible rfl
        simp only [Act.put, List.setIfInBounds_toArray, List.set_cons_zero, List.set_cons_succ]
        refine wpAnyH_take (i := 9) (oi := ⟨some 30, _, _, _, _, _⟩) (v := ?va9) rfl (by kernel_rfl) (by kernel_rfl) (by kernel_rfl) (fun _ _ _ h => h) (Or.inl ⟨by rfl, ?ya9⟩) hS ?ra9
        case ya9 => intro W hW; go_simp; first | done | with_reducible rfl
        simp only [Act.put, List.setIfInBounds_toArray, List.set_cons_zero, List.set_cons_succ]
        refine wpAnyH_ready (rs := [5]) (by kernel_rfl) (by simp) ?_
        refine (AllReadyH.cons (o := ⟨some 26, _, _, _, _, _⟩) rfl (fun K hK_ => ?_) AllReadyH.nil)
        go_simp
        with_reducible refine (DQ.out _).mono ?_
        rintro e w6 ⟨rfl, rfl⟩
        refine hK_.out _ _ hS (fun _ => ?_)
        clear hK_ K
        try simp only [Act.put, List.setIfInBounds_toArray, List.set_cons_zero, List.set_cons_succ]
        refine wpAnyH_ready (rs := [10]) (by kernel_rfl) (by simp) ?_
        refine (AllReadyH.cons (o := ⟨some 31, _, _, _, _, _⟩) rfl (fun K hK_ => ?_) AllReadyH.nil)
        go_simp
        with_reducible refine (DR.out _).mono ?_
        rintro e w7 ⟨rfl, rfl⟩
        refine hK_.out _ _ hS (fun _ => ?_)
        clear hK_ K
        try simp only [Act.put, List.setIfInBounds_toArray, List.set_cons_zero, List.set_cons_succ]
        refine wpAnyH_ready (rs := [11]) (by kernel_rfl) (by simp) ?_
        refine (AllReadyH.cons (o := ⟨some 32, _, _, _, _, _⟩) rfl (fun K hK_ => ?_) AllReadyH.nil)
        go_simp
        refine hK_.out _ _ (hS.alloc _) (fun hS3 => ?_)
        clear hK_ K
        refine wpAnyH_ready (rs := [12]) (by kernel_rfl) (by simp) ?_
        refine (AllReadyH.cons (o := ⟨some 33, _, _, _, _, _⟩) rfl (fun K hK_ => ?_) AllReadyH.nil)
        refine step_appS _ rfl (.tmp 21) (.tmp 32) rfl w.heap.size _ NL L rfl (hown5.alloc _).drew (w5.heap.size + 1) _ 3 3 _ rfl (bs_three w5 _ _ _ 37 (hex q) (hex r) rfl ?e2 ?e3).drew (by have := hLl.out; omega) (by simp; omega) (NL + 3) (L ++ [37, hex q, hex r]) rfl rfl ?_
        case e2 => rw [HX.out.1]
        case e3 => rw [HX.out.2]
        intro A7 c7 w7 hc7 hS7 hown7 hbel7
        have K7 : Kept w w7 := hS3.base hbel7
        refine hK_.out _ _ K7 (fun _ => ?_)
        clear hK_ K
        simp only [Act.put, List.setIfInBounds_toArray, List.set_cons_zero, List.set_cons_succ]
        refine wpAnyH_take (i := 13) (oi := ⟨some 5, _, _, _, _, _⟩) (v := ?vo13) rfl (by kernel_rfl) (by kernel_rfl) (by kernel_rfl) (fun _ _ _ h => h) (Or.inl ⟨by rfl, ?yo13⟩) K7 ?ro13
        case yo13 => intro W hW; go_simp; first | done | with_reducible rfl
        simp only [Act.put, List.setIfInBounds_toArray, List.set_cons_zero, List.set_cons_succ]
        refine wpAnyH_done (by kernel_rfl) ?_ _
        go_wp2_with fail
        go_roundw
        case rel =>
          refine ⟨k + 1, by omega, by go_num, K7, ?_⟩
          rw [hts.out, h1.out, List.length_append, ← HL.out.2]
          exact hown7
        case measure => simp [intOf]; omega
    · have hk' : Hid (k = S) := by show k = S; omega
      have hkS : (S : Int) ≤ (k : Int) := by omega
      clear hk hlt
      obtain ⟨A, cc, rfl, hcc, hs⟩ := hown.form
      have HL := Lib.hid (And.intro hL hNL)
      clear hL hNL
      have hst := run_str wr _ A NL cc L hs
      go_wp2_with fail
      go_ret
      refine ⟨?_, hkp⟩
      rw [← hall.out, ← hk'.out, ← HL.out.1]
      rfl
end Go.Proofs.Ytkiafileelcknaa
