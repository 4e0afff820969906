/-
  What percent.Decode and what it calls answer; nothing that was there turns. Condition: texts of at most 100000000 bytes.
-/
import Derived.Test.YtcfgcakmffkpmaaDoorPlain
namespace Go.Proofs.YtcfgcakmffkpmaaDoor
open Go.RowKit

theorem str_at (l : List UInt8) (k : Nat) (hk : k < l.length) (h : k < (str l).size) : ((str l)[k]'h).toNat = (l.getD k 0).toNat := by
  simp [str, List.getD, List.getElem?_eq_getElem hk, ByteArray.getElem_eq_getElem_data]
theorem dig_lt {m : Nat} {c : UInt8} (h : c.toNat = m) : (dig c < 16 ↔ (48 ≤ m ∧ m ≤ 57) ∨ (65 ≤ m ∧ m ≤ 70) ∨ (97 ≤ m ∧ m ≤ 102)) := by
  unfold dig
  rw [h]
  split
  · omega
  · split
    · omega
    · split <;> omega

set_option maxHeartbeats 1000000 in
theorem digit_in (c : UInt8) (h : dig c < 16) (w : World) : Calls Tryd.prog 56 #[vb c] w fun e w' => e = .returned (.tuple #[.int .u8 (dig c : Int), .bool true]) ∧ w' = w := by
  obtain ⟨m, hm⟩ : ∃ m, c.toNat = m := ⟨_, rfl⟩
  have hc := (dig_lt hm).1 h
  have hd : Hid (dig c = if 48 ≤ m ∧ m ≤ 57 then m - 48 else if 65 ≤ m ∧ m ≤ 70 then m - 65 + 10 else if 97 ≤ m ∧ m ≤ 102 then m - 97 + 10 else 16) := by show _ = _; unfold dig; rw [hm]
  obtain ⟨d, hdd⟩ : ∃ d, d = dig c := ⟨_, rfl⟩
  rw [← hdd] at hd ⊢
  unfold vb
  rw [hm]
  clear h hm hdd
  rcases hc with hc | hc | hc
  · have e1 : Hid (d = m - 48) := by show _ = _; rw [hd.out, if_pos hc]
    have a0 : decide ((48 : Int) ≤ (m : Int)) = true := by simp; omega
    have b0 : decide ((m : Int) ≤ 57) = true := by simp; omega
    have a1 : decide ((65 : Int) ≤ (m : Int)) = false := by simp; omega
    have b1 : decide ((m : Int) ≤ 70) = true := by simp; omega
    have a2 : decide ((97 : Int) ≤ (m : Int)) = false := by simp; omega
    have b2 : decide ((m : Int) ≤ 102) = true := by simp; omega
    go_enter Tryd.func56, Tryd.ntmps56
    go_wp2_with fail
    go_ret2
    refine ⟨?_, rfl⟩
    have := e1.out
    have e2 : (d : Int) = (m : Int) - 48 := by omega
    rw [e2]
    rfl
  · have e1 : Hid (d = m - 65 + 10) := by show _ = _; rw [hd.out, if_neg (by omega), if_pos hc]
    have a0 : decide ((48 : Int) ≤ (m : Int)) = true := by simp; omega
    have b0 : decide ((m : Int) ≤ 57) = false := by simp; omega
    have a1 : decide ((65 : Int) ≤ (m : Int)) = true := by simp; omega
    have b1 : decide ((m : Int) ≤ 70) = true := by simp; omega
    have a2 : decide ((97 : Int) ≤ (m : Int)) = false := by simp; omega
    have b2 : decide ((m : Int) ≤ 102) = true := by simp; omega
    go_enter Tryd.func56, Tryd.ntmps56
    go_wp2_with fail
    go_ret2
    refine ⟨?_, rfl⟩
    have := e1.out
    have e2 : (d : Int) = (m : Int) - 65 + 10 := by omega
    rw [e2]
    rfl
  · have e1 : Hid (d = m - 97 + 10) := by show _ = _; rw [hd.out, if_neg (by omega), if_neg (by omega), if_pos hc]
    have a0 : decide ((48 : Int) ≤ (m : Int)) = true := by simp; omega
    have b0 : decide ((m : Int) ≤ 57) = false := by simp; omega
    have a1 : decide ((65 : Int) ≤ (m : Int)) = true := by simp; omega
    have b1 : decide ((m : Int) ≤ 70) = false := by simp; omega
    have a2 : decide ((97 : Int) ≤ (m : Int)) = true := by simp; omega
    have b2 : decide ((m : Int) ≤ 102) = true := by simp; omega
    go_enter Tryd.func56, Tryd.ntmps56
    go_wp2_with fail
    go_ret2
    refine ⟨?_, rfl⟩
    have := e1.out
    have e2 : (d : Int) = (m : Int) - 97 + 10 := by omega
    rw [e2]
    rfl

set_option maxHeartbeats 1000000 in
theorem digit_out (c : UInt8) (h : ¬ dig c < 16) (w : World) : Calls Tryd.prog 56 #[vb c] w fun e w' => e = .returned (.tuple #[.int .u8 0, .bool false]) ∧ w' = w := by
  obtain ⟨m, hm⟩ : ∃ m, c.toNat = m := ⟨_, rfl⟩
  rw [dig_lt hm] at h
  unfold vb
  rw [hm]
  clear hm
  have hc : m < 48 ∨ (57 < m ∧ m < 65) ∨ (70 < m ∧ m < 97) ∨ 102 < m := by omega
  clear h
  rcases hc with hc | hc | hc | hc
  · have a0 : decide ((48 : Int) ≤ (m : Int)) = false := by simp; omega
    have b0 : decide ((m : Int) ≤ 57) = true := by simp; omega
    have a1 : decide ((65 : Int) ≤ (m : Int)) = false := by simp; omega
    have b1 : decide ((m : Int) ≤ 70) = true := by simp; omega
    have a2 : decide ((97 : Int) ≤ (m : Int)) = false := by simp; omega
    have b2 : decide ((m : Int) ≤ 102) = true := by simp; omega
    go_enter Tryd.func56, Tryd.ntmps56
    go_wp2_with fail
    go_ret2
    exact ⟨rfl, rfl⟩
  · have a0 : decide ((48 : Int) ≤ (m : Int)) = true := by simp; omega
    have b0 : decide ((m : Int) ≤ 57) = false := by simp; omega
    have a1 : decide ((65 : Int) ≤ (m : Int)) = false := by simp; omega
    have b1 : decide ((m : Int) ≤ 70) = true := by simp; omega
    have a2 : decide ((97 : Int) ≤ (m : Int)) = false := by simp; omega
    have b2 : decide ((m : Int) ≤ 102) = true := by simp; omega
    go_enter Tryd.func56, Tryd.ntmps56
    go_wp2_with fail
    go_ret2
    exact ⟨rfl, rfl⟩
  · have a0 : decide ((48 : Int) ≤ (m : Int)) = true := by simp; omega
    have b0 : decide ((m : Int) ≤ 57) = false := by simp; omega
    have a1 : decide ((65 : Int) ≤ (m : Int)) = true := by simp; omega
    have b1 : decide ((m : Int) ≤ 70) = false := by simp; omega
    have a2 : decide ((97 : Int) ≤ (m : Int)) = false := by simp; omega
    have b2 : decide ((m : Int) ≤ 102) = true := by simp; omega
    go_enter Tryd.func56, Tryd.ntmps56
    go_wp2_with fail
    go_ret2
    exact ⟨rfl, rfl⟩
  · have a0 : decide ((48 : Int) ≤ (m : Int)) = true := by simp; omega
    have b0 : decide ((m : Int) ≤ 57) = false := by simp; omega
    have a1 : decide ((65 : Int) ≤ (m : Int)) = true := by simp; omega
    have b1 : decide ((m : Int) ≤ 70) = false := by simp; omega
    have a2 : decide ((97 : Int) ≤ (m : Int)) = true := by simp; omega
    have b2 : decide ((m : Int) ≤ 102) = false := by simp; omega
    go_enter Tryd.func56, Tryd.ntmps56
    go_wp2_with fail
    go_ret2
    exact ⟨rfl, rfl⟩

theorem or16 : ∀ a, a < 16 → ∀ b, b < 16 → (a * 16) % 256 ||| b = a * 16 + b := by decide
theorem shl_or (a b : Nat) (ha : a < 16) (hb : b < 16) : bits .or .u8 ((a : Int) * 16) (b : Int) = ((a * 16 + b : Nat) : Int) := by
  have h := u8_or_nat (a * 16) b (by omega) (by omega)
  have h2 := or16 a ha b hb
  rw [Nat.mod_eq_of_lt (by omega)] at h2
  rw [h2] at h
  rw [show ((a * 16 : Nat) : Int) = (a : Int) * 16 by omega] at h
  exact h

def fstV (l : List UInt8) : Value := .tuple #[vb (fst l).1, .int .i64 ((fst l).2 : Int)]

set_option maxHeartbeats 4000000 in
theorem first_any (l : List UInt8) (hl : l ≠ []) (h9 : l.length ≤ 100000000) (w : World) : Calls Tryd.prog 37 #[.string (str l)] w fun e w' => e = .returned (fstV l) ∧ w' = w := by
  obtain ⟨a, t, rfl⟩ := List.exists_cons_of_ne_nil hl
  have hsz := str_size (a :: t)
  obtain ⟨S, hS⟩ : ∃ S, S = (a :: t).length := ⟨_, rfl⟩
  obtain ⟨m, hm⟩ : ∃ m, m = a.toNat := ⟨_, rfl⟩
  have h0 : ∀ h, ((str (a :: t))[0]'h).toNat = m := fun h => by rw [str_at _ 0 (by simp) h, hm]; rfl
  rw [← hS] at hsz h9
  have hS0 : 0 < S := by rw [hS]; simp
  have HM := Lib.hid hm
  have HS := Lib.hid hS
  clear hm hS hl
  by_cases ha : a = 37
  · have hm37 : ((m : Int) != 37) = false := by rw [HM.out, ha]; rfl
    by_cases hs : S < 3
    · have hf : Hid (fst (a :: t) = (a, 1)) := by show _ = _; exact fst_short a t (by have := HS.out; simp at this; omega)
      have hsi : (S : Int) < 3 := by omega
      have hs0i : (0 : Int) < (S : Int) := by omega
      obtain ⟨L, hL⟩ : ∃ L, L = a :: t := ⟨_, rfl⟩
      rw [← hL] at hsz h0 hf ⊢
      clear hL ha HS
      go_enter Tryd.func37, Tryd.ntmps37
      go_wp2_with fail
      go_ret2
      refine ⟨?_, rfl⟩
      rw [fstV, hf.out, vb, ← HM.out]
      rfl
    · match t, HS with
      | [], HS => have := HS.out; simp at this; omega
      | [x], HS => have := HS.out; simp at this; omega
      | b :: c :: r, HS =>
        obtain ⟨x, hx⟩ : ∃ x, x = b.toNat := ⟨_, rfl⟩
        obtain ⟨y, hy⟩ : ∃ y, y = c.toNat := ⟨_, rfl⟩
        have h1 : ∀ h, ((str (a :: b :: c :: r))[1]'h).toNat = x := fun h => by rw [str_at _ 1 (by simp) h, hx]; rfl
        have h2 : ∀ h, ((str (a :: b :: c :: r))[2]'h).toNat = y := fun h => by rw [str_at _ 2 (by simp) h, hy]; rfl
        have DI := fun h => digit_in b h w
        have DO := fun h => digit_out b h w
        have EI := fun h => digit_in c h w
        have EO := fun h => digit_out c h w
        unfold vb at DI DO EI EO
        rw [← hx] at DI DO
        rw [← hy] at EI EO
        subst ha
        have hfp := fun v h => fst_pair b c v r h
        have hfn := fst_nopair b c r
        obtain ⟨L, hL⟩ : ∃ L, L = 37 :: b :: c :: r := ⟨_, rfl⟩
        rw [← hL] at hsz h0 h1 h2 hfp hfn ⊢
        have hsi : ¬ (S : Int) < 3 := by omega
        have hs0i : (0 : Int) < (S : Int) := by omega
        have hs1i : (1 : Int) < (S : Int) := by omega
        have hs2i : (2 : Int) < (S : Int) := by omega
        have HF := Lib.hid (And.intro hfp hfn)
        clear hL HS hx hy hfp hfn hs
        by_cases hb : dig b < 16
        · have DI' := Lib.hid (DI hb)
          clear DI DO
          by_cases hc : dig c < 16
          · have EI' := Lib.hid (EI hc)
            clear EI EO
            have hpair : pair b c = some (UInt8.ofNat (dig b * 16 + dig c)) := by unfold pair; rw [if_pos ⟨hb, hc⟩]
            have hf : Hid (fst L = (UInt8.ofNat (dig b * 16 + dig c), 3)) := by show _ = _; exact HF.out.1 _ hpair
            clear hpair HF
            obtain ⟨u, hu⟩ : ∃ u, u = dig b := ⟨_, rfl⟩
            obtain ⟨v, hv⟩ : ∃ v, v = dig c := ⟨_, rfl⟩
            rw [← hu] at DI' hf hb
            rw [← hv] at EI' hf hc
            clear hu hv
            have hor := shl_or u v hb hc
            go_enter Tryd.func37, Tryd.ntmps37
            go_wp2_with (go_at_call 56; first | (with_reducible refine DI'.out.mono ?_; rintro e w1 ⟨rfl, rfl⟩) | (with_reducible refine EI'.out.mono ?_; rintro e w2 ⟨rfl, rfl⟩))
            go_ret2
            refine ⟨?_, rfl⟩
            rw [fstV, hf.out, vb, toNat_ofNat_lt _ (by omega)]
            rfl
          · have EO' := Lib.hid (EO hc)
            clear EI EO
            have hpair : pair b c = none := by unfold pair; rw [if_neg (fun h => hc h.2)]
            have hf : Hid (fst L = (37, 1)) := by show _ = _; exact HF.out.2 hpair
            clear hpair HF hb hc
            obtain ⟨u, hu⟩ : ∃ u, u = dig b := ⟨_, rfl⟩
            rw [← hu] at DI'
            clear hu
            go_enter Tryd.func37, Tryd.ntmps37
            go_wp2_with (go_at_call 56; first | (with_reducible refine DI'.out.mono ?_; rintro e w1 ⟨rfl, rfl⟩) | (with_reducible refine EO'.out.mono ?_; rintro e w2 ⟨rfl, rfl⟩))
            go_ret2
            refine ⟨?_, rfl⟩
            rw [fstV, hf.out, vb, ← HM.out]
            rfl
        · have DO' := Lib.hid (DO hb)
          clear DI DO
          have hpair : pair b c = none := by unfold pair; rw [if_neg (fun h => hb h.1)]
          have hf : Hid (fst L = (37, 1)) := by show _ = _; exact HF.out.2 hpair
          clear hpair HF hb
          by_cases hc : dig c < 16
          · have EI' := Lib.hid (EI hc)
            clear EI EO hc
            obtain ⟨u, hu⟩ : ∃ u, u = dig c := ⟨_, rfl⟩
            rw [← hu] at EI'
            clear hu
            go_enter Tryd.func37, Tryd.ntmps37
            go_wp2_with (go_at_call 56; first | (with_reducible refine DO'.out.mono ?_; rintro e w1 ⟨rfl, rfl⟩) | (with_reducible refine EI'.out.mono ?_; rintro e w2 ⟨rfl, rfl⟩))
            go_ret2
            refine ⟨?_, rfl⟩
            rw [fstV, hf.out, vb, ← HM.out]
            rfl
          · have EO' := Lib.hid (EO hc)
            clear EI EO hc
            go_enter Tryd.func37, Tryd.ntmps37
            go_wp2_with (go_at_call 56; first | (with_reducible refine DO'.out.mono ?_; rintro e w1 ⟨rfl, rfl⟩) | (with_reducible refine EO'.out.mono ?_; rintro e w2 ⟨rfl, rfl⟩))
            go_ret2
            refine ⟨?_, rfl⟩
            rw [fstV, hf.out, vb, ← HM.out]
            rfl
  · have hm37 : ((m : Int) != 37) = true := by
      have : m ≠ 37 := fun h => ha (by rw [HM.out] at h; exact UInt8.toNat_inj.1 h)
      simp
      omega
    have hf : Hid (fst (a :: t) = (a, 1)) := by show _ = _; exact fst_other a t ha
    have hs0i : (0 : Int) < (S : Int) := by omega
    obtain ⟨L, hL⟩ : ∃ L, L = a :: t := ⟨_, rfl⟩
    rw [← hL] at hsz h0 hf ⊢
    clear hL ha HS
    go_enter Tryd.func37, Tryd.ntmps37
    go_wp2_with fail
    go_ret2
    refine ⟨?_, rfl⟩
    rw [fstV, hf.out, vb, ← HM.out]
    rfl

theorem str_drop (l : List UInt8) (k n : Nat) (hn : n = l.length) (hk : k ≤ n) : (str l).extract k n = str (l.drop k) := by
  subst hn
  apply ByteArray.ext
  apply Array.ext'
  simp [str]
  exact List.take_of_length_le (by simp)

set_option maxHeartbeats 4000000 in
set_option maxRecDepth 100000 in
theorem decode_any (l : List UInt8) (w : World) (hl : l.length ≤ 100000000) : Calls Tryd.prog 23 #[.string (str l)] w fun e w' => e = .returned (.string (str (dec l))) ∧ Below w.heap.size w w' := by
  obtain ⟨i0, hi, hz, hi1, hi2⟩ := info_parts byte_info
  have hsz := str_size l
  obtain ⟨S, hS⟩ : ∃ S, S = l.length := ⟨_, rfl⟩
  have hdl : Hid ((dec l).length ≤ S) := by show _ ≤ _; rw [hS]; exact dec_len _ l (Nat.le_refl _)
  obtain ⟨D, hD⟩ : ∃ D, D = dec l := ⟨_, rfl⟩
  rw [← hD] at hdl ⊢
  rw [← hS] at hsz hl
  have HS := Lib.hid (And.intro hS hD)
  clear hS hD
  go_enter Tryd.func23, Tryd.ntmps23
  go_wp2_with (at_make; refine wpList_make_own _ rfl _ _ 39 rfl w.heap.size 5 i0 _ 1 Tryd.underlying39 hi hz hi1 .i64 .i64 _ S rfl rfl rfl (by rw [hi2]; omega) (by unfold maxLen; omega) (Nat.le_refl _) ?_; intro w4 hown4 hgr4)
  have hown4 : Own w4 w.heap.size _ 0 [] := hown4
  have b4 : Kept w w4 := (Below.refl _ _).grown hgr4 (Nat.le_refl _) (fun k h => by cases h)
  clear hgr4
  go_loopw [4, 3] (fun i v wr => ∃ (k : Nat) (L : List UInt8), k ≤ S ∧ i = .int .i64 (k : Int) ∧ L ++ dec (l.drop k) = D ∧ Kept w wr ∧ Own wr w.heap.size v L.length L) (fun i _ _ => S - (intOf i).toNat)
  case atStart => exact ⟨0, [], by omega, rfl, by rw [HS.out.2]; rfl, b4, hown4⟩
  case round =>
    obtain ⟨k, L, hk, rfl, hLD, hkp, hown⟩ := hrel
    have hLl : L.length ≤ S := by
      have h1 := hdl.out
      rw [← hLD, List.length_append] at h1
      omega
    obtain ⟨NL, hNL⟩ : ∃ NL, NL = L.length := ⟨_, rfl⟩
    rw [← hNL] at hown hLl
    have hkz := hkp.size
    by_cases hlt : k < S
    · have hne : l.drop k ≠ [] := by
        intro h
        have := congrArg List.length h
        rw [List.length_drop, ← HS.out.1] at this
        simp at this
        omega
      have hdk : Hid ((l.drop k).length = S - k) := by show _ = _; rw [List.length_drop, ← HS.out.1]
      have hcut := str_drop l k S HS.out.1 hk
      have hf := first_any (l.drop k) hne (by rw [hdk.out]; omega) wr
      have hfs := fst_size (l.drop k) hne
      have hdf := dec_fst (l.drop k) hne
      rw [hdk.out] at hfs
      rw [hdf, List.drop_drop] at hLD
      unfold fstV at hf
      obtain ⟨T, hT⟩ : ∃ T, T = l.drop k := ⟨_, rfl⟩
      rw [← hT] at hcut hf hfs hLD
      obtain ⟨c, hc⟩ : ∃ c, c = (fst T).1 := ⟨_, rfl⟩
      obtain ⟨z, hz'⟩ : ∃ z, z = (fst T).2 := ⟨_, rfl⟩
      rw [← hc, ← hz'] at hf
      rw [← hc, ← hz'] at hLD
      rw [← hz'] at hfs
      have HLD := Lib.hid (And.intro hLD hNL)
      have HF := Lib.hid hf
      have hkS : (k : Int) < (S : Int) := by omega
      clear hT hc hz' hdf hne hLD hNL hf hdk
      obtain ⟨k2, hk2⟩ : ∃ k2, k2 = k + z := ⟨_, rfl⟩
      have hk2i : (k : Int) + (z : Int) = (k2 : Int) := by omega
      have HK := Lib.hid hk2
      have hk2S : k2 ≤ S := by omega
      have hkk2 : k < k2 := by omega
      clear hk2 hfs
      go_wp2_with (first
        | (go_at_call 37; with_reducible refine HF.out.mono ?_; rintro e w5 ⟨rfl, rfl⟩; unfold vb)
        | (at_builtin; refine wp_app _ rfl (.tmp 21) (.tmp 23) rfl w.heap.size _ NL L rfl (hown.alloc _) (w5.heap.size + 1) _ 1 1 [c] rfl (Bs.one' _ _ _ rfl) (by omega) (by simp; omega) ?_; intro v6 w6 hown6 hb6))
      go_roundw
      case rel =>
        refine ⟨k2, L ++ [c], hk2S, by go_num, ?_, hkp.base (((Below.refl _ _).alloc hkz _).trans hb6), ?_⟩
        · rw [← HLD.out.1, ← HK.out, List.append_assoc]
          rfl
        · rw [List.length_append, ← HLD.out.2]
          exact hown6
      case measure => simp [intOf]; omega
    · have hk' : Hid (k = S) := by show k = S; omega
      have hkS : (S : Int) ≤ (k : Int) := by omega
      clear hk hlt
      obtain ⟨A, cc, rfl, hcc, hs⟩ := hown.form
      have HLD := Lib.hid (And.intro hLD hNL)
      clear hLD hNL
      have hst := run_str wr _ A NL cc L hs
      go_wp2_with fail
      go_ret
      refine ⟨?_, hkp⟩
      have h1 := HLD.out.1
      rw [hk'.out, HS.out.1, List.drop_length] at h1
      rw [← h1]
      simp [dec]
end Go.Proofs.YtcfgcakmffkpmaaDoor
