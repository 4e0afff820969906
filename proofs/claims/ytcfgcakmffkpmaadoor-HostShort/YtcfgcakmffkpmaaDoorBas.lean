/-
  What the statements' own based, Decimal and Text4 answer; nothing that was there turns. Condition: numbers below 2^32, bases from eight to sixteen.
-/
import Derived.Test.YtcfgcakmffkpmaaDoorPrs
namespace Go.Proofs.YtcfgcakmffkpmaaDoor
open Go.RowKit

/-- A number to a base. -/
def bsd (b n : Nat) : List UInt8 := if _h : n < b ∨ b < 2 then [hx n] else bsd b (n / b) ++ [hx (n % b)]
termination_by n
decreasing_by exact Nat.div_lt_self (by omega) (by omega)
theorem bsd_lt {b n : Nat} (h : n < b) : bsd b n = [hx n] := by rw [bsd, dif_pos (.inl h)]
theorem bsd_ge {b n : Nat} (hb : 2 ≤ b) (h : ¬ n < b) : bsd b n = bsd b (n / b) ++ [hx (n % b)] := by rw [bsd, dif_neg (by omega)]
theorem bsd_hexL (n : Nat) : bsd 16 n = hexL n := by
  induction n using Nat.strongRecOn with
  | _ n ih =>
    by_cases h : n < 16
    · rw [bsd_lt h, hexL_lt h]
    · rw [bsd_ge (by omega) h, hexL_ge h, ih (n / 16) (by omega)]
def lenZ : Value → Nat
  | .string s => if s.size = 0 then 1 else 0
  | _ => 0
theorem lenZ_str (l : List UInt8) : lenZ (.string (str l)) = if l = [] then 1 else 0 := by
  show (if (str l).size = 0 then 1 else 0) = _
  rw [str_size]
  cases l <;> simp
theorem bs_of (w : World) (m : Nat) (c : UInt8) (h : m = c.toNat) : Bs (w.alloc (.cells #[.int .u8 (m : Int)] 5)) (w.heap.size + 1) (some ⟨w.heap.size, 0, none⟩) 1 [c] := Bs.one' w _ c (by rw [h])

/-- What holds of based's number and text behind some rounds. -/
structure Bst (b n0 m j : Nat) (D : List UInt8) : Prop where
  len : D.length + j = 11
  lt : m < 8 ^ j
  is : (D = [] ∧ m = n0) ∨ (D ≠ [] ∧ ((m = 0 ∧ D = bsd b n0) ∨ (m ≠ 0 ∧ bsd b n0 = bsd b m ++ D)))
theorem Bst.step {b n0 m j : Nat} {D : List UInt8} (hb : 8 ≤ b) (h : Bst b n0 m j D) (hr : m ≠ 0 ∨ D = []) : Bst b n0 (m / b) (j - 1) (hx (m % b) :: D) ∧ 1 ≤ j := by
  have hj : 1 ≤ j := by
    rcases Nat.eq_zero_or_pos j with h0 | h0
    · subst h0
      have h1 := h.lt
      have h2 := h.len
      simp at h1 h2
      rcases hr with hr | hr
      · exact absurd h1 hr
      · subst hr
        simp at h2
    · exact h0
  have hnew : bsd b m = if m < b then [hx m] else bsd b (m / b) ++ [hx (m % b)] := by
    split
    · rename_i hlt
      exact bsd_lt hlt
    · rename_i hlt
      exact bsd_ge (by omega) hlt
  refine ⟨⟨by have := h.len; simp; omega, ?_, .inr ⟨by simp, ?_⟩⟩, hj⟩
  · have e : 8 ^ j = 8 * 8 ^ (j - 1) := by
      rw [← Nat.pow_succ']
      congr 1
      omega
    have h1 := h.lt
    rw [e] at h1
    have h2 : m / b ≤ m / 8 := Nat.div_le_div_left hb (by omega)
    have h3 : m / 8 < 8 ^ (j - 1) := Nat.div_lt_of_lt_mul h1
    omega
  · have key : bsd b n0 = bsd b m ++ D := by
      rcases h.is with ⟨h1, h2⟩ | ⟨h1, ⟨h2, _⟩ | ⟨_, h3⟩⟩
      · rw [h1, h2, List.append_nil]
      · rcases hr with hr | hr
        · exact absurd h2 hr
        · exact absurd hr h1
      · exact h3
    by_cases hlt : m < b
    · left
      refine ⟨Nat.div_eq_of_lt hlt, ?_⟩
      rw [key, hnew, if_pos hlt, Nat.mod_eq_of_lt hlt]
      rfl
    · right
      refine ⟨by have : 1 ≤ m / b := (Nat.one_le_div_iff (by omega)).2 (by omega); omega, ?_⟩
      rw [key, hnew, if_neg hlt]
      simp
theorem Bst.done {b n0 m j : Nat} {D : List UInt8} (h : Bst b n0 m j D) (hm : m = 0) (hD : D ≠ []) : D = bsd b n0 := by
  rcases h.is with ⟨h1, _⟩ | ⟨_, ⟨_, h2⟩ | ⟨h2, _⟩⟩
  · exact absurd h1 hD
  · exact h2
  · exact absurd hm h2

theorem bst_start (b n0 : Nat) (h : n0 < 4294967296) : Bst b n0 n0 11 [] := by
  refine ⟨rfl, ?_, .inl ⟨rfl, rfl⟩⟩
  have : (8 : Nat) ^ 11 = 8589934592 := by decide
  omega

set_option maxHeartbeats 4000000 in
set_option maxRecDepth 100000 in
theorem based_any (n0 b : Nat) (hn : n0 < 4294967296) (hb : 8 ≤ b) (hb2 : b ≤ 16) (w : World) : Calls Tryd.prog 13 #[.int .i64 (n0 : Int), .int .i64 (b : Int)] w fun e w' => e = .returned (.string (str (bsd b n0))) ∧ Below w.heap.size w w' := by
  obtain ⟨R, hR⟩ : ∃ R, R = bsd b n0 := ⟨_, rfl⟩
  rw [← hR]
  have HR := Lib.hid hR
  clear hR
  go_enter Tryd.func13, Tryd.ntmps13
  go_wp2_with fail
  go_loopw [0, 5] (fun x s wr => ∃ (m j : Nat) (D : List UInt8), x = .int .i64 (m : Int) ∧ s = .string (str D) ∧ m < 4294967296 ∧ Bst b n0 m j D ∧ Kept w wr) (fun x s _ => 2 * (intOf x).toNat + lenZ s)
  case atStart => exact ⟨n0, 11, [], rfl, rfl, hn, bst_start b n0 hn, Kept.refl w⟩
  case round =>
    obtain ⟨m, j, D, rfl, rfl, hm9, hst, hkp⟩ := hrel
    have hem := str_empty D
    have hDl : D.length ≤ 11 := by have := hst.len; omega
    have hsD := str_size D
    have HST := Lib.hid hst
    clear hst
    by_cases hr : m ≠ 0 ∨ D = []
    · have hs := HST.out.step hb hr
      obtain ⟨r, hr'⟩ : ∃ r, r = m % b := ⟨_, rfl⟩
      obtain ⟨q, hq⟩ : ∃ q, q = m / b := ⟨_, rfl⟩
      have hri : (m : Int) % (b : Int) = (r : Int) := by rw [hr']; rfl
      have hqi : (m : Int) / (b : Int) = (q : Int) := by rw [hq]; rfl
      have hbz : ¬ (b : Int) = 0 := by omega
      rw [← hr', ← hq] at hs
      have hr16 : r < hexLs.length := by rw [hr']; have h1 : m % b < b := Nat.mod_lt _ (by omega); have : hexLs.length = 16 := rfl; omega
      have hq9 : q < 4294967296 := by rw [hq]; exact Nat.lt_of_le_of_lt (Nat.div_le_self _ _) hm9
      obtain ⟨c, hc⟩ : ∃ c, c = (hexLs.getD r 0).toNat := ⟨_, rfl⟩
      have hcb : Hid (c = (hx r).toNat) := hc
      have hadd : str [hx r] ++ str D = str (hx r :: D) := by rw [str_add]; rfl
      have hs1 : (str [hx r]).size = 1 := str_size _
      have HS := Lib.hid hs
      have hlt2 : Hid (2 * q + (if (hx r :: D) = [] then 1 else 0) < 2 * m + (if D = [] then 1 else 0)) := by
        show _ < _
        rw [if_neg (by simp)]
        have h1 : q ≤ m / 8 := by rw [hq]; exact Nat.div_le_div_left hb (by omega)
        split
        · omega
        · rename_i hD
          have : m ≠ 0 := by rcases hr with h | h; (· exact h); exact absurd h hD
          omega
      have HC := Lib.hid hc
      have HRQ := Lib.hid (And.intro hr' hq)
      clear hr' hq hc hs
      by_cases hm0 : m = 0
      · have hD : D = [] := by rcases hr with h | h; (· exact absurd hm0 h); exact h
        have hem2 : (str D).toList.isEmpty = true := by rw [hem]; simp [hD]
        have hr0 : r = 0 := by rw [HRQ.out.1, hm0]; simp
        have hq0 : q = 0 := by rw [HRQ.out.2, hm0]; simp
        subst hm0 hr0 hq0
        clear hD hr hem
        have hidx : ∀ h, ((ByteArray.mk #[48, 49, 50, 51, 52, 53, 54, 55, 56, 57, 97, 98, 99, 100, 101, 102])[0]'h).toNat = c := fun h => by rw [HC.out]; exact str_at hexLs 0 hr16 h
        have hst := run_str (wr.alloc (.cells #[.int .u8 (c : Int)] 5)) _ _ 1 1 [hx 0] (bs_of wr _ _ hcb.out)
        go_wp2_with fail
        go_roundw
        case rel => exact ⟨0, j - 1, hx 0 :: D, rfl, rfl, hq9, HS.out.1, hkp.alloc _⟩
        case measure =>
          rw [lenZ_str, lenZ_str]
          simpa [intOf] using hlt2.out
      · have hmi : decide ((0 : Int) < (m : Int)) = true := by simp; omega
        clear hr hem
        have hmp : 0 < m := by omega
        have hidx : ∀ h, ((ByteArray.mk #[48, 49, 50, 51, 52, 53, 54, 55, 56, 57, 97, 98, 99, 100, 101, 102])[r]'h).toNat = c := fun h => by rw [HC.out]; exact str_at hexLs r hr16 h
        have hr16' : r < 16 := hr16
        have hst := run_str (wr.alloc (.cells #[.int .u8 (c : Int)] 5)) _ _ 1 1 [hx r] (bs_of wr _ _ hcb.out)
        go_wp2_with fail
        go_roundw
        case rel => exact ⟨q, j - 1, hx r :: D, rfl, rfl, hq9, HS.out.1, hkp.alloc _⟩
        case measure =>
          rw [lenZ_str, lenZ_str]
          simpa [intOf] using hlt2.out
    · have hm0 : m = 0 := by rcases Nat.eq_zero_or_pos m with h | h; (· exact h); exact absurd (.inl (by omega)) hr
      have hD : D ≠ [] := fun h => hr (.inr h)
      have hem2 : (str D).toList.isEmpty = false := by rw [hem]; simp [hD]
      have hdone : Hid (R = D) := by show _ = _; rw [HR.out]; exact (HST.out.done hm0 hD).symm
      subst hm0
      clear hD hr hem
      go_wp2_with fail
      go_ret
      rw [hdone.out]
      exact ⟨rfl, hkp⟩

theorem dec_len_pow (j : Nat) : ∀ n, n < 10 ^ (j + 1) → (Lib.decDigits n).length ≤ j + 1 := by
  induction j with
  | zero =>
    intro n h
    rw [Lib.decDigits, dif_pos (by simpa using h)]
    simp
  | succ j ih =>
    intro n h
    rw [Lib.decDigits]
    split
    · simp
    · have := ih (n / 10) (by rw [Nat.pow_succ'] at h; exact Nat.div_lt_of_lt_mul h)
      simp
      omega
theorem dec_short10 (n : Nat) (h : n < 4294967296) : (Lib.decDigits n).length ≤ 100 := by
  have := dec_len_pow 9 n (by have : (10 : Nat) ^ 10 = 10000000000 := by decide
                              omega)
  omega

set_option maxHeartbeats 4000000 in
theorem decimal_any : ∀ (n : Nat) (w : World), n < 4294967296 → Calls Tryd.prog 12 #[.int .i64 (n : Int)] w fun e w' => e = .returned (.string (str (Lib.decDigits n))) ∧ Below w.heap.size w w' := by
  intro n
  induction n using Nat.strongRecOn with
  | _ n ih =>
    intro w hn
    by_cases h : n < 10
    · have hge : ¬ (10 : Int) ≤ (n : Int) := by omega
      have hR : Hid (Lib.decDigits n = [UInt8.ofNat (48 + n)]) := by show _ = _; rw [Lib.decDigits, dif_pos h]
      obtain ⟨m, hm⟩ : ∃ m, m = 48 + n := ⟨_, rfl⟩
      have hmi : (48 : Int) + (n : Int) = (m : Int) := by omega
      have hwr : IntKind.u8.wrap (m : Int) = (m : Int) := by rw [IntKind.wrap_u8]; omega
      have hmc : Hid (m = (UInt8.ofNat m).toNat) := by show _ = _; rw [toNat_ofNat_lt m (by omega)]
      rw [← hm] at hR
      clear hm ih
      go_enter Tryd.func12, Tryd.ntmps12
      go_wp2_with (first
        | ((with_reducible show wpList _ _ _ (⟨some 16, .convert _ _ _, _, _, _, _⟩ :: _) _ _); refine wp_str _ rfl (.tmp 15) rfl _ _ 1 1 [UInt8.ofNat m] rfl (bs_of _ _ _ hmc.out) ?_; simp only [Act.put, List.setIfInBounds_toArray, List.set_cons_zero, List.set_cons_succ]))
      go_ret
      rw [hR.out]
      exact ⟨rfl, (Below.refl _ _).alloc (Nat.le_refl _) _⟩
    · have hge : (10 : Int) ≤ (n : Int) := by omega
      have hR : Lib.decDigits n = Lib.decDigits (n / 10) ++ Lib.decDigits (n % 10) := by
        rw [Lib.decDigits, dif_neg h]
        congr 1
        rw [Lib.decDigits, dif_pos (by omega)]
      have HA : Hid (Calls Tryd.prog 12 #[.int .i64 ((n / 10 : Nat) : Int)] w fun e w' => e = .returned (.string (str (Lib.decDigits (n / 10)))) ∧ Below w.heap.size w w') := ih (n / 10) (by omega) w (by omega)
      have HB : Hid (∀ w, Calls Tryd.prog 12 #[.int .i64 ((n % 10 : Nat) : Int)] w fun e w' => e = .returned (.string (str (Lib.decDigits (n % 10)))) ∧ Below w.heap.size w w') := fun w => ih (n % 10) (by omega) w (by omega)
      have hq : (n : Int) / 10 = ((n / 10 : Nat) : Int) := rfl
      have hr : (n : Int) % 10 = ((n % 10 : Nat) : Int) := rfl
      have hl1 : (Lib.decDigits (n / 10)).length ≤ 100 := dec_short10 (n / 10) (by omega)
      have hl2 : (Lib.decDigits (n % 10)).length ≤ 100 := dec_short10 (n % 10) (by omega)
      rw [hR]
      obtain ⟨q, hq'⟩ : ∃ q, q = n / 10 := ⟨_, rfl⟩
      obtain ⟨r, hr'⟩ : ∃ r, r = n % 10 := ⟨_, rfl⟩
      rw [← hq'] at HA hq hl1 ⊢
      rw [← hr'] at HB hr hl2 ⊢
      obtain ⟨X, hX⟩ : ∃ X, X = Lib.decDigits q := ⟨_, rfl⟩
      obtain ⟨Y, hY⟩ : ∃ Y, Y = Lib.decDigits r := ⟨_, rfl⟩
      rw [← hX] at HA hl1 ⊢
      rw [← hY] at HB hl2 ⊢
      have hadd := str_add X Y
      have hsX := str_size X
      have hsY := str_size Y
      obtain ⟨nx, hnx⟩ : ∃ k, k = X.length := ⟨_, rfl⟩
      obtain ⟨ny, hny⟩ : ∃ k, k = Y.length := ⟨_, rfl⟩
      rw [← hnx] at hsX hl1
      rw [← hny] at hsY hl2
      clear hq' hr' hX hY hR ih hnx hny
      go_enter Tryd.func12, Tryd.ntmps12
      go_wp2_with (go_at_call 12; first
        | (with_reducible refine HA.out.mono ?_; rintro e w1 ⟨rfl, hb1⟩; have hk1 := kept_of hb1; clear hb1)
        | (with_reducible refine (HB.out w1).mono ?_; rintro e w2 ⟨rfl, hb2⟩; have hk2 := hk1.step hb2; clear hb2))
      go_ret
      exact ⟨rfl, hk2⟩

theorem str_dot (X Y : List UInt8) (h : Y = X ++ [46]) : str X ++ (⟨#[46]⟩ : ByteArray) = str Y := by rw [h]; exact str_add X [46]
theorem tx4 (b : Nat → Nat) : tx b 4 = Lib.decDigits (b 0) ++ [46] ++ Lib.decDigits (b 1) ++ [46] ++ Lib.decDigits (b 2) ++ [46] ++ Lib.decDigits (b 3) := by simp [tx]

set_option maxHeartbeats 8000000 in
set_option maxRecDepth 100000 in
theorem text4_any (n : Nat) (hn : n < 4294967296) (w : World) : Calls Tryd.prog 11 #[.int .u32 (n : Int)] w fun e w' => e = .returned (.string (str (text4 n))) ∧ Below w.heap.size w w' := by
  have hb := byt_lt n
  have h0 : (n : Int) / 16777216 = (byt n 0 : Int) := by simp [byt]; omega
  have h1 : (n : Int) / 65536 % 256 = (byt n 1 : Int) := by simp [byt]
  have h2 : (n : Int) / 256 % 256 = (byt n 2 : Int) := by simp [byt]
  have h3 : (n : Int) % 256 = (byt n 3 : Int) := by simp [byt]
  have hR : Hid (text4 n = Lib.decDigits (byt n 0) ++ [46] ++ Lib.decDigits (byt n 1) ++ [46] ++ Lib.decDigits (byt n 2) ++ [46] ++ Lib.decDigits (byt n 3)) := tx4 _
  obtain ⟨R, hR'⟩ : ∃ R, R = text4 n := ⟨_, rfl⟩
  rw [← hR'] at hR ⊢
  have HD : Hid (∀ i w, Calls Tryd.prog 12 #[.int .i64 (byt n i : Int)] w fun e w' => e = .returned (.string (str (Lib.decDigits (byt n i)))) ∧ Below w.heap.size w w') := fun i w => decimal_any (byt n i) w (by have := hb i; omega)
  have hl : ∀ i, (Lib.decDigits (byt n i)).length ≤ 3 := fun i => dec_len256 _ (hb i)
  have H0 := Lib.hid (HD.out 0)
  have H1 := Lib.hid (HD.out 1)
  have H2 := Lib.hid (HD.out 2)
  have H3 := Lib.hid (HD.out 3)
  have l0 := hl 0
  have l1 := hl 1
  have l2 := hl 2
  have l3 := hl 3
  obtain ⟨b0, hb0⟩ : ∃ b, b = byt n 0 := ⟨_, rfl⟩
  obtain ⟨b1, hb1⟩ : ∃ b, b = byt n 1 := ⟨_, rfl⟩
  obtain ⟨b2, hb2⟩ : ∃ b, b = byt n 2 := ⟨_, rfl⟩
  obtain ⟨b3, hb3⟩ : ∃ b, b = byt n 3 := ⟨_, rfl⟩
  rw [← hb0] at h0 H0 l0 hR
  rw [← hb1] at h1 H1 l1 hR
  rw [← hb2] at h2 H2 l2 hR
  rw [← hb3] at h3 H3 l3 hR
  clear hb0 hb1 hb2 hb3 hR' HD hl hb
  obtain ⟨X0, e0⟩ : ∃ X, X = Lib.decDigits b0 := ⟨_, rfl⟩
  obtain ⟨X1, e1⟩ : ∃ X, X = Lib.decDigits b1 := ⟨_, rfl⟩
  obtain ⟨X2, e2⟩ : ∃ X, X = Lib.decDigits b2 := ⟨_, rfl⟩
  obtain ⟨X3, e3⟩ : ∃ X, X = Lib.decDigits b3 := ⟨_, rfl⟩
  rw [← e0] at H0 l0 hR
  rw [← e1] at H1 l1 hR
  rw [← e2] at H2 l2 hR
  rw [← e3] at H3 l3 hR
  clear e0 e1 e2 e3
  obtain ⟨Y0, f0⟩ : ∃ Y, Y = X0 ++ [46] := ⟨_, rfl⟩
  obtain ⟨Y1, f1⟩ : ∃ Y, Y = Y0 ++ X1 := ⟨_, rfl⟩
  obtain ⟨Y2, f2⟩ : ∃ Y, Y = Y1 ++ [46] := ⟨_, rfl⟩
  obtain ⟨Y3, f3⟩ : ∃ Y, Y = Y2 ++ X2 := ⟨_, rfl⟩
  obtain ⟨Y4, f4⟩ : ∃ Y, Y = Y3 ++ [46] := ⟨_, rfl⟩
  obtain ⟨Y5, f5⟩ : ∃ Y, Y = Y4 ++ X3 := ⟨_, rfl⟩
  have g0 := str_dot X0 Y0 f0
  have g1 : str Y0 ++ str X1 = str Y1 := by rw [f1]; exact str_add _ _
  have g2 := str_dot Y1 Y2 f2
  have g3 : str Y2 ++ str X2 = str Y3 := by rw [f3]; exact str_add _ _
  have g4 := str_dot Y3 Y4 f4
  have g5 : str Y4 ++ str X3 = str Y5 := by rw [f5]; exact str_add _ _
  have s0 : (str X0).size ≤ 3 := by rw [str_size]; exact l0
  have s1 : (str X1).size ≤ 3 := by rw [str_size]; exact l1
  have s2 : (str X2).size ≤ 3 := by rw [str_size]; exact l2
  have s3 : (str X3).size ≤ 3 := by rw [str_size]; exact l3
  have t0 : (str Y0).size ≤ 4 := by rw [str_size, f0]; simp; omega
  have t1 : (str Y1).size ≤ 7 := by rw [str_size, f1, f0]; simp; omega
  have t2 : (str Y2).size ≤ 8 := by rw [str_size, f2, f1, f0]; simp; omega
  have t3 : (str Y3).size ≤ 11 := by rw [str_size, f3, f2, f1, f0]; simp; omega
  have t4 : (str Y4).size ≤ 12 := by rw [str_size, f4, f3, f2, f1, f0]; simp; omega
  have hR2 : Hid (R = Y5) := by show _ = _; rw [hR.out, f5, f4, f3, f2, f1, f0]
  clear hR f0 f1 f2 f3 f4 f5 l0 l1 l2 l3
  go_enter Tryd.func11, Tryd.ntmps11
  go_wp2_with (go_at_call 12; first
    | (with_reducible refine (H0.out w).mono ?_; rintro e w1 ⟨rfl, hb1⟩; have hk1 := kept_of hb1; clear hb1)
    | (with_reducible refine (H1.out w1).mono ?_; rintro e w2 ⟨rfl, hb2⟩; have hk2 := hk1.step hb2; clear hb2)
    | (with_reducible refine (H2.out w2).mono ?_; rintro e w3 ⟨rfl, hb3⟩; have hk3 := hk2.step hb3; clear hb3)
    | (with_reducible refine (H3.out w3).mono ?_; rintro e w4 ⟨rfl, hb4⟩; have hk4 := hk3.step hb4; clear hb4))
  go_ret
  rw [hR2.out]
  exact ⟨rfl, hk4⟩
end Go.Proofs.YtcfgcakmffkpmaaDoor
