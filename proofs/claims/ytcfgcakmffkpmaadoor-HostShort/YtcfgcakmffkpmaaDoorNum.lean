/-
  The mathematics of numbers to a base, and of an IPv4's text. No program, no condition.
-/
import Derived.Test.YtcfgcakmffkpmaaDoorWmt
namespace Go.Proofs.YtcfgcakmffkpmaaDoor
open Go.RowKit

theorem val_append (b : Nat) (m : List UInt8) : ∀ (l : List UInt8) (n : Nat), val b n (l ++ m) = (val b n l).bind fun k => val b k m
  | [], n => rfl
  | c :: l, n => by
    rw [List.cons_append, val, val]
    split
    · exact val_append b m l _
    · rfl
theorem val_bsd (b : Nat) (h2 : 2 ≤ b) (h16 : b ≤ 16) (n : Nat) : n ≤ 4294967296 → val b 0 (bsd b n) = some n := by
  induction n using Nat.strongRecOn with
  | _ n ih =>
    intro hn
    by_cases h : n < b
    · rw [bsd_lt h, val, dig_hx n (by omega), if_pos h, val]
      congr 1
      omega
    · have hq : n / b < n := Nat.div_lt_self (by omega) (by omega)
      have hr : n % b < b := Nat.mod_lt _ (by omega)
      have hd := Nat.div_add_mod n b
      rw [Nat.mul_comm] at hd
      rw [bsd_ge h2 h, val_append, ih (n / b) hq (by omega)]
      simp only [Option.bind_some]
      rw [val, dig_hx _ (by omega), if_pos hr, val]
      congr 1
      omega
theorem hx_dec : ∀ d, d < 10 → UInt8.ofNat (48 + d) = hx d := by decide
theorem dec_bsd (n : Nat) : Lib.decDigits n = bsd 10 n := by
  induction n using Nat.strongRecOn with
  | _ n ih =>
    rw [Lib.decDigits]
    split
    · rename_i h
      rw [bsd_lt h, hx_dec n h]
    · rename_i h
      rw [bsd_ge (by omega) h, ih (n / 10) (by omega), hx_dec _ (by omega)]
theorem bsd_mem (b : Nat) (h2 : 2 ≤ b) (h16 : b ≤ 16) (n : Nat) : ∀ c ∈ bsd b n, ∃ d, d < b ∧ c = hx d := by
  induction n using Nat.strongRecOn with
  | _ n ih =>
    intro c hc
    by_cases h : n < b
    · rw [bsd_lt h] at hc
      exact ⟨n, h, by simpa using hc⟩
    · have hq : n / b < n := Nat.div_lt_self (by omega) (by omega)
      rw [bsd_ge h2 h] at hc
      rcases List.mem_append.1 hc with hc | hc
      · exact ih (n / b) hq c hc
      · exact ⟨n % b, Nat.mod_lt _ (by omega), by simpa using hc⟩
theorem bsd_ne (b n : Nat) : bsd b n ≠ [] := by
  rw [bsd]
  split <;> simp
theorem bsd_head (b : Nat) (h2 : 2 ≤ b) (h16 : b ≤ 16) (n : Nat) : n ≠ 0 → (bsd b n).getD 0 0 ≠ 48 := by
  induction n using Nat.strongRecOn with
  | _ n ih =>
    intro hn
    by_cases h : n < b
    · rw [bsd_lt h]
      have key : ∀ d, d < 16 → d ≠ 0 → hx d ≠ 48 := by decide
      exact key n (by omega) hn
    · have hq : n / b < n := Nat.div_lt_self (by omega) (by omega)
      have hq1 : 1 ≤ n / b := (Nat.one_le_div_iff (by omega)).2 (by omega)
      have := ih (n / b) hq (by omega)
      rw [bsd_ge h2 h]
      cases hl : bsd b (n / b) with
      | nil => exact absurd hl (bsd_ne _ _)
      | cons x r =>
        rw [hl] at this
        exact this
/-- A property of all digits holds of all bytes of a number. -/
theorem bsd_all (b : Nat) (h2 : 2 ≤ b) (h16 : b ≤ 16) (n : Nat) (p : UInt8 → Bool) (hp : ∀ d, d < 16 → p (hx d) = true) : (bsd b n).all p = true := by
  rw [List.all_eq_true]
  intro c hc
  obtain ⟨d, hd, rfl⟩ := bsd_mem b h2 h16 n c hc
  exact hp d (by omega)
theorem bsd_not (b : Nat) (h2 : 2 ≤ b) (h16 : b ≤ 16) (n : Nat) (c : UInt8) (hc : ∀ d, d < 16 → hx d ≠ c) : c ∉ bsd b n := by
  intro hm
  obtain ⟨d, hd, e⟩ := bsd_mem b h2 h16 n c hm
  exact hc d (by omega) e.symm
theorem num_dec10 (n : Nat) (hn : n ≤ 4294967296) : num (bsd 10 n) = some n := by
  by_cases h : n = 0
  · subst h
    rw [bsd_lt (by omega)]
    rfl
  · rw [num_dec _ (bsd_ne _ _) (bsd_head 10 (by omega) (by omega) n h)]
    exact val_bsd 10 (by omega) (by omega) n hn
theorem dec_no46 (n : Nat) : (46 : UInt8) ∉ Lib.decDigits n := by
  rw [dec_bsd]
  exact bsd_not 10 (by omega) (by omega) n 46 (by decide)
theorem dec_ne (n : Nat) : Lib.decDigits n ≠ [] := by
  rw [dec_bsd]
  exact bsd_ne _ _
theorem num_digits (n : Nat) (hn : n ≤ 4294967296) : num (Lib.decDigits n) = some n := by
  rw [dec_bsd]
  exact num_dec10 n hn
/-- Parts whose last one is a number: what IPv4 tells of them. -/
theorem ip4_of (l : List UInt8) (ps : List (List UInt8)) (n : Nat) (hp : prt l = ps) (he : ps.getLastD [] ≠ []) (hn : (num (ps.getLastD [])).isSome = true) (hj : joinS ps = some n) : ip4 l = (n, true, false) := by
  have he' : ends ps = true := by
    unfold ends
    rw [hn, show (ps.getLastD [] != []) = true by rw [bne_iff_ne]; exact he, Bool.or_true]
    rfl
  unfold ip4
  rw [hp, he', hj]
  rfl
theorem prt_of (l : List UInt8) (ps : List (List UInt8)) (h : spl 46 l = ps) (hl : ps.getLastD [] ≠ []) : prt l = ps := by
  unfold prt
  rw [h, if_neg (fun e => hl e.2)]
theorem spl_text4 (n : Nat) : spl 46 (text4 n) = [Lib.decDigits (byt n 0), Lib.decDigits (byt n 1), Lib.decDigits (byt n 2), Lib.decDigits (byt n 3)] := by
  unfold text4
  rw [tx4]
  have e : Lib.decDigits (byt n 0) ++ [46] ++ Lib.decDigits (byt n 1) ++ [46] ++ Lib.decDigits (byt n 2) ++ [46] ++ Lib.decDigits (byt n 3) = Lib.decDigits (byt n 0) ++ 46 :: (Lib.decDigits (byt n 1) ++ 46 :: (Lib.decDigits (byt n 2) ++ 46 :: Lib.decDigits (byt n 3))) := by simp
  rw [e, spl_append _ _ _ (dec_no46 _), spl_append _ _ _ (dec_no46 _), spl_append _ _ _ (dec_no46 _), spl_none _ _ (dec_no46 _)]
theorem join4 (a b c d : Nat) (ha : a < 256) (hb : b < 256) (hc : c < 256) (hd : d < 256) (pa pb pc pd : List UInt8) (ea : num pa = some a) (eb : num pb = some b) (ec : num pc = some c) (ed : num pd = some d) : joinS [pa, pb, pc, pd] = some (((a * 256 + b) * 256 + c) * 256 + d) := by
  unfold joinS
  rw [if_neg (by simp), jn_step 4 0 pa pb [pc, pd] a ea ha, jn_step _ _ pb pc [pd] b eb hb, jn_step _ _ pc pd [] c ec hc, jn_last _ _ pd d ed (by simpa using hd)]
  simp
theorem byt_sum (n : Nat) (h : n < 4294967296) : ((byt n 0 * 256 + byt n 1) * 256 + byt n 2) * 256 + byt n 3 = n := by
  simp only [byt]
  simp
  omega
theorem ip4_text4 (n : Nat) (h : n < 4294967296) : ip4 (text4 n) = (n, true, false) := by
  have hb := byt_lt n
  have hnum : ∀ i, num (Lib.decDigits (byt n i)) = some (byt n i) := fun i => num_digits _ (by have := hb i; omega)
  refine ip4_of _ _ n (prt_of _ _ (spl_text4 n) (dec_ne _)) (dec_ne _) ?_ ?_
  · show (num (Lib.decDigits (byt n 3))).isSome = true
    rw [hnum]
    rfl
  · rw [join4 _ _ _ _ (hb 0) (hb 1) (hb 2) (hb 3) _ _ _ _ (hnum 0) (hnum 1) (hnum 2) (hnum 3), byt_sum n h]
theorem byt_mod (n i : Nat) (hi : i ≤ 3) : byt (n % 4294967296) i = byt n i := by
  match i, hi with
  | 0, _ => simp [byt]; omega
  | 1, _ => simp [byt]; omega
  | 2, _ => simp [byt]; omega
  | 3, _ => simp [byt]
theorem text4_mod (n : Nat) : text4 (n % 4294967296) = text4 n := by
  unfold text4
  rw [tx4, tx4, byt_mod n 0 (by omega), byt_mod n 1 (by omega), byt_mod n 2 (by omega), byt_mod n 3 (by omega)]

/-- No letter in upper case. -/
def nup (c : UInt8) : Bool := !(decide (65 ≤ c.toNat) && decide (c.toNat ≤ 90))
theorem lower_id : ∀ c : UInt8, nup c = true → Lib.lowerB c = c := by
  intro c
  have h : ∀ n, n < 256 → nup (UInt8.ofNat n) = true → Lib.lowerB (UInt8.ofNat n) = UInt8.ofNat n := by decide +kernel
  have := h c.toNat c.toNat_lt
  rwa [show UInt8.ofNat c.toNat = c by simp] at this
theorem lower_nup : ∀ c : UInt8, nup (Lib.lowerB c) = true := by
  intro c
  have h : ∀ n, n < 256 → nup (Lib.lowerB (UInt8.ofNat n)) = true := by decide +kernel
  have := h c.toNat c.toNat_lt
  rwa [show UInt8.ofNat c.toNat = c by simp] at this
theorem low_id (l : List UInt8) (h : l.all nup = true) : low l = l := by
  unfold low Lib.toLowerA
  rw [List.all_eq_true] at h
  conv => rhs; rw [← List.map_id l]
  exact List.map_congr_left fun c hc => lower_id c (h c hc)
theorem low_nup (l : List UInt8) : (low l).all nup = true := by
  rw [List.all_eq_true]
  intro c hc
  simp only [low, Lib.toLowerA, List.mem_map] at hc
  obtain ⟨d, _, rfl⟩ := hc
  exact lower_nup d
theorem dec_nup (n : Nat) : (Lib.decDigits n).all nup = true := by
  rw [dec_bsd]
  exact bsd_all 10 (by omega) (by omega) n nup (by decide)
theorem tx_nup (b : Nat → Nat) : ∀ k, (tx b k).all nup = true
  | 0 => rfl
  | k + 1 => by
    rw [tx, List.all_append, List.all_append, tx_nup b k, dec_nup]
    split
    · rfl
    · decide
/-- A text of bytes that may be, in lower case: how it is written hangs on IPv4 alone. -/
theorem prs_low (l : List UInt8) (h : l ≠ []) (hok : l.all okc = true) (hn : l.all nup = true) : prs l = if (ip4 l).2.2 then ([], true) else if (ip4 l).2.1 then (text4 (ip4 l).1, false) else (l, false) := by
  have h91 : l.head? ≠ some 91 := by
    intro e
    cases l with
    | nil => exact absurd rfl h
    | cons a r =>
      simp at e
      exact okc_not91 hok (by simp [e])
  unfold prs
  rw [prefix91 l h91, dec_id l (okc_not37 hok)]
  unfold nam may
  rw [hok, low_id l hn]
  simp [h]
theorem text4_ne (n : Nat) : text4 n ≠ [] := by
  unfold text4
  rw [tx4]
  simp
theorem prs_text4 (n : Nat) : prs (text4 n) = (text4 n, false) := by
  rw [← text4_mod n]
  have h := ip4_text4 (n % 4294967296) (Nat.mod_lt _ (by omega))
  rw [prs_low _ (text4_ne _) (tx_ok _ 4) (tx_nup _ 4), h]
  rfl
/-- What is written is parsed as it is: names and addresses of four bytes. -/
theorem prs_nam (l a : List UInt8) (h : nam l = (a, false)) : prs a = (a, false) ∧ a ≠ [] ∧ a.all okc = true ∧ a.all nup = true := by
  unfold nam at h
  split at h
  · rename_i hm
    have hok : l.all okc = true ∧ l ≠ [] := by
      unfold may at hm
      simpa using hm
    split at h
    · cases h
    · rename_i h1
      split at h
      · cases h
        exact ⟨prs_text4 _, text4_ne _, tx_ok _ 4, tx_nup _ 4⟩
      · rename_i h2
        cases h
        have hne : low l ≠ [] := by
          intro e
          have := congrArg List.length e
          rw [low_length] at this
          exact hok.2 (List.eq_nil_of_length_eq_zero this)
        refine ⟨?_, hne, low_ok _ hok.1, low_nup _⟩
        rw [prs_low _ hne (low_ok _ hok.1) (low_nup _), if_neg h1, if_neg h2]
  · cases h
end Go.Proofs.YtcfgcakmffkpmaaDoor
