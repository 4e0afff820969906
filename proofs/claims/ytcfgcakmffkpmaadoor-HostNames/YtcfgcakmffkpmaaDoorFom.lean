/-
  The mathematics of an IPv4 written in many ways. No program, no condition.
-/
import Derived.Test.YtcfgcakmffkpmaaDoorSixm
namespace Go.Proofs.YtcfgcakmffkpmaaDoor
open Go.RowKit

theorem hx_lower : ∀ d, d < 16 → nup (hx d) = true := by decide
theorem hx_okc : ∀ d, d < 16 → okc (hx d) = true := by decide
theorem num_16 (n : Nat) (hn : n ≤ 4294967296) (x : UInt8) (hx' : x = 120 ∨ x = 88) : num (48 :: x :: bsd 16 n) = some n := by
  have e : num (48 :: x :: bsd 16 n) = val 16 0 (bsd 16 n) := by simp [num, hx']
  rw [e]
  exact val_bsd 16 (by omega) (by omega) n hn
theorem num_8 (n : Nat) (hn : n ≤ 4294967296) : num (48 :: bsd 8 n) = some n := by
  have h1 := bsd_not 8 (by omega) (by omega) n 120 (by decide)
  have h2 := bsd_not 8 (by omega) (by omega) n 88 (by decide)
  have h3 := val_bsd 8 (by omega) (by omega) n hn
  cases hb : bsd 8 n with
  | nil => exact absurd hb (bsd_ne _ _)
  | cons a r =>
    rw [hb] at h1 h2 h3
    have ha : ¬ (a = 120 ∨ a = 88) := by
      rintro (e | e)
      · exact h1 (by simp [e])
      · exact h2 (by simp [e])
    simp only [num, if_true, if_neg ha]
    exact h3
theorem join1 (n : Nat) (hn : n < 4294967296) (p : List UInt8) (h : num p = some n) : joinS [p] = some n := by
  unfold joinS
  rw [if_neg (by simp), jn_last 4 0 p n h (by have : (256 : Nat) ^ 4 = 4294967296 := by decide
                                              omega)]
  simp
theorem join2 (a m : Nat) (ha : a < 256) (hm : m < 16777216) (p q : List UInt8) (h1 : num p = some a) (h2 : num q = some m) : joinS [p, q] = some (a * 16777216 + m) := by
  unfold joinS
  rw [if_neg (by simp), jn_step 4 0 p q [] a h1 ha, jn_last _ _ q m h2 (by simpa using hm)]
  simp
theorem join3 (a b m : Nat) (ha : a < 256) (hb : b < 256) (hm : m < 65536) (p q r : List UInt8) (h1 : num p = some a) (h2 : num q = some b) (h3 : num r = some m) : joinS [p, q, r] = some ((a * 256 + b) * 65536 + m) := by
  unfold joinS
  rw [if_neg (by simp), jn_step 4 0 p q [r] a h1 ha, jn_step _ _ q r [] b h2 hb, jn_last _ _ r m h3 (by simpa using hm)]
  simp
/-- A text that is an address, however it is written. -/
theorem prs_of (T : List UInt8) (n : Nat) (h : T ≠ []) (hok : T.all okc = true) (hi : ip4 (low T) = (n, true, false)) : prs T = (text4 n, false) := by
  have h91 : T.head? ≠ some 91 := by
    intro e
    cases T with
    | nil => exact absurd rfl h
    | cons a r =>
      simp at e
      exact okc_not91 hok (by simp [e])
  unfold prs
  rw [prefix91 T h91, dec_id T (okc_not37 hok)]
  unfold nam may
  rw [hok, hi]
  simp [h]
theorem low_append (a b : List UInt8) : low (a ++ b) = low a ++ low b := by simp [low, Lib.toLowerA]
theorem low_bsd (b : Nat) (h2 : 2 ≤ b) (h16 : b ≤ 16) (n : Nat) : low (bsd b n) = bsd b n := low_id _ (bsd_all b h2 h16 n nup hx_lower)
theorem low_dec (n : Nat) : low (Lib.decDigits n) = Lib.decDigits n := low_id _ (dec_nup n)
theorem bsd_okc (b : Nat) (h2 : 2 ≤ b) (h16 : b ≤ 16) (n : Nat) : (bsd b n).all okc = true := bsd_all b h2 h16 n okc hx_okc
theorem no46 (b : Nat) (h2 : 2 ≤ b) (h16 : b ≤ 16) (n : Nat) : (46 : UInt8) ∉ bsd b n := bsd_not b h2 h16 n 46 (by decide)
theorem no46c (b : Nat) (h2 : 2 ≤ b) (h16 : b ≤ 16) (n : Nat) (l : List UInt8) (h : (46 : UInt8) ∉ l) : (46 : UInt8) ∉ l ++ bsd b n := by
  rw [List.mem_append]
  rintro (e | e)
  · exact h e
  · exact no46 b h2 h16 n e

theorem low_text4 (n : Nat) : low (text4 n) = text4 n := low_id _ (tx_nup _ 4)
/-- The ways in which an address is written. -/
def ways (n : Nat) : List (List UInt8) :=
  [text4 n, text4 n ++ [46], Lib.decDigits n, Lib.decDigits (byt n 0) ++ [46] ++ Lib.decDigits (n % 16777216), Lib.decDigits (byt n 0) ++ [46] ++ Lib.decDigits (byt n 1) ++ [46] ++ Lib.decDigits (n % 65536),
   [48, 120] ++ bsd 16 (byt n 0) ++ [46, 48, 88] ++ bsd 16 (byt n 1) ++ [46, 48] ++ bsd 8 (byt n 2) ++ [46] ++ Lib.decDigits (byt n 3), [48] ++ bsd 8 n, [48, 120] ++ bsd 16 n]
/-- What each of the ways is. -/
structure Way (n : Nat) (T : List UInt8) : Prop where
  ip : ip4 T = (n, true, false)
  prs : prs T = (text4 n, false)
  len : T.length ≤ 100
theorem way_of (n : Nat) (T : List UInt8) (hlen : T.length ≤ 100) (h : T ≠ []) (hok : T.all okc = true) (h1 : ip4 T = (n, true, false)) (h2 : ip4 (low T) = (n, true, false)) : Way n T := ⟨h1, prs_of T n h hok h2, hlen⟩
theorem bsd8_len (n : Nat) (h : n < 4294967296) : (bsd 8 n).length ≤ 20 := by
  have key : ∀ j m, m < 8 ^ (j + 1) → (bsd 8 m).length ≤ j + 1 := by
    intro j
    induction j with
    | zero =>
      intro m hm
      rw [bsd_lt (by simpa using hm)]
      simp
    | succ j ih =>
      intro m hm
      by_cases hl : m < 8
      · rw [bsd_lt hl]
        simp
      · rw [bsd_ge (by omega) hl]
        have := ih (m / 8) (by rw [Nat.pow_succ'] at hm; exact Nat.div_lt_of_lt_mul hm)
        simp
        omega
  have := key 10 n (by have : (8 : Nat) ^ 11 = 8589934592 := by decide
                       omega)
  omega
theorem bsd16_len (n : Nat) (h : n < 4294967296) : (bsd 16 n).length ≤ 20 := by
  have key : ∀ j m, m < 16 ^ (j + 1) → (bsd 16 m).length ≤ j + 1 := by
    intro j
    induction j with
    | zero =>
      intro m hm
      rw [bsd_lt (by simpa using hm)]
      simp
    | succ j ih =>
      intro m hm
      by_cases hl : m < 16
      · rw [bsd_lt hl]
        simp
      · rw [bsd_ge (by omega) hl]
        have := ih (m / 16) (by rw [Nat.pow_succ'] at hm; exact Nat.div_lt_of_lt_mul hm)
        simp
        omega
  have := key 7 n (by have : (16 : Nat) ^ 8 = 4294967296 := by decide
                      omega)
  omega
theorem dec_len10 (n : Nat) (h : n < 4294967296) : (Lib.decDigits n).length ≤ 10 := dec_len_pow 9 n (by have : (10 : Nat) ^ 10 = 10000000000 := by decide
                                                                                                        omega)
theorem sum2 (n : Nat) (h : n < 4294967296) : byt n 0 * 16777216 + n % 16777216 = n := by
  have h0 : byt n 0 = n / 16777216 := by simp [byt]; omega
  rw [h0]
  exact Nat.div_add_mod' n 16777216
theorem sum3 (n : Nat) (h : n < 4294967296) : (byt n 0 * 256 + byt n 1) * 65536 + n % 65536 = n := by
  have h0 : byt n 0 = n / 16777216 := by simp [byt]; omega
  have h1 : byt n 1 = n / 65536 % 256 := by simp [byt]
  rw [h0, h1]
  omega
theorem ways_all (n : Nat) (hn : n < 4294967296) : ∀ T ∈ ways n, Way n T := by
  have hb := byt_lt n
  have hbs := byt_sum n hn
  have hnum : ∀ i, num (Lib.decDigits (byt n i)) = some (byt n i) := fun i => num_digits _ (by have := hb i; omega)
  have ht4 : (text4 n).length ≤ 16 := tx_len _ (byt_lt n) 4
  have hl0 := low_dec (byt n 0)
  have d0 : (Lib.decDigits (byt n 0)).length ≤ 10 := dec_len10 _ (by have := hb 0; omega)
  have d1 : (Lib.decDigits (byt n 1)).length ≤ 10 := dec_len10 _ (by have := hb 1; omega)
  have d3 : (Lib.decDigits (byt n 3)).length ≤ 10 := dec_len10 _ (by have := hb 3; omega)
  intro T hT
  simp only [ways, List.mem_cons, List.not_mem_nil, or_false] at hT
  rcases hT with rfl | rfl | rfl | rfl | rfl | rfl | rfl | rfl
  · refine way_of n _ (by omega) (text4_ne n) (tx_ok _ 4) (ip4_text4 n hn) ?_
    rw [low_text4]
    exact ip4_text4 n hn
  · have hi : ip4 (text4 n ++ [46]) = (n, true, false) := by
      have hs : spl 46 (text4 n ++ [46]) = [Lib.decDigits (byt n 0), Lib.decDigits (byt n 1), Lib.decDigits (byt n 2), Lib.decDigits (byt n 3), []] := by
        rw [spl_snoc 46 [] (by simp), spl_text4]
        rfl
      have hp : prt (text4 n ++ [46]) = [Lib.decDigits (byt n 0), Lib.decDigits (byt n 1), Lib.decDigits (byt n 2), Lib.decDigits (byt n 3)] := by
        unfold prt
        rw [hs]
        rfl
      refine ip4_of _ _ n hp (dec_ne _) ?_ ?_
      · show (num (Lib.decDigits (byt n 3))).isSome = true
        rw [hnum]
        rfl
      · rw [join4 _ _ _ _ (hb 0) (hb 1) (hb 2) (hb 3) _ _ _ _ (hnum 0) (hnum 1) (hnum 2) (hnum 3), hbs]
    refine way_of n _ (by simp; omega) (by simp) (by rw [List.all_append, show (text4 n).all okc = true from tx_ok _ 4]; decide) hi ?_
    rw [low_append, low_text4]
    exact hi
  · have hi : ip4 (Lib.decDigits n) = (n, true, false) := by
      refine ip4_of _ [Lib.decDigits n] n (prt_of _ _ (spl_none _ _ (dec_no46 n)) (dec_ne n)) (dec_ne n) ?_ (join1 n hn _ (num_digits n (by omega)))
      show (num (Lib.decDigits n)).isSome = true
      rw [num_digits n (by omega)]
      rfl
    refine way_of n _ (by have := dec_len10 n hn; omega) (dec_ne n) (dec_digits_ok n) hi ?_
    rw [low_dec]
    exact hi
  · have hm : num (Lib.decDigits (n % 16777216)) = some (n % 16777216) := num_digits _ (by omega)
    have hi : ip4 (Lib.decDigits (byt n 0) ++ [46] ++ Lib.decDigits (n % 16777216)) = (n, true, false) := by
      have e : Lib.decDigits (byt n 0) ++ [46] ++ Lib.decDigits (n % 16777216) = Lib.decDigits (byt n 0) ++ 46 :: Lib.decDigits (n % 16777216) := by simp
      rw [e]
      refine ip4_of _ [Lib.decDigits (byt n 0), Lib.decDigits (n % 16777216)] n (prt_of _ _ (by rw [spl_append _ _ _ (dec_no46 _), spl_none _ _ (dec_no46 _)]) (dec_ne _)) (dec_ne _) ?_ ?_
      · show (num (Lib.decDigits (n % 16777216))).isSome = true
        rw [hm]
        exact Option.isSome_some
      · exact (join2 (byt n 0) (n % 16777216) (hb 0) (by omega) _ _ (hnum 0) hm).trans (congrArg some (sum2 n hn))
    refine way_of n _ (by have := dec_len10 (n % 16777216) (by omega); simp; omega) (by simp) (by rw [List.all_append, List.all_append, dec_digits_ok, dec_digits_ok]; decide) hi ?_
    rw [low_append, low_append, low_dec, low_dec]
    exact hi
  · have hm : num (Lib.decDigits (n % 65536)) = some (n % 65536) := num_digits _ (by omega)
    have hi : ip4 (Lib.decDigits (byt n 0) ++ [46] ++ Lib.decDigits (byt n 1) ++ [46] ++ Lib.decDigits (n % 65536)) = (n, true, false) := by
      have e : Lib.decDigits (byt n 0) ++ [46] ++ Lib.decDigits (byt n 1) ++ [46] ++ Lib.decDigits (n % 65536) = Lib.decDigits (byt n 0) ++ 46 :: (Lib.decDigits (byt n 1) ++ 46 :: Lib.decDigits (n % 65536)) := by simp
      rw [e]
      refine ip4_of _ [Lib.decDigits (byt n 0), Lib.decDigits (byt n 1), Lib.decDigits (n % 65536)] n (prt_of _ _ (by rw [spl_append _ _ _ (dec_no46 _), spl_append _ _ _ (dec_no46 _), spl_none _ _ (dec_no46 _)]) (dec_ne _)) (dec_ne _) ?_ ?_
      · show (num (Lib.decDigits (n % 65536))).isSome = true
        rw [hm]
        exact Option.isSome_some
      · exact (join3 (byt n 0) (byt n 1) (n % 65536) (hb 0) (hb 1) (by omega) _ _ _ (hnum 0) (hnum 1) hm).trans (congrArg some (sum3 n hn))
    refine way_of n _ (by have := dec_len10 (n % 65536) (by omega); simp; omega) (by simp) (by rw [List.all_append, List.all_append, List.all_append, List.all_append, dec_digits_ok, dec_digits_ok, dec_digits_ok]; decide) hi ?_
    rw [low_append, low_append, low_append, low_append, low_dec, low_dec, low_dec]
    exact hi
  · have key : ∀ X : UInt8, X = 120 ∨ X = 88 → ip4 ([48, 120] ++ bsd 16 (byt n 0) ++ [46, 48, X] ++ bsd 16 (byt n 1) ++ [46, 48] ++ bsd 8 (byt n 2) ++ [46] ++ Lib.decDigits (byt n 3)) = (n, true, false) := by
      intro X hX
      have e : [48, 120] ++ bsd 16 (byt n 0) ++ [46, 48, X] ++ bsd 16 (byt n 1) ++ [46, 48] ++ bsd 8 (byt n 2) ++ [46] ++ Lib.decDigits (byt n 3) = (48 :: 120 :: bsd 16 (byt n 0)) ++ 46 :: ((48 :: X :: bsd 16 (byt n 1)) ++ 46 :: ((48 :: bsd 8 (byt n 2)) ++ 46 :: Lib.decDigits (byt n 3))) := by simp
      have m0 : (46 : UInt8) ∉ 48 :: 120 :: bsd 16 (byt n 0) := no46c 16 (by omega) (by omega) _ [48, 120] (by decide)
      have m1 : (46 : UInt8) ∉ 48 :: X :: bsd 16 (byt n 1) := no46c 16 (by omega) (by omega) _ [48, X] (by rcases hX with rfl | rfl <;> decide)
      have m2 : (46 : UInt8) ∉ 48 :: bsd 8 (byt n 2) := no46c 8 (by omega) (by omega) _ [48] (by decide)
      rw [e]
      refine ip4_of _ [48 :: 120 :: bsd 16 (byt n 0), 48 :: X :: bsd 16 (byt n 1), 48 :: bsd 8 (byt n 2), Lib.decDigits (byt n 3)] n (prt_of _ _ (by rw [spl_append _ _ _ m0, spl_append _ _ _ m1, spl_append _ _ _ m2, spl_none _ _ (dec_no46 _)]) (dec_ne _)) (dec_ne _) ?_ ?_
      · show (num (Lib.decDigits (byt n 3))).isSome = true
        rw [hnum]
        rfl
      · rw [join4 _ _ _ _ (hb 0) (hb 1) (hb 2) (hb 3) _ _ _ _ (num_16 _ (by have := hb 0; omega) 120 (.inl rfl)) (num_16 _ (by have := hb 1; omega) X hX) (num_8 _ (by have := hb 2; omega)) (hnum 3), hbs]
    have l0 := bsd16_len (byt n 0) (by have := hb 0; omega)
    have l1 := bsd16_len (byt n 1) (by have := hb 1; omega)
    have l2 := bsd8_len (byt n 2) (by have := hb 2; omega)
    refine way_of n _ (by simp; omega) (by simp) ?_ (key 88 (.inr rfl)) ?_
    · simp only [List.all_append, bsd_okc 16 (by omega) (by omega), bsd_okc 8 (by omega) (by omega), dec_digits_ok]
      decide
    · have e : low [46, 48, 88] = [46, 48, 120] := by decide
      simp only [low_append, low_bsd 16 (by omega) (by omega), low_bsd 8 (by omega) (by omega), low_dec, e]
      exact key 120 (.inl rfl)
  · have m0 : (46 : UInt8) ∉ [48] ++ bsd 8 n := no46c 8 (by omega) (by omega) _ [48] (by decide)
    have hi : ip4 ([48] ++ bsd 8 n) = (n, true, false) := by
      refine ip4_of _ [[48] ++ bsd 8 n] n (prt_of _ _ (spl_none _ _ m0) (by simp)) (by simp) ?_ (join1 n hn _ (num_8 n (by omega)))
      show (num (48 :: bsd 8 n)).isSome = true
      rw [num_8 n (by omega)]
      rfl
    refine way_of n _ (by have := bsd8_len n hn; simp; omega) (by simp) (by rw [List.all_append, bsd_okc 8 (by omega) (by omega)]; decide) hi ?_
    rw [low_append, low_bsd 8 (by omega) (by omega)]
    exact hi
  · have m0 : (46 : UInt8) ∉ [48, 120] ++ bsd 16 n := no46c 16 (by omega) (by omega) _ [48, 120] (by decide)
    have hi : ip4 ([48, 120] ++ bsd 16 n) = (n, true, false) := by
      refine ip4_of _ [[48, 120] ++ bsd 16 n] n (prt_of _ _ (spl_none _ _ m0) (by simp)) (by simp) ?_ (join1 n hn _ (num_16 n (by omega) 120 (.inl rfl)))
      show (num (48 :: 120 :: bsd 16 n)).isSome = true
      rw [num_16 n (by omega) 120 (.inl rfl)]
      rfl
    refine way_of n _ (by have := bsd16_len n hn; simp; omega) (by simp) (by rw [List.all_append, bsd_okc 16 (by omega) (by omega)]; decide) hi ?_
    rw [low_append, low_bsd 16 (by omega) (by omega)]
    exact hi
theorem dom_text4 (n : Nat) : dom (text4 n) = false := by
  have hb := byt_lt n
  have h : ends (prt (text4 n)) = true := by
    rw [prt_of _ _ (spl_text4 n) (dec_ne _)]
    unfold ends
    show (Lib.decDigits (byt n 3) != [] && ((val 10 0 (Lib.decDigits (byt n 3))).isSome || (num (Lib.decDigits (byt n 3))).isSome)) = true
    rw [num_digits _ (by have := hb 3; omega), show (Lib.decDigits (byt n 3) != []) = true by rw [bne_iff_ne]; exact dec_ne _]
    simp
  unfold dom
  rw [h]
  simp
end Go.Proofs.YtcfgcakmffkpmaaDoor
