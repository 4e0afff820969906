/-
  The mathematics of an IPv6's text: what is written is read. No program, no condition.
-/
import Derived.Test.YtcfgcakmffkpmaaDoorNum
namespace Go.Proofs.YtcfgcakmffkpmaaDoor
open Go.RowKit

/-- No two colons beside one another, and none at the end. -/
def okH : List UInt8 → Bool
  | [] => true
  | [a] => a != 58
  | a :: b :: r => (a != 58 || b != 58) && okH (b :: r)
theorem okH_no58 : ∀ l : List UInt8, (58 : UInt8) ∉ l → okH l = true
  | [], _ => rfl
  | [a], h => by
    simp [okH]
    exact fun e => h (by simp [e])
  | a :: b :: r, h => by
    have h1 : a ≠ 58 := fun e => h (by simp [e])
    rw [okH, okH_no58 (b :: r) (fun e => h (List.mem_cons_of_mem _ e))]
    simp [h1]
theorem okH_join (m : List UInt8) (hm : m ≠ []) (h58 : (58 : UInt8) ∉ m) : ∀ l : List UInt8, okH l = true → okH (l ++ 58 :: m) = true
  | [], _ => by
    cases m with
    | nil => exact absurd rfl hm
    | cons b r =>
      have h1 : b ≠ 58 := fun e => h58 (by simp [e])
      rw [List.nil_append, okH, okH_no58 _ h58]
      simp [h1]
  | [a], h => by
    have h1 : a ≠ 58 := by simpa [okH] using h
    have ih := okH_join m hm h58 [] rfl
    rw [List.nil_append] at ih
    rw [List.cons_append, List.nil_append, okH, ih]
    simp [h1]
  | a :: b :: r, h => by
    rw [okH, Bool.and_eq_true] at h
    have ih := okH_join m hm h58 (b :: r) h.2
    rw [List.cons_append, List.cons_append, okH, h.1]
    rw [List.cons_append] at ih
    rw [ih]
    rfl
theorem pre2 (a b : UInt8) (r : List UInt8) : ([58, 58] : List UInt8).isPrefixOf (a :: b :: r) = (58 == a && 58 == b) := by simp [List.isPrefixOf]
theorem index_none2 : ∀ l : List UInt8, okH l = true → Lib.index l [58, 58] = -1
  | [], _ => rfl
  | [a], _ => by simp [Lib.index, List.isPrefixOf]
  | a :: b :: r, h => by
    rw [okH, Bool.and_eq_true] at h
    have ih := index_none2 (b :: r) h.2
    rw [Lib.index, pre2, ih]
    have h1 : (58 == a && 58 == b) = false := by
      cases hx : (58 == a && 58 == b) with
      | false => rfl
      | true =>
        simp only [Bool.and_eq_true, beq_iff_eq] at hx
        obtain ⟨rfl, rfl⟩ := hx
        exact absurd h.1 (by decide)
    rw [h1]
    rfl
theorem index_hit2 (T : List UInt8) : ∀ l : List UInt8, okH l = true → Lib.index (l ++ 58 :: 58 :: T) [58, 58] = (l.length : Int)
  | [], _ => by
    rw [List.nil_append, Lib.index, pre2]
    rfl
  | [a], h => by
    have h1 : a ≠ 58 := by simpa [okH] using h
    have ih := index_hit2 T [] rfl
    rw [List.nil_append] at ih
    rw [List.cons_append, List.nil_append, Lib.index, pre2, ih, show (58 == a) = false by simpa using Ne.symm h1]
    rfl
  | a :: b :: r, h => by
    rw [okH, Bool.and_eq_true] at h
    have ih := index_hit2 T (b :: r) h.2
    rw [List.cons_append] at ih
    have h1 : (58 == a && 58 == b) = false := by
      cases hx : (58 == a && 58 == b) with
      | false => rfl
      | true =>
        simp only [Bool.and_eq_true, beq_iff_eq] at hx
        obtain ⟨rfl, rfl⟩ := hx
        exact absurd h.1 (by decide)
    rw [List.cons_append, List.cons_append, Lib.index, pre2, ih, h1]
    have h2 : ¬ ((((b :: r).length : Nat) : Int) == -1) = true := by
      rw [beq_iff_eq]
      omega
    rw [if_neg (by simp), if_neg h2]
    simp
theorem cut_none (l : List UInt8) (h : okH l = true) : Lib.cut l [58, 58] = (l, [], false) := by
  unfold Lib.cut
  rw [index_none2 l h, if_neg (by decide)]
theorem cut_hit (l T : List UInt8) (h : okH l = true) : Lib.cut (l ++ 58 :: 58 :: T) [58, 58] = (l, T, true) := by
  unfold Lib.cut
  rw [index_hit2 T l h, if_pos (by omega)]
  simp
theorem spl_snoc (c : UInt8) (m : List UInt8) (hm : c ∉ m) : ∀ l : List UInt8, spl c (l ++ c :: m) = spl c l ++ [m]
  | [] => by rw [List.nil_append, spl_hit, spl_none c m hm]; rfl
  | a :: l => by
    have ih := spl_snoc c m hm l
    by_cases h : a = c
    · subst h
      rw [List.cons_append, spl_hit, ih, spl_hit]
      rfl
    · obtain ⟨x, t, hx⟩ := spl_form c l
      rw [List.cons_append, spl_miss c a l h x t hx]
      rw [hx] at ih
      exact spl_miss c a _ h x (t ++ [m]) ih
theorem hexL_no58 (u : Nat) : (58 : UInt8) ∉ hexL u := by
  rw [← bsd_hexL]
  exact bsd_not 16 (by omega) (by omega) u 58 (by decide)
theorem hexL_no46 (u : Nat) : (46 : UInt8) ∉ hexL u := by
  rw [← bsd_hexL]
  exact bsd_not 16 (by omega) (by omega) u 46 (by decide)
theorem hexL_ne (u : Nat) : hexL u ≠ [] := by
  rw [← bsd_hexL]
  exact bsd_ne _ _
theorem pc_hexL (u : Nat) (h : u < 65536) : pc (hexL u) = some u := by
  unfold pc
  rw [if_neg (by
    rintro (e | e)
    · exact hexL_ne u e
    · have := hexL_len4 u h
      omega), ← bsd_hexL]
  exact val_bsd 16 (by omega) (by omega) u (by omega)
/-- Pieces with colons between, each a text of its own. -/
def jc (f : Nat → List UInt8) : Nat → List UInt8
  | 0 => []
  | k + 1 => jc f k ++ (if k = 0 then [] else [58]) ++ f k
theorem hxs_jc (x : Nat → Nat) : ∀ k, hxs x k = jc (fun j => hexL (x j)) k
  | 0 => rfl
  | k + 1 => by rw [hxs, jc, hxs_jc x k]
theorem jc_one (f : Nat → List UInt8) : jc f 1 = f 0 := by simp [jc]
theorem jc_more (f : Nat → List UInt8) (k : Nat) : jc f (k + 2) = jc f (k + 1) ++ 58 :: f (k + 1) := by
  rw [jc, if_neg (by omega)]
  simp
theorem jc_okH (f : Nat → List UInt8) (h1 : ∀ j, f j ≠ []) (h2 : ∀ j, (58 : UInt8) ∉ f j) : ∀ k, okH (jc f k) = true
  | 0 => rfl
  | 1 => by rw [jc_one]; exact okH_no58 _ (h2 0)
  | k + 2 => by
    rw [jc_more]
    exact okH_join _ (h1 _) (h2 _) _ (jc_okH f h1 h2 (k + 1))
theorem jc_spl (f : Nat → List UInt8) (h2 : ∀ j, (58 : UInt8) ∉ f j) : ∀ k, spl 58 (jc f (k + 1)) = (List.range (k + 1)).map f
  | 0 => by rw [jc_one, spl_none _ _ (h2 0)]; rfl
  | k + 1 => by
    rw [jc_more, spl_snoc _ _ (h2 _), jc_spl f h2 k, List.range_succ (n := k + 1)]
    simp
theorem jc_ne (f : Nat → List UInt8) (h1 : ∀ j, f j ≠ []) : ∀ k, jc f (k + 1) ≠ []
  | 0 => by rw [jc_one]; exact h1 0
  | k + 1 => by rw [jc_more]; simp
theorem pcl_all (e : Bool) (y : List UInt8 → Nat) : ∀ ps : List (List UInt8), (∀ p ∈ ps, pc p = some (y p) ∧ p.contains 46 = false) → pcl e ps = some (ps.map y)
  | [], _ => rfl
  | [p], h => by
    obtain ⟨h1, h2⟩ := h p (by simp)
    rw [pcl_last e p (by rw [h2]; simp), h1]
    rfl
  | p :: q :: r, h => by
    obtain ⟨h1, _⟩ := h p (by simp)
    rw [pcl_more e p q r _ h1, pcl_all e y (q :: r) (fun z hz => h z (List.mem_cons_of_mem _ hz))]
    rfl
/-- Pieces of a text whose pieces are told one by one. -/
theorem pcs_jc (e : Bool) (f : Nat → List UInt8) (x : Nat → Nat) (h1 : ∀ j, f j ≠ []) (h2 : ∀ j, (58 : UInt8) ∉ f j) (h3 : ∀ j, (46 : UInt8) ∉ f j) (k : Nat) (hx : ∀ j, j < k → pc (f j) = some (x j)) : pcs e (jc f k) = some ((List.range k).map x) := by
  cases k with
  | zero => rfl
  | succ k =>
    unfold pcs
    rw [if_neg (jc_ne f h1 k), jc_spl f h2 k]
    have key : ∀ p ∈ (List.range (k + 1)).map f, pc p = some ((pc p).getD 0) ∧ p.contains 46 = false := by
      intro p hp
      obtain ⟨j, hj, rfl⟩ := List.mem_map.1 hp
      rw [List.mem_range] at hj
      refine ⟨by rw [hx j hj]; rfl, ?_⟩
      have := h3 j
      simpa using this
    rw [pcl_all e (fun p => (pc p).getD 0) _ key]
    congr 1
    rw [List.map_map]
    refine List.map_congr_left fun j hj => ?_
    rw [List.mem_range] at hj
    show (pc (f j)).getD 0 = x j
    rw [hx j hj]
    rfl
/-- A text of eight pieces without a gap. -/
theorem ip6_full (f : Nat → List UInt8) (x : Nat → Nat) (h1 : ∀ j, f j ≠ []) (h2 : ∀ j, (58 : UInt8) ∉ f j) (h3 : ∀ j, (46 : UInt8) ∉ f j) (hx : ∀ j, j < 8 → pc (f j) = some (x j)) : ip6 (jc f 8) = some ((List.range 8).map x) := by
  unfold ip6
  rw [cut_none _ (jc_okH f h1 h2 8)]
  simp only [Bool.not_false]
  rw [pcs_jc true f x h1 h2 h3 8 hx]
  simp [pcs]
/-- A text with a gap. -/
theorem ip6_gap (f g : Nat → List UInt8) (x y : Nat → Nat) (h1 : ∀ j, f j ≠ []) (h2 : ∀ j, (58 : UInt8) ∉ f j) (h3 : ∀ j, (46 : UInt8) ∉ f j) (g1 : ∀ j, g j ≠ []) (g2 : ∀ j, (58 : UInt8) ∉ g j) (g3 : ∀ j, (46 : UInt8) ∉ g j) (k m : Nat) (hkm : k + m ≤ 7) (hx : ∀ j, j < k → pc (f j) = some (x j)) (hy : ∀ j, j < m → pc (g j) = some (y j)) :
    ip6 (jc f k ++ 58 :: 58 :: jc g m) = some ((List.range k).map x ++ List.replicate (8 - k - m) 0 ++ (List.range m).map y) := by
  unfold ip6
  rw [cut_hit _ _ (jc_okH f h1 h2 k)]
  simp only [Bool.not_true]
  rw [pcs_jc false f x h1 h2 h3 k hx, pcs_jc true g y g1 g2 g3 m hy]
  simp only [Option.bind_some, List.length_map, List.length_range]
  rw [if_pos ⟨by omega, by simp; omega⟩]

/-- The longest row is one of noughts. -/
theorem lr_zero (a : List Nat) (ha : a.length = 8) : ∀ (n i st fr to mo : Nat), n = 8 - i → i ≤ 8 → (∀ j, st ≤ j → j < i → a.getD j 0 = 0) → (∀ j, fr ≤ j → j < to → a.getD j 0 = 0) → (fr < to ∨ (fr = 8 ∧ to = 8)) →
    (∀ j, (lr i st fr to mo (a.drop i)).1 ≤ j → j < (lr i st fr to mo (a.drop i)).2 → a.getD j 0 = 0) ∧ ((lr i st fr to mo (a.drop i)).1 < (lr i st fr to mo (a.drop i)).2 ∨ ((lr i st fr to mo (a.drop i)).1 = 8 ∧ (lr i st fr to mo (a.drop i)).2 = 8))
  | 0, i, st, fr, to, mo, hn, hi, _, h2, h3 => by
    rw [List.drop_eq_nil_of_le (by omega)]
    exact ⟨h2, h3⟩
  | n + 1, i, st, fr, to, mo, hn, hi, h1, h2, h3 => by
    have hlt : i < a.length := by omega
    have hd : a.drop i = a.getD i 0 :: a.drop (i + 1) := by
      rw [List.drop_eq_getElem_cons hlt]
      simp [List.getD, List.getElem?_eq_getElem hlt]
    rw [hd, lr]
    split
    · exact lr_zero a ha n (i + 1) (i + 1) fr to mo (by omega) (by omega) (fun j h4 h5 => by omega) h2 h3
    · rename_i hz
      have hz : a.getD i 0 = 0 := by
        cases h : a.getD i 0 with
        | zero => rfl
        | succ k => exact absurd (by rw [h]; simp) hz
      have h1' : ∀ j, st ≤ j → j < i + 1 → a.getD j 0 = 0 := fun j h4 h5 => by
        by_cases h6 : j = i
        · rw [h6]; exact hz
        · exact h1 j h4 (by omega)
      split
      · exact lr_zero a ha n (i + 1) st st (i + 1) _ (by omega) (by omega) h1' h1' (by left; omega)
      · exact lr_zero a ha n (i + 1) st fr to mo (by omega) (by omega) h1' h2 h3
theorem longest_zero (a : List Nat) (ha : a.length = 8) : (∀ j, (longest a).1 ≤ j → j < (longest a).2 → a.getD j 0 = 0) ∧ ((longest a).1 < (longest a).2 ∨ ((longest a).1 = 8 ∧ (longest a).2 = 8)) := by
  have := lr_zero a ha 8 0 0 8 8 1 rfl (by omega) (fun j _ h => by omega) (fun j h1 h2 => by omega) (.inr ⟨rfl, rfl⟩)
  exact this
theorem range_getD (a : List Nat) : (List.range a.length).map (fun j => a.getD j 0) = a := by
  apply List.ext_getElem
  · simp
  · intro i h1 h2
    simp [List.getD, List.getElem?_eq_getElem h2]
/-- Pieces with noughts from k on, m pieces from the end. -/
theorem gap_is (a : List Nat) (ha : a.length = 8) (k t : Nat) (hkt : k ≤ t) (ht : t ≤ 8) (hz : ∀ j, k ≤ j → j < t → a.getD j 0 = 0) :
    (List.range k).map (fun j => a.getD j 0) ++ List.replicate (8 - k - (8 - t)) 0 ++ (List.range (8 - t)).map (fun j => a.getD (t + j) 0) = a := by
  apply List.ext_getElem
  · simp
    omega
  · intro i h1 h2
    have hg : a[i] = a.getD i 0 := by simp [List.getD, List.getElem?_eq_getElem h2]
    rw [hg]
    by_cases hik : i < k
    · rw [List.getElem_append_left (by simp; omega), List.getElem_append_left (by simpa using hik)]
      simp
    · by_cases hit : i < t
      · rw [List.getElem_append_left (by simp; omega), List.getElem_append_right (by simp; omega), hz i (by omega) hit]
        simp
      · rw [List.getElem_append_right (by simp; omega)]
        simp
        congr 2
        omega
theorem getD_lt (a : List Nat) (h : ∀ x ∈ a, x < 65536) (i : Nat) : a.getD i 0 < 65536 := by
  rw [List.getD_eq_getElem?_getD]
  cases h2 : a[i]? with
  | none => simp
  | some y => exact h y (List.mem_of_getElem? h2)
/-- What is written is read. -/
theorem ip6_text6 (a : List Nat) (ha : a.length = 8) (h : ∀ x ∈ a, x < 65536) : ip6 (text6 a) = some a := by
  obtain ⟨hz, hft⟩ := longest_zero a ha
  have hle := longest_le a ha
  unfold text6
  rw [hxs_jc, hxs_jc]
  rcases hft with hft | ⟨h1, h2⟩
  · rw [if_pos hft]
    have e : ∀ A B : List UInt8, A ++ [58, 58] ++ B = A ++ 58 :: 58 :: B := fun A B => by simp
    rw [e, ip6_gap _ _ (fun j => a.getD j 0) (fun j => a.getD ((longest a).2 + j) 0) (fun j => hexL_ne _) (fun j => hexL_no58 _) (fun j => hexL_no46 _) (fun j => hexL_ne _) (fun j => hexL_no58 _) (fun j => hexL_no46 _) _ _ (by omega) (fun j _ => pc_hexL _ (getD_lt a h _)) (fun j _ => pc_hexL _ (getD_lt a h _))]
    congr 1
    exact gap_is a ha _ _ (by omega) hle.2 hz
  · rw [h1, h2, if_neg (by omega)]
    have e : jc (fun j => hexL (a.getD j 0)) 8 ++ [] ++ jc (fun j => hexL (a.getD (8 + j) 0)) (8 - 8) = jc (fun j => hexL (a.getD j 0)) 8 := by simp [jc]
    rw [e, ip6_full _ (fun j => a.getD j 0) (fun j => hexL_ne _) (fun j => hexL_no58 _) (fun j => hexL_no46 _) (fun j _ => pc_hexL _ (getD_lt a h _))]
    have := range_getD a
    rw [ha] at this
    rw [this]
theorem suffix93 (l : List UInt8) : Lib.hasSuffix (l ++ [93]) [93] = true ∧ Lib.trimSuffix (l ++ [93]) [93] = l := by
  have h : Lib.hasSuffix (l ++ [93]) [93] = true := by
    unfold Lib.hasSuffix
    rw [List.isSuffixOf_iff_suffix]
    exact ⟨l, rfl⟩
  refine ⟨h, ?_⟩
  unfold Lib.trimSuffix
  rw [h]
  simp
theorem prs_six (t : List UInt8) : prs ([91] ++ t ++ [93]) = match ip6 t with | some a => (brk a, false) | none => ([], true) := by
  have h1 : Lib.hasPrefix ([91] ++ t ++ [93]) [91] = true := by simp [Lib.hasPrefix, List.isPrefixOf]
  have h2 : ([91] ++ t ++ [93]).drop 1 = t ++ [93] := rfl
  obtain ⟨h3, h4⟩ := suffix93 t
  unfold prs prb
  rw [h1, h2, h3, h4]
  rfl
theorem prs_brk (a : List Nat) (ha : a.length = 8) (h : ∀ x ∈ a, x < 65536) : prs (brk a) = (brk a, false) := by
  unfold brk
  rw [prs_six, ip6_text6 a ha h]
  rfl
end Go.Proofs.YtcfgcakmffkpmaaDoor
