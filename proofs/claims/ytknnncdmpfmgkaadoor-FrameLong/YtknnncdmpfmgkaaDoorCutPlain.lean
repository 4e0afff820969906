/-
  Logs that are cut off, and logs that are wrong: mathematics only. No condition.
-/
import Derived.Test.YtknnncdmpfmgkaaDoorFrPlain
namespace Go.Proofs.YtknnncdmpfmgkaaDoor

/-- A frame that is cut off. -/
theorem takeS_cut (b : List UInt8) (k : Nat) (h : b.length ≤ 20000) (hk : k < (frm b).length) : ∃ x, takeS ((frm b).take k) = (x, k, 2) := by
  have hl : ((frm b).take k).length = k := by rw [List.length_take]; omega
  rw [frm_len] at hk
  by_cases h1 : k < (leb b.length).length
  · refine ⟨[], ?_⟩
    have e : (frm b).take k = (leb b.length).take k := by
      unfold frm
      rw [List.append_assoc, List.take_append_of_le_length (by omega)]
    unfold takeS
    rw [e, getS_cut _ _ (by omega) h1, if_pos (by simp)]
  · have e : (frm b).take k = leb b.length ++ (b ++ tl b).take (k - (leb b.length).length) := by
      unfold frm
      rw [List.append_assoc, List.take_append, List.take_of_length_le (by omega)]
    unfold takeS
    rw [hl, e, getS_leb _ _ (by omega)]
    simp only
    rw [if_neg (by simp), if_neg (by omega)]
    by_cases h2 : k < (leb b.length).length + b.length
    · rw [if_pos h2]
      exact ⟨[], rfl⟩
    · rw [if_neg h2]
      refine ⟨_, Prod.ext rfl ?_⟩
      have e1 : (leb b.length ++ (b ++ tl b).take (k - (leb b.length).length)).drop (leb b.length).length = b ++ (tl b).take (k - (leb b.length).length - b.length) := by
        rw [List.drop_left', List.take_append, List.take_of_length_le (by omega)]
        rfl
      have e2 : (leb b.length ++ (b ++ tl b).take (k - (leb b.length).length)).drop ((leb b.length).length + b.length) = (tl b).take (k - (leb b.length).length - b.length) := by
        rw [← List.drop_drop, e1, List.drop_left' rfl]
      rw [e1, e2, List.take_left' rfl, matchS_cut 4 (tl b) _ (by rw [tl_len]; omega)]
      refine Prod.ext ?_ rfl
      simp only
      omega

theorem runQ_cut : ∀ (bs : List (List UInt8)) (q k : Nat), (∀ b ∈ bs, b.length ≤ 20000) → q + bs.length ≤ 4096 → k ≤ (frs bs).length →
    ∃ j, j ≤ bs.length ∧ runQ q (seqS ((frs bs).take k)) = (bs.take j, k, if (frs (bs.take j)).length = k then 0 else 2)
  | [], q, k, _, _, hk => by
    rw [frs_nil] at hk
    have : k = 0 := by simpa using hk
    subst this
    exact ⟨0, by simp, by simp [frs_nil, seqS_nil, runQ]⟩
  | b :: bs, q, k, h, hq, hk => by
    rw [List.length_cons] at hq
    have hb := h b (by simp)
    rcases Nat.eq_zero_or_pos k with h0 | h0
    · subst h0
      exact ⟨0, by simp, by simp [frs_nil, seqS_nil, runQ]⟩
    · by_cases h1 : k < (frm b).length
      · obtain ⟨x, hx⟩ := takeS_cut b k hb h1
        refine ⟨0, by simp, ?_⟩
        have e : (frs (b :: bs)).take k = (frm b).take k := by rw [frs_cons, List.take_append_of_le_length (by omega)]
        have hne : (frm b).take k ≠ [] := by
          intro e
          have := congrArg List.length e
          rw [List.length_take, List.length_nil] at this
          omega
        rw [e, seqS_bad hne (by rw [hx]; simp), hx, runQ, if_neg (by omega), if_pos (by simp), if_neg (by rw [List.take_zero, frs_nil, List.length_nil]; omega)]
        rfl
      · have e : (frs (b :: bs)).take k = frm b ++ (frs bs).take (k - (frm b).length) := by
          rw [frs_cons, List.take_append, List.take_of_length_le (by omega)]
        rw [frs_cons, List.length_append] at hk
        obtain ⟨j, hj, e2⟩ := runQ_cut bs (q + 1) (k - (frm b).length) (fun c hc => h c (by simp [hc])) (by omega) (by omega)
        refine ⟨j + 1, by simp; omega, ?_⟩
        have ht := takeS_frm b ((frs bs).take (k - (frm b).length)) hb
        rw [e, seqS_ok (frm_ne _ _) (by rw [ht]), ht]
        simp only [List.drop_left']
        rw [runQ, if_neg (by omega), if_neg (by simp), e2]
        simp only [List.take_succ_cons, frs_cons, List.length_append]
        refine Prod.ext rfl (Prod.ext (by simp only; omega) ?_)
        simp only
        by_cases h2 : (frs (bs.take j)).length = k - (frm b).length
        · rw [if_pos h2, if_pos (by omega)]
        · rw [if_neg h2, if_neg (by omega)]

/-- A log that is cut off is one, or ends there. -/
theorem splitS_cut (bs : List (List UInt8)) (k : Nat) (h : ∀ b ∈ bs, b.length ≤ 20000) (hq : bs.length ≤ 4096) (hk : k ≤ (join bs).length) :
    ∃ j, j ≤ bs.length ∧ splitS ((join bs).take k) = (bs.take j, k, if (join (bs.take j)).length = k then 0 else 2) := by
  rw [join_len] at hk
  by_cases h4 : k < 4
  · have e : (join bs).take k = op4.take k := by unfold join; rw [List.take_append_of_le_length (show k ≤ op4.length by show k ≤ 4; omega)]
    refine ⟨0, by omega, ?_⟩
    unfold splitS
    rw [e, matchS_cut 3 op4 k h4, if_pos (by simp)]
    rw [if_neg (by simp [join_len, frs_nil]; omega)]
    rfl
  · have e : (join bs).take k = op4 ++ (frs bs).take (k - 4) := by unfold join; rw [List.take_append, List.take_of_length_le (show op4.length ≤ k by show 4 ≤ k; omega)]; rfl
    obtain ⟨j, hj, e2⟩ := runQ_cut bs 0 (k - 4) h (by omega) (by omega)
    refine ⟨j, hj, ?_⟩
    unfold splitS
    rw [e, matchS_ok, if_neg (by simp)]
    have e3 : (op4 ++ (frs bs).take (k - 4)).drop 4 = (frs bs).take (k - 4) := rfl
    rw [e3, e2]
    refine Prod.ext rfl (Prod.ext (by simp only; omega) ?_)
    simp only [join_len]
    by_cases h2 : (frs (bs.take j)).length = k - 4
    · rw [if_pos h2, if_pos (by omega)]
    · rw [if_neg h2, if_neg (by omega)]
end Go.Proofs.YtknnncdmpfmgkaaDoor
