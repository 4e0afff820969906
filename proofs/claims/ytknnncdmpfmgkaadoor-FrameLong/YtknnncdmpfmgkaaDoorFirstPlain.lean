/-
  What is wrong in a log stays so, whatever stands behind: mathematics only. No condition.
-/
import Derived.Test.YtknnncdmpfmgkaaDoorCutPlain
namespace Go.Proofs.YtknnncdmpfmgkaaDoor

theorem takeS_body (T x : List UInt8) (h : T.length ≤ 20000) : takeS (leb T.length ++ (T ++ x)) = (T, (leb T.length).length + T.length + (matchS x (tl T) 4).1, (matchS x (tl T) 4).2) := by
  unfold takeS
  rw [getS_leb _ _ (by omega)]
  simp only
  rw [if_neg (by simp), if_neg (by omega), if_neg (by simp)]
  have e1 : (leb T.length ++ (T ++ x)).drop (leb T.length).length = T ++ x := by simp
  have e2 : (leb T.length ++ (T ++ x)).drop ((leb T.length).length + T.length) = x := by
    rw [← List.drop_drop, e1]; simp
  rw [e1, e2, List.take_left' rfl]

/-- What a frame that is wrong, or cut off, tells. -/
theorem takeS_first (l : List UInt8) : ((takeS l).2.2 = 2 → (takeS l).2.1 = l.length) ∧
    ((takeS l).2.2 ≠ 0 → (takeS l).2.2 ≠ 2 → (takeS l).2.1 < l.length ∧ (∀ m, (takeS (l.take ((takeS l).2.1 + 1) ++ m)).2 = (takeS l).2) ∧ (takeS (l.take (takeS l).2.1)).2 = ((takeS l).2.1, 2)) := by
  obtain ⟨r, hr⟩ : ∃ r, getS l = r := ⟨_, rfl⟩
  obtain ⟨N, k, e⟩ := r
  have hkl := getS_le l
  have he := getF_err l 0 0
  change (getS l).2.2 = 0 ∨ (getS l).2.2 = 2 ∨ (getS l).2.2 = 3 at he
  rw [hr] at hkl he
  simp only at hkl he
  have un : takeS l = if e ≠ 0 then ([], k, e) else if 20000 < N then ([], k - 1, 5) else if l.length < k + N then ([], l.length, 2)
      else ((l.drop k).take N, k + N + (matchS (l.drop (k + N)) (tl ((l.drop k).take N)) 4).1, (matchS (l.drop (k + N)) (tl ((l.drop k).take N)) 4).2) := by
    unfold takeS; rw [hr]
  rcases he with rfl | rfl | rfl
  · have hb := getS_back l N k hr
    have hok := getS_ok l (by rw [hr])
    rw [hr] at hok
    simp only at hok
    have hlk : (leb N).length = k := by rw [hb, List.length_take]; omega
    rw [if_neg (by simp)] at un
    by_cases h1 : 20000 < N
    · rw [if_pos h1] at un
      rw [un]
      refine ⟨by simp, fun _ _ => ⟨by simp only; omega, fun m => ?_, ?_⟩⟩
      · simp only
        rw [show k - 1 + 1 = k by omega, ← hb]
        unfold takeS
        rw [getS_leb _ _ hok.2.2, hlk]
        simp only
        rw [if_neg (by simp), if_pos h1]
      · simp only
        have e1 : l.take (k - 1) = (leb N).take (k - 1) := by rw [hb, List.take_take, Nat.min_eq_left (by omega)]
        rw [e1]
        unfold takeS
        rw [getS_cut N (k - 1) hok.2.2 (by omega), if_pos (by simp)]
    · rw [if_neg h1] at un
      by_cases h2 : l.length < k + N
      · rw [if_pos h2] at un
        rw [un]
        exact ⟨fun _ => rfl, fun _ h => absurd rfl h⟩
      · rw [if_neg h2] at un
        obtain ⟨T, hT⟩ : ∃ T, (l.drop k).take N = T := ⟨_, rfl⟩
        obtain ⟨R, hR⟩ : ∃ R, l.drop (k + N) = R := ⟨_, rfl⟩
        have hTl : T.length = N := by rw [← hT, List.length_take, List.length_drop]; omega
        have hRl : R.length = l.length - (k + N) := by rw [← hR, List.length_drop]
        have hl : l = leb T.length ++ (T ++ R) := by
          rw [hTl, hb, ← hT, ← hR, ← List.drop_drop, List.take_append_drop, List.take_append_drop]
        rw [hT, hR] at un
        rw [un]
        simp only
        have hme := matchS_err 4 R (tl T)
        refine ⟨fun h => ?_, fun h h' => ?_⟩
        · have := (matchS_short 4 (by omega) (by omega) R (tl T) h).1
          omega
        · have h4 : (matchS R (tl T) 4).2 = 4 := by omega
          obtain ⟨g1, g2, g3⟩ := matchS_wrong 4 (by omega) (by omega) R (tl T) h4
          refine ⟨by omega, fun m => ?_, ?_⟩
          · have e1 : l.take (k + N + (matchS R (tl T) 4).1 + 1) ++ m = leb T.length ++ (T ++ (R.take ((matchS R (tl T) 4).1 + 1) ++ m)) := by
              conv => lhs; rw [hl]
              rw [List.take_append, List.take_append, List.take_of_length_le (by rw [hTl, hlk]; omega), List.take_of_length_le (by rw [hTl, hlk]; omega)]
              simp only [List.append_assoc]
              rw [hTl, hlk, show k + N + (matchS R (tl T) 4).1 + 1 - k - N = (matchS R (tl T) 4).1 + 1 by omega]
            rw [e1, takeS_body T _ (by omega), g2 m, hTl, hlk]
          · have e1 : l.take (k + N + (matchS R (tl T) 4).1) = leb T.length ++ (T ++ R.take (matchS R (tl T) 4).1) := by
              conv => lhs; rw [hl]
              rw [List.take_append, List.take_append, List.take_of_length_le (by rw [hTl, hlk]; omega), List.take_of_length_le (by rw [hTl, hlk]; omega)]
              rw [hTl, hlk, show k + N + (matchS R (tl T) 4).1 - k - N = (matchS R (tl T) 4).1 by omega]
            rw [e1, takeS_body T _ (by omega), g3, hTl, hlk]
  · rw [if_pos (by simp)] at un
    rw [un]
    have := (getF_short l 0 0 k N hr).2
    exact ⟨fun _ => by simp only; omega, fun _ h => absurd rfl h⟩
  · rw [if_pos (by simp)] at un
    rw [un]
    obtain ⟨_, _, h1, h2, h3⟩ := getF_wrong l 0 0 k N hr
    rw [Nat.sub_zero] at h1 h2 h3
    refine ⟨by simp, fun _ _ => ⟨h1, fun m => ?_, ?_⟩⟩
    · have e1 : getS (l.take (k + 1) ++ m) = (0, k, 3) := h2 m
      simp only
      unfold takeS
      rw [e1, if_pos (by simp)]
    · have e1 : getS (l.take k) = (0, k, 2) := h3
      simp only
      unfold takeS
      rw [e1, if_pos (by simp)]

theorem runQ_full (l : List UInt8) (hl : l ≠ []) : runQ 4096 (seqS l) = ([], 0, 5) := by
  by_cases h : (takeS l).2.2 = 0
  · rw [seqS_ok hl h, runQ, if_pos rfl]
  · rw [seqS_bad hl h, runQ, if_pos rfl]
theorem runQ_bad {l : List UInt8} {q a e : Nat} (hl : l ≠ []) (hq : q ≠ 4096) (ht : (takeS l).2 = (a, e)) (he : e ≠ 0) : runQ q (seqS l) = ([], a, e) := by
  have h : (takeS l).2.2 ≠ 0 := by rw [ht]; exact he
  rw [seqS_bad hl h, runQ, if_neg hq, if_pos h, ht]
theorem runQ_frm {b : List UInt8} {q : Nat} (hq : q ≠ 4096) (hb : b.length ≤ 20000) (x : List UInt8) : runQ q (seqS (frm b ++ x)) = (b :: (runQ (q + 1) (seqS x)).1, (frm b).length + (runQ (q + 1) (seqS x)).2.1, (runQ (q + 1) (seqS x)).2.2) := by
  have ht := takeS_frm b x hb
  rw [seqS_ok (frm_ne _ _) (by rw [ht]), ht]
  simp only [List.drop_left']
  rw [runQ, if_neg hq, if_neg (by simp)]
theorem take_ne {l : List UInt8} (hl : l ≠ []) (k : Nat) (m : List UInt8) : l.take (k + 1) ++ m ≠ [] := by
  cases l with
  | nil => exact absurd rfl hl
  | cons c r => simp

theorem runQ_first (f : Nat) : ∀ (l : List UInt8) (q : Nat), l.length ≤ f → q ≤ 4096 → ∀ bs a e, runQ q (seqS l) = (bs, a, e) →
    (e = 0 ∨ e = 2 → a = l.length) ∧ (e ≠ 0 → e ≠ 2 → a < l.length ∧ (∀ m, runQ q (seqS (l.take (a + 1) ++ m)) = (bs, a, e)) ∧ ∃ g, (g = 0 ∨ g = 2) ∧ runQ q (seqS (l.take a)) = (bs, a, g)) := by
  induction f with
  | zero =>
    intro l q hf hq bs a e hr
    have hl : l = [] := List.eq_nil_of_length_eq_zero (by omega)
    subst hl
    rw [seqS_nil, runQ] at hr
    cases hr
    exact ⟨fun _ => rfl, fun h => absurd rfl h⟩
  | succ f ih =>
    intro l q hf hq bs a e hr
    by_cases hl : l = []
    · subst hl
      rw [seqS_nil, runQ] at hr
      cases hr
      exact ⟨fun _ => rfl, fun h => absurd rfl h⟩
    · have hpos : 0 < l.length := List.length_pos_iff.2 hl
      by_cases h4 : q = 4096
      · subst h4
        rw [runQ_full l hl] at hr
        cases hr
        exact ⟨fun h => by omega, fun _ _ => ⟨hpos, fun m => runQ_full _ (take_ne hl 0 m), 0, .inl rfl, by simp [seqS_nil, runQ]⟩⟩
      · obtain ⟨t1, t2⟩ := takeS_first l
        by_cases ht : (takeS l).2.2 = 0
        · obtain ⟨b1, b2, b3⟩ := takeS_back l ht
          have hp := takeS_pos l ht
          obtain ⟨b, hb⟩ : ∃ b, (takeS l).1 = b := ⟨_, rfl⟩
          rw [hb] at b1 b2 b3
          rw [b3] at b1 hp
          obtain ⟨R, hR⟩ : ∃ R, l.drop (frm b).length = R := ⟨_, rfl⟩
          have hl2 : l = frm b ++ R := by
            have e := List.take_append_drop (frm b).length l
            rw [b1, hR] at e
            exact e.symm
          clear t1 t2 b1 b3 hb ht hR
          subst hl2
          rw [runQ_frm h4 b2] at hr
          obtain ⟨r, hr'⟩ : ∃ r, runQ (q + 1) (seqS R) = r := ⟨_, rfl⟩
          obtain ⟨c, p, g⟩ := r
          rw [hr'] at hr
          simp only [Prod.mk.injEq] at hr
          obtain ⟨rfl, rfl, rfl⟩ := hr
          obtain ⟨i1, i2⟩ := ih R (q + 1) (by rw [List.length_append] at hf; omega) (by omega) c p g hr'
          refine ⟨fun h => by rw [i1 h, List.length_append], fun h h' => ?_⟩
          obtain ⟨j1, j2, x, j3, j4⟩ := i2 h h'
          refine ⟨by rw [List.length_append]; omega, fun m => ?_, x, j3, ?_⟩
          · rw [List.take_append, List.take_of_length_le (by omega), List.append_assoc, show (frm b).length + p + 1 - (frm b).length = p + 1 by omega, runQ_frm h4 b2, j2 m]
          · rw [List.take_append, List.take_of_length_le (by omega), show (frm b).length + p - (frm b).length = p by omega, runQ_frm h4 b2, j4]
        · have hr2 := runQ_bad (l := l) (q := q) (a := (takeS l).2.1) (e := (takeS l).2.2) hl h4 rfl ht
          rw [hr2] at hr
          simp only [Prod.mk.injEq] at hr
          obtain ⟨rfl, rfl, rfl⟩ := hr
          refine ⟨fun h => t1 (by omega), fun h h' => ?_⟩
          obtain ⟨j1, j2, j3⟩ := t2 h h'
          refine ⟨j1, fun m => runQ_bad (take_ne hl _ m) h4 (j2 m) ht, ?_⟩
          rcases Nat.eq_zero_or_pos (takeS l).2.1 with h0 | h0
          · rw [h0]
            exact ⟨0, .inl rfl, by simp [seqS_nil, runQ]⟩
          · refine ⟨2, .inr rfl, runQ_bad (fun e => ?_) h4 j3 (by omega)⟩
            have := congrArg List.length e
            rw [List.length_take, List.length_nil] at this
            omega

/-- What is wrong in a log stays so, whatever stands behind; ahead of it it is a log, or one that was cut off. -/
theorem splitS_first (b : List UInt8) (bs : List (List UInt8)) (a e : Nat) (h : splitS b = (bs, a, e)) :
    (e = 0 ∨ e = 2 → a = b.length) ∧ (e ≠ 0 → e ≠ 2 → a < b.length ∧ (∀ m, splitS (b.take (a + 1) ++ m) = (bs, a, e)) ∧ ∃ g, (g = 0 ∨ g = 2) ∧ splitS (b.take a) = (bs, a, g)) := by
  have hme := matchS_err 3 b op4
  by_cases h0 : (matchS b op4 3).2 = 0
  · obtain ⟨m1, m2, m3⟩ := matchS_back 3 (by omega) b op4 h0
    rw [show op4.length = 4 from rfl] at m1 m3
    obtain ⟨R, hR⟩ : ∃ R, b.drop 4 = R := ⟨_, rfl⟩
    have hb : b = op4 ++ R := by rw [← hR, ← m1, List.take_append_drop]
    subst hb
    have gen : ∀ x, splitS (op4 ++ x) = ((runQ 0 (seqS x)).1, 4 + (runQ 0 (seqS x)).2.1, (runQ 0 (seqS x)).2.2) := fun x => by
      unfold splitS
      rw [matchS_ok, if_neg (by simp)]
      rfl
    rw [gen] at h
    obtain ⟨r, hr⟩ : ∃ r, runQ 0 (seqS R) = r := ⟨_, rfl⟩
    obtain ⟨c, p, g⟩ := r
    rw [hr] at h
    simp only [Prod.mk.injEq] at h
    obtain ⟨rfl, rfl, rfl⟩ := h
    obtain ⟨i1, i2⟩ := runQ_first _ R 0 (Nat.le_refl _) (by omega) c p g hr
    have hl4 : op4.length = 4 := rfl
    refine ⟨fun h => by rw [i1 h, List.length_append, hl4], fun h h' => ?_⟩
    obtain ⟨j1, j2, x, j3, j4⟩ := i2 h h'
    refine ⟨by rw [List.length_append, hl4]; omega, fun m => ?_, x, j3, ?_⟩
    · rw [List.take_append, List.take_of_length_le (by rw [hl4]; omega), List.append_assoc, hl4, show 4 + p + 1 - 4 = p + 1 by omega, gen, j2 m]
    · rw [List.take_append, List.take_of_length_le (by rw [hl4]; omega), hl4, show 4 + p - 4 = p by omega, gen, j4]
  · have bad : ∀ x, (matchS x op4 3).2 ≠ 0 → splitS x = ([], (matchS x op4 3).1, (matchS x op4 3).2) := fun x hx => by unfold splitS; rw [if_pos hx]
    rw [bad b h0] at h
    simp only [Prod.mk.injEq] at h
    obtain ⟨rfl, rfl, rfl⟩ := h
    refine ⟨fun h => (matchS_short 3 (by omega) (by omega) b op4 (by omega)).1, fun h h' => ?_⟩
    obtain ⟨g1, g2, g3⟩ := matchS_wrong 3 (by omega) (by omega) b op4 (by omega)
    refine ⟨g1, fun m => ?_, 2, .inr rfl, ?_⟩
    · rw [bad _ (by rw [g2 m]; exact h0), g2 m]
    · rw [bad _ (by rw [g3]; simp), g3]
end Go.Proofs.YtknnncdmpfmgkaaDoor
