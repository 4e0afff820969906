/-
  Plain mathematics of logs as frames: no Go, no memory. What is joined ('join'), what is split ('splitS'), and that the two fit.
-/
import Derived.Test.YtknnncdmpfmgkaaDoorNumBack
import Derived.Test.YtknnncdmpfmgkaaDoorCrcPlain
namespace Go.Proofs.YtknnncdmpfmgkaaDoor

def op4 : List UInt8 := [84, 82, 78, 49]
/-- A body's CRC as four bytes. -/
def tl (b : List UInt8) : List UInt8 := four (more 0 b)
theorem tl_len (b : List UInt8) : (tl b).length = 4 := rfl
def frm (b : List UInt8) : List UInt8 := leb b.length ++ b ++ tl b
def frs (bs : List (List UInt8)) : List UInt8 := (bs.map frm).flatten
def join (bs : List (List UInt8)) : List UInt8 := op4 ++ frs bs
theorem frm_len (b : List UInt8) : (frm b).length = (leb b.length).length + b.length + 4 := by simp [frm, tl_len]; omega
theorem frs_nil : frs [] = [] := rfl
theorem frs_cons (b : List UInt8) (bs : List (List UInt8)) : frs (b :: bs) = frm b ++ frs bs := by simp [frs]
theorem frs_append (a b : List (List UInt8)) : frs (a ++ b) = frs a ++ frs b := by simp [frs]
theorem frs_snoc (bs : List (List UInt8)) (b : List UInt8) : frs (bs ++ [b]) = frs bs ++ frm b := by simp [frs]
theorem join_len (bs : List (List UInt8)) : (join bs).length = 4 + (frs bs).length := by simp [join, op4]; omega

/-- How many bytes of 'want' the bytes begin with, and what is wrong (0 nothing, 2 cut off, else w). -/
def matchS : List UInt8 → List UInt8 → Nat → Nat × Nat
  | _, [], _ => (0, 0)
  | [], _ :: _, _ => (0, 2)
  | c :: r, d :: s, w => if c = d then ((matchS r s w).1 + 1, (matchS r s w).2) else (0, w)
theorem matchS_ok (w : Nat) : ∀ (s b : List UInt8), matchS (s ++ b) s w = (s.length, 0)
  | [], b => by simp [matchS]
  | d :: s, b => by simp [matchS, matchS_ok w s b]
theorem matchS_back (w : Nat) (hw : w ≠ 0) : ∀ (b s : List UInt8), (matchS b s w).2 = 0 → b.take s.length = s ∧ (matchS b s w).1 = s.length ∧ s.length ≤ b.length
  | b, [], _ => by simp [matchS]
  | [], d :: s, h => by simp [matchS] at h
  | c :: r, d :: s, h => by
    unfold matchS at h ⊢
    by_cases e : c = d
    · rw [if_pos e] at h ⊢
      obtain ⟨h1, h2, h3⟩ := matchS_back w hw r s h
      subst e
      simp [h1, h2, h3]
    · rw [if_neg e] at h
      exact absurd h hw
theorem matchS_le (w : Nat) : ∀ (b s : List UInt8), (matchS b s w).1 ≤ b.length ∧ (matchS b s w).1 ≤ s.length
  | b, [] => by simp [matchS]
  | [], d :: s => by simp [matchS]
  | c :: r, d :: s => by
    unfold matchS
    have := matchS_le w r s
    split <;> simp <;> omega
theorem matchS_err (w : Nat) : ∀ (b s : List UInt8), (matchS b s w).2 = 0 ∨ (matchS b s w).2 = 2 ∨ (matchS b s w).2 = w
  | b, [] => by simp [matchS]
  | [], d :: s => by simp [matchS]
  | c :: r, d :: s => by
    unfold matchS
    have := matchS_err w r s
    split <;> simp <;> omega
/-- Cut off: all that is there is right. -/
theorem matchS_cut (w : Nat) : ∀ (s : List UInt8) (k : Nat), k < s.length → matchS (s.take k) s w = (k, 2)
  | [], k, h => by simp at h
  | d :: s, 0, h => by simp [matchS]
  | d :: s, k + 1, h => by simp [matchS, matchS_cut w s k (by simpa using h)]
theorem matchS_short (w : Nat) (hw : w ≠ 2) (hw0 : w ≠ 0) : ∀ (b s : List UInt8), (matchS b s w).2 = 2 → (matchS b s w).1 = b.length ∧ b.length < s.length
  | b, [], h => by simp [matchS] at h
  | [], d :: s, _ => by simp [matchS]
  | c :: r, d :: s, h => by
    unfold matchS at h ⊢
    by_cases e : c = d
    · rw [if_pos e] at h ⊢
      have := matchS_short w hw hw0 r s h
      simp [this]
    · rw [if_neg e] at h
      exact absurd h hw
/-- Wrong: whatever stands behind the wrong byte; without it all is right, and cut off. -/
theorem matchS_wrong (w : Nat) (hw : w ≠ 2) (hw0 : w ≠ 0) : ∀ (b s : List UInt8), (matchS b s w).2 = w → (matchS b s w).1 < b.length ∧ (∀ m, matchS (b.take ((matchS b s w).1 + 1) ++ m) s w = matchS b s w) ∧ matchS (b.take (matchS b s w).1) s w = ((matchS b s w).1, 2)
  | b, [], h => by simp [matchS] at h; exact absurd h.symm hw0
  | [], d :: s, h => by simp [matchS] at h; exact absurd h.symm hw
  | c :: r, d :: s, h => by
    by_cases e : c = d
    · have e1 : matchS (c :: r) (d :: s) w = ((matchS r s w).1 + 1, (matchS r s w).2) := by rw [matchS, if_pos e]
      rw [e1] at h
      obtain ⟨h1, h2, h3⟩ := matchS_wrong w hw hw0 r s h
      rw [e1]
      refine ⟨by simp; omega, fun m => ?_, ?_⟩
      · rw [List.take_succ_cons, List.cons_append, matchS, if_pos e, h2 m]
      · rw [List.take_succ_cons, matchS, if_pos e, h3]
    · have e1 : matchS (c :: r) (d :: s) w = (0, w) := by rw [matchS, if_neg e]
      rw [e1]
      refine ⟨by simp, fun m => ?_, by simp [matchS]⟩
      simp [matchS, e]

/-- A frame: its body, its size (or how far it is right), what is wrong. -/
def takeS (l : List UInt8) : List UInt8 × Nat × Nat :=
  if (getS l).2.2 ≠ 0 then ([], (getS l).2.1, (getS l).2.2)
  else if 20000 < (getS l).1 then ([], (getS l).2.1 - 1, 5)
  else if l.length < (getS l).2.1 + (getS l).1 then ([], l.length, 2)
  else ((l.drop (getS l).2.1).take (getS l).1, (getS l).2.1 + (getS l).1 + (matchS (l.drop ((getS l).2.1 + (getS l).1)) (tl ((l.drop (getS l).2.1).take (getS l).1)) 4).1,
    (matchS (l.drop ((getS l).2.1 + (getS l).1)) (tl ((l.drop (getS l).2.1).take (getS l).1)) 4).2)

theorem takeS_frm (b m : List UInt8) (h : b.length ≤ 20000) : takeS (frm b ++ m) = (b, (frm b).length, 0) := by
  have e : frm b ++ m = leb b.length ++ (b ++ (tl b ++ m)) := by simp [frm]
  unfold takeS
  rw [e, getS_leb _ _ (by omega)]
  simp only
  rw [if_neg (by simp), if_neg (by omega), if_neg (by simp)]
  have e1 : (leb b.length ++ (b ++ (tl b ++ m))).drop (leb b.length).length = b ++ (tl b ++ m) := by simp
  have e2 : (leb b.length ++ (b ++ (tl b ++ m))).drop ((leb b.length).length + b.length) = tl b ++ m := by
    rw [← List.drop_drop, e1]; simp
  rw [e1, e2, List.take_left' rfl, matchS_ok, frm_len, tl_len]

theorem getS_le (l : List UInt8) : (getS l).2.1 ≤ l.length := by
  have := (getF_place l 0 0 (by omega) (by simp)).1
  simpa [getS] using this
theorem takeS_le (l : List UInt8) : (takeS l).2.1 ≤ l.length := by
  have h0 := getS_le l
  unfold takeS
  split
  · exact h0
  · split
    · show (getS l).2.1 - 1 ≤ _; omega
    · split
      · exact Nat.le_refl _
      · have := (matchS_le 4 (l.drop ((getS l).2.1 + (getS l).1)) (tl ((l.drop (getS l).2.1).take (getS l).1))).1
        rw [List.length_drop] at this
        show (getS l).2.1 + (getS l).1 + _ ≤ _
        omega
/-- A frame that is right is one. -/
theorem takeS_back (l : List UInt8) (h : (takeS l).2.2 = 0) : l.take (takeS l).2.1 = frm (takeS l).1 ∧ (takeS l).1.length ≤ 20000 ∧ (takeS l).2.1 = (frm (takeS l).1).length := by
  have hk := getS_le l
  unfold takeS at h ⊢
  split at h
  · rename_i h1; exact absurd h h1
  · rename_i h1
    rw [if_neg h1]
    split at h
    · cases h
    · rename_i h2
      rw [if_neg h2]
      split at h
      · cases h
      · rename_i h3
        rw [if_neg h3]
        obtain ⟨r, hr⟩ : ∃ r, getS l = r := ⟨_, rfl⟩
        obtain ⟨N, k, e⟩ := r
        rw [hr] at h h1 h2 h3 hk ⊢
        simp only at h h1 h2 h3 hk ⊢
        have he : e = 0 := by omega
        subst he
        have hb := getS_back l N k hr
        obtain ⟨g1, g2, g3⟩ := matchS_back 4 (by omega) _ _ h
        have hl : ((l.drop k).take N).length = N := by rw [List.length_take, List.length_drop]; omega
        obtain ⟨T, hT⟩ : ∃ T, (l.drop k).take N = T := ⟨_, rfl⟩
        rw [hT] at g1 g2 g3 hl ⊢
        have e4 := tl_len T
        rw [e4] at g1 g2 g3
        have hlk : (leb N).length = k := by rw [hb, List.length_take]; omega
        refine ⟨?_, by omega, by rw [g2, frm_len, hl]; omega⟩
        rw [g2]
        unfold frm
        rw [hl, hb, ← g1, ← hT, ← List.take_add, ← List.take_add]
theorem takeS_pos (l : List UInt8) (h : (takeS l).2.2 = 0) : 5 ≤ (takeS l).2.1 := by
  obtain ⟨_, _, h3⟩ := takeS_back l h
  rw [h3, frm_len]
  have := leb_pos (takeS l).1.length
  omega
theorem takeS_err (l : List UInt8) : (takeS l).2.2 ≤ 5 := by
  have h0 := getF_err l 0 0
  change (getS l).2.2 = 0 ∨ (getS l).2.2 = 2 ∨ (getS l).2.2 = 3 at h0
  unfold takeS
  split
  · show (getS l).2.2 ≤ 5; omega
  · split
    · exact Nat.le_refl _
    · split
      · show 2 ≤ 5; omega
      · have := matchS_err 4 (l.drop ((getS l).2.1 + (getS l).1)) (tl ((l.drop (getS l).2.1).take (getS l).1))
        show (matchS _ _ 4).2 ≤ 5
        omega

/-- The frames one by one; one that is wrong is the last. -/
def seqF : Nat → List UInt8 → List (List UInt8 × Nat × Nat)
  | 0, _ => []
  | f + 1, l => if l = [] then [] else takeS l :: (if (takeS l).2.2 = 0 then seqF f (l.drop (takeS l).2.1) else [])
theorem seqF_eq : ∀ (f g : Nat) (l : List UInt8), l.length ≤ f → l.length ≤ g → seqF f l = seqF g l
  | 0, g, l, hf, _ => by
    have e : l = [] := List.eq_nil_of_length_eq_zero (by omega)
    subst e
    cases g <;> simp [seqF]
  | f + 1, 0, l, _, hg => by
    have e : l = [] := List.eq_nil_of_length_eq_zero (by omega)
    subst e
    simp [seqF]
  | f + 1, g + 1, l, hf, hg => by
    simp only [seqF]
    by_cases e : l = []
    · rw [if_pos e, if_pos e]
    · rw [if_neg e, if_neg e]
      by_cases h : (takeS l).2.2 = 0
      · rw [if_pos h, if_pos h]
        have := takeS_pos l h
        rw [seqF_eq f g (l.drop (takeS l).2.1) (by rw [List.length_drop]; omega) (by rw [List.length_drop]; omega)]
      · rw [if_neg h, if_neg h]
def seqS (l : List UInt8) : List (List UInt8 × Nat × Nat) := seqF l.length l
theorem seqS_nil : seqS [] = [] := rfl
theorem seqS_ok {l : List UInt8} (hl : l ≠ []) (h : (takeS l).2.2 = 0) : seqS l = takeS l :: seqS (l.drop (takeS l).2.1) := by
  have hp := takeS_pos l h
  have hle := takeS_le l
  unfold seqS
  rw [seqF_eq l.length (l.length + 1) l (Nat.le_refl _) (by omega)]
  simp only [seqF]
  rw [if_neg hl, if_pos h, seqF_eq l.length (l.drop (takeS l).2.1).length _ (by rw [List.length_drop]; omega) (Nat.le_refl _)]
theorem seqS_bad {l : List UInt8} (hl : l ≠ []) (h : (takeS l).2.2 ≠ 0) : seqS l = [takeS l] := by
  unfold seqS
  rw [seqF_eq l.length (l.length + 1) l (Nat.le_refl _) (by omega)]
  simp only [seqF]
  rw [if_neg hl, if_neg h]
theorem frm_ne (b m : List UInt8) : frm b ++ m ≠ [] := by
  intro e
  have := congrArg List.length e
  rw [List.length_append, frm_len] at this
  simp at this
theorem seqS_frs : ∀ (bs : List (List UInt8)) (m : List UInt8), (∀ b ∈ bs, b.length ≤ 20000) → seqS (frs bs ++ m) = bs.map (fun b => (b, (frm b).length, 0)) ++ seqS m
  | [], m, _ => by simp [frs_nil]
  | b :: bs, m, h => by
    have h1 := takeS_frm b (frs bs ++ m) (h b (by simp))
    rw [frs_cons, List.append_assoc, seqS_ok (frm_ne _ _) (by rw [h1]), h1]
    simp only [List.drop_left', List.map_cons, List.cons_append]
    rw [seqS_frs bs m fun c hc => h c (by simp [hc])]

/-- What is made of the frames: bodies, place, what is wrong; k frames are ahead. -/
def runQ : Nat → List (List UInt8 × Nat × Nat) → List (List UInt8) × Nat × Nat
  | _, [] => ([], 0, 0)
  | k, x :: r => if k = 4096 then ([], 0, 5) else if x.2.2 ≠ 0 then ([], x.2.1, x.2.2) else (x.1 :: (runQ (k + 1) r).1, x.2.1 + (runQ (k + 1) r).2.1, (runQ (k + 1) r).2.2)
def sizes (xs : List (List UInt8 × Nat × Nat)) : Nat := (xs.map fun x => x.2.1).sum
theorem sizes_snoc (xs : List (List UInt8 × Nat × Nat)) (x : List UInt8 × Nat × Nat) : sizes (xs ++ [x]) = sizes xs + x.2.1 := by simp [sizes]
theorem runQ_front : ∀ (ps r : List (List UInt8 × Nat × Nat)) (k : Nat), (∀ x ∈ ps, x.2.2 = 0) → k + ps.length ≤ 4096 →
    runQ k (ps ++ r) = (ps.map (·.1) ++ (runQ (k + ps.length) r).1, sizes ps + (runQ (k + ps.length) r).2.1, (runQ (k + ps.length) r).2.2)
  | [], r, k, _, _ => by simp [sizes]
  | x :: ps, r, k, h, hk => by
    simp only [List.length_cons] at hk
    have hx := h x (by simp)
    rw [List.cons_append, runQ, if_neg (by omega), if_neg (by omega), runQ_front ps r (k + 1) (fun y hy => h y (by simp [hy])) (by omega)]
    simp only [List.map_cons, List.cons_append, List.length_cons, show k + 1 + ps.length = k + (ps.length + 1) by omega]
    refine Prod.ext rfl (Prod.ext ?_ rfl)
    simp [sizes]
    omega

/-- Split of a log that is not too long. -/
def splitS (b : List UInt8) : List (List UInt8) × Nat × Nat :=
  if (matchS b op4 3).2 ≠ 0 then ([], (matchS b op4 3).1, (matchS b op4 3).2)
  else ((runQ 0 (seqS (b.drop 4))).1, 4 + (runQ 0 (seqS (b.drop 4))).2.1, (runQ 0 (seqS (b.drop 4))).2.2)
def fit (r : List (List UInt8) × Nat × Nat) : List (List UInt8) × Nat × Nat := if r.2.1 = 1048576 then (r.1, r.2.1, 5) else r
def splitL (b : List UInt8) : List (List UInt8) × Nat × Nat := if b.length ≤ 1048576 then splitS b else fit (splitS (b.take 1048576))

theorem sizes_frm (bs : List (List UInt8)) : sizes (bs.map fun b => (b, (frm b).length, 0)) = (frs bs).length := by
  induction bs with
  | nil => rfl
  | cons b bs ih => simp only [sizes, List.map_cons, List.sum_cons, frs_cons, List.length_append]; simp only [sizes] at ih; rw [ih]
theorem split_front (bs : List (List UInt8)) (m : List UInt8) (h1 : bs.length ≤ 4096) (h2 : ∀ b ∈ bs, b.length ≤ 20000) :
    splitS (join bs ++ m) = (bs ++ (runQ bs.length (seqS m)).1, (join bs).length + (runQ bs.length (seqS m)).2.1, (runQ bs.length (seqS m)).2.2) := by
  have e0 : join bs ++ m = op4 ++ (frs bs ++ m) := by simp [join]
  unfold splitS
  rw [e0, matchS_ok]
  rw [if_neg (by simp)]
  have e1 : (op4 ++ (frs bs ++ m)).drop 4 = frs bs ++ m := by simp [op4]
  rw [e1, seqS_frs bs m h2, runQ_front _ _ 0 (by simp) (by simp; omega), sizes_frm, join_len]
  simp only [List.length_map, Nat.zero_add, List.map_map]
  refine Prod.ext (by simp [Function.comp_def]) (Prod.ext ?_ rfl)
  simp only
  omega
/-- What is joined is split. -/
theorem split_join (bs : List (List UInt8)) (h1 : bs.length ≤ 4096) (h2 : ∀ b ∈ bs, b.length ≤ 20000) : splitS (join bs) = (bs, (join bs).length, 0) := by
  have := split_front bs [] h1 h2
  rw [List.append_nil, seqS_nil] at this
  rw [this]
  simp [runQ]
theorem runQ_back : ∀ (f : Nat) (l : List UInt8) (k : Nat), l.length ≤ f → (runQ k (seqS l)).2.2 = 0 → frs (runQ k (seqS l)).1 = l ∧ (runQ k (seqS l)).2.1 = l.length ∧ (∀ b ∈ (runQ k (seqS l)).1, b.length ≤ 20000) ∧ (k ≤ 4096 → k + (runQ k (seqS l)).1.length ≤ 4096)
  | 0, l, k, hf, _ => by
    have e : l = [] := List.eq_nil_of_length_eq_zero (by omega)
    subst e
    simp [seqS_nil, runQ, frs_nil]
  | f + 1, l, k, hf, h => by
    by_cases e : l = []
    · subst e
      simp [seqS_nil, runQ, frs_nil]
    · by_cases he : (takeS l).2.2 = 0
      · rw [seqS_ok e he] at h ⊢
        rw [runQ] at h ⊢
        by_cases hk : k = 4096
        · rw [if_pos hk] at h; cases h
        · rw [if_neg hk, if_neg (by omega)] at h ⊢
          have hp := takeS_pos l he
          have hle := takeS_le l
          obtain ⟨b1, b2, b3⟩ := takeS_back l he
          obtain ⟨h1, h2, h3, h4⟩ := runQ_back f (l.drop (takeS l).2.1) (k + 1) (by rw [List.length_drop]; omega) h
          refine ⟨?_, ?_, ?_, ?_⟩
          · simp only
            rw [frs_cons, h1, ← b1, List.take_append_drop]
          · simp only
            rw [h2, List.length_drop]
            omega
          · simp only [List.mem_cons, forall_eq_or_imp]
            exact ⟨b2, h3⟩
          · intro hk'
            have := h4 (by omega)
            simp only [List.length_cons]
            omega
      · rw [seqS_bad e he] at h ⊢
        rw [runQ] at h
        by_cases hk : k = 4096
        · rw [if_pos hk] at h; cases h
        · rw [if_neg hk, if_pos he] at h
          exact absurd h he
/-- What is split, joined, is the log. -/
theorem split_back (b : List UInt8) (h : (splitS b).2.2 = 0) : join (splitS b).1 = b ∧ (splitS b).2.1 = b.length ∧ (splitS b).1.length ≤ 4096 ∧ ∀ c ∈ (splitS b).1, c.length ≤ 20000 := by
  unfold splitS at h ⊢
  split at h
  · rename_i h1; exact absurd h h1
  · rename_i h1
    rw [if_neg h1]
    obtain ⟨m1, m2, m3⟩ := matchS_back 3 (by omega) b op4 (by omega)
    obtain ⟨g1, g2, g3, g4⟩ := runQ_back _ _ 0 (Nat.le_refl _) h
    have h4 : op4.length = 4 := rfl
    rw [h4] at m1 m3
    refine ⟨?_, ?_, by have := g4 (by omega); simp only; omega, g3⟩
    · simp only [join]
      rw [g1]
      conv => lhs; rw [← m1]
      exact List.take_append_drop _ _
    · simp only
      rw [g2, List.length_drop]
      omega
end Go.Proofs.YtknnncdmpfmgkaaDoor
