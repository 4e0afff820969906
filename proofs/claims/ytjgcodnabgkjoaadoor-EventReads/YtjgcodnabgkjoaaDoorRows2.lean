/-
  Plain mathematics of events as bytes, second part: rows of fields, read one behind the other; the reader's steps are that reading. Condition: numbers below 2^64.
-/
import Derived.Test.YtjgcodnabgkjoaaDoorGram
namespace Go.Proofs.YtjgcodnabgkjoaaDoor
open Go.RowKit

def rdL : List Fl → List UInt8 → List Vl × Nat × Nat
  | [], _ => ([], 0, 0)
  | f :: fs, l =>
    if (rd1 f l).2.2 ≠ 0 then ([], (rd1 f l).2)
    else if (rdL fs (l.drop (rd1 f l).2.1)).2.2 ≠ 0 then ([], (rd1 f l).2.1 + (rdL fs (l.drop (rd1 f l).2.1)).2.1, (rdL fs (l.drop (rd1 f l).2.1)).2.2)
    else ((rd1 f l).1 :: (rdL fs (l.drop (rd1 f l).2.1)).1, (rd1 f l).2.1 + (rdL fs (l.drop (rd1 f l).2.1)).2.1, 0)
def wrL : List Fl → List Vl → List UInt8
  | f :: fs, v :: vs => wr1 f v ++ wrL fs vs
  | _, _ => []
def okL : List Fl → List Vl → Prop
  | [], [] => True
  | f :: fs, v :: vs => ok1 f v ∧ okL fs vs
  | _, _ => False
def FitsL (fs : List Fl) : Prop := ∀ f ∈ fs, f.fits

theorem rdL_back : ∀ (fs : List Fl) (_ : FitsL fs) (vs : List Vl) (more : List UInt8), okL fs vs → rdL fs (wrL fs vs ++ more) = (vs, (wrL fs vs).length, 0)
  | [], _, [], more, _ => rfl
  | f :: fs, hf, v :: vs, more, h => by
    have h1 := (law_of f (hf f (by simp))).back v (wrL fs vs ++ more) h.1
    have h2 := rdL_back fs (fun g hg => hf g (by simp [hg])) vs more h.2
    have e : wrL (f :: fs) (v :: vs) ++ more = wr1 f v ++ (wrL fs vs ++ more) := by simp [wrL]
    rw [e]
    unfold rdL
    rw [h1]
    simp only [ne_eq, not_true_eq_false, if_false]
    rw [List.drop_left, h2]
    simp [wrL]
theorem rdL_cut : ∀ (fs : List Fl) (_ : FitsL fs) (vs : List Vl) (k : Nat), okL fs vs → k < (wrL fs vs).length → (rdL fs ((wrL fs vs).take k)).2 = (k, 2)
  | [], _, [], k, _, hk => by simp [wrL] at hk
  | f :: fs, hf, v :: vs, k, h, hk => by
    have L := law_of f (hf f (by simp))
    have e : wrL (f :: fs) (v :: vs) = wr1 f v ++ wrL fs vs := rfl
    rw [e] at hk ⊢
    by_cases hlt : k < (wr1 f v).length
    · rw [List.take_append_of_le_length (by omega)]
      have h1 := L.cut v k h.1 hlt
      unfold rdL
      rw [h1]
      simp
    · rw [List.take_append, List.take_of_length_le (by omega : (wr1 f v).length ≤ k)]
      have h1 := L.back v ((wrL fs vs).take (k - (wr1 f v).length)) h.1
      have h2 := rdL_cut fs (fun g hg => hf g (by simp [hg])) vs (k - (wr1 f v).length) h.2 (by rw [List.length_append] at hk; omega)
      unfold rdL
      rw [h1]
      simp only [ne_eq, not_true_eq_false, if_false]
      rw [List.drop_left, h2]
      simp
      omega
theorem rdL_fwd : ∀ (fs : List Fl) (_ : FitsL fs) (l : List UInt8) (vs : List Vl) (k : Nat), rdL fs l = (vs, k, 0) → okL fs vs ∧ wrL fs vs = l.take k ∧ k ≤ l.length
  | [], _, l, vs, k, h => by
    simp only [rdL, Prod.mk.injEq] at h
    obtain ⟨rfl, rfl, _⟩ := h
    exact ⟨trivial, by simp [wrL], by omega⟩
  | f :: fs, hf, l, vs, k, h => by
    have L := law_of f (hf f (by simp))
    obtain ⟨v, m, e, hr⟩ : ∃ v m e, rd1 f l = (v, m, e) := ⟨_, _, _, rfl⟩
    obtain ⟨ws, j, e', hq⟩ : ∃ ws j e', rdL fs (l.drop m) = (ws, j, e') := ⟨_, _, _, rfl⟩
    unfold rdL at h
    rw [hr] at h
    simp only at h
    rw [hq] at h
    simp only at h
    by_cases he : e ≠ 0
    · rw [if_pos he] at h
      exact absurd (Prod.mk.inj (Prod.mk.inj h).2).2 he
    · rw [if_neg he] at h
      by_cases he' : e' ≠ 0
      · rw [if_pos he'] at h
        exact absurd (Prod.mk.inj (Prod.mk.inj h).2).2 he'
      · rw [if_neg he'] at h
        simp only [Prod.mk.injEq] at h
        obtain ⟨rfl, rfl, _⟩ := h
        have e0 : e = 0 := by omega
        have e0' : e' = 0 := by omega
        subst e0 e0'
        obtain ⟨a1, a2, a3⟩ := L.fwd l v m hr
        obtain ⟨b1, b2, b3⟩ := rdL_fwd fs (fun g hg => hf g (by simp [hg])) _ ws j hq
        refine ⟨⟨a1, b1⟩, ?_, ?_⟩
        · show wr1 f v ++ wrL fs ws = _
          rw [a2, b2, List.take_add]
        · rw [List.length_drop] at b3
          omega
theorem rdL_err : ∀ (fs : List Fl) (_ : FitsL fs) (l : List UInt8), (rdL fs l).2.2 ≠ 0 → Bad (fun l => (rdL fs l).2) l
  | [], _, l, h => by simp [rdL] at h
  | f :: fs, hf, l, h => by
    have L := law_of f (hf f (by simp))
    obtain ⟨v, m, e, hr⟩ : ∃ v m e, rd1 f l = (v, m, e) := ⟨_, _, _, rfl⟩
    have hbad : ∀ x, (rd1 f x).2.2 ≠ 0 → (rdL (f :: fs) x).2 = (rd1 f x).2 := fun x hx => by
      rw [rdL, if_pos hx]
    by_cases he : e ≠ 0
    · have hb := L.err l (by rw [hr]; exact he)
      have e0 := hbad l (by rw [hr]; exact he)
      unfold Bad at hb ⊢
      simp only [e0]
      rcases hb with hb | ⟨b1, b2, b3, b4, b5⟩
      · exact .inl hb
      · refine .inr ⟨b1, b2, b3, fun more => ?_, ?_⟩
        · have this : (rd1 f (l.take ((rd1 f l).2.1 + 1) ++ more)).2 = (rd1 f l).2 := b4 more
          rw [hbad _ (by rw [this, hr]; exact he)]
          exact this
        · have this : (rd1 f (l.take (rd1 f l).2.1)).2 = ((rd1 f l).2.1, 2) := b5
          rw [hbad _ (by rw [this]; show (2 : Nat) ≠ 0; decide)]
          exact this
    · have e0 : e = 0 := by omega
      subst e0
      obtain ⟨a1, a2, a3⟩ := L.fwd l v m hr
      have hlen : (wr1 f v).length = m := by rw [a2, List.length_take]; omega
      have hgo : ∀ x, (rdL fs x).2.2 ≠ 0 → (rdL (f :: fs) (wr1 f v ++ x)).2 = (m + (rdL fs x).2.1, (rdL fs x).2.2) := fun x hx => by
        rw [rdL, L.back v x a1, if_neg (by simp)]
        simp only
        rw [List.drop_left, if_pos hx, hlen]
      have hl : l = wr1 f v ++ l.drop m := by rw [a2, List.take_append_drop]
      have hd : (rdL fs (l.drop m)).2.2 ≠ 0 := by
        intro h0
        apply h
        rw [rdL, hr, if_neg (by simp)]
        simp only
        rw [if_neg (by rw [h0]; simp)]
      have hb := rdL_err fs (fun g hg => hf g (by simp [hg])) (l.drop m) hd
      obtain ⟨ws, j, e', hq⟩ : ∃ ws j e', rdL fs (l.drop m) = (ws, j, e') := ⟨_, _, _, rfl⟩
      have hmain : (rdL (f :: fs) l).2 = (m + j, e') := by
        have := hgo (l.drop m) hd
        rw [← hl, hq] at this
        exact this
      unfold Bad at hb ⊢
      simp only [hmain, hq] at hb ⊢
      rcases hb with ⟨b1, b2⟩ | ⟨b1, b2, b3, b4, b5⟩
      · refine .inl ⟨b1, ?_⟩
        rw [b2, List.length_drop]
        omega
      · rw [List.length_drop] at b3
        rw [hq] at hd
        refine .inr ⟨b1, b2, by omega, fun more => ?_, ?_⟩
        · have e1 : l.take (m + j + 1) ++ more = wr1 f v ++ ((l.drop m).take (j + 1) ++ more) := by
            rw [a2, ← List.append_assoc, ← List.take_add, Nat.add_assoc]
          have this := b4 more
          rw [e1, hgo _ (by rw [this]; exact hd), this]
        · have e1 : l.take (m + j) = wr1 f v ++ (l.drop m).take j := by rw [a2, ← List.take_add]
          rw [e1, hgo _ (by rw [b5]; show (2 : Nat) ≠ 0; decide), b5]

/-- One step of the reader. -/
def dfl : Fl → Vl
  | .txt => .t []
  | _ => .n 0
def stp (f : Fl) (l : List UInt8) (a e : Nat) : Vl × Nat × Nat := if e ≠ 0 then (dfl f, a, e) else ((rd1 f (l.drop a)).1, a + (rd1 f (l.drop a)).2.1, (rd1 f (l.drop a)).2.2)
def run : List Fl → List UInt8 → Nat → Nat → List Vl × Nat × Nat
  | [], _, a, e => ([], a, e)
  | f :: fs, l, a, e => ((stp f l a e).1 :: (run fs l (stp f l a e).2.1 (stp f l a e).2.2).1, (run fs l (stp f l a e).2.1 (stp f l a e).2.2).2)
theorem run_bad : ∀ (fs : List Fl) (l : List UInt8) (a e : Nat), e ≠ 0 → (run fs l a e).2 = (a, e)
  | [], _, _, _, _ => rfl
  | f :: fs, l, a, e, h => by
    have : stp f l a e = (dfl f, a, e) := by rw [stp, if_pos h]
    rw [run, this]
    exact run_bad fs l a e h
theorem run_rdL : ∀ (fs : List Fl) (l : List UInt8) (a : Nat), (run fs l a 0).2 = (a + (rdL fs (l.drop a)).2.1, (rdL fs (l.drop a)).2.2) ∧ ((rdL fs (l.drop a)).2.2 = 0 → (run fs l a 0).1 = (rdL fs (l.drop a)).1)
  | [], l, a => by simp [run, rdL]
  | f :: fs, l, a => by
    obtain ⟨v, m, e, hr⟩ : ∃ v m e, rd1 f (l.drop a) = (v, m, e) := ⟨_, _, _, rfl⟩
    have hs : stp f l a 0 = (v, a + m, e) := by rw [stp, if_neg (by simp), hr]
    rw [run, hs]
    simp only
    unfold rdL
    rw [hr]
    simp only
    by_cases he : e ≠ 0
    · rw [if_pos he]
      exact ⟨run_bad fs l _ e he, fun h => absurd h he⟩
    · have e0 : e = 0 := by omega
      subst e0
      have ih := run_rdL fs l (a + m)
      rw [← List.drop_drop] at ih
      rw [if_neg (by simp)]
      by_cases he' : (rdL fs ((l.drop a).drop m)).2.2 ≠ 0
      · rw [if_pos he']
        refine ⟨?_, fun h => absurd h he'⟩
        rw [ih.1]
        simp only [Nat.add_assoc]
      · have e0 : (rdL fs ((l.drop a).drop m)).2.2 = 0 := by omega
        rw [if_neg he']
        refine ⟨?_, fun _ => by rw [ih.2 e0]⟩
        rw [ih.1, e0]
        simp only [Nat.add_assoc]
theorem run_append : ∀ (fs gs : List Fl) (l : List UInt8) (a e : Nat), run (fs ++ gs) l a e = ((run fs l a e).1 ++ (run gs l (run fs l a e).2.1 (run fs l a e).2.2).1, (run gs l (run fs l a e).2.1 (run fs l a e).2.2).2)
  | [], gs, l, a, e => by simp [run]
  | f :: fs, gs, l, a, e => by
    rw [List.cons_append, run, run_append fs gs]
    simp [run]
end Go.Proofs.YtjgcodnabgkjoaaDoor
