/-
  Plain laws of Decode and Encode: what is written is read; what is read was written; what is cut off is cut off; what is wrong stays so, whatever stands behind. Condition: numbers below 2^64.
-/
import Derived.Test.YtjgcodnabgkjoaaDoorFits
namespace Go.Proofs.YtjgcodnabgkjoaaDoor
open Go.RowKit

theorem dec_run (l : List UInt8) : (d4 l 3).2 = (run (fls (hav (dK l))) l (tkA l 0 0 1 14) (ckE l 0 0 1 14)).2 ∧
    (Vl.n (d1 l).1 :: Vl.n (d2 l).1 :: (((d3 l (hav (dK l)).texts).1.take (hav (dK l)).texts).map Vl.t ++ numsOf (hav (dK l)).bl (d4 l 3).1)) = (run (fls (hav (dK l))) l (tkA l 0 0 1 14) (ckE l 0 0 1 14)).1 ∧
    (∀ j, (hav (dK l)).texts ≤ j → (d3 l (hav (dK l)).texts).1.getD j [] = []) ∧ (∀ j, (hav (dK l)).bl.getD j 0 = 0 → (d4 l 3).1.getD j 0 = 0) ∧ ∀ j, 0 ≤ (d4 l 3).1.getD j 0 := by
  have hh := hav_ok (dK l)
  have p0 : tkA l 0 0 1 14 ≤ l.length := by
    unfold tkA
    split
    · rename_i h
      have := (ckE_zero h).2.1
      omega
    · omega
  have s1 := stp_num l (tkA l 0 0 1 14) (ckE l 0 0 1 14)
  rw [show nuR l (tkA l 0 0 1 14) (ckE l 0 0 1 14) = d1 l from rfl] at s1
  have p1 : (d1 l).2.1 ≤ l.length := by
    have := stp_place .num trivial l _ (ckE l 0 0 1 14) p0
    rw [s1] at this
    exact this
  have s2 := stp_idn (hav (dK l)).fetch l (d1 l).2.1 (d1 l).2.2 p1
  rw [show idR (hav (dK l)).fetch l (d1 l).2.1 (d1 l).2.2 = d2 l from rfl] at s2
  have p2 : (d2 l).2.1 ≤ l.length := by
    have := stp_place (.idn (hav (dK l)).fetch) trivial l _ (d1 l).2.2 p1
    rw [s2] at this
    exact this
  obtain ⟨t1, t2, t3⟩ := txS_run l (d2 l).2.1 (d2 l).2.2 (hav (dK l)).texts hh.1
  rw [show txS l [[], [], [], []] (d2 l).2.1 (d2 l).2.2 (hav (dK l)).texts = d3 l (hav (dK l)).texts from rfl] at t1 t2 t3
  have p3 : (d3 l (hav (dK l)).texts).2.1 ≤ l.length := by
    rw [t1]
    exact run_place _ (replicate_fits _) l _ _ p2
  obtain ⟨n1, n2, n3, n4⟩ := nmS_run (hav (dK l)).bl hh.2.1 (bl_le hh) l (d3 l (hav (dK l)).texts).2.1 (d3 l (hav (dK l)).texts).2.2 p3 3 (Nat.le_refl _)
  rw [show nmS (hav (dK l)).bl l [0, 0, 0] (d3 l (hav (dK l)).texts).2.1 (d3 l (hav (dK l)).texts).2.2 3 = d4 l 3 from rfl] at n1 n2 n3 n4
  rw [List.take_of_length_le (by rw [hh.2.1]; omega)] at n1 n2
  rw [List.take_of_length_le (by rw [d4_ok]; omega)] at n2
  have hr : run (fls (hav (dK l))) l (tkA l 0 0 1 14) (ckE l 0 0 1 14) = (.n (d1 l).1 :: .n (d2 l).1 :: ((run (List.replicate (hav (dK l)).texts .txt) l (d2 l).2.1 (d2 l).2.2).1 ++ (run (smls (hav (dK l)).bl) l (d3 l (hav (dK l)).texts).2.1 (d3 l (hav (dK l)).texts).2.2).1), (run (smls (hav (dK l)).bl) l (d3 l (hav (dK l)).texts).2.1 (d3 l (hav (dK l)).texts).2.2).2) := by
    rw [fls, run, s1, run, s2, run_append, ← t1]
  rw [hr, ← t2, ← n2, ← n1]
  exact ⟨rfl, rfl, t3, fun j hj => n3 j (Or.inr hj), n4⟩

theorem dec_bad (l : List UInt8) (h : ckE l 0 0 1 14 ≠ 0) : dA l = 0 ∧ dE l = ckE l 0 0 1 14 := by
  have h1 := (dec_run l).1
  rw [run_bad _ _ _ _ h] at h1
  have ha : tkA l 0 0 1 14 = 0 := by rw [tkA, if_neg h]
  rw [ha] at h1
  refine ⟨by rw [dA, h1], ?_⟩
  rw [dE, h1, enE, if_neg (fun h2 => h h2.1)]
theorem dec_nil : dA [] = 0 ∧ dE [] = 2 := by
  have h := dec_bad [] (by rw [ck_nil]; decide)
  rw [ck_nil] at h
  exact h
theorem dec_kind (c : UInt8) (r : List UInt8) (h : ¬ (1 ≤ c.toNat ∧ c.toNat ≤ 14)) : dA (c :: r) = 0 ∧ dE (c :: r) = 3 := by
  have hc : ckE (c :: r) 0 0 1 14 = 3 := by rw [ck_cons, if_pos (by omega)]
  have h := dec_bad (c :: r) (by rw [hc]; decide)
  rw [hc] at h
  exact h
theorem dec_cons (c : UInt8) (r : List UInt8) (h1 : 1 ≤ c.toNat) (h2 : c.toNat ≤ 14) :
    dK (c :: r) = c.toNat ∧ dA (c :: r) = 1 + (rdL (fls (hav c.toNat)) r).2.1 ∧ dE (c :: r) = (if (rdL (fls (hav c.toNat)) r).2.2 = 0 ∧ (rdL (fls (hav c.toNat)) r).2.1 < r.length then 8 else (rdL (fls (hav c.toNat)) r).2.2) ∧
    (dE (c :: r) = 0 → (dV (c :: r)).kind = c.toNat ∧ Clean (dV (c :: r)) ∧ vsOf (dV (c :: r)) = (rdL (fls (hav c.toNat)) r).1) := by
  have hc : ckE (c :: r) 0 0 1 14 = 0 := by rw [ck_cons, if_neg (by omega)]
  have hK : dK (c :: r) = c.toNat := by rw [dK, tkV, if_pos hc]; rfl
  have ha : tkA (c :: r) 0 0 1 14 = 1 := by rw [tkA, if_pos hc]
  obtain ⟨r1, r2, r3, r4, r5⟩ := dec_run (c :: r)
  rw [hc, ha, hK] at r1 r2
  rw [hK] at r3 r4
  obtain ⟨q1, q2⟩ := run_rdL (fls (hav c.toNat)) (c :: r) 1
  rw [show (c :: r).drop 1 = r from rfl] at q1 q2
  rw [q1] at r1
  have hE : dE (c :: r) = (if (rdL (fls (hav c.toNat)) r).2.2 = 0 ∧ (rdL (fls (hav c.toNat)) r).2.1 < r.length then 8 else (rdL (fls (hav c.toNat)) r).2.2) := by
    rw [dE, r1, enE]
    have e : ((rdL (fls (hav c.toNat)) r).2.2 = 0 ∧ 1 + (rdL (fls (hav c.toNat)) r).2.1 < (c :: r).length) ↔ ((rdL (fls (hav c.toNat)) r).2.2 = 0 ∧ (rdL (fls (hav c.toNat)) r).2.1 < r.length) := by
      simp only [List.length_cons]
      omega
    simp only [e]
  refine ⟨hK, by rw [dA, r1], hE, fun h0 => ?_⟩
  have e0 : (rdL (fls (hav c.toNat)) r).2.2 = 0 := by
    rw [hE] at h0
    split at h0
    · exact absurd h0 (by decide)
    · exact h0
  have hv : dV (c :: r) = ⟨(c.toNat : Int), (d1 (c :: r)).1, (d2 (c :: r)).1, (d3 (c :: r) (hav c.toNat).texts).1, (d4 (c :: r) 3).1⟩ := by rw [dV, if_pos h0, hK]
  rw [hv]
  have hkk : ∀ t i ts ns, hk ⟨(c.toNat : Int), t, i, ts, ns⟩ = hav c.toNat := fun _ _ _ _ => rfl
  refine ⟨rfl, ⟨r3, r4, r5⟩, ?_⟩
  rw [← q2 e0, ← r2]
  rfl

/-- What is written is read, whatever stands behind. -/
theorem dec_enc (e : Ev) (he : EvOk e) (hs : Small e) (hr : rightE e = true) (more : List UInt8) :
    dA (encB e ++ more) = (encB e).length ∧ dE (encB e ++ more) = (if more = [] then 0 else 8) ∧ (more = [] → dV (encB e ++ more) = e) := by
  obtain ⟨⟨k1, k2⟩, ok, cl⟩ := (right_iff e he hs).1 hr
  have hfit : FitsL (fls (hk e)) := fls_fits (hav_ok _)
  have hkn : (UInt8.ofNat e.kind.toNat).toNat = e.kind.toNat := of_toNat _ (by omega)
  have hb := rdL_back (fls (hk e)) hfit (vsOf e) more ok
  rw [enc_wrL e he, List.cons_append]
  obtain ⟨c1, c2, c3, c4⟩ := dec_cons (UInt8.ofNat e.kind.toNat) (wrL (fls (hk e)) (vsOf e) ++ more) (by rw [hkn]; omega) (by rw [hkn]; omega)
  rw [hkn] at c1 c2 c3 c4
  rw [show hav e.kind.toNat = hk e from rfl, hb] at c2 c3 c4
  have hE : dE (UInt8.ofNat e.kind.toNat :: (wrL (fls (hk e)) (vsOf e) ++ more)) = if more = [] then 0 else 8 := by
    rw [c3]
    cases more with
    | nil => simp
    | cons x r => simp
  refine ⟨by rw [c2]; simp only [List.length_cons]; omega, hE, fun hm => ?_⟩
  rw [if_pos hm] at hE
  obtain ⟨v1, v2, v3⟩ := c4 hE
  exact clean_ext (dV_ok _) he (by rw [v1]; omega) v2 cl v3
theorem dec_cut (e : Ev) (he : EvOk e) (hs : Small e) (hr : rightE e = true) (k : Nat) (hk' : k < (encB e).length) : dA ((encB e).take k) = k ∧ dE ((encB e).take k) = 2 := by
  obtain ⟨⟨k1, k2⟩, ok, cl⟩ := (right_iff e he hs).1 hr
  have hfit : FitsL (fls (hk e)) := fls_fits (hav_ok _)
  have hkn : (UInt8.ofNat e.kind.toNat).toNat = e.kind.toNat := of_toNat _ (by omega)
  rw [enc_wrL e he] at hk' ⊢
  cases k with
  | zero => exact dec_nil
  | succ k =>
    rw [List.take_succ_cons]
    have hc := rdL_cut (fls (hk e)) hfit (vsOf e) k ok (by simpa using hk')
    obtain ⟨c1, c2, c3, c4⟩ := dec_cons (UInt8.ofNat e.kind.toNat) ((wrL (fls (hk e)) (vsOf e)).take k) (by rw [hkn]; omega) (by rw [hkn]; omega)
    rw [hkn] at c2 c3
    rw [show hav e.kind.toNat = hk e from rfl, hc] at c2 c3
    refine ⟨by rw [c2]; simp only; omega, ?_⟩
    rw [c3]
    simp
/-- What is read was written. -/
theorem dec_fwd (l : List UInt8) (h : dE l = 0) : dA l = l.length ∧ Small (dV l) ∧ rightE (dV l) = true ∧ encB (dV l) = l := by
  cases l with
  | nil => rw [dec_nil.2] at h; exact absurd h (by decide)
  | cons c r =>
    by_cases hc : 1 ≤ c.toNat ∧ c.toNat ≤ 14
    · obtain ⟨c1, c2, c3, c4⟩ := dec_cons c r hc.1 hc.2
      obtain ⟨v1, v2, v3⟩ := c4 h
      have hok := dV_ok (c :: r)
      have hkk : hk (dV (c :: r)) = hav c.toNat := by rw [hk, v1]; rfl
      obtain ⟨vs, k, e, hq⟩ : ∃ vs k e, rdL (fls (hav c.toNat)) r = (vs, k, e) := ⟨_, _, _, rfl⟩
      rw [hq] at c2 c3 v3
      simp only at c2 c3 v3
      rw [h] at c3
      have he : e = 0 ∧ ¬ k < r.length := by
        by_cases h5 : e = 0 ∧ k < r.length
        · rw [if_pos h5] at c3
          exact absurd c3 (by decide)
        · rw [if_neg h5] at c3
          exact ⟨c3.symm, fun h6 => h5 ⟨c3.symm, h6⟩⟩
      obtain ⟨rfl, hkl⟩ := he
      obtain ⟨f1, f2, f3⟩ := rdL_fwd (fls (hav c.toNat)) (fls_fits (hav_ok _)) r vs k hq
      obtain rfl : k = r.length := by omega
      rw [List.take_length] at f2
      rw [← v3, ← hkk] at f1 f2
      have hsm := ((okL_vs _ hok).1 f1).1
      refine ⟨by rw [c2, List.length_cons]; omega, hsm, (right_iff _ hok hsm).2 ⟨by rw [v1]; omega, f1, v2⟩, ?_⟩
      rw [enc_wrL _ hok, f2, v1]
      simp
    · rw [(dec_kind c r hc).2] at h
      exact absurd h (by decide)
/-- What is wrong. -/
theorem dec_err (l : List UInt8) : (dE l = 2 → dA l = l.length) ∧ (dE l ≠ 0 → dE l ≠ 2 → dA l < l.length ∧ (∀ more, dA (l.take (dA l + 1) ++ more) = dA l ∧ dE (l.take (dA l + 1) ++ more) = dE l) ∧ dA (l.take (dA l)) = dA l ∧ dE (l.take (dA l)) = (if dE l = 8 then 0 else 2)) := by
  cases l with
  | nil => exact ⟨fun _ => dec_nil.1, fun h1 h2 => absurd dec_nil.2 h2⟩
  | cons c r =>
    by_cases hc : 1 ≤ c.toNat ∧ c.toNat ≤ 14
    · have hfit : FitsL (fls (hav c.toNat)) := fls_fits (hav_ok _)
      have D := fun x => dec_cons c x hc.1 hc.2
      obtain ⟨vs, k, e, hq⟩ : ∃ vs k e, rdL (fls (hav c.toNat)) r = (vs, k, e) := ⟨_, _, _, rfl⟩
      obtain ⟨c1, c2, c3, c4⟩ := D r
      rw [hq] at c2 c3
      simp only at c2 c3
      by_cases he : e = 0
      · subst he
        obtain ⟨f1, f2, f3⟩ := rdL_fwd (fls (hav c.toNat)) hfit r vs k hq
        by_cases hl : k < r.length
        · rw [if_pos ⟨rfl, hl⟩] at c3
          refine ⟨fun h => absurd (c3.symm.trans h) (by decide), fun _ _ => ?_⟩
          rw [c2, c3]
          have hw : (wrL (fls (hav c.toNat)) vs).length = k := by rw [f2, List.length_take]; omega
          refine ⟨by rw [List.length_cons]; omega, fun more => ?_, ?_⟩
          · have e1 : (c :: r).take (1 + k + 1) ++ more = c :: (wrL (fls (hav c.toNat)) vs ++ ((r.drop k).take 1 ++ more)) := by
              rw [show 1 + k + 1 = (k + 1) + 1 by omega, List.take_succ_cons, List.take_add, ← f2]
              simp
            have hb := rdL_back (fls (hav c.toNat)) hfit vs ((r.drop k).take 1 ++ more) f1
            obtain ⟨_, x2, x3, _⟩ := D (wrL (fls (hav c.toNat)) vs ++ ((r.drop k).take 1 ++ more))
            rw [hb] at x2 x3
            rw [e1, x2, x3]
            refine ⟨by simp only; omega, ?_⟩
            rw [if_pos]
            refine ⟨rfl, ?_⟩
            have h1 : ((r.drop k).take 1).length = 1 := by rw [List.length_take, List.length_drop]; omega
            simp only [List.length_append, h1]
            omega
          · have e1 : (c :: r).take (1 + k) = c :: (wrL (fls (hav c.toNat)) vs ++ []) := by
              rw [show 1 + k = k + 1 by omega, List.take_succ_cons, ← f2]
              simp
            have hb := rdL_back (fls (hav c.toNat)) hfit vs [] f1
            obtain ⟨_, x2, x3, _⟩ := D (wrL (fls (hav c.toNat)) vs ++ [])
            rw [hb] at x2 x3
            rw [e1, x2, x3]
            refine ⟨by simp only; omega, ?_⟩
            simp
        · rw [if_neg (fun h => hl h.2)] at c3
          refine ⟨fun h => absurd (c3.symm.trans h) (by decide), fun h => absurd c3 h⟩
      · have hE : dE (c :: r) = e := by rw [c3, if_neg (fun h => he h.1)]
        have hb := rdL_err (fls (hav c.toNat)) hfit r (by rw [hq]; exact he)
        have go : ∀ x k', (rdL (fls (hav c.toNat)) x).2 = k' → k'.2 ≠ 0 → dA (c :: x) = 1 + k'.1 ∧ dE (c :: x) = k'.2 := by
          intro x k' hx hx0
          obtain ⟨_, x2, x3, _⟩ := D x
          rw [hx] at x2 x3
          exact ⟨x2, by rw [x3, if_neg (fun h => hx0 h.1)]⟩
        unfold Bad at hb
        simp only [hq] at hb
        rw [c2, hE]
        rcases hb with ⟨b1, b2⟩ | ⟨b1, b2, b3, b4, b5⟩
        · refine ⟨fun _ => by rw [b2, List.length_cons]; omega, fun _ h => absurd b1 h⟩
        · refine ⟨fun h => absurd h b1, fun _ _ => ⟨by rw [List.length_cons]; omega, fun more => ?_, ?_⟩⟩
          · rw [show 1 + k + 1 = (k + 1) + 1 by omega, List.take_succ_cons, List.cons_append]
            exact go _ _ (b4 more) he
          · rw [show 1 + k = k + 1 by omega, List.take_succ_cons, if_neg b2]
            have := go _ _ b5 (by show (2 : Nat) ≠ 0; decide)
            exact ⟨by rw [this.1]; simp only; omega, this.2⟩
    · have D := fun x => dec_kind c x hc
      refine ⟨fun h => absurd ((D r).2.symm.trans h) (by decide), fun _ _ => ?_⟩
      rw [(D r).1, (D r).2]
      refine ⟨by simp, fun more => ?_, ?_⟩
      · rw [Nat.zero_add, List.take_succ_cons, List.cons_append]
        exact D _
      · rw [List.take_zero, if_neg (by decide)]
        exact dec_nil
end Go.Proofs.YtjgcodnabgkjoaaDoor
