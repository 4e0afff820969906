/-
  Plain mathematics of events as bytes: fields, what is written and what is read of each, and that the two fit; what is wrong, and what is cut off. Condition: numbers below 2^64.
-/
import Derived.Test.YtjgcodnabgkjoaaDoorDec
import Derived.Test.YtjgcodnabgkjoaaDoorEnc
import Derived.Test.YtjgcodnabgkjoaaDoorNumBack
namespace Go.Proofs.YtjgcodnabgkjoaaDoor
open Go.RowKit

inductive Fl where
  | num
  | idn (f : Bool)
  | txt
  | sml (b : Nat)
inductive Vl where
  | n (k : Nat)
  | t (s : List UInt8)

def rd1 : Fl → List UInt8 → Vl × Nat × Nat
  | .num, l => (.n (nuR l 0 0).1, (nuR l 0 0).2)
  | .idn f, l => (.n (idR f l 0 0).1, (idR f l 0 0).2)
  | .txt, l => (.t (txR l [] 0 0).1, (txR l [] 0 0).2)
  | .sml b, l => (.n (smR b l 0 0).1, (smR b l 0 0).2)
def wr1 : Fl → Vl → List UInt8
  | .num, .n k => leb k
  | .idn _, .n k => leb k
  | .txt, .t s => leb s.length ++ s
  | .sml b, .n k => smW b k
  | _, _ => []
def ok1 : Fl → Vl → Prop
  | .num, .n k => k < 18446744073709551616
  | .idn f, .n k => k < 18446744073709551616 ∧ (f = true ↔ k ≠ 0)
  | .txt, .t s => s.length ≤ 4096
  | .sml b, .n k => k < b
  | _, _ => False
def Fl.fits : Fl → Prop
  | .sml b => 0 < b ∧ b ≤ 1000
  | _ => True

/-- What is wrong: cut off, or wrong at a byte, whatever stands behind, and cut off without it. -/
def Bad (rd : List UInt8 → Nat × Nat) (l : List UInt8) : Prop :=
  ((rd l).2 = 2 ∧ (rd l).1 = l.length) ∨ ((rd l).2 ≠ 2 ∧ (rd l).2 ≠ 8 ∧ (rd l).1 < l.length ∧ (∀ more, rd (l.take ((rd l).1 + 1) ++ more) = rd l) ∧ rd (l.take (rd l).1) = ((rd l).1, 2))
structure FlLaw (f : Fl) : Prop where
  back : ∀ v more, ok1 f v → rd1 f (wr1 f v ++ more) = (v, (wr1 f v).length, 0)
  cut : ∀ v k, ok1 f v → k < (wr1 f v).length → (rd1 f ((wr1 f v).take k)).2 = (k, 2)
  fwd : ∀ l v k, rd1 f l = (v, k, 0) → ok1 f v ∧ wr1 f v = l.take k ∧ k ≤ l.length
  err : ∀ l, (rd1 f l).2.2 ≠ 0 → Bad (fun l => (rd1 f l).2) l

theorem nuR0 (l : List UInt8) : nuR l 0 0 = getS l := by simp [nuR]
theorem getS_err (l : List UInt8) (h : (getS l).2.2 ≠ 0) : Bad (fun l => (getS l).2) l := by
  obtain ⟨N, k, e, hr⟩ : ∃ N k e, getS l = (N, k, e) := ⟨_, _, _, rfl⟩
  have h3 := getF_err l 0 0
  rw [show getF l 0 0 = getS l from rfl, hr] at h3
  rw [hr] at h
  simp only at h3 h
  rcases h3 with h3 | h3 | h3
  · exact absurd h3 h
  · subst h3
    refine .inl ⟨by simp only [hr], ?_⟩
    have := getF_short l 0 0 k N hr
    simp only [hr]
    omega
  · subst h3
    obtain ⟨_, _, h4, h5, h6⟩ := getF_wrong l 0 0 k N hr
    simp only [Nat.sub_zero] at h4 h5 h6
    refine .inr ⟨by simp only [hr]; decide, by simp only [hr]; decide, by simp only [hr]; exact h4, fun more => ?_, ?_⟩
    · simp only [hr]
      rw [show getS (l.take (k + 1) ++ more) = _ from h5 more]
    · simp only [hr]
      rw [show getS (l.take k) = _ from h6]
theorem law_num : FlLaw .num where
  back := fun v more h => by
    match v, h with
    | .n k, h =>
      simp only [rd1, wr1, nuR0, getS_leb k more h]
  cut := fun v k h hk => by
    match v, h with
    | .n m, h =>
      simp only [rd1, wr1, nuR0] at hk ⊢
      rw [getS_cut m k h hk]
  fwd := fun l v k h => by
    simp only [rd1, nuR0] at h
    have h2 := getS_ok l
    obtain ⟨h3, h4⟩ := Prod.mk.inj h
    rw [h4] at h2
    obtain ⟨_, h5, h6⟩ := h2 rfl
    subst h3
    refine ⟨h6, ?_, h5⟩
    exact getS_back l _ k (Prod.ext rfl h4)
  err := fun l h => by
    have := getS_err l (by simpa only [rd1, nuR0] using h)
    have e : (fun l => (rd1 .num l).2) = fun l => (getS l).2 := by
      funext x
      simp only [rd1, nuR0]
    rw [e]
    exact this

/-- A number's first byte is 0 just if it is 0. -/
theorem leb_head (n : Nat) : ∃ c r, leb n = c :: r ∧ (c.toNat = 0 ↔ n = 0) := by
  by_cases h : n < 128
  · refine ⟨_, _, leb_lt h, ?_⟩
    rw [of_toNat _ (by omega)]
  · refine ⟨_, _, leb_ge (by omega), ?_⟩
    rw [of_toNat _ (by omega)]
    omega
theorem idR0 (f : Bool) (l : List UInt8) : idR f l 0 0 = if ckE l 0 0 (if f = true then 1 else 0) (if f = true then 255 else 0) ≠ 0 then (0, 0, ckE l 0 0 (if f = true then 1 else 0) (if f = true then 255 else 0)) else getS l := by
  unfold idR
  by_cases h : ckE l 0 0 (if f = true then 1 else 0) (if f = true then 255 else 0) ≠ 0
  · rw [if_pos h, nuR, if_pos h]
  · have h' : ckE l 0 0 (if f = true then 1 else 0) (if f = true then 255 else 0) = 0 := by simpa using h
    rw [if_neg h, h', nuR0]
theorem ck_cons (c : UInt8) (r : List UInt8) (lo hi : Nat) : ckE (c :: r) 0 0 lo hi = if c.toNat < lo ∨ hi < c.toNat then 3 else 0 := by
  rw [ckE, if_neg (by simp), if_neg (by simp)]
  rfl
theorem ck_nil (lo hi : Nat) : ckE [] 0 0 lo hi = 2 := by simp [ckE]
theorem id_nil (f : Bool) : idR f [] 0 0 = (0, 0, 2) := by rw [idR0, ck_nil, if_pos (by decide)]
theorem id_cons (f : Bool) (c : UInt8) (r : List UInt8) : idR f (c :: r) 0 0 = if (f = true ↔ c.toNat ≠ 0) then getS (c :: r) else (0, 0, 3) := by
  rw [idR0, ck_cons]
  have hc := c.toNat_lt
  cases f
  · by_cases h : c.toNat = 0
    · simp [h]
    · have : 0 < c.toNat := by omega
      simp [h, this]
  · by_cases h : c.toNat = 0
    · simp [h]
    · have h1 : ¬ (c.toNat < 1 ∨ 255 < c.toNat) := by omega
      simp [h]
      omega
theorem law_idn (f : Bool) : FlLaw (.idn f) where
  back := fun v more h => by
    match v, h with
    | .n k, h =>
      obtain ⟨c, r, hl, hc⟩ := leb_head k
      have e : idR f (leb k ++ more) 0 0 = getS (leb k ++ more) := by
        rw [hl, List.cons_append, id_cons, if_pos]
        rw [h.2]
        exact not_congr hc.symm
      simp only [rd1, wr1, e, getS_leb k more h.1]
  cut := fun v k h hk => by
    match v, h with
    | .n m, h =>
      simp only [rd1, wr1] at hk ⊢
      cases k with
      | zero => simp only [List.take_zero, id_nil]
      | succ k =>
        obtain ⟨c, r, hl, hc⟩ := leb_head m
        have e : idR f ((leb m).take (k + 1)) 0 0 = getS ((leb m).take (k + 1)) := by
          rw [hl, List.take_succ_cons, id_cons, if_pos]
          rw [h.2]
          exact not_congr hc.symm
        rw [e, getS_cut m (k + 1) h.1 hk]
  fwd := fun l v k h => by
    simp only [rd1] at h
    cases l with
    | nil =>
      rw [id_nil] at h
      exact absurd (Prod.mk.inj (Prod.mk.inj h).2).2 (by decide)
    | cons c r =>
      rw [id_cons] at h
      by_cases hf : f = true ↔ c.toNat ≠ 0
      · rw [if_pos hf] at h
        have h2 := getS_ok (c :: r)
        obtain ⟨h3, h4⟩ := Prod.mk.inj h
        rw [h4] at h2
        obtain ⟨h7, h5, h6⟩ := h2 rfl
        subst h3
        have hb := getS_back (c :: r) _ k (Prod.ext rfl h4)
        refine ⟨⟨h6, ?_⟩, hb, h5⟩
        obtain ⟨c', r', hl, hc⟩ := leb_head (getS (c :: r)).1
        rw [hl] at hb
        have e : c' = c := by
          obtain ⟨k', rfl⟩ : ∃ k', k = k' + 1 := ⟨k - 1, by omega⟩
          rw [List.take_succ_cons] at hb
          exact (List.cons.inj hb).1
        rw [hf]
        have e2 : c.toNat = 0 ↔ (getS (c :: r)).1 = 0 := by rw [← hc, e]
        exact not_congr e2
      · rw [if_neg hf] at h
        exact absurd (Prod.mk.inj (Prod.mk.inj h).2).2 (by decide)
  err := fun l h => by
    simp only [rd1] at h
    cases l with
    | nil =>
      refine .inl ?_
      simp only [rd1, id_nil]
      exact ⟨trivial, rfl⟩
    | cons c r =>
      by_cases hf : f = true ↔ c.toNat ≠ 0
      · have e : ∀ r', (rd1 (.idn f) (c :: r')).2 = (getS (c :: r')).2 := fun r' => by
          simp only [rd1]
          rw [id_cons, if_pos hf]
        rw [id_cons, if_pos hf] at h
        have hb := getS_err (c :: r) h
        unfold Bad at hb ⊢
        simp only [e]
        rcases hb with hb | ⟨b1, b2, b3, b4, b5⟩
        · exact .inl hb
        · refine .inr ⟨b1, b2, b3, fun more => ?_, ?_⟩
          · have := b4 more
            rw [List.take_succ_cons, List.cons_append] at this ⊢
            rw [e]
            exact this
          · obtain ⟨k, hk⟩ : ∃ k, (getS (c :: r)).2.1 = k := ⟨_, rfl⟩
            rw [hk] at b5 ⊢
            cases k with
            | zero =>
              simp only [List.take_zero, rd1, id_nil]
            | succ k =>
              rw [List.take_succ_cons] at b5 ⊢
              rw [e]
              exact b5
      · have e : ∀ r', (rd1 (.idn f) (c :: r')).2 = (0, 3) := fun r' => by
          simp only [rd1]
          rw [id_cons, if_neg hf]
        refine .inr ?_
        simp only [e]
        refine ⟨by decide, by decide, by simp, fun more => ?_, ?_⟩
        · rw [Nat.zero_add, List.take_succ_cons, List.cons_append, e]
        · simp only [List.take_zero, rd1, id_nil]

theorem txR0 (l : List UInt8) : txR l [] 0 0 = textS l 4096 := by simp [txR]
theorem above_4096 (n : Nat) : aboveB n 4096 = decide (4096 < n) := by
  simp only [aboveB]
  have : decide ((4096 : Int) < 0) = false := by decide
  rw [this, Bool.false_or]
  exact decide_eq_decide.2 (by omega)
theorem law_txt : FlLaw .txt where
  back := fun v more h => by
    match v, h with
    | .t s, h =>
      have h' : s.length ≤ 4096 := h
      simp only [rd1, wr1, txR0, textS_back s more 4096 (by omega) (by omega), List.length_append]
  cut := fun v k h hk => by
    match v, h with
    | .t s, h =>
      have h' : s.length ≤ 4096 := h
      simp only [rd1, wr1, txR0, List.length_append] at hk ⊢
      rw [textS_cut s k 4096 (by omega) (by omega) hk]
  fwd := fun l v k h => by
    simp only [rd1, txR0] at h
    have hpl := textS_place l 4096
    obtain ⟨N, m, e, hg⟩ : ∃ N m e, getS l = (N, m, e) := ⟨_, _, _, rfl⟩
    have hs : textS l 4096 = if e ≠ 0 then ([], m, e) else if aboveB N 4096 = true then ([], m - 1, 5) else if l.length - m < N then ([], l.length, 2) else ((l.drop m).take N, m + N, 0) := by
      unfold textS; rw [hg]
    obtain ⟨h3, h4⟩ := Prod.mk.inj h
    rw [h4] at hpl
    subst h3
    rw [hs] at h4 ⊢
    by_cases he : e ≠ 0
    · rw [if_pos he] at h4
      exact absurd (Prod.mk.inj h4).2 he
    · rw [if_neg he] at h4 ⊢
      have he0 : e = 0 := by omega
      subst he0
      by_cases ha : aboveB N 4096 = true
      · rw [if_pos ha] at h4
        exact absurd (Prod.mk.inj h4).2 (by decide)
      · rw [if_neg ha] at h4 ⊢
        by_cases hl : l.length - m < N
        · rw [if_pos hl] at h4
          exact absurd (Prod.mk.inj h4).2 (by decide)
        · rw [if_neg hl] at h4 ⊢
          have hk : m + N = k := (Prod.mk.inj h4).1
          have hok := getS_ok l
          rw [hg] at hok
          obtain ⟨o1, o2, o3⟩ := hok rfl
          simp only at o1 o2
          rw [above_4096] at ha
          have ha' : ¬ 4096 < N := by simpa using ha
          have hlen : ((l.drop m).take N).length = N := by
            rw [List.length_take, List.length_drop]
            omega
          refine ⟨?_, ?_, hpl.1⟩
          · show ((l.drop m).take N).length ≤ 4096
            omega
          · simp only [wr1]
            rw [hlen, getS_back l N m hg, ← hk, List.take_add]
  err := fun l h => by
    have e : (fun l => (rd1 .txt l).2) = fun l => (textS l 4096).2 := by
      funext x
      simp only [rd1, txR0]
    rw [e]
    simp only [rd1, txR0] at h
    obtain ⟨N, m, e, hg⟩ : ∃ N m e, getS l = (N, m, e) := ⟨_, _, _, rfl⟩
    have hs : textS l 4096 = if e ≠ 0 then ([], m, e) else if aboveB N 4096 = true then ([], m - 1, 5) else if l.length - m < N then ([], l.length, 2) else ((l.drop m).take N, m + N, 0) := by
      unfold textS; rw [hg]
    have hne : ∀ x, (getS x).2.2 ≠ 0 → (textS x 4096).2 = (getS x).2 := fun x hx => by
      unfold textS
      rw [if_pos hx]
    by_cases he : e ≠ 0
    · have hb := getS_err l (by rw [hg]; exact he)
      have e0 := hne l (by rw [hg]; exact he)
      unfold Bad at hb ⊢
      simp only [e0]
      rcases hb with hb | ⟨b1, b2, b3, b4, b5⟩
      · exact .inl hb
      · refine .inr ⟨b1, b2, b3, fun more => ?_, ?_⟩
        · have this : (getS (l.take ((getS l).2.1 + 1) ++ more)).2 = (getS l).2 := b4 more
          rw [hne _ (by rw [this, hg]; exact he)]
          exact this
        · have this : (getS (l.take (getS l).2.1)).2 = ((getS l).2.1, 2) := b5
          rw [hne _ (by rw [this]; show (2 : Nat) ≠ 0; decide)]
          exact this
    · have he0 : e = 0 := by omega
      subst he0
      rw [if_neg (by simp)] at hs
      have hok := getS_ok l
      rw [hg] at hok
      obtain ⟨o1, o2, o3⟩ := hok rfl
      simp only at o1 o2 o3
      have hbk := getS_back l N m hg
      have hlm : (leb N).length = m := by rw [hbk, List.length_take]; omega
      by_cases ha : aboveB N 4096 = true
      · rw [if_pos ha] at hs
        refine .inr ?_
        simp only [hs]
        refine ⟨by decide, by decide, by omega, fun more => ?_, ?_⟩
        · rw [show m - 1 + 1 = m by omega, ← hbk]
          unfold textS
          rw [getS_leb N more o3]
          simp only
          rw [if_neg (by simp), if_pos ha, hlm]
        · have e1 : l.take (m - 1) = (leb N).take (m - 1) := by
            rw [hbk, List.take_take]
            congr 1
            omega
          have := getS_cut N (m - 1) o3 (by omega)
          rw [e1, hne _ (by rw [this]; show (2 : Nat) ≠ 0; decide), this]
      · rw [if_neg ha] at hs
        by_cases hl : l.length - m < N
        · rw [if_pos hl] at hs
          refine .inl ?_
          simp only [hs]
          exact ⟨trivial, trivial⟩
        · rw [if_neg hl] at hs
          rw [hs] at h
          exact absurd rfl h

theorem ck_at1 (c : UInt8) (r : List UInt8) (lo hi : Nat) : ckE (c :: r) 1 0 lo hi = ckE r 0 0 lo hi := by
  unfold ckE
  simp only [ne_eq, not_true_eq_false, if_false]
  cases r with
  | nil => simp
  | cons d r => simp
theorem sm_nil (b : Nat) : smR b [] 0 0 = (0, 0, 2) := by
  unfold smR
  have h1 : ∀ hi, ckE [] 0 0 0 hi = 2 := fun hi => ck_nil 0 hi
  have h2 : ∀ a hi, ckE [] a 2 0 hi = 2 := fun a hi => by simp [ckE]
  split
  · simp [tkV, tkA, h1, h2]
  · simp [tkV, tkA, h1]
theorem sm_one (b : Nat) (hb : ¬ 256 < b) (c : UInt8) (r : List UInt8) : smR b (c :: r) 0 0 = if c.toNat ≤ b - 1 then (c.toNat, 1, 0) else (0, 0, 3) := by
  rw [smR, if_neg hb]
  by_cases h : c.toNat ≤ b - 1
  · have h1 : ckE (c :: r) 0 0 0 (b - 1) = 0 := by rw [ck_cons, if_neg (by omega)]
    rw [if_pos h]
    simp [tkV, tkA, h1]
  · have h1 : ckE (c :: r) 0 0 0 (b - 1) = 3 := by rw [ck_cons, if_pos (by omega)]
    rw [if_neg h]
    simp [tkV, tkA, h1]
theorem sm_two (b : Nat) (hb : 256 < b) (c : UInt8) (r : List UInt8) : smR b (c :: r) 0 0 =
    if c.toNat ≤ (b - 1) / 256 then (match r with
      | [] => (c.toNat * 256, 1, 2)
      | d :: _ => if d.toNat ≤ b - 1 - c.toNat * 256 then (c.toNat * 256 + d.toNat, 2, 0) else (c.toNat * 256, 1, 3)) else (0, 0, 3) := by
  rw [smR, if_pos hb]
  by_cases h : c.toNat ≤ (b - 1) / 256
  · have h1 : ckE (c :: r) 0 0 0 ((b - 1) / 256) = 0 := by rw [ck_cons, if_neg (by omega)]
    have hv : tkV (c :: r) 0 0 0 ((b - 1) / 256) = c.toNat := by rw [tkV, if_pos h1]; rfl
    have ha : tkA (c :: r) 0 0 0 ((b - 1) / 256) = 1 := by rw [tkA, if_pos h1]
    rw [if_pos h, h1, hv, ha]
    cases r with
    | nil =>
      have h2 : ckE [c] 1 0 0 (min 255 (b - 1 - c.toNat * 256)) = 2 := by rw [ck_at1, ck_nil]
      simp [tkV, tkA, h2]
    | cons d r =>
      have hd := d.toNat_lt
      simp only
      by_cases hdl : d.toNat ≤ b - 1 - c.toNat * 256
      · have h2 : ckE (c :: d :: r) 1 0 0 (min 255 (b - 1 - c.toNat * 256)) = 0 := by rw [ck_at1, ck_cons, if_neg (by omega)]
        rw [if_pos hdl]
        simp [tkV, tkA, h2]
      · have h2 : ckE (c :: d :: r) 1 0 0 (min 255 (b - 1 - c.toNat * 256)) = 3 := by rw [ck_at1, ck_cons, if_pos (by omega)]
        rw [if_neg hdl]
        simp [tkV, tkA, h2]
  · have h1 : ckE (c :: r) 0 0 0 ((b - 1) / 256) = 3 := by rw [ck_cons, if_pos (by omega)]
    have h2 : ∀ a hi, ckE (c :: r) a 3 0 hi = 3 := fun a hi => by simp [ckE]
    rw [if_neg h]
    simp [tkV, tkA, h1, h2]
theorem law_one (b : Nat) (hb0 : 0 < b) (hb : ¬ 256 < b) : FlLaw (.sml b) where
  back := fun v more h => by
    match v, h with
    | .n k, h =>
      have h' : k < b := h
      simp only [rd1, wr1, smW, if_neg hb, List.cons_append, List.nil_append]
      rw [sm_one b hb, of_toNat k (by omega), if_pos (by omega)]
      rfl
  cut := fun v k h hk => by
    match v, h with
    | .n m, h =>
      simp only [rd1, wr1, smW, if_neg hb, List.length_singleton] at hk ⊢
      obtain rfl : k = 0 := by omega
      simp only [List.take_zero, sm_nil]
  fwd := fun l v k h => by
    simp only [rd1] at h
    cases l with
    | nil =>
      rw [sm_nil] at h
      exact absurd (Prod.mk.inj (Prod.mk.inj h).2).2 (by decide)
    | cons c r =>
      rw [sm_one b hb] at h
      by_cases hc : c.toNat ≤ b - 1
      · rw [if_pos hc] at h
        obtain ⟨h3, h4⟩ := Prod.mk.inj h
        subst h3
        obtain rfl : 1 = k := (Prod.mk.inj h4).1
        refine ⟨by show c.toNat < b; omega, ?_, by simp⟩
        simp only [wr1, smW, if_neg hb]
        simp
      · rw [if_neg hc] at h
        exact absurd (Prod.mk.inj (Prod.mk.inj h).2).2 (by decide)
  err := fun l h => by
    cases l with
    | nil =>
      refine .inl ?_
      simp only [rd1, sm_nil]
      exact ⟨trivial, rfl⟩
    | cons c r =>
      by_cases hc : c.toNat ≤ b - 1
      · simp only [rd1] at h
        rw [sm_one b hb, if_pos hc] at h
        exact absurd rfl h
      · have e : ∀ r', (rd1 (.sml b) (c :: r')).2 = (0, 3) := fun r' => by
          simp only [rd1]
          rw [sm_one b hb, if_neg hc]
        refine .inr ?_
        simp only [e]
        refine ⟨by decide, by decide, by simp, fun more => ?_, ?_⟩
        · rw [Nat.zero_add, List.take_succ_cons, List.cons_append, e]
        · simp only [List.take_zero, rd1, sm_nil]
theorem law_two (b : Nat) (hb1 : b ≤ 1000) (hb : 256 < b) : FlLaw (.sml b) where
  back := fun v more h => by
    match v, h with
    | .n k, h =>
      have h' : k < b := h
      simp only [rd1, wr1, smW, if_pos hb, List.cons_append, List.nil_append]
      rw [sm_two b hb, of_toNat (k / 256) (by omega), if_pos (by omega)]
      simp only
      rw [of_toNat (k % 256) (by omega), if_pos (by omega), show k / 256 * 256 + k % 256 = k by omega]
      rfl
  cut := fun v k h hk => by
    match v, h with
    | .n m, h =>
      have h' : m < b := h
      simp only [rd1, wr1, smW, if_pos hb, List.length_cons, List.length_nil] at hk ⊢
      match k, hk with
      | 0, _ => simp only [List.take_zero, sm_nil]
      | 1, _ =>
        rw [show List.take 1 [UInt8.ofNat (m / 256), UInt8.ofNat (m % 256)] = [UInt8.ofNat (m / 256)] from rfl, sm_two b hb, of_toNat (m / 256) (by omega), if_pos (by omega)]
  fwd := fun l v k h => by
    simp only [rd1] at h
    cases l with
    | nil =>
      rw [sm_nil] at h
      exact absurd (Prod.mk.inj (Prod.mk.inj h).2).2 (by decide)
    | cons c r =>
      rw [sm_two b hb] at h
      by_cases hc : c.toNat ≤ (b - 1) / 256
      · rw [if_pos hc] at h
        cases r with
        | nil => exact absurd (Prod.mk.inj (Prod.mk.inj h).2).2 (by decide)
        | cons d r =>
          simp only at h
          by_cases hd : d.toNat ≤ b - 1 - c.toNat * 256
          · rw [if_pos hd] at h
            have hd256 := d.toNat_lt
            obtain ⟨h3, h4⟩ := Prod.mk.inj h
            subst h3
            obtain rfl : 2 = k := (Prod.mk.inj h4).1
            refine ⟨by show c.toNat * 256 + d.toNat < b; omega, ?_, by simp⟩
            simp only [wr1, smW, if_pos hb]
            rw [show (c.toNat * 256 + d.toNat) / 256 = c.toNat by omega, show (c.toNat * 256 + d.toNat) % 256 = d.toNat by omega]
            simp
          · rw [if_neg hd] at h
            exact absurd (Prod.mk.inj (Prod.mk.inj h).2).2 (by decide)
      · rw [if_neg hc] at h
        exact absurd (Prod.mk.inj (Prod.mk.inj h).2).2 (by decide)
  err := fun l h => by
    cases l with
    | nil =>
      refine .inl ?_
      simp only [rd1, sm_nil]
      exact ⟨trivial, rfl⟩
    | cons c r =>
      by_cases hc : c.toNat ≤ (b - 1) / 256
      · cases r with
        | nil =>
          refine .inl ?_
          simp only [rd1]
          rw [sm_two b hb, if_pos hc]
          exact ⟨rfl, rfl⟩
        | cons d r =>
          by_cases hd : d.toNat ≤ b - 1 - c.toNat * 256
          · simp only [rd1] at h
            rw [sm_two b hb, if_pos hc] at h
            simp only at h
            rw [if_pos hd] at h
            exact absurd rfl h
          · have e : ∀ r', (rd1 (.sml b) (c :: d :: r')).2 = (1, 3) := fun r' => by
              simp only [rd1]
              rw [sm_two b hb, if_pos hc]
              simp only
              rw [if_neg hd]
            refine .inr ?_
            simp only [e]
            refine ⟨by decide, by decide, by simp, fun more => ?_, ?_⟩
            · rw [show List.take (1 + 1) (c :: d :: r) = [c, d] from rfl]
              exact e _
            · rw [show List.take 1 (c :: d :: r) = [c] from rfl]
              simp only [rd1]
              rw [sm_two b hb, if_pos hc]
      · have e : ∀ r', (rd1 (.sml b) (c :: r')).2 = (0, 3) := fun r' => by
          simp only [rd1]
          rw [sm_two b hb, if_neg hc]
        refine .inr ?_
        simp only [e]
        refine ⟨by decide, by decide, by simp, fun more => ?_, ?_⟩
        · rw [Nat.zero_add, List.take_succ_cons, List.cons_append, e]
        · simp only [List.take_zero, rd1, sm_nil]
theorem law_of (f : Fl) (h : f.fits) : FlLaw f := by
  match f, h with
  | .num, _ => exact law_num
  | .idn b, _ => exact law_idn b
  | .txt, _ => exact law_txt
  | .sml b, h =>
    by_cases hb : 256 < b
    · exact law_two b h.2 hb
    · exact law_one b h.1 hb
end Go.Proofs.YtjgcodnabgkjoaaDoor
