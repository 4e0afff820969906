/-
  More mathematics of bytes with a percent sign: what is encoded stays so, and is decoded as it was. No program, no condition.
-/
import Derived.Test.YtkiafileelcknaaPlain
namespace Go.Proofs.Ytkiafileelcknaa

/-- Neither the percent sign nor a digit to base sixteen is in the set. -/
def Safe (p : UInt8 → Bool) : Prop := p 37 = false ∧ ∀ c, dig c < 16 → p c = false
theorem all_u8 {P : UInt8 → Prop} (h : ∀ m, m < 256 → P (UInt8.ofNat m)) (c : UInt8) : P c := by
  have := h c.toNat c.toNat_lt
  simpa using this
theorem safe_bytes : ∀ m, m < 256 → ∀ n : Nat, n < 6 → (dig (UInt8.ofNat m) < 16 ∨ m = 37) → inS (n : Int) (UInt8.ofNat m) = false := by decide +kernel
theorem safe_inS (n : Int) : Safe (inS n) := by
  by_cases h : n < 1 ∨ 5 < n
  · rw [inS_out n h]
    exact ⟨rfl, fun _ _ => rfl⟩
  · obtain ⟨k, rfl⟩ := Int.eq_ofNat_of_zero_le (show 0 ≤ n by omega)
    have h1 : ∀ c : UInt8, (dig c < 16 ∨ c.toNat = 37) → inS (k : Int) c = false := fun c hc => by
      have := safe_bytes c.toNat c.toNat_lt k (by omega)
      simp only [UInt8.ofNat_toNat] at this
      exact this hc
    exact ⟨h1 37 (Or.inr rfl), fun c hc => h1 c (Or.inl hc)⟩

theorem hex_dig : ∀ k, k < 16 → dig (hex k) = k := by decide +kernel
theorem hex_ne : ∀ k, k < 16 → hex k ≠ 37 := by decide +kernel
theorem pair_hex (c : UInt8) : pair (hex (c.toNat / 16)) (hex (c.toNat % 16)) = some c := by
  have h1 : c.toNat < 256 := c.toNat_lt
  unfold pair
  rw [hex_dig _ (by omega), hex_dig _ (by omega), if_pos ⟨by omega, by omega⟩]
  congr 1
  rw [show c.toNat / 16 * 16 + c.toNat % 16 = c.toNat by omega]
  simp
theorem pair_none_l {b : UInt8} (c : UInt8) (h : ¬ dig b < 16) : pair b c = none := by
  unfold pair
  rw [if_neg (fun k => h k.1)]
theorem pair_none_r (b : UInt8) {c : UInt8} (h : ¬ dig c < 16) : pair b c = none := by
  unfold pair
  rw [if_neg (fun k => h k.2)]
theorem pair_some {b c v : UInt8} (h : pair b c = some v) : dig b < 16 ∧ dig c < 16 := by
  unfold pair at h
  split at h
  · assumption
  · cases h
theorem pair_none {b c : UInt8} (h : pair b c = none) : ¬ dig b < 16 ∨ ¬ dig c < 16 := by
  unfold pair at h
  split at h
  · cases h
  · omega
theorem dig37 : ¬ dig 37 < 16 := by decide

theorem enc1_free {p : UInt8 → Bool} (hp : Safe p) (c : UInt8) : ∀ x ∈ enc1 p c, p x = false := by
  intro x hx
  have h1 : c.toNat < 256 := c.toNat_lt
  unfold enc1 at hx
  split at hx
  · simp only [List.mem_cons, List.not_mem_nil, or_false] at hx
    rcases hx with rfl | rfl | rfl
    · exact hp.1
    · exact hp.2 _ (by rw [hex_dig _ (by omega)]; omega)
    · exact hp.2 _ (by rw [hex_dig _ (by omega)]; omega)
  · rename_i h
    simp only [List.mem_cons, List.not_mem_nil, or_false] at hx
    subst hx
    simpa using h
theorem enc_free {p : UInt8 → Bool} (hp : Safe p) (l : List UInt8) : ∀ x ∈ enc p l, p x = false := by
  intro x hx
  simp only [enc, List.mem_flatMap] at hx
  obtain ⟨c, _, hc⟩ := hx
  exact enc1_free hp c x hc
theorem enc_id {p : UInt8 → Bool} (l : List UInt8) (h : ∀ x ∈ l, p x = false) : enc p l = l := by
  induction l with
  | nil => rfl
  | cons c l ih =>
    rw [enc_cons, ih (fun x hx => h x (List.mem_cons_of_mem _ hx)), enc1, if_neg (by rw [h c (List.mem_cons_self)]; simp)]
    rfl
theorem enc_enc {p : UInt8 → Bool} (hp : Safe p) (l : List UInt8) : enc p (enc p l) = enc p l := enc_id _ (enc_free hp l)

/-- A list that does not begin with two digits, behind a percent sign. -/
theorem dec_sign (l : List UInt8) (h : ∀ b c r, l = b :: c :: r → pair b c = none) : dec (37 :: l) = 37 :: dec l := by
  match l, h with
  | [], _ => rfl
  | [b], _ => rfl
  | b :: c :: r, h => exact dec_nopair b c r (h b c r rfl)

theorem dec_enc {p : UInt8 → Bool} (hp : Safe p) : ∀ (n : Nat) (l : List UInt8), l.length ≤ n → dec (enc p l) = dec l := by
  intro n
  induction n with
  | zero =>
    intro l h
    have : l = [] := List.eq_nil_of_length_eq_zero (by omega)
    subst this
    rfl
  | succ n ih =>
    intro l h
    match l, h with
    | [], _ => rfl
    | a :: t, h =>
      have ht : t.length ≤ n := by simpa using h
      rw [enc_cons]
      by_cases ha : a = 37
      · subst ha
        have e1 : enc1 p 37 = [37] := by rw [enc1, if_neg (by rw [hp.1]; simp)]
        rw [e1, List.singleton_append]
        match t, ht with
        | [], _ => rfl
        | [b], ht =>
          have h2 : enc p [b] = enc1 p b := by rw [enc_cons, enc_nil, List.append_nil]
          rw [show dec [37, b] = 37 :: dec [b] from rfl, ← ih [b] (by simpa using ht), h2]
          refine dec_sign _ fun x y r hxy => ?_
          unfold enc1 at hxy
          split at hxy
          · injection hxy with h3 h4
            subst h3
            exact pair_none_l _ dig37
          · simp at hxy
        | b :: c :: r, ht =>
          by_cases hbc : dig b < 16 ∧ dig c < 16
          · have e2 : enc1 p b = [b] := by rw [enc1, if_neg (by rw [hp.2 b hbc.1]; simp)]
            have e3 : enc1 p c = [c] := by rw [enc1, if_neg (by rw [hp.2 c hbc.2]; simp)]
            obtain ⟨v, hv⟩ : ∃ v, pair b c = some v := ⟨_, by unfold pair; rw [if_pos hbc]⟩
            rw [enc_cons, enc_cons, e2, e3]
            show dec (37 :: b :: c :: enc p r) = _
            rw [dec_pair b c v _ hv, dec_pair b c v _ hv, ih r (by simp at ht; omega)]
          · have hn : pair b c = none := by unfold pair; rw [if_neg hbc]
            rw [dec_nopair b c r hn, ← ih (b :: c :: r) ht]
            refine dec_sign _ fun x y s hxy => ?_
            rw [enc_cons, enc_cons] at hxy
            by_cases hb : dig b < 16
            · have hc : ¬ dig c < 16 := fun hc => hbc ⟨hb, hc⟩
              have e2 : enc1 p b = [b] := by rw [enc1, if_neg (by rw [hp.2 b hb]; simp)]
              rw [e2, List.singleton_append] at hxy
              injection hxy with h3 h4
              unfold enc1 at h4
              split at h4
              · injection h4 with h5 h6
                subst h5
                exact pair_none_r _ dig37
              · injection h4 with h5 h6
                subst h5
                exact pair_none_r _ hc
            · unfold enc1 at hxy
              split at hxy
              · injection hxy with h3 h4
                subst h3
                exact pair_none_l _ dig37
              · injection hxy with h3 h4
                subst h3
                exact pair_none_l _ hb
      · by_cases hpa : p a = true
        · rw [enc1, if_pos hpa]
          show dec (37 :: hex _ :: hex _ :: enc p t) = _
          rw [dec_pair _ _ a _ (pair_hex a), dec_other a t ha, ih t ht]
        · rw [enc1, if_neg hpa, List.singleton_append, dec_other _ _ ha, dec_other _ _ ha, ih t ht]

theorem dec_plain (l : List UInt8) (h : ∀ x ∈ l, x ≠ 37) : dec l = l := by
  induction l with
  | nil => rfl
  | cons a l ih => rw [dec_other _ _ (h a (List.mem_cons_self)), ih (fun x hx => h x (List.mem_cons_of_mem _ hx))]

theorem dec_less : ∀ (n : Nat) (l : List UInt8), l.length ≤ n → ∃ j, l.length = (dec l).length + 2 * j ∧ j ≤ l.count 37 := by
  intro n
  induction n with
  | zero =>
    intro l h
    have : l = [] := List.eq_nil_of_length_eq_zero (by omega)
    subst this
    exact ⟨0, rfl, Nat.zero_le _⟩
  | succ n ih =>
    intro l h
    match l, h with
    | [], _ => exact ⟨0, rfl, Nat.zero_le _⟩
    | [a], _ => exact ⟨0, rfl, Nat.zero_le _⟩
    | [a, b], _ => exact ⟨0, rfl, Nat.zero_le _⟩
    | a :: b :: c :: r, h =>
      obtain ⟨j, h1, h2⟩ := ih (b :: c :: r) (by simpa using h)
      have h3 := List.count_cons (a := 37) (b := a) (l := b :: c :: r)
      by_cases ha : a = 37
      · subst ha
        cases hp : pair b c with
        | none =>
          rw [dec_nopair b c r hp]
          exact ⟨j, by simp at h1 ⊢; omega, by rw [h3]; simp; omega⟩
        | some v =>
          rw [dec_pair b c v r hp]
          obtain ⟨i, h4, h5⟩ := ih r (by simp at h; omega)
          have h6 := List.count_cons (a := 37) (b := b) (l := c :: r)
          have h7 := List.count_cons (a := 37) (b := c) (l := r)
          refine ⟨i + 1, by simp; omega, ?_⟩
          rw [h3, h6, h7]
          simp
          omega
      · rw [dec_other _ _ ha]
        exact ⟨j, by simp at h1 ⊢; omega, by rw [h3]; simp [ha]; omega⟩
theorem dec_none (l : List UInt8) (h : l.count 37 = 0) : dec l = l := dec_plain l fun x hx e => by
  subst e
  have := List.count_pos_iff.2 hx
  omega

/-- Percent signs written as %25. -/
def pct1 (c : UInt8) : List UInt8 := if c = 37 then [37, 50, 53] else [c]
def pct (l : List UInt8) : List UInt8 := l.flatMap pct1
theorem pct_cons (c : UInt8) (l : List UInt8) : pct (c :: l) = pct1 c ++ pct l := by simp [pct]
theorem pct_take_succ (l : List UInt8) (k : Nat) (h : k < l.length) : pct (l.take (k + 1)) = pct (l.take k) ++ pct1 (l.getD k 0) := by
  rw [List.take_succ_eq_append_getElem h, pct, pct, List.flatMap_append]
  simp [List.getD, List.getElem?_eq_getElem h]
theorem pct_len (l : List UInt8) : (pct l).length ≤ 3 * l.length := by
  induction l with
  | nil => simp [pct]
  | cons c l ih =>
    have : (pct1 c).length ≤ 3 := by unfold pct1; split <;> simp
    rw [pct_cons, List.length_append, List.length_cons]
    omega
theorem dec_pct (l : List UInt8) : dec (pct l) = l := by
  induction l with
  | nil => rfl
  | cons c l ih =>
    rw [pct_cons]
    by_cases h : c = 37
    · subst h
      rw [pct1, if_pos rfl]
      show dec (37 :: 50 :: 53 :: pct l) = _
      rw [dec_pair 50 53 37 _ (by decide), ih]
    · rw [pct1, if_neg h, List.singleton_append, dec_other _ _ h, ih]

/-- Does a text end within a percent sign? -/
def opn (l : List UInt8) : Bool := (l.drop (l.length - 2)).any (· == 37)
theorem opn_cons3 (a b c : UInt8) (r : List UInt8) : opn (a :: b :: c :: r) = opn (b :: c :: r) := by
  unfold opn
  congr 1
theorem dec_join (m : List UInt8) : ∀ (n : Nat) (l : List UInt8), l.length ≤ n → opn l = false → dec (l ++ m) = dec l ++ dec m := by
  intro n
  induction n with
  | zero =>
    intro l h _
    have : l = [] := List.eq_nil_of_length_eq_zero (by omega)
    subst this
    rfl
  | succ n ih =>
    intro l h ho
    match l, h, ho with
    | [], _, _ => rfl
    | [a], _, ho =>
      have ha : a ≠ 37 := by simpa [opn] using ho
      rw [List.singleton_append, dec_other _ _ ha]
      try rfl
    | [a, b], _, ho =>
      have hab : a ≠ 37 ∧ b ≠ 37 := by simpa [opn] using ho
      show dec (a :: b :: m) = _
      rw [dec_other _ _ hab.1, dec_other _ _ hab.2]
      rfl
    | a :: b :: c :: r, h, ho =>
      rw [opn_cons3] at ho
      have h1 : dec (b :: c :: (r ++ m)) = dec (b :: c :: r) ++ dec m := ih (b :: c :: r) (by simpa using h) ho
      show dec (a :: b :: c :: (r ++ m)) = _
      by_cases ha : a = 37
      · subst ha
        cases hp : pair b c with
        | none => rw [dec_nopair _ _ _ hp, dec_nopair _ _ _ hp, h1]; rfl
        | some v =>
          rw [dec_pair _ _ v _ hp, dec_pair _ _ v _ hp]
          have ho2 : opn r = false := by
            match r, ho with
            | [], _ => rfl
            | [x], ho => simp only [opn] at ho ⊢; simp at ho ⊢; exact ho.2
            | x :: y :: s, ho => rw [opn_cons3, opn_cons3] at ho; exact ho
          rw [ih r (by simp at h; omega) ho2]
          rfl
      · rw [dec_other _ _ ha, dec_other _ _ ha, h1]
        rfl
end Go.Proofs.Ytkiafileelcknaa
