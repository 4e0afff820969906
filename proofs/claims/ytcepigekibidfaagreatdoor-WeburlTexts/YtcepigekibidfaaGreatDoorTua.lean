/-
  Mathematics of the document's URLs: what it cleans, where its host ends; a bracket in the midst of a host spoils it. No program, no condition.
-/
import Derived.Test.YtcepigekibidfaaGreatDoorWpa
import Derived.Test.YtcepigekibidfaaGreatDoorRhl
import Derived.Test.YtcepigekibidfaaGreatDoorTrb
namespace Go.Proofs.YtcepigekibidfaaGreatDoor
open Go.RowKit

theorem rend_is (l : List UInt8) : ∀ (k t : Nat), t ≤ k → (∀ j, t ≤ j → j < k → lowc (l.getD j 0) = true) → (0 < t → lowc (l.getD (t - 1) 0) = false) → rend l k = t := by
  intro k
  induction k with
  | zero => intro t ht _ _; rw [rend]; omega
  | succ k ih =>
    intro t ht h1 h2
    rw [rend]
    by_cases he : t = k + 1
    · subst he
      have := h2 (by omega)
      rw [Nat.add_sub_cancel] at this
      rw [this]
      rfl
    · rw [h1 k (by omega) (by omega), if_pos rfl]
      exact ih t (by omega) (fun j a b => h1 j a (by omega)) h2
theorem dropWhile_is (p : UInt8 → Bool) : ∀ (l : List UInt8) (f : Nat), f ≤ l.length → (∀ j, j < f → p (l.getD j 0) = true) → (f < l.length → p (l.getD f 0) = false) → l.dropWhile p = l.drop f := by
  intro l
  induction l with
  | nil => intro f _ _ _; simp
  | cons a r ih =>
    intro f hf h1 h2
    cases f with
    | zero =>
      have : p a = false := h2 (by simp)
      rw [List.dropWhile_cons_of_neg (by simp [this])]
      rfl
    | succ f =>
      have : p a = true := h1 0 (by omega)
      rw [List.dropWhile_cons_of_pos this]
      exact ih f (by simpa using hf) (fun j hj => h1 (j + 1) (by omega)) (fun h => h2 (by simpa using h))
theorem trm_at (l : List UInt8) (f t : Nat) (hft : f ≤ t) (htl : t ≤ l.length) (h1 : ∀ j, j < f → lowc (l.getD j 0) = true) (h2 : f < l.length → lowc (l.getD f 0) = false) (h3 : ∀ j, t ≤ j → j < l.length → lowc (l.getD j 0) = true) (h4 : f < t → lowc (l.getD (t - 1) 0) = false) : trm l = (l.drop f).take (t - f) := by
  unfold trm trmL
  rw [dropWhile_is lowc l f (by omega) h1 h2]
  unfold trmR
  have g : ∀ j, (l.drop f).getD j 0 = l.getD (f + j) 0 := fun j => by rw [List.getD_eq_getElem?_getD, List.getElem?_drop, List.getD_eq_getElem?_getD]
  rw [rend_is (l.drop f) (l.drop f).length (t - f) (by rw [List.length_drop]; omega) (fun j a b => by
    rw [List.length_drop] at b
    rw [g]
    exact h3 (f + j) (by omega) (by omega)) (fun h => by
    rw [g, show f + (t - f - 1) = t - 1 by omega]
    exact h4 (by omega))]

theorem val_chars (b : Nat) (hb : b ≤ 16) : ∀ (l : List UInt8) (n m : Nat), val b n l = some m → ∀ c ∈ l, dig c < 16 := by
  intro l
  induction l with
  | nil => intro n m _ c hc; cases hc
  | cons a r ih =>
    intro n m h c hc
    rw [val] at h
    split at h
    · rename_i ha
      rcases List.mem_cons.1 hc with rfl | hc
      · omega
      · exact ih _ _ h c hc
    · cases h
theorem pc_chars (p : List UInt8) (n : Nat) (h : pc p = some n) : ∀ c ∈ p, dig c < 16 := by
  unfold pc at h
  split at h
  · cases h
  · exact val_chars 16 (by omega) p 0 n h
theorem fo_chars : ∀ (ps : List (List UInt8)) (k : Nat) (xs r : List Nat), fo k xs ps = some r → ∀ p ∈ ps, ∀ c ∈ p, dig c < 16 := by
  intro ps
  induction ps with
  | nil => intro k xs r _ p hp; cases hp
  | cons a t ih =>
    intro k xs r h p hp c hc
    rw [fo, Option.bind_eq_some_iff] at h
    obtain ⟨n, h1, h2⟩ := h
    rcases List.mem_cons.1 hp with rfl | hp
    · unfold oct at h1
      split at h1
      · cases h1
      · rw [Option.bind_eq_some_iff] at h1
        obtain ⟨m, h3, _⟩ := h1
        exact val_chars 10 (by omega) p 0 m h3 c hc
    · exact ih _ _ _ h2 p hp c hc
theorem spl_cover (ch : UInt8) : ∀ (l : List UInt8) (c : UInt8), c ∈ l → c = ch ∨ ∃ p ∈ spl ch l, c ∈ p := by
  intro l
  induction l with
  | nil => intro c hc; cases hc
  | cons a r ih =>
    intro c hc
    rw [spl]
    split
    · rename_i ha
      rcases List.mem_cons.1 hc with rfl | hc
      · exact .inl ha
      · rcases ih c hc with h | ⟨p, hp, h⟩
        · exact .inl h
        · exact .inr ⟨p, List.mem_cons_of_mem _ hp, h⟩
    · obtain ⟨x, t, hx⟩ := spl_form ch r
      rw [hx]
      rcases List.mem_cons.1 hc with rfl | hc
      · exact .inr ⟨c :: x, by simp, by simp⟩
      · rcases ih c hc with h | ⟨p, hp, h⟩
        · exact .inl h
        · rw [hx] at hp
          rcases List.mem_cons.1 hp with rfl | hp
          · exact .inr ⟨a :: p, by simp, List.mem_cons_of_mem _ h⟩
          · exact .inr ⟨p, by simp [hp], h⟩
theorem four_chars (l : List UInt8) (r : List Nat) (h : four l = some r) : ∀ c ∈ l, dig c < 16 ∨ c = 46 := by
  unfold four at h
  split at h
  · intro c hc
    rcases spl_cover 46 l c hc with h2 | ⟨p, hp, h2⟩
    · exact .inr h2
    · exact .inl (fo_chars _ _ _ _ h p hp c h2)
  · cases h
theorem pcl_chars (e : Bool) : ∀ (ps : List (List UInt8)) (r : List Nat), pcl e ps = some r → ∀ p ∈ ps, ∀ c ∈ p, dig c < 16 ∨ c = 46 := by
  intro ps
  induction ps with
  | nil => intro r _ p hp; cases hp
  | cons a t ih =>
    intro r h p hp c hc
    cases t with
    | nil =>
      rw [List.mem_singleton] at hp
      subst hp
      rw [pcl] at h
      split at h
      · exact four_chars p r h c hc
      · rw [Option.map_eq_some_iff] at h
        obtain ⟨n, h1, _⟩ := h
        exact .inl (pc_chars p n h1 c hc)
    | cons q t =>
      rw [pcl, Option.bind_eq_some_iff] at h
      obtain ⟨n, h1, h2⟩ := h
      rw [Option.map_eq_some_iff] at h2
      obtain ⟨s, h3, _⟩ := h2
      rcases List.mem_cons.1 hp with rfl | hp
      · exact .inl (pc_chars p n h1 c hc)
      · exact ih s h3 p hp c hc
theorem pcs_chars (e : Bool) (l : List UInt8) (r : List Nat) (h : pcs e l = some r) : ∀ c ∈ l, dig c < 16 ∨ c = 46 ∨ c = 58 := by
  intro c hc
  unfold pcs at h
  split at h
  · rename_i hl
    rw [hl] at hc
    cases hc
  · rcases spl_cover 58 l c hc with h2 | ⟨p, hp, h2⟩
    · exact .inr (.inr h2)
    · rcases pcl_chars e _ r h p hp c h2 with h3 | h3
      · exact .inl h3
      · exact .inr (.inl h3)
theorem fc_cut : ∀ (l : List UInt8) (j : Nat), fc l = some j → l = l.take j ++ 58 :: 58 :: l.drop (j + 2)
  | a :: b :: r, j, h => by
    rw [fc] at h
    split at h
    · rename_i hab
      obtain ⟨rfl, rfl⟩ := hab
      cases h
      rfl
    · rw [Option.map_eq_some_iff] at h
      obtain ⟨i, h1, rfl⟩ := h
      have := fc_cut (b :: r) i h1
      rw [List.take_succ_cons, List.cons_append, show i + 1 + 2 = (i + 2) + 1 by omega, List.drop_succ_cons, ← this]
  | [], j, h => by cases h
  | [a], j, h => by cases h
theorem ip6_chars (l : List UInt8) (r : List Nat) (h : ip6 l = some r) : ∀ c ∈ l, dig c < 16 ∨ c = 46 ∨ c = 58 := by
  intro c hc
  unfold ip6 at h
  rw [Option.bind_eq_some_iff] at h
  obtain ⟨f, h1, h2⟩ := h
  rw [Option.bind_eq_some_iff] at h2
  obtain ⟨b, h3, _⟩ := h2
  cases hf : fc l with
  | none =>
    rw [cut_no l hf] at h1
    exact pcs_chars _ _ _ h1 c hc
  | some j =>
    rw [cut_yes l j hf] at h1 h3
    rw [fc_cut l j hf] at hc
    rcases List.mem_append.1 hc with hc | hc
    · exact pcs_chars _ _ _ h1 c hc
    · rcases List.mem_cons.1 hc with rfl | hc
      · exact .inr (.inr rfl)
      · rcases List.mem_cons.1 hc with rfl | hc
        · exact .inr (.inr rfl)
        · exact pcs_chars _ _ _ h3 c hc
theorem dec_has (c : UInt8) (h37 : c ≠ 37) (hd : dig c = 16) : ∀ (n : Nat) (l : List UInt8), l.length ≤ n → c ∈ l → c ∈ dec l := by
  intro n
  induction n with
  | zero => intro l hl hc; have : l = [] := List.eq_nil_of_length_eq_zero (by omega); subst this; cases hc
  | succ n ih =>
    intro l hl hc
    cases l with
    | nil => cases hc
    | cons a r =>
      have hr : r.length ≤ n := by simpa using hl
      by_cases ha : a = 37
      · subst ha
        have hc' : c ∈ r := by
          rcases List.mem_cons.1 hc with h | h
          · exact absurd h h37
          · exact h
        match r, hr, hc' with
        | [], _, hc' => cases hc'
        | [x], hr, hc' => rw [dec_short]; exact List.mem_cons_of_mem _ (ih [x] (by simpa using hr) hc')
        | x :: y :: t, hr, hc' =>
          cases hp : pair x y with
          | none => rw [dec_nopair x y t hp]; exact List.mem_cons_of_mem _ (ih _ hr hc')
          | some v =>
            rw [dec_pair x y v t hp]
            unfold pair at hp
            split at hp
            · rename_i hxy
              rcases List.mem_cons.1 hc' with rfl | hc'
              · omega
              · rcases List.mem_cons.1 hc' with rfl | hc'
                · omega
                · exact List.mem_cons_of_mem _ (ih t (by simp at hr; omega) hc')
            · cases hp
      · rw [dec_other a r ha]
        rcases List.mem_cons.1 hc with rfl | hc
        · exact List.mem_cons_self
        · exact List.mem_cons_of_mem _ (ih r hr hc)
theorem brk_bad (x : UInt8) (y : List UInt8) (h : (91 : UInt8) ∈ y) : (prs (x :: y)).2 = true := by
  unfold prs
  by_cases hx : Lib.hasPrefix (x :: y) [91] = true
  · rw [if_pos hx]
    unfold prb
    rw [show (x :: y).drop 1 = y from rfl]
    split
    · have hm : (91 : UInt8) ∈ Lib.trimSuffix y [93] := by
        rename_i hs
        unfold Lib.trimSuffix
        rw [if_pos hs]
        unfold Lib.hasSuffix at hs
        obtain ⟨z, hz⟩ := List.isSuffixOf_iff_suffix.1 hs
        rw [← hz] at h ⊢
        rcases List.mem_append.1 h with h | h
        · simpa using h
        · exact absurd h (by decide)
      cases hi : ip6 (Lib.trimSuffix y [93]) with
      | none => rfl
      | some a =>
        have := ip6_chars _ a hi 91 hm
        exact absurd this (by decide)
    · rfl
  · rw [if_neg hx]
    have hd : (91 : UInt8) ∈ dec (x :: y) := dec_has 91 (by decide) (by decide) _ _ (Nat.le_refl _) (List.mem_cons_of_mem _ h)
    have hm : may (dec (x :: y)) = false := by
      unfold may
      have : (dec (x :: y)).all okc = false := by
        rw [List.all_eq_false]
        exact ⟨91, hd, by decide⟩
      rw [this]
      rfl
    unfold nam
    rw [hm]
    rfl

/-- How far the document looks, and whether it is still within brackets. -/
def sc : Bool → List UInt8 → Nat × Bool
  | w, [] => (0, w)
  | w, c :: r => if w = false ∧ c = 58 then (0, w) else ((sc (w && c != 93) r).1 + 1, (sc (w && c != 93) r).2)
def atd (a : List UInt8) : Nat := if (sc (decide (a.head? = some 91)) a).2 then (bef 58 a).length else (sc (decide (a.head? = some 91)) a).1
theorem sc_out : ∀ r : List UInt8, sc false r = ((bef 58 r).length, false) := by
  intro r
  induction r with
  | nil => rfl
  | cons c r ih =>
    rw [sc]
    by_cases h : c = 58
    · subst h
      rw [if_pos ⟨rfl, rfl⟩]
      simp [bef]
    · rw [if_neg (fun e => h e.2), Bool.false_and, ih]
      simp [bef, h]
theorem sc_in : ∀ t : List UInt8, (93 : UInt8) ∉ t → (sc true t).2 = true := by
  intro t
  induction t with
  | nil => intro _; rfl
  | cons c r ih =>
    intro h
    rw [sc, if_neg (fun e => by cases e.1)]
    have hc : (c != 93) = true := by simpa using fun e : c = 93 => h (by rw [e]; exact List.mem_cons_self)
    rw [hc]
    exact ih fun hm => h (List.mem_cons_of_mem _ hm)
theorem sc_over (r : List UInt8) : ∀ m : List UInt8, (93 : UInt8) ∉ m → sc true (m ++ 93 :: r) = (m.length + 1 + (bef 58 r).length, false) := by
  intro m
  induction m with
  | nil =>
    intro _
    rw [List.nil_append, sc, if_neg (fun e => by cases e.1)]
    show ((sc false r).1 + 1, (sc false r).2) = _
    rw [sc_out]
    simp [Nat.add_comm]
  | cons c m ih =>
    intro h
    have hc : (c != 93) = true := by simpa using fun e : c = 93 => h (by rw [e]; exact List.mem_cons_self)
    rw [List.cons_append, sc, if_neg (fun e => by cases e.1), hc]
    show ((sc true (m ++ 93 :: r)).1 + 1, (sc true (m ++ 93 :: r)).2) = _
    rw [ih fun hm => h (List.mem_cons_of_mem _ hm)]
    simp
    omega
/-- Without a bracket ahead of the first colon, that is where the host ends. -/
theorem colp_plain : ∀ r : List UInt8, (91 : UInt8) ∉ bef 58 r → col false r = if r.contains 58 then some (bef 58 r).length else none := by
  intro r
  induction r with
  | nil => intro _; rfl
  | cons c r ih =>
    intro h
    rw [col]
    by_cases h58 : c = 58
    · subst h58
      simp [bef]
    · rw [if_neg h58]
      have e : bef 58 (c :: r) = c :: bef 58 r := by simp [bef, h58]
      rw [e] at h ⊢
      have h91 : c ≠ 91 := fun e => h (by rw [e]; exact List.mem_cons_self)
      rw [if_neg (fun e => h91 e.1), ih fun hm => h (List.mem_cons_of_mem _ hm)]
      have hcc : (c :: r).contains 58 = r.contains 58 := by
        rw [List.contains_cons]
        have : ((58 : UInt8) == c) = false := by simpa using fun e : 58 = c => h58 e.symm
        rw [this, Bool.false_or]
      rw [hcc]
      cases r.contains 58 <;> simp
theorem colp_brk : ∀ (r : List UInt8) (k : Nat), (91 : UInt8) ∈ bef 58 r → col false r = some k → (91 : UInt8) ∈ r.take k := by
  intro r
  induction r with
  | nil => intro k h _; cases h
  | cons c r ih =>
    intro k h hk
    rw [col] at hk
    by_cases h58 : c = 58
    · subst h58
      simp [bef] at h
    · rw [if_neg h58] at hk
      have e : bef 58 (c :: r) = c :: bef 58 r := by simp [bef, h58]
      rw [e] at h
      split at hk
      · rename_i h91
        rw [Option.map_eq_some_iff] at hk
        obtain ⟨i, _, rfl⟩ := hk
        rw [h91.1]
        simp
      · rw [Option.map_eq_some_iff] at hk
        obtain ⟨i, hi, rfl⟩ := hk
        rw [List.take_succ_cons]
        rcases List.mem_cons.1 h with h | h
        · rw [h]; exact List.mem_cons_self
        · exact List.mem_cons_of_mem _ (ih i h hi)
theorem bef_drop (r : List UInt8) : r.contains 58 = false → (bef 58 r).length = r.length := fun h => by
  rw [bef_none 58 r (by simpa using h)]
/-- The document's place, against the program's: the same, or no host either way. -/
theorem cpt_atd (a : List UInt8) : cpt a = (a.take (atd a), a.drop (atd a + 1)) ∨ ((prs (a.take (atd a))).2 = true ∧ (prs (cpt a).1).2 = true) := by
  have key : ∀ (x : List UInt8) (r : List UInt8), (91 : UInt8) ∉ bef 58 r → (cpt a = match (col false r).map (· + x.length) with | some k => (a.take k, a.drop (k + 1)) | none => (a, [])) → a.length = x.length + r.length → cpt a = (a.take (x.length + (bef 58 r).length), a.drop (x.length + (bef 58 r).length + 1)) := by
    intro x r h hc hl
    rw [hc, colp_plain r h]
    cases h58 : r.contains 58
    · have := bef_drop r h58
      rw [this, ← hl]
      simp
    · simp [Nat.add_comm]
  cases a with
  | nil => exact .inl rfl
  | cons x t =>
    by_cases hx : x = 91
    · subst hx
      have hh : decide ((91 :: t : List UInt8).head? = some 91) = true := by simp
      have hs1 : sc true (91 :: t) = ((sc true t).1 + 1, (sc true t).2) := by rw [sc, if_neg (fun e => by cases e.1)]; rfl
      by_cases h93 : (93 : UInt8) ∈ t
      · obtain ⟨m, r, rfl, hm93⟩ : ∃ m r, t = m ++ 93 :: r ∧ (93 : UInt8) ∉ m := ⟨bef 93 t, aft 93 t, bef_aft 93 t h93, bef_not 93 t⟩
        have hb : bef 93 (m ++ 93 :: r) = m := bef_app 93 r m hm93
        have hdr : (m ++ 93 :: r).drop (m.length + 1) = r := by simp
        have hat : atd (91 :: (m ++ 93 :: r)) = m.length + 2 + (bef 58 r).length := by
          unfold atd
          rw [hh, hs1, sc_over _ _ hm93]
          simp
          omega
        have hcol : col false (91 :: (m ++ 93 :: r)) = (col false r).map (· + (m.length + 2)) := by
          rw [col_jump (m ++ 93 :: r) (by simp), hb, hdr]
        have hx : (91 :: (m ++ [93]) : List UInt8).length = m.length + 2 := by simp
        have htk : ∀ k, (91 :: (m ++ 93 :: r)).take (m.length + 2 + k) = 91 :: (m ++ 93 :: r.take k) := fun k => by
          rw [show m.length + 2 + k = (m.length + (k + 1)) + 1 by omega, List.take_succ_cons, List.take_length_add_append, List.take_succ_cons]
        by_cases h91 : (91 : UInt8) ∈ bef 58 r
        · refine .inr ⟨?_, ?_⟩
          · rw [hat, htk, bef_take]
            exact brk_bad _ _ (by simp [h91])
          · unfold cpt
            rw [hcol]
            cases hk : col false r with
            | none => exact brk_bad _ _ (by simp [bef_mem 58 _ _ h91])
            | some k =>
              show (prs ((91 :: (m ++ 93 :: r)).take (k + (m.length + 2)))).2 = true
              rw [Nat.add_comm k, htk]
              exact brk_bad _ _ (by simp [colp_brk r k h91 hk])
        · left
          have := key (91 :: (m ++ [93])) r h91 (by unfold cpt; rw [hcol, hx]; cases col false r <;> rfl) (by simp; omega)
          rw [this, hat, hx]
      · have hat : atd (91 :: t) = (bef 58 t).length + 1 := by
          unfold atd
          rw [hh, hs1]
          show (if (sc true t).2 = true then _ else _) = _
          rw [sc_in t h93, if_pos rfl]
          simp [bef]
        have hcol : col false (91 :: t) = (col false t).map (· + 1) := by
          rw [col, if_neg (by decide), if_neg (fun e => h93 (by simpa using e.2))]
        by_cases h91 : (91 : UInt8) ∈ bef 58 t
        · refine .inr ⟨?_, ?_⟩
          · rw [hat, List.take_succ_cons, bef_take]
            exact brk_bad _ _ h91
          · unfold cpt
            rw [hcol]
            cases hk : col false t with
            | none => exact brk_bad _ _ (bef_mem 58 _ _ h91)
            | some k => exact brk_bad _ _ (colp_brk _ k h91 hk)
        · left
          have := key [91] t h91 (by unfold cpt; rw [hcol]; rfl) (by simp [Nat.add_comm])
          rw [this, hat]
          simp [Nat.add_comm]
    · have hh : decide ((x :: t : List UInt8).head? = some 91) = false := by simpa using hx
      have hat : atd (x :: t) = (bef 58 (x :: t)).length := by
        unfold atd
        rw [hh, sc_out]
        rfl
      by_cases h91 : (91 : UInt8) ∈ bef 58 (x :: t)
      · have hx58 : x ≠ 58 := fun e => by subst e; simp [bef] at h91
        have e : bef 58 (x :: t) = x :: bef 58 t := by simp [bef, hx58]
        have h91t : (91 : UInt8) ∈ bef 58 t := by
          rw [e] at h91
          rcases List.mem_cons.1 h91 with h | h
          · exact absurd h.symm hx
          · exact h
        refine .inr ⟨?_, ?_⟩
        · rw [hat, bef_take, e]
          exact brk_bad _ _ h91t
        · unfold cpt
          cases hk : col false (x :: t) with
          | none => exact brk_bad _ _ (bef_mem 58 _ _ h91t)
          | some k =>
            have h1 := colp_brk _ k h91 hk
            cases k with
            | zero => cases h1
            | succ k =>
              rw [List.take_succ_cons] at h1
              show (prs ((x :: t).take (k + 1))).2 = true
              rw [List.take_succ_cons]
              refine brk_bad _ _ ?_
              rcases List.mem_cons.1 h1 with h | h
              · exact absurd h.symm hx
              · exact h
      · left
        have := key [] (x :: t) h91 (by unfold cpt; cases col false (x :: t) <;> rfl) (by simp)
        rw [this, hat]
        simp
/-- A special URL as the document tells it. -/
theorem psp_doc (sch : List UInt8) (p : Int) (b q f : List UInt8) : psp sch p b q f = if (bef 47 b).contains 64 then none else
    match prtN ((bef 47 b).drop (atd (bef 47 b) + 1)) p with
    | none => none
    | some n => if (prs ((bef 47 b).take (atd (bef 47 b)))).2 then none else some ⟨sch, (prs ((bef 47 b).take (atd (bef 47 b)))).1, n, pth (aft 47 b), q, f⟩ := by
  unfold psp
  cases hc : (bef 47 b).contains 64 with
  | true => rfl
  | false =>
    simp only [Bool.false_eq_true, if_false]
    rcases cpt_atd (bef 47 b) with h | ⟨h1, h2⟩
    · rw [h]
      cases he : (prs ((bef 47 b).take (atd (bef 47 b)))).2 with
      | true =>
        simp only [if_true]
        cases prtN ((bef 47 b).drop (atd (bef 47 b) + 1)) p <;> rfl
      | false =>
        simp only [Bool.false_eq_true, if_false]
        try rfl
    · rw [h1, h2]
      simp only [if_true]
      cases prtN ((bef 47 b).drop (atd (bef 47 b) + 1)) p <;> rfl
theorem atd_le (a : List UInt8) : atd a ≤ a.length := by
  have hs : ∀ (r : List UInt8) (w : Bool), (sc w r).1 ≤ r.length := by
    intro r
    induction r with
    | nil => intro w; exact Nat.le_refl _
    | cons c r ih =>
      intro w
      rw [sc]
      split
      · exact Nat.zero_le _
      · have := ih (w && c != 93)
        simp only [List.length_cons]
        omega
  unfold atd
  split
  · exact bef_len 58 a
  · exact hs _ _
end Go.Proofs.YtcepigekibidfaaGreatDoor
