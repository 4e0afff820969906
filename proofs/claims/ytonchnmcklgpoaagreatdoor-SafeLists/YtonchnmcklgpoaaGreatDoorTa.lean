/-
  The mathematics of headers' words: bytes of names, values, letters, methods, and the parts of a value. No program, no condition.
-/
import Derived.Test.YtonchnmcklgpoaaGreatDoorBa
import Derived.Lib.SlTrimSet
import Derived.Lib.IndexAny
namespace Go.Proofs.YtonchnmcklgpoaaGreatDoor
open Go.RowKit

/-- A letter, or a digit. -/
def aln (c : UInt8) : Bool := (decide (48 ≤ c.toNat) && decide (c.toNat ≤ 57)) || (decide (65 ≤ c.toNat) && decide (c.toNat ≤ 90)) || (decide (97 ≤ c.toNat) && decide (c.toNat ≤ 122))
/-- The signs that a name may have, in the program's order and in the document's. -/
def sg1 : List UInt8 := [33, 35, 36, 37, 38, 39, 42, 43, 45, 46, 94, 95, 124, 126, 96]
def sg2 : List UInt8 := [33, 35, 36, 37, 38, 39, 42, 43, 45, 46, 94, 95, 96, 124, 126]
/-- A byte that a name may have. -/
def inN (c : UInt8) : Bool := aln c || sg1.contains c
def nmb (l : List UInt8) : Bool := l.all inN && decide (l ≠ [])
def T4 : List UInt8 := [9, 10, 13, 32]
def G2 : List UInt8 := [9, 32]
def tr (l : List UInt8) : List UInt8 := Lib.trimS l T4
def tg (l : List UInt8) : List UInt8 := Lib.trimS l G2
def bar (c : UInt8) : Bool := c == 0 || c == 10 || c == 13
def vlu (l : List UInt8) : Bool := decide (tr l = l) && !l.any bar
def lwc (c : UInt8) : UInt8 := if 65 ≤ c.toNat ∧ c.toNat ≤ 90 then c + 32 else c
def upc (c : UInt8) : UInt8 := if 97 ≤ c.toNat ∧ c.toNat ≤ 122 then c - 32 else c
def low (l : List UInt8) : List UInt8 := l.map lwc
def upp (l : List UInt8) : List UInt8 := l.map upc
/-- The methods that are sent in large letters. -/
def mths : List (List UInt8) := [[68, 69, 76, 69, 84, 69], [71, 69, 84], [72, 69, 65, 68], [79, 80, 84, 73, 79, 78, 83], [80, 79, 83, 84], [80, 85, 84]]
def nevs : List (List UInt8) := [[67, 79, 78, 78, 69, 67, 84], [84, 82, 65, 67, 69], [84, 82, 65, 67, 75]]
/-- The first of the methods that is the text in large letters, or the text. -/
def mth : List (List UInt8) → List UInt8 → List UInt8
  | [], s => s
  | m :: r, s => if low m = low s then m else mth r s
def nev (s : List UInt8) : Bool := nevs.any fun m => decide (low m = low s)

theorem u8_all {P : UInt8 → Prop} (h : ∀ n : Fin 256, P (UInt8.ofNat n.1)) (c : UInt8) : P c := by
  have := h ⟨c.toNat, c.toNat_lt⟩
  simpa using this
theorem lwc_upc (c : UInt8) : lwc (upc c) = lwc c := by
  refine u8_all (P := fun c => lwc (upc c) = lwc c) ?_ c
  decide +kernel
theorem upc_lwc (c : UInt8) : upc (lwc c) = upc c := by
  refine u8_all (P := fun c => upc (lwc c) = upc c) ?_ c
  decide +kernel
theorem lwc_lwc (c : UInt8) : lwc (lwc c) = lwc c := by
  refine u8_all (P := fun c => lwc (lwc c) = lwc c) ?_ c
  decide +kernel
theorem low_upp (l : List UInt8) : low (upp l) = low l := by
  simp only [low, upp, List.map_map]
  exact List.map_congr_left fun c _ => lwc_upc c
theorem upp_low (l : List UInt8) : upp (low l) = upp l := by
  simp only [low, upp, List.map_map]
  exact List.map_congr_left fun c _ => upc_lwc c
theorem low_low (l : List UInt8) : low (low l) = low l := by
  simp only [low, List.map_map]
  exact List.map_congr_left fun c _ => lwc_lwc c
theorem low_length (l : List UInt8) : (low l).length = l.length := by simp [low]
/-- Alike but for small and large letters: alike in large letters. -/
theorem low_iff (a b : List UInt8) : low a = low b ↔ upp a = upp b :=
  ⟨fun h => by rw [← upp_low a, h, upp_low], fun h => by rw [← low_upp a, h, low_upp]⟩
theorem low_is (m s : List UInt8) (hm : upp m = m) : low m = low s ↔ upp s = m := by
  rw [low_iff, hm]
  exact eq_comm
theorem mths_upp : ∀ m ∈ mths, upp m = m := by decide
theorem nevs_upp : ∀ m ∈ nevs, upp m = m := by decide
theorem mth_low (L : List (List UInt8)) (s : List UInt8) : low (mth L s) = low s := by
  induction L with
  | nil => rfl
  | cons m r ih =>
    unfold mth
    by_cases h : low m = low s
    · rw [if_pos h, h]
    · rw [if_neg h, ih]
theorem mth_cong (L : List (List UInt8)) (s t : List UInt8) (h : low s = low t) (hin : ∃ m ∈ L, low m = low s) : mth L s = mth L t := by
  induction L with
  | nil => obtain ⟨_, hm, _⟩ := hin; cases hm
  | cons m r ih =>
    unfold mth
    rw [← h]
    by_cases hm : low m = low s
    · rw [if_pos hm, if_pos hm]
    · rw [if_neg hm, if_neg hm]
      obtain ⟨x, hx, e⟩ := hin
      rcases List.mem_cons.1 hx with rfl | hx
      · exact absurd e hm
      · exact ih ⟨x, hx, e⟩
theorem mth_none (L : List (List UInt8)) (s : List UInt8) (h : ¬ ∃ m ∈ L, low m = low s) : mth L s = s := by
  induction L with
  | nil => rfl
  | cons m r ih =>
    unfold mth
    rw [if_neg fun e => h ⟨m, List.mem_cons_self, e⟩]
    exact ih fun ⟨x, hx, e⟩ => h ⟨x, List.mem_cons_of_mem _ hx, e⟩
theorem mth_mth (L : List (List UInt8)) (s : List UInt8) : mth L (mth L s) = mth L s := by
  by_cases h : ∃ m ∈ L, low m = low s
  · exact (mth_cong L s (mth L s) (mth_low L s).symm h).symm
  · rw [mth_none L s h, mth_none L s h]
theorem nev_low (s : List UInt8) : nev (low s) = nev s := by
  unfold nev
  rw [low_low]

/-! Bytes at both ends. -/
theorem tS_at (l cs : List UInt8) (f t : Nat) (hft : f ≤ t) (htl : t ≤ l.length) (h1 : ∀ (j : Nat) b, j < f → l[j]? = some b → cs.contains b = true) (h2 : ∀ b, l[f]? = some b → cs.contains b = false)
    (h3 : ∀ (j : Nat) b, t ≤ j → l[j]? = some b → cs.contains b = true) (h4 : ∀ b, f < t → l[t - 1]? = some b → cs.contains b = false) : Lib.trimS l cs = (l.drop f).take (t - f) := by
  unfold Lib.trimS
  by_cases hf : f = l.length
  · have hz : Lib.trimRightS l cs = l.take 0 := Lib.trimRightS_take l cs 0 (Nat.zero_le _) (fun j b _ hb => h1 j b (by have := (List.getElem?_eq_some_iff.1 hb).1; omega) hb) (fun b hb => absurd hb (by omega))
    rw [hz, List.take_zero, Lib.trimLeftS_nil, List.drop_eq_nil_of_le (by omega), List.take_nil]
  · have hlt : f < l.length := by omega
    have hne : f < t := by
      rcases Nat.lt_or_ge f t with h | h
      · exact h
      · have hx := List.getElem?_eq_getElem hlt
        have a := h2 _ hx
        have b := h3 f _ (by omega) hx
        rw [a] at b
        exact absurd b (by simp)
    have hr : Lib.trimRightS l cs = l.take t := Lib.trimRightS_take l cs t htl h3 (fun b _ hb => h4 b hne hb)
    rw [hr, Lib.trimLeftS_drop (l.take t) cs f (by rw [List.length_take]; omega) (fun j b hj hb => h1 j b hj (by rwa [List.getElem?_take_of_lt (by omega)] at hb)) (fun b hb => h2 b (by rwa [List.getElem?_take_of_lt hne] at hb)), List.drop_take]
theorem tS_self (l cs : List UInt8) (h2 : ∀ b, l[0]? = some b → cs.contains b = false) (h4 : ∀ b, l[l.length - 1]? = some b → cs.contains b = false) : Lib.trimS l cs = l := by
  rw [tS_at l cs 0 l.length (Nat.zero_le _) (Nat.le_refl _) (fun j b hj => absurd hj (by omega)) h2 (fun j b hj hb => by have := (List.getElem?_eq_some_iff.1 hb).1; omega) (fun b _ hb => h4 b hb)]
  simp
theorem dW_head (p : UInt8 → Bool) : ∀ (l : List UInt8) (b : UInt8), (l.dropWhile p)[0]? = some b → p b = false := by
  intro l
  induction l with
  | nil => intro b hb; simp at hb
  | cons a r ih =>
    intro b hb
    by_cases h : p a = true
    · rw [List.dropWhile_cons_of_pos h] at hb
      exact ih b hb
    · rw [List.dropWhile_cons_of_neg h] at hb
      simp at hb
      subst hb
      simpa using h
theorem last_rev (l : List UInt8) : l[l.length - 1]? = l.reverse[0]? := by
  cases l with
  | nil => rfl
  | cons a r => rw [List.getElem?_reverse (by simp)]; simp
theorem tS_head (l cs : List UInt8) (b : UInt8) (h : (Lib.trimS l cs)[0]? = some b) : cs.contains b = false := dW_head (fun x => cs.contains x) _ b h
theorem dW_suffix (p : UInt8 → Bool) : ∀ l : List UInt8, ∃ k, l.dropWhile p = l.drop k := by
  intro l
  induction l with
  | nil => exact ⟨0, rfl⟩
  | cons a r ih =>
    by_cases h : p a = true
    · obtain ⟨k, hk⟩ := ih
      exact ⟨k + 1, by rw [List.dropWhile_cons_of_pos h, hk]; rfl⟩
    · exact ⟨0, by rw [List.dropWhile_cons_of_neg h]; rfl⟩
theorem tS_last (l cs : List UInt8) (b : UInt8) (h : (Lib.trimS l cs)[(Lib.trimS l cs).length - 1]? = some b) : cs.contains b = false := by
  unfold Lib.trimS Lib.trimLeftS at h
  obtain ⟨k, hk⟩ := dW_suffix (fun x => cs.contains x) (Lib.trimRightS l cs)
  rw [hk] at h
  have hlt := (List.getElem?_eq_some_iff.1 h).1
  rw [List.length_drop] at hlt h
  rw [List.getElem?_drop] at h
  have e : k + ((Lib.trimRightS l cs).length - k - 1) = (Lib.trimRightS l cs).length - 1 := by omega
  rw [e, last_rev] at h
  unfold Lib.trimRightS at h
  rw [List.reverse_reverse] at h
  exact dW_head (fun x => cs.contains x) _ b h
theorem tS_tS (l cs : List UInt8) : Lib.trimS (Lib.trimS l cs) cs = Lib.trimS l cs := tS_self _ _ (fun b h => tS_head l cs b h) (fun b h => tS_last l cs b h)
theorem tS_sub (l cs : List UInt8) : ∃ f n, Lib.trimS l cs = (l.drop f).take n := by
  unfold Lib.trimS Lib.trimLeftS Lib.trimRightS
  obtain ⟨k, hk⟩ := dW_suffix (fun x => cs.contains x) l.reverse
  obtain ⟨j, hj⟩ := dW_suffix (fun x => cs.contains x) (l.reverse.dropWhile (cs.contains ·)).reverse
  rw [hj, hk, List.reverse_drop, List.reverse_reverse, List.drop_take]
  exact ⟨_, _, rfl⟩
theorem tS_len (l cs : List UInt8) : (Lib.trimS l cs).length ≤ l.length := by
  obtain ⟨f, n, h⟩ := tS_sub l cs
  rw [h, List.length_take, List.length_drop]
  omega
theorem tS_mem (l cs : List UInt8) (x : UInt8) (h : x ∈ Lib.trimS l cs) : x ∈ l := by
  obtain ⟨f, n, e⟩ := tS_sub l cs
  rw [e] at h
  exact List.mem_of_mem_drop (List.mem_of_mem_take h)
theorem dW_all (p : UInt8 → Bool) (l m : List UInt8) (h : ∀ x ∈ l, p x = true) : (l ++ m).dropWhile p = m.dropWhile p := by
  induction l with
  | nil => rfl
  | cons a r ih =>
    rw [List.cons_append, List.dropWhile_cons_of_pos (h a List.mem_cons_self)]
    exact ih fun x hx => h x (List.mem_cons_of_mem _ hx)
theorem dW_app (p : UInt8 → Bool) (l m : List UInt8) (h : ∃ x ∈ l, p x = false) : (l ++ m).dropWhile p = l.dropWhile p ++ m := by
  induction l with
  | nil => obtain ⟨_, hx, _⟩ := h; cases hx
  | cons a r ih =>
    by_cases ha : p a = true
    · rw [List.cons_append, List.dropWhile_cons_of_pos ha, List.dropWhile_cons_of_pos ha]
      obtain ⟨x, hx, hp⟩ := h
      rcases List.mem_cons.1 hx with rfl | hx
      · rw [ha] at hp; cases hp
      · exact ih ⟨x, hx, hp⟩
    · rw [List.cons_append, List.dropWhile_cons_of_neg ha, List.dropWhile_cons_of_neg ha]
      rfl
theorem tS_app (a l b cs : List UInt8) (ha : ∀ x ∈ a, cs.contains x = true) (hb : ∀ x ∈ b, cs.contains x = true) : Lib.trimS (a ++ l ++ b) cs = Lib.trimS l cs := by
  unfold Lib.trimS Lib.trimLeftS Lib.trimRightS
  rw [List.reverse_append, dW_all _ _ _ (fun x hx => hb x (List.mem_reverse.1 hx)), List.reverse_append]
  by_cases h : ∃ x ∈ l.reverse, cs.contains x = false
  · rw [dW_app _ _ _ h, List.reverse_append, List.reverse_reverse, dW_all _ _ _ ha]
  · have hall : ∀ x ∈ l.reverse, cs.contains x = true := fun x hx => by
      cases e : cs.contains x
      · exact absurd ⟨x, hx, e⟩ h
      · rfl
    have z : (l.reverse.dropWhile (cs.contains ·)) = [] := by
      have := dW_all (cs.contains ·) l.reverse [] hall
      simpa using this
    have z2 : (a.reverse.dropWhile (cs.contains ·)) = [] := by
      have := dW_all (cs.contains ·) a.reverse [] (fun x hx => ha x (List.mem_reverse.1 hx))
      simpa using this
    rw [dW_all _ _ _ hall, z, z2]

/-! Names and values. -/
theorem inN_facts : ∀ c : UInt8, inN c = true → T4.contains c = false ∧ G2.contains c = false ∧ bar c = false ∧ c ≠ 34 ∧ c ≠ 44 ∧ c ≠ 92 ∧ inN (lwc c) = true := by
  intro c
  refine u8_all (P := fun c => inN c = true → T4.contains c = false ∧ G2.contains c = false ∧ bar c = false ∧ c ≠ 34 ∧ c ≠ 44 ∧ c ≠ 92 ∧ inN (lwc c) = true) ?_ c
  decide +kernel
theorem inN_lwc (c : UInt8) : inN (lwc c) = inN c := by
  refine u8_all (P := fun c => inN (lwc c) = inN c) ?_ c
  decide +kernel
theorem nmb_mem {l : List UInt8} (h : nmb l = true) : ∀ x ∈ l, inN x = true := by
  unfold nmb at h
  exact fun x hx => List.all_eq_true.1 ((Bool.and_eq_true _ _ ▸ h).1) x hx
theorem nmb_ne {l : List UInt8} (h : nmb l = true) : l ≠ [] := by
  unfold nmb at h
  exact of_decide_eq_true (Bool.and_eq_true _ _ ▸ h).2
theorem tS_none (l cs : List UInt8) (h : ∀ x ∈ l, cs.contains x = false) : Lib.trimS l cs = l :=
  tS_self l cs (fun b hb => h b (List.mem_of_getElem? hb)) (fun b hb => h b (List.mem_of_getElem? hb))
theorem nmb_tr {l : List UInt8} (h : nmb l = true) : tr l = l := tS_none l T4 fun x hx => (inN_facts x (nmb_mem h x hx)).1
theorem nmb_tg {l : List UInt8} (h : nmb l = true) : tg l = l := tS_none l G2 fun x hx => (inN_facts x (nmb_mem h x hx)).2.1
theorem nmb_vlu {l : List UInt8} (h : nmb l = true) : vlu l = true := by
  unfold vlu
  have hb : l.any bar = false := by
    rw [List.any_eq_false]
    exact fun x hx => by simp [(inN_facts x (nmb_mem h x hx)).2.2.1]
  simp [nmb_tr h, hb]
theorem nmb_low (l : List UInt8) : nmb (low l) = nmb l := by
  unfold nmb low
  rw [List.all_map]
  congr 1
  · congr 1
    funext c
    exact inN_lwc c
  · simp

/-! The parts of a value. -/
/-- What is read so far of a part, and the state: 0 outside of quotes, 1 inside, 2 behind a backslash inside. -/
def pt : List UInt8 → Nat → List UInt8 → List (List UInt8)
  | [], _, cur => [tg cur]
  | c :: r, 0, cur => if c = 34 then pt r 1 (cur ++ [c]) else if c = 44 then tg cur :: pt r 0 [] else pt r 0 (cur ++ [c])
  | c :: r, 1, cur => if c = 92 then pt r 2 (cur ++ [c]) else if c = 34 then pt r 0 (cur ++ [c]) else pt r 1 (cur ++ [c])
  | c :: r, _, cur => pt r 1 (cur ++ [c])
def prts (l : List UInt8) : List (List UInt8) := pt l 0 []
theorem pt_len : ∀ (l : List UInt8) (q : Nat) (cur : List UInt8), (pt l q cur).length ≤ l.length + 1
  | [], _, _ => by simp [pt]
  | c :: r, 0, cur => by
    have h1 := pt_len r 1 (cur ++ [c])
    have h2 := pt_len r 0 []
    have h3 := pt_len r 0 (cur ++ [c])
    simp only [pt, List.length_cons]
    split
    · omega
    · split
      · simp only [List.length_cons]; omega
      · omega
  | c :: r, 1, cur => by
    have h1 := pt_len r 2 (cur ++ [c])
    have h2 := pt_len r 0 (cur ++ [c])
    have h3 := pt_len r 1 (cur ++ [c])
    simp only [pt, List.length_cons]
    split
    · omega
    · split <;> omega
  | c :: r, q + 2, cur => by
    have h1 := pt_len r 1 (cur ++ [c])
    simp only [pt, List.length_cons]
    omega
/-- How far a program has read: k bytes, the part begins at st, and the parts ps stand. -/
def Pi (l : List UInt8) (k st : Nat) (q : Bool) (ps : List (List UInt8)) : Prop :=
  st ≤ l.length ∧ ((k ≤ l.length ∧ st ≤ k ∧ ps ++ pt (l.drop k) (if q then 1 else 0) ((l.drop st).take (k - st)) = prts l) ∨ (k = l.length + 1 ∧ ps ++ [tg (l.drop st)] = prts l))
theorem Pi.start (l : List UInt8) : Pi l 0 0 false [] := ⟨Nat.zero_le _, .inl ⟨Nat.zero_le _, Nat.le_refl _, by simp [prts]⟩⟩
theorem sub_one (l : List UInt8) (st k : Nat) (h : st ≤ k) (hk : k < l.length) : (l.drop st).take (k + 1 - st) = (l.drop st).take (k - st) ++ [l.getD k 0] := by
  rw [show k + 1 - st = (k - st) + 1 by omega, List.take_add_one, List.getElem?_drop, show st + (k - st) = k by omega, List.getD_eq_getElem?_getD, List.getElem?_eq_getElem hk]
  rfl
theorem drop_at (l : List UInt8) (k : Nat) (hk : k < l.length) : l.drop k = l.getD k 0 :: l.drop (k + 1) := by
  rw [List.drop_eq_getElem_cons hk, List.getD_eq_getElem?_getD, List.getElem?_eq_getElem hk]
  rfl
section
variable {l : List UInt8} {k st : Nat} {q : Bool} {ps : List (List UInt8)}
theorem Pi.at_ (h : Pi l k st q ps) (hk : k < l.length) : st ≤ k ∧ ps ++ pt (l.getD k 0 :: l.drop (k + 1)) (if q then 1 else 0) ((l.drop st).take (k - st)) = prts l := by
  rcases h.2 with ⟨_, h2, h3⟩ | ⟨h1, _⟩
  · exact ⟨h2, by rw [← drop_at l k hk]; exact h3⟩
  · omega
theorem Pi.le (h : Pi l k st q ps) : st ≤ l.length ∧ k ≤ l.length + 1 := ⟨h.1, by rcases h.2 with ⟨h1, _⟩ | ⟨h1, _⟩ <;> omega⟩
theorem Pi.quote (h : Pi l k st q ps) (hk : k < l.length) (hc : l.getD k 0 = 34) : Pi l (k + 1) st (!q) ps := by
  obtain ⟨h2, h3⟩ := h.at_ hk
  refine ⟨h.1, .inl ⟨by omega, by omega, ?_⟩⟩
  rw [sub_one l st k h2 hk, hc]
  rw [hc] at h3
  rw [← h3]
  cases q <;> simp [pt]
theorem Pi.esc (h : Pi l k st true ps) (hk : k < l.length) (hc : l.getD k 0 = 92) : Pi l (k + 2) st true ps := by
  obtain ⟨h2, h3⟩ := h.at_ hk
  rw [hc] at h3
  have e := sub_one l st k h2 hk
  rw [hc] at e
  by_cases hk1 : k + 1 < l.length
  · refine ⟨h.1, .inl ⟨by omega, by omega, ?_⟩⟩
    rw [show k + 2 = k + 1 + 1 by rfl, sub_one l st (k + 1) (by omega) hk1, e, ← h3, drop_at l (k + 1) hk1]
    simp [pt]
  · refine ⟨h.1, .inr ⟨by omega, ?_⟩⟩
    have e0 : l.drop (k + 1) = [] := List.drop_eq_nil_of_le (by omega)
    rw [← h3, e0]
    have : l.drop st = (l.drop st).take (k + 1 - st) := (List.take_of_length_le (by rw [List.length_drop]; omega)).symm
    obtain ⟨C, hC⟩ : ∃ C, C = (l.drop st).take (k - st) := ⟨_, rfl⟩
    rw [← hC] at e ⊢
    rw [this, e]
    simp [pt]
theorem Pi.comma (h : Pi l k st false ps) (hk : k < l.length) (hc : l.getD k 0 = 44) : Pi l (k + 1) (k + 1) false (ps ++ [tg ((l.drop st).take (k - st))]) := by
  obtain ⟨h2, h3⟩ := h.at_ hk
  refine ⟨by omega, .inl ⟨by omega, Nat.le_refl _, ?_⟩⟩
  rw [hc] at h3
  rw [← h3]
  simp [pt]
theorem Pi.other (h : Pi l k st q ps) (hk : k < l.length) (h1 : l.getD k 0 ≠ 34) (h2 : ¬ (l.getD k 0 = 92 ∧ q = true)) (h3 : ¬ (l.getD k 0 = 44 ∧ q = false)) : Pi l (k + 1) st q ps := by
  obtain ⟨h4, h5⟩ := h.at_ hk
  refine ⟨h.1, .inl ⟨by omega, by omega, ?_⟩⟩
  rw [sub_one l st k h4 hk]
  rw [← h5]
  obtain ⟨c, hc⟩ : ∃ c, c = l.getD k 0 := ⟨_, rfl⟩
  rw [← hc] at h1 h2 h3 ⊢
  cases q
  · have : c ≠ 44 := fun e => h3 ⟨e, rfl⟩
    simp [pt, h1, this]
  · have : c ≠ 92 := fun e => h2 ⟨e, rfl⟩
    simp [pt, h1, this]
theorem Pi.done (h : Pi l k st q ps) (hk : ¬ k < l.length) : ps ++ [tg (l.drop st)] = prts l := by
  rcases h.2 with ⟨h1, h2, h3⟩ | ⟨_, h3⟩
  · have e0 : l.drop k = [] := List.drop_eq_nil_of_le (by omega)
    rw [← h3, e0]
    have : (l.drop st).take (k - st) = l.drop st := List.take_of_length_le (by rw [List.length_drop]; omega)
    rw [this]
    cases q <;> simp [pt]
  · exact h3
end
end Go.Proofs.YtonchnmcklgpoaaGreatDoor
