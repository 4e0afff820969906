/-
  The mathematics of contents: what stands ahead of a byte and behind it, essences, the last that counts, parts without quotes. No program, no condition.
-/
import Derived.Test.YtonchnmcklgpoaaGreatDoorMa
namespace Go.Proofs.YtonchnmcklgpoaaGreatDoor
open Go.RowKit
set_option linter.unusedVariables false

/-- What stands ahead of the first c, and behind it. -/
def bef (c : UInt8) : List UInt8 → List UInt8
  | [] => []
  | x :: r => if x = c then [] else x :: bef c r
def aft (c : UInt8) : List UInt8 → List UInt8
  | [] => []
  | x :: r => if x = c then r else aft c r
theorem bef_none (c : UInt8) : ∀ l : List UInt8, c ∉ l → bef c l = l ∧ aft c l = []
  | [], _ => ⟨rfl, rfl⟩
  | x :: r, h => by
    have h1 : x ≠ c := fun e => h (by rw [e]; exact List.mem_cons_self)
    obtain ⟨h2, h3⟩ := bef_none c r fun e => h (List.mem_cons_of_mem _ e)
    simp [bef, aft, h1, h2, h3]
theorem bef_at (c : UInt8) : ∀ (l : List UInt8) (i : Nat), l[i]? = some c → (∀ k, k < i → l[k]? ≠ some c) → bef c l = l.take i ∧ aft c l = l.drop (i + 1)
  | [], _, h, _ => by simp at h
  | x :: r, 0, h, _ => by
    simp at h
    simp [bef, aft, h]
  | x :: r, i + 1, h, h2 => by
    have h1 : x ≠ c := fun e => h2 0 (by omega) (by simp [e])
    obtain ⟨h3, h4⟩ := bef_at c r i (by simpa using h) fun k hk e => h2 (k + 1) (by omega) (by simpa using e)
    simp [bef, aft, h1, h3, h4]
theorem bef_mid (c : UInt8) : ∀ (a b : List UInt8), c ∉ a → bef c (a ++ c :: b) = a ∧ aft c (a ++ c :: b) = b
  | [], b, _ => by simp [bef, aft]
  | x :: r, b, h => by
    have h1 : x ≠ c := fun e => h (by rw [e]; exact List.mem_cons_self)
    obtain ⟨h2, h3⟩ := bef_mid c r b fun e => h (List.mem_cons_of_mem _ e)
    simp [bef, aft, h1, h2, h3]
theorem bef_has (c : UInt8) : ∀ (a b : List UInt8), c ∈ a → bef c (a ++ b) = bef c a
  | [], b, h => by cases h
  | x :: r, b, h => by
    by_cases h1 : x = c
    · simp [bef, h1]
    · have h2 := bef_has c r b ((List.mem_cons.1 h).resolve_left fun e => h1 e.symm)
      simp [bef, h1, h2]
theorem bef_skip (c : UInt8) : ∀ (a b : List UInt8), c ∉ a → bef c (a ++ b) = a ++ bef c b
  | [], b, _ => rfl
  | x :: r, b, h => by
    have h1 : x ≠ c := fun e => h (by rw [e]; exact List.mem_cons_self)
    have h2 := bef_skip c r b fun e => h (List.mem_cons_of_mem _ e)
    simp [bef, h1, h2]
theorem bef_len (c : UInt8) : ∀ l : List UInt8, (bef c l).length ≤ l.length
  | [] => Nat.le_refl _
  | x :: r => by
    have := bef_len c r
    simp only [bef]
    split <;> simp <;> omega
theorem aft_len (c : UInt8) : ∀ l : List UInt8, (aft c l).length ≤ l.length
  | [] => Nat.le_refl _
  | x :: r => by
    have := aft_len c r
    simp only [aft]
    split <;> simp <;> omega
theorem bef_aft_len (c : UInt8) : ∀ l : List UInt8, (bef c l).length + (aft c l).length ≤ l.length
  | [] => Nat.le_refl _
  | x :: r => by
    have := bef_aft_len c r
    by_cases h : x = c
    · simp [bef, aft, h]
    · simp only [bef, aft, if_neg h, List.length_cons]
      omega
/-- The two sides of an essence. -/
def kd (l : List UInt8) : List UInt8 := bef 47 (tr (bef 59 l))
def sbt (l : List UInt8) : List UInt8 := aft 47 (tr (bef 59 l))
/-- Whether a text has an essence, and which. -/
def esB (l : List UInt8) : Bool := nmb (kd l) && nmb (sbt l)
def esS (l : List UInt8) : List UInt8 := if esB l then low (kd l) ++ [47] ++ low (sbt l) else []
theorem esS_no {l : List UInt8} (h : esB l = false) : esS l = [] := by simp [esS, h]
theorem esS_yes {l : List UInt8} (h : esB l = true) : esS l = low (kd l) ++ [47] ++ low (sbt l) := by simp [esS, h]
theorem kd_len (l : List UInt8) : (kd l).length ≤ l.length := Nat.le_trans (bef_len _ _) (Nat.le_trans (tS_len _ _) (bef_len _ _))
theorem sbt_len (l : List UInt8) : (sbt l).length ≤ l.length := Nat.le_trans (aft_len _ _) (Nat.le_trans (tS_len _ _) (bef_len _ _))
theorem es_len (l : List UInt8) : (kd l).length + (sbt l).length ≤ l.length := by
  have h1 := tS_len (bef 59 l) T4
  have h2 := bef_len 59 l
  show (bef 47 (tr (bef 59 l))).length + (aft 47 (tr (bef 59 l))).length ≤ _
  have h3 := bef_aft_len 47 (tr (bef 59 l))
  have h4 : (tr (bef 59 l)).length ≤ (bef 59 l).length := h1
  omega
theorem inN_no : inN 47 = false ∧ inN 59 = false ∧ inN 32 = false := by decide +kernel
theorem nmb_no {l : List UInt8} (h : nmb l = true) : 47 ∉ l ∧ 59 ∉ l := by
  refine ⟨fun e => ?_, fun e => ?_⟩
  · have := nmb_mem h _ e; rw [inN_no.1] at this; cases this
  · have := nmb_mem h _ e; rw [inN_no.2.1] at this; cases this
theorem nmb_bad {l : List UInt8} (x : UInt8) (hx : x ∈ l) (h : inN x = false) : nmb l = false := by
  cases e : nmb l
  · rfl
  · have := nmb_mem e x hx; rw [h] at this; cases this
theorem t4_47 : T4.contains 47 = false := by decide
theorem es_eq (l a b : List UInt8) (h : tr (bef 59 l) = a ++ [47] ++ b) (ha : nmb a = true) (hb : nmb b = true) : kd l = a ∧ sbt l = b ∧ esB l = true ∧ esS l = low a ++ [47] ++ low b := by
  have h1 : kd l = a := by
    rw [kd, h, List.append_assoc]
    exact (bef_mid 47 a b (nmb_no ha).1).1
  have h2 : sbt l = b := by
    rw [sbt, h, List.append_assoc]
    exact (bef_mid 47 a b (nmb_no ha).1).2
  have h3 : esB l = true := by rw [esB, h1, h2, ha, hb]; rfl
  exact ⟨h1, h2, h3, by rw [esS_yes h3, h1, h2]⟩
theorem tr_es (a b : List UInt8) (ha : nmb a = true) (hb : nmb b = true) : tr (a ++ [47] ++ b) = a ++ [47] ++ b := tS_none _ T4 fun x hx => by
  simp only [List.mem_append, List.mem_singleton] at hx
  rcases hx with (hx | rfl) | hx
  · exact (inN_facts x (nmb_mem ha x hx)).1
  · exact t4_47
  · exact (inN_facts x (nmb_mem hb x hx)).1
theorem no59 {a b : List UInt8} (ha : nmb a = true) (hb : nmb b = true) : (59 : UInt8) ∉ a ++ [47] ++ b := by
  simp only [List.mem_append, List.mem_singleton]
  rintro ((h | h) | h)
  · exact (nmb_no ha).2 h
  · cases h
  · exact (nmb_no hb).2 h
/-- With blanks around and anything behind a semicolon. -/
theorem es_wide (p a b q more : List UInt8) (ha : nmb a = true) (hb : nmb b = true) (hp : ∀ x ∈ p, T4.contains x = true) (hq : ∀ x ∈ q, T4.contains x = true) : esB (p ++ (a ++ [47] ++ b) ++ q ++ 59 :: more) = true ∧ esS (p ++ (a ++ [47] ++ b) ++ q ++ 59 :: more) = low a ++ [47] ++ low b := by
  have t59 : T4.contains 59 = false := by decide
  have h1 : (59 : UInt8) ∉ p ++ (a ++ [47] ++ b) ++ q := by
    intro h
    rcases List.mem_append.1 h with h | h
    · rcases List.mem_append.1 h with h | h
      · have := hp _ h; rw [t59] at this; cases this
      · exact no59 ha hb h
    · have := hq _ h; rw [t59] at this; cases this
  have h2 : tr (bef 59 (p ++ (a ++ [47] ++ b) ++ q ++ 59 :: more)) = a ++ [47] ++ b := by
    rw [(bef_mid 59 _ more h1).1]
    exact (tS_app p _ q T4 hp hq).trans (tr_es a b ha hb)
  exact (es_eq _ a b h2 ha hb).2.2
theorem es_plain (a b : List UInt8) (ha : nmb a = true) (hb : nmb b = true) : esB (a ++ [47] ++ b) = true ∧ esS (a ++ [47] ++ b) = low a ++ [47] ++ low b := by
  have h2 : tr (bef 59 (a ++ [47] ++ b)) = a ++ [47] ++ b := by
    rw [(bef_none 59 _ (no59 ha hb)).1]
    exact tr_es a b ha hb
  exact (es_eq _ a b h2 ha hb).2.2
theorem es_parts {l : List UInt8} (h : esB l = true) : ∃ a b, nmb a = true ∧ nmb b = true ∧ low a = a ∧ low b = b ∧ esS l = a ++ [47] ++ b := by
  have h1 := h
  rw [esB, Bool.and_eq_true] at h1
  exact ⟨low (kd l), low (sbt l), by rw [nmb_low]; exact h1.1, by rw [nmb_low]; exact h1.2, low_low _, low_low _, esS_yes h⟩
theorem esS_ne {l : List UInt8} (h : esB l = true) : esS l ≠ [] := by
  rw [esS_yes h]
  simp
theorem low_app (a b : List UInt8) : low (a ++ b) = low a ++ low b := by simp [low]
/-- An essence is its own. -/
theorem es_own {l : List UInt8} (h : esB l = true) : esB (esS l) = true ∧ esS (esS l) = esS l ∧ low (esS l) = esS l := by
  obtain ⟨a, b, ha, hb, la, lb, e⟩ := es_parts h
  obtain ⟨h1, h2⟩ := es_plain a b ha hb
  rw [e]
  refine ⟨h1, by rw [h2, la, lb], ?_⟩
  rw [low_app, low_app, la, lb]
  rfl
theorem es_around {l : List UInt8} (h : esB l = true) (more : List UInt8) : esB ([32, 9] ++ esS l ++ [32, 59] ++ more) = true ∧ esS ([32, 9] ++ esS l ++ [32, 59] ++ more) = esS l := by
  obtain ⟨a, b, ha, hb, la, lb, e⟩ := es_parts h
  have h1 := es_wide [32, 9] a b [32] more ha hb (by decide) (by decide)
  rw [show [32, 9] ++ (a ++ [47] ++ b) ++ [32] ++ 59 :: more = [32, 9] ++ esS l ++ [32, 59] ++ more by rw [e]; simp, la, lb, ← e] at h1
  exact h1
/-- Ends that are names. -/
theorem tr_ends (a m b : List UInt8) (ha : nmb a = true) (hb : nmb b = true) : tr (a ++ m ++ b) = a ++ m ++ b := by
  have na := nmb_ne ha
  have nb := nmb_ne hb
  refine tS_self _ _ (fun x hx => ?_) (fun x hx => ?_)
  · obtain ⟨y, r, rfl⟩ : ∃ y r, a = y :: r := by cases a with | nil => exact absurd rfl na | cons y r => exact ⟨y, r, rfl⟩
    simp at hx
    subst hx
    exact (inN_facts _ (nmb_mem ha _ List.mem_cons_self)).1
  · have hm : x ∈ b := by
      have : 0 < b.length := List.length_pos_iff.2 nb
      rw [List.getElem?_append_right (by simp; omega)] at hx
      exact List.mem_of_getElem? hx
    exact (inN_facts _ (nmb_mem hb _ hm)).1
theorem es_bad (a m b : List UInt8) (ha : nmb a = true) (hb : nmb b = true) (hm : (59 : UInt8) ∉ m) : kd (a ++ m ++ b) = bef 47 (a ++ m ++ b) ∧ sbt (a ++ m ++ b) = aft 47 (a ++ m ++ b) := by
  have h : (59 : UInt8) ∉ a ++ m ++ b := by
    simp only [List.mem_append]
    rintro ((h | h) | h)
    · exact (nmb_no ha).2 h
    · exact hm h
    · exact (nmb_no hb).2 h
  rw [kd, sbt, (bef_none 59 _ h).1, tr_ends a m b ha hb]
  exact ⟨rfl, rfl⟩
theorem es_ahead (a b : List UInt8) (ha : nmb a = true) (hb : nmb b = true) : esB (a ++ [32, 47] ++ b) = false := by
  have h1 := (es_bad a [32, 47] b ha hb (by decide)).1
  have n : (47 : UInt8) ∉ a ++ [32] := by
    simp only [List.mem_append, List.mem_singleton]
    rintro (h | h)
    · exact (nmb_no ha).1 h
    · cases h
  have h2 : bef 47 (a ++ [32, 47] ++ b) = a ++ [32] := by
    have := (bef_mid 47 (a ++ [32]) b n).1
    rwa [show a ++ [32] ++ 47 :: b = a ++ [32, 47] ++ b by simp] at this
  rw [esB, h1, h2, nmb_bad (l := a ++ [32]) 32 (by simp) inN_no.2.2]
  rfl
theorem es_behind (a b : List UInt8) (ha : nmb a = true) (hb : nmb b = true) : esB (a ++ [47, 32] ++ b) = false := by
  have h1 := (es_bad a [47, 32] b ha hb (by decide)).2
  have h2 : aft 47 (a ++ [47, 32] ++ b) = 32 :: b := by
    have := (bef_mid 47 a (32 :: b) (nmb_no ha).1).2
    rwa [show a ++ 47 :: 32 :: b = a ++ [47, 32] ++ b by simp] at this
  rw [esB, h1, h2, nmb_bad (l := 32 :: b) 32 (by simp) inN_no.2.2, Bool.and_false]
theorem es_again (a b : List UInt8) (ha : nmb a = true) (hb : nmb b = true) : esB (a ++ [47] ++ b ++ [47] ++ b) = false := by
  have h1 := (es_bad a ([47] ++ b ++ [47]) b ha hb (by
    simp only [List.mem_append, List.mem_singleton]
    rintro ((h | h) | h)
    · cases h
    · exact (nmb_no hb).2 h
    · cases h)).2
  rw [show a ++ ([47] ++ b ++ [47]) ++ b = a ++ [47] ++ b ++ [47] ++ b by simp] at h1
  have h2 : aft 47 (a ++ [47] ++ b ++ [47] ++ b) = b ++ [47] ++ b := by
    have := (bef_mid 47 a (b ++ [47] ++ b) (nmb_no ha).1).2
    rwa [show a ++ 47 :: (b ++ [47] ++ b) = a ++ [47] ++ b ++ [47] ++ b by simp] at this
  rw [esB, h1, h2, nmb_bad (l := b ++ [47] ++ b) 47 (by simp) inN_no.1, Bool.and_false]
theorem es_none (a b : List UInt8) (ha : nmb a = true) (hb : nmb b = true) : esB (a ++ b) = false := by
  have h1 := (es_bad a [] b ha hb (by simp)).2
  rw [List.append_nil] at h1
  have h2 : (47 : UInt8) ∉ a ++ b := by
    simp only [List.mem_append]
    rintro (h | h)
    · exact (nmb_no ha).1 h
    · exact (nmb_no hb).1 h
  rw [esB, h1, (bef_none 47 _ h2).2, show nmb [] = false from rfl, Bool.and_false]
/-- A part that counts. -/
def gd (p : List UInt8) : Bool := esB p && decide (esS p ≠ [42, 47, 42])
/-- Of parts the essence that counts, and whether there is one. -/
def ofS (L : List (List UInt8)) : List UInt8 := L.foldl (fun o p => if gd p then esS p else o) []
def ofB (L : List (List UInt8)) : Bool := L.any gd
theorem ofS_snoc (L : List (List UInt8)) (p : List UInt8) : ofS (L ++ [p]) = if gd p then esS p else ofS L := by simp [ofS]
theorem ofB_snoc (L : List (List UInt8)) (p : List UInt8) : ofB (L ++ [p]) = (ofB L || gd p) := by simp [ofB]
theorem ofS_app (L M : List (List UInt8)) (h : ∀ p ∈ M, gd p = false) : ofS (L ++ M) = ofS L ∧ ofB (L ++ M) = ofB L := by
  constructor
  · rw [ofS, List.foldl_append]
    show M.foldl _ (ofS L) = _
    generalize ofS L = o
    induction M generalizing o with
    | nil => rfl
    | cons p r ih =>
      rw [List.foldl_cons, h p List.mem_cons_self]
      exact ih (fun q hq => h q (List.mem_cons_of_mem _ hq)) o
  · rw [ofB, List.any_append, (List.any_eq_false (l := M)).2 (fun p hp => by rw [h p hp]; simp), Bool.or_false]
    rfl
theorem ofS_ne (L : List (List UInt8)) : decide (ofS L ≠ []) = ofB L := by
  refine rev_ind (P := fun L => decide (ofS L ≠ []) = ofB L) rfl (fun L p ih => ?_) L
  show decide (ofS (L ++ [p]) ≠ []) = ofB (L ++ [p])
  rw [ofS_snoc, ofB_snoc]
  cases hg : gd p
  · rw [Bool.or_false]; exact ih
  · have h1 : esB p = true := by rw [gd, Bool.and_eq_true] at hg; exact hg.1
    simp [esS_ne h1]
theorem ofS_all (L : List (List UInt8)) (h : ∀ p ∈ L, gd p = false) : ofS L = [] ∧ ofB L = false := by
  have := ofS_app [] L h
  rw [List.nil_append] at this
  exact this
/-- Seen from behind: the first that counts. -/
theorem of_back (L pre : List (List UInt8)) (p : List UInt8) (h : pre ++ [p] <+: L.reverse) (hn : ∀ q ∈ pre, gd q = false) (hp : gd p = true) : ofS L = esS p ∧ ofB L = true := by
  obtain ⟨t, ht⟩ := h
  have e : L = t.reverse ++ [p] ++ pre.reverse := by
    have := congrArg List.reverse ht
    rw [List.reverse_reverse] at this
    rw [← this]
    simp
  have h1 := ofS_app (t.reverse ++ [p]) pre.reverse fun q hq => hn q (List.mem_reverse.1 hq)
  rw [e, h1.1, h1.2, ofS_snoc, ofB_snoc, hp]
  simp
/-! Parts without quotes. -/
theorem pt_comma : ∀ (x y cur : List UInt8), (34 : UInt8) ∉ x → pt (x ++ 44 :: y) 0 cur = pt x 0 cur ++ pt y 0 []
  | [], y, cur, _ => by simp [pt]
  | c :: r, y, cur, h => by
    have h1 : c ≠ 34 := fun e => h (by rw [e]; exact List.mem_cons_self)
    have h2 : (34 : UInt8) ∉ r := fun e => h (List.mem_cons_of_mem _ e)
    rw [List.cons_append]
    by_cases h3 : c = 44
    · subst h3
      simp only [pt, if_true]
      rw [if_neg (by decide), if_neg (by decide), pt_comma r y [] h2]
      rfl
    · simp only [pt, if_neg h1, if_neg h3]
      exact pt_comma r y _ h2
theorem pt_one : ∀ (v cur : List UInt8), (34 : UInt8) ∉ v → (44 : UInt8) ∉ v → pt v 0 cur = [tg (cur ++ v)]
  | [], cur, _, _ => by simp [pt]
  | c :: r, cur, h, k => by
    have h1 : c ≠ 34 := fun e => h (by rw [e]; exact List.mem_cons_self)
    have k1 : c ≠ 44 := fun e => k (by rw [e]; exact List.mem_cons_self)
    simp only [pt, if_neg h1, if_neg k1]
    rw [pt_one r _ (fun e => h (List.mem_cons_of_mem _ e)) (fun e => k (List.mem_cons_of_mem _ e))]
    simp
theorem tg_blank (v : List UInt8) : tg (32 :: v) = tg v := by
  have := tS_app [32] v [] G2 (by decide) (by simp)
  rw [List.append_nil] at this
  exact this
theorem prts_snoc (x v : List UInt8) (hx : (34 : UInt8) ∉ x) (h : (34 : UInt8) ∉ v) (k : (44 : UInt8) ∉ v) : prts (x ++ ([44, 32] ++ v)) = prts x ++ [tg v] := by
  show pt (x ++ 44 :: 32 :: v) 0 [] = _
  rw [pt_comma x (32 :: v) [] hx, pt_one (32 :: v) [] (by simp [h]) (by simp [k]), List.nil_append, tg_blank]
  rfl
theorem jn_mem (L : List (List UInt8)) : ∀ y ∈ jn L, (∃ x ∈ L, y ∈ x) ∨ y = 44 ∨ y = 32 := by
  refine rev_ind (P := fun L => ∀ y ∈ jn L, (∃ x ∈ L, y ∈ x) ∨ y = 44 ∨ y = 32) (fun y h => by cases h) (fun L p ih => ?_) L
  intro y hy
  by_cases h : L = []
  · subst h
    rw [List.nil_append, jn_one] at hy
    exact .inl ⟨p, by simp, hy⟩
  · rw [jn_snoc L p h] at hy
    simp only [List.mem_append, List.mem_cons, List.not_mem_nil, or_false] at hy
    rcases hy with hy | (rfl | rfl) | hy
    · rcases ih y hy with ⟨x, h1, h2⟩ | h1
      · exact .inl ⟨x, List.mem_append_left _ h1, h2⟩
      · exact .inr h1
    · exact .inr (.inl rfl)
    · exact .inr (.inr rfl)
    · exact .inl ⟨p, by simp, hy⟩
/-- What is left of a text behind its blanks of 9 and 32. -/
theorem tg_parts (v : List UInt8) : ∃ p q, v = p ++ tg v ++ q ∧ (∀ x ∈ p, x ∈ G2) ∧ ∀ x ∈ q, x ∈ G2 := by
  have h1 : ∀ l : List UInt8, ∃ p, l = p ++ l.dropWhile (fun x => G2.contains x) ∧ ∀ x ∈ p, x ∈ G2 := by
    intro l
    refine ⟨l.takeWhile (fun x => G2.contains x), (List.takeWhile_append_dropWhile).symm, fun x hx => ?_⟩
    have := List.all_eq_true.1 (List.all_takeWhile (p := fun x => G2.contains x) (l := l)) x hx
    exact List.contains_iff_mem.1 this
  obtain ⟨q, hq, hq2⟩ := h1 v.reverse
  obtain ⟨p, hp, hp2⟩ := h1 (Lib.trimRightS v G2)
  refine ⟨p, q.reverse, ?_, hp2, fun x hx => hq2 x (List.mem_reverse.1 hx)⟩
  have e := congrArg List.reverse hq
  rw [List.reverse_reverse, List.reverse_append] at e
  show v = p ++ Lib.trimS v G2 ++ q.reverse
  unfold Lib.trimS Lib.trimLeftS
  rw [← hp]
  exact e
theorem tr_bef_tg (v : List UInt8) : tr (bef 59 (tg v)) = tr (bef 59 v) := by
  obtain ⟨p, q, e, hp, hq⟩ := tg_parts v
  have f : ∀ x, x ∈ G2 → T4.contains x = true ∧ x ≠ 59 := by decide +kernel
  have np : (59 : UInt8) ∉ p := fun h => (f _ (hp _ h)).2 rfl
  have nq : (59 : UInt8) ∉ q := fun h => (f _ (hq _ h)).2 rfl
  generalize tg v = m at e ⊢
  subst e
  rw [List.append_assoc, bef_skip 59 p _ np]
  by_cases h : (59 : UInt8) ∈ m
  · rw [bef_has 59 m q h]
    have := tS_app p (bef 59 m) [] T4 (fun x hx => (f x (hp x hx)).1) (by simp)
    rw [List.append_nil] at this
    exact this.symm
  · rw [bef_skip 59 m q h, (bef_none 59 q nq).1, (bef_none 59 m h).1, ← List.append_assoc]
    exact (tS_app p m q T4 (fun x hx => (f x (hp x hx)).1) (fun x hx => (f x (hq x hx)).1)).symm
theorem es_tg (v : List UInt8) : esB (tg v) = esB v ∧ esS (tg v) = esS v := by
  have h := tr_bef_tg v
  have h1 : kd (tg v) = kd v := by rw [kd, h]; rfl
  have h2 : sbt (tg v) = sbt v := by rw [sbt, h]; rfl
  have h3 : esB (tg v) = esB v := by rw [esB, esB, h1, h2]
  exact ⟨h3, by rw [esS, esS, h1, h2, h3]⟩
theorem gd_tg (v : List UInt8) : gd (tg v) = gd v := by rw [gd, gd, (es_tg v).1, (es_tg v).2]
/-- The name of the headers that tell of contents. -/
def ctn : List UInt8 := [99, 111, 110, 116, 101, 110, 116, 45, 116, 121, 112, 101]
end Go.Proofs.YtonchnmcklgpoaaGreatDoor
