/-
  A text cut at a byte, a byte replaced by another one, dots that are written in three ways: the mathematics, and what the library's cuts and replacements are in these words. No program, no condition.
  A text without the bytes up to 20 (to base sixteen) at its ends: the mathematics, and that the library's way of trimming, rune by rune, is that. No program, no condition.
-/
import Derived.Lib.ReplaceLaws
import Derived.Lib.ParseIntB
import Derived.Lib.ItoaNum
import Derived.Lib.Join
import Derived.Shelf.GgClosure.StringsTrimFunc
import Derived.Lib.TrimUEq
namespace Go.Proofs.YtcepigekibidfaaGreatDoor

/-- Ahead of the first such byte (all, if there is none), and behind it. -/
def bef (c : UInt8) : List UInt8 → List UInt8
  | [] => []
  | a :: r => if a = c then [] else a :: bef c r
def aft (c : UInt8) : List UInt8 → List UInt8
  | [] => []
  | a :: r => if a = c then r else aft c r

theorem bef_len (c : UInt8) : ∀ l : List UInt8, (bef c l).length ≤ l.length
  | [] => Nat.le_refl _
  | a :: r => by
    have := bef_len c r
    rw [bef]
    split
    · simp
    · simp; omega
theorem aft_len (c : UInt8) : ∀ l : List UInt8, (aft c l).length ≤ l.length
  | [] => Nat.le_refl _
  | a :: r => by
    have := aft_len c r
    rw [aft]
    split
    · simp
    · simp; omega
theorem bef_not (c : UInt8) : ∀ l : List UInt8, c ∉ bef c l
  | [] => by simp [bef]
  | a :: r => by
    have := bef_not c r
    rw [bef]
    split
    · simp
    · rename_i h
      intro hm
      rcases List.mem_cons.1 hm with e | hm
      · exact h e.symm
      · exact this hm
theorem bef_mem (c : UInt8) : ∀ (l : List UInt8) (x : UInt8), x ∈ bef c l → x ∈ l
  | [], _, h => by simp [bef] at h
  | a :: r, x, h => by
    rw [bef] at h
    split at h
    · simp at h
    · rcases List.mem_cons.1 h with e | h
      · simp [e]
      · exact List.mem_cons_of_mem _ (bef_mem c r x h)
theorem bef_none (c : UInt8) : ∀ l : List UInt8, c ∉ l → bef c l = l
  | [], _ => rfl
  | a :: r, h => by
    have h1 : a ≠ c := fun e => h (by simp [e])
    have h2 : c ∉ r := fun e => h (by simp [e])
    rw [bef, if_neg h1, bef_none c r h2]
theorem aft_none (c : UInt8) : ∀ l : List UInt8, c ∉ l → aft c l = []
  | [], _ => rfl
  | a :: r, h => by
    have h1 : a ≠ c := fun e => h (by simp [e])
    have h2 : c ∉ r := fun e => h (by simp [e])
    rw [aft, if_neg h1, aft_none c r h2]
theorem bef_app (c : UInt8) (m : List UInt8) : ∀ l : List UInt8, c ∉ l → bef c (l ++ c :: m) = l
  | [], _ => by simp [bef]
  | a :: r, h => by
    have h1 : a ≠ c := fun e => h (by simp [e])
    have h2 : c ∉ r := fun e => h (by simp [e])
    rw [List.cons_append, bef, if_neg h1, bef_app c m r h2]
/-- A text that has the byte is what stands ahead, it, and what stands behind. -/
theorem bef_aft (c : UInt8) : ∀ l : List UInt8, c ∈ l → l = bef c l ++ c :: aft c l
  | [], h => by simp at h
  | a :: r, h => by
    by_cases e : a = c
    · simp [bef, aft, e]
    · have h2 : c ∈ r := by
        rcases List.mem_cons.1 h with h | h
        · exact absurd h.symm e
        · exact h
      have ih := bef_aft c r h2
      rw [bef, aft, if_neg e, if_neg e, List.cons_append, ← ih]

theorem idx_hit (c : UInt8) (r : List UInt8) : Lib.index (c :: r) [c] = 0 := by
  rw [Lib.index]
  simp [List.isPrefixOf]
theorem idx_miss (c a : UInt8) (r : List UInt8) (h : a ≠ c) : Lib.index (a :: r) [c] = if Lib.index r [c] == -1 then -1 else Lib.index r [c] + 1 := by
  rw [Lib.index]
  simp [List.isPrefixOf, Ne.symm h]
theorem idx_bef (c : UInt8) : ∀ l : List UInt8, Lib.index l [c] = if l.contains c then ((bef c l).length : Int) else -1
  | [] => by simp [Lib.index]
  | a :: r => by
    by_cases h : a = c
    · subst h
      rw [idx_hit, bef, if_pos rfl]
      simp
    · rw [idx_miss c a r h, idx_bef c r, bef, if_neg h]
      have hc : (a :: r).contains c = r.contains c := by
        rw [List.contains_cons]
        simp [Ne.symm h]
      rw [hc]
      cases r.contains c with
      | true => simp
      | false => simp
theorem bef_take (c : UInt8) : ∀ l : List UInt8, l.take (bef c l).length = bef c l
  | [] => rfl
  | a :: r => by
    rw [bef]
    split
    · rfl
    · rw [List.length_cons, List.take_succ_cons, bef_take c r]
theorem aft_drop (c : UInt8) : ∀ l : List UInt8, l.drop ((bef c l).length + 1) = aft c l
  | [] => rfl
  | a :: r => by
    rw [bef, aft]
    split
    · rfl
    · rw [List.length_cons, List.drop_succ_cons, aft_drop c r]
/-- strings.Cut at a byte. -/
theorem cut_byte (c : UInt8) (l : List UInt8) : Lib.cut l [c] = (bef c l, aft c l, l.contains c) := by
  unfold Lib.cut
  rw [idx_bef]
  cases h : l.contains c with
  | true =>
    simp only [if_true]
    rw [if_pos (by omega), Int.toNat_natCast, bef_take, List.length_singleton, aft_drop]
  | false =>
    simp only [Bool.false_eq_true, if_false]
    have hn : c ∉ l := by
      intro hm
      rw [List.contains_iff_mem.2 hm] at h
      cases h
    rw [if_neg (by omega), bef_none c l hn, aft_none c l hn]

/-- All instances replaced. -/
def rpl (old new s : List UInt8) : List UInt8 := Lib.replaceK old new (Lib.count s old) s
theorem rpl_is (old new s : List UInt8) (h : (old == new) = false) : Lib.replaceAll s old new = rpl old new s := by
  unfold Lib.replaceAll Lib.replace Lib.replaceNum rpl
  rw [h, if_pos (Or.inl (by decide))]
  simp
theorem rpl_nil (old new : List UInt8) (ho : old ≠ []) : rpl old new [] = [] := by
  unfold rpl
  have h : Lib.index [] old = -1 := by
    cases old with
    | nil => exact absurd rfl ho
    | cons a t => rfl
  rw [Lib.count_miss h, Lib.replaceK]
theorem rpl_hit (old new s : List UInt8) (ho : old ≠ []) (h : old.isPrefixOf s = true) : rpl old new s = new ++ rpl old new (s.drop old.length) := by
  have hi : Lib.index s old = ((0 : Nat) : Int) := by
    cases s with
    | nil =>
      cases old with
      | nil => exact absurd rfl ho
      | cons a t => simp [List.isPrefixOf] at h
    | cons a r =>
      unfold Lib.index
      rw [if_pos h]
      rfl
  unfold rpl
  rw [Lib.count_hit ho hi, Nat.add_comm, Lib.replaceK_hit old new _ s 0 hi, Nat.zero_add]
  simp
theorem rpl_miss (old new : List UInt8) (a : UInt8) (r : List UInt8) (ho : old ≠ []) (h : old.isPrefixOf (a :: r) = false) : rpl old new (a :: r) = a :: rpl old new r := by
  have hx : Lib.index (a :: r) old = if Lib.index r old == -1 then -1 else Lib.index r old + 1 := by
    rw [Lib.index, h]
    simp
  by_cases hm : Lib.index r old = -1
  · rw [hm] at hx
    have hx2 : Lib.index (a :: r) old = -1 := hx
    unfold rpl
    rw [Lib.count_miss hm, Lib.count_miss hx2, Lib.replaceK, Lib.replaceK]
  · have hge := Lib.index_ge r old
    obtain ⟨i, hi⟩ : ∃ i : Nat, Lib.index r old = i := ⟨(Lib.index r old).toNat, by omega⟩
    rw [if_neg (by rw [hi, beq_iff_eq]; omega), hi] at hx
    have hx2 : Lib.index (a :: r) old = ((i + 1 : Nat) : Int) := by rw [hx]; omega
    unfold rpl
    rw [Lib.count_hit ho hx2, Lib.count_hit ho hi, Nat.add_comm 1, Nat.add_comm 1, Lib.replaceK_hit old new _ _ _ hx2, Lib.replaceK_hit old new _ _ _ hi]
    have e : i + 1 + old.length = (i + old.length) + 1 := by omega
    rw [e, List.drop_succ_cons, List.take_succ_cons]
    simp

/-- One byte put in another one's place. -/
def sub1 (a b : UInt8) (l : List UInt8) : List UInt8 := l.map fun x => if x = a then b else x
theorem rpl_one (a b : UInt8) : ∀ l : List UInt8, rpl [a] [b] l = sub1 a b l
  | [] => rpl_nil _ _ (by simp)
  | x :: r => by
    by_cases h : x = a
    · rw [rpl_hit _ _ _ (by simp) (by simp [List.isPrefixOf, h])]
      have ih := rpl_one a b r
      simp [sub1, h] at ih ⊢
      exact ih
    · rw [rpl_miss _ _ _ _ (by simp) (by simp [List.isPrefixOf, Ne.symm h]), rpl_one a b r]
      simp [sub1, h]

/-- How many bytes a dot takes that a text begins with; 0: it begins with none. -/
def dot : List UInt8 → Nat
  | 37 :: 50 :: x :: _ => if x = 101 ∨ x = 69 then 3 else 0
  | 46 :: _ => 1
  | _ => 0
/-- How many dots a part is, if it is one or two; else 0. -/
def dots (l : List UInt8) : Nat := if dot l = 0 then 0 else if l.length = dot l then 1 else if dot (l.drop (dot l)) = 0 then 0 else if l.length = dot l + dot (l.drop (dot l)) then 2 else 0
def und (l : List UInt8) : List UInt8 := rpl [37, 50, 69] [46] (rpl [37, 50, 101] [46] l)

theorem dot_le (l : List UInt8) : dot l ≤ l.length := by
  unfold dot
  split
  · split <;> simp
  · simp
  · simp
theorem rpl_empty (e : UInt8) (l : List UInt8) : rpl [37, 50, e] [46] l = [] ↔ l = [] := by
  constructor
  · intro h
    cases l with
    | nil => rfl
    | cons a r =>
      cases hp : ([37, 50, e] : List UInt8).isPrefixOf (a :: r) with
      | true =>
        rw [rpl_hit _ _ _ (by simp) hp] at h
        simp at h
      | false =>
        rw [rpl_miss _ _ _ _ (by simp) hp] at h
        cases h
  · rintro rfl
    exact rpl_nil _ _ (by simp)
theorem und_empty (l : List UInt8) : und l = [] ↔ l = [] := by
  unfold und
  rw [rpl_empty, rpl_empty]
theorem rpl_head (e a : UInt8) (l : List UInt8) (zs : List UInt8) (ha : a ≠ 46) (h : rpl [37, 50, e] [46] l = a :: zs) : ∃ r, l = a :: r ∧ rpl [37, 50, e] [46] r = zs := by
  cases l with
  | nil => rw [rpl_nil _ _ (by simp)] at h; cases h
  | cons b r =>
    cases hp : ([37, 50, e] : List UInt8).isPrefixOf (b :: r) with
    | true =>
      rw [rpl_hit _ _ _ (by simp) hp] at h
      simp at h
      exact absurd h.1.symm ha
    | false =>
      rw [rpl_miss _ _ _ _ (by simp) hp] at h
      injection h with h1 h2
      exact ⟨r, by rw [h1], h2⟩
theorem und_dot (l : List UInt8) (h : dot l ≠ 0) : und l = 46 :: und (l.drop (dot l)) := by
  unfold dot at h ⊢
  split at h
  · rename_i x r
    split at h
    · rename_i hx
      rw [if_pos hx]
      unfold und
      rcases hx with rfl | rfl
      · rw [rpl_hit [37, 50, 101] [46] (37 :: 50 :: 101 :: r) (by simp) (by simp [List.isPrefixOf])]
        rw [List.singleton_append, rpl_miss [37, 50, 69] _ _ _ (by simp) (by simp [List.isPrefixOf])]
        rfl
      · rw [rpl_miss [37, 50, 101] _ 37 _ (by simp) (by simp [List.isPrefixOf]), rpl_miss [37, 50, 101] _ 50 _ (by simp) (by simp [List.isPrefixOf]), rpl_miss [37, 50, 101] _ 69 _ (by simp) (by simp [List.isPrefixOf])]
        rw [rpl_hit [37, 50, 69] [46] (37 :: 50 :: 69 :: _) (by simp) (by simp [List.isPrefixOf])]
        rfl
    · exact absurd rfl h
  · rename_i r
    unfold und
    rw [rpl_miss [37, 50, 101] _ 46 _ (by simp) (by simp [List.isPrefixOf]), rpl_miss [37, 50, 69] _ 46 _ (by simp) (by simp [List.isPrefixOf])]
    rfl
  · exact absurd rfl h
theorem und_nodot (l : List UInt8) (h : dot l = 0) (zs : List UInt8) : und l ≠ 46 :: zs := by
  intro hu
  cases l with
  | nil =>
    rw [(und_empty []).2 rfl] at hu
    cases hu
  | cons a r =>
    have ha : a ≠ 46 := by
      rintro rfl
      simp [dot] at h
    have hp1 : ([37, 50, 101] : List UInt8).isPrefixOf (a :: r) = false := by
      rw [Bool.eq_false_iff]
      intro hp
      obtain ⟨t, ht⟩ := List.isPrefixOf_iff_prefix.1 hp
      rw [← ht] at h
      simp [dot] at h
    unfold und at hu
    rw [rpl_miss _ _ _ _ (by simp) hp1] at hu
    cases hp2 : ([37, 50, 69] : List UInt8).isPrefixOf (a :: rpl [37, 50, 101] [46] r) with
    | false =>
      rw [rpl_miss _ _ _ _ (by simp) hp2] at hu
      injection hu with h1 _
      exact ha h1
    | true =>
      obtain ⟨t, ht⟩ := List.isPrefixOf_iff_prefix.1 hp2
      rw [List.cons_append] at ht
      injection ht with h1 h2
      obtain ⟨r2, hr2, h3⟩ := rpl_head 101 50 r (69 :: t) (by decide) (by rw [← h2]; rfl)
      obtain ⟨r3, hr3, _⟩ := rpl_head 101 69 r2 t (by decide) h3
      rw [hr2, hr3, ← h1] at h
      simp [dot] at h
/-- The program's way of telling dots is the document's. -/
theorem und_one (l : List UInt8) : und l = [46] ↔ dots l = 1 := by
  unfold dots
  by_cases h : dot l = 0
  · rw [if_pos h]
    exact ⟨fun hu => absurd hu (und_nodot l h []), fun h1 => by cases h1⟩
  · rw [if_neg h, und_dot l h]
    have hle := dot_le l
    have hd : und (l.drop (dot l)) = [] ↔ l.length = dot l := by
      rw [und_empty, List.drop_eq_nil_iff]
      omega
    by_cases h1 : l.length = dot l
    · rw [if_pos h1, hd.2 h1]
      simp
    · rw [if_neg h1]
      constructor
      · intro e
        injection e with _ e
        exact absurd (hd.1 e) h1
      · intro e
        split at e
        · cases e
        · split at e <;> cases e
theorem und_two (l : List UInt8) : und l = [46, 46] ↔ dots l = 2 := by
  unfold dots
  by_cases h : dot l = 0
  · rw [if_pos h]
    exact ⟨fun hu => absurd hu (und_nodot l h [46]), fun h1 => by cases h1⟩
  · rw [if_neg h, und_dot l h]
    have hle := dot_le l
    by_cases h1 : l.length = dot l
    · rw [if_pos h1]
      have hd : und (l.drop (dot l)) = [] := by
        rw [und_empty, List.drop_eq_nil_iff]
        omega
      rw [hd]
      constructor
      · intro e; cases e
      · intro e; cases e
    · rw [if_neg h1]
      by_cases h2 : dot (l.drop (dot l)) = 0
      · rw [if_pos h2]
        constructor
        · intro e
          injection e with _ e
          exact absurd e (und_nodot _ h2 [])
        · intro e; cases e
      · rw [if_neg h2, und_dot _ h2]
        have hle2 := dot_le (l.drop (dot l))
        rw [List.length_drop] at hle2
        have hd : und ((l.drop (dot l)).drop (dot (l.drop (dot l)))) = [] ↔ l.length = dot l + dot (l.drop (dot l)) := by
          rw [und_empty, List.drop_eq_nil_iff, List.length_drop]
          omega
        constructor
        · intro e
          injection e with _ e
          injection e with _ e
          rw [if_pos (hd.1 e)]
        · intro e
          split at e
          · rename_i h3
            rw [hd.2 h3]
          · cases e
theorem rpl_len (e : UInt8) : ∀ (n : Nat) (l : List UInt8), l.length ≤ n → (rpl [37, 50, e] [46] l).length ≤ l.length
  | 0, l, h => by
    have : l = [] := List.eq_nil_of_length_eq_zero (by omega)
    rw [this, rpl_nil _ _ (by simp)]
    simp
  | n + 1, [], _ => by
    rw [rpl_nil _ _ (by simp)]
    simp
  | n + 1, a :: r, h => by
    cases hp : ([37, 50, e] : List UInt8).isPrefixOf (a :: r) with
    | true =>
      rw [rpl_hit _ _ _ (by simp) hp]
      have := rpl_len e n ((a :: r).drop 3) (by rw [List.length_drop]; simp at h ⊢; omega)
      rw [List.length_drop] at this
      have e3 : ([37, 50, e] : List UInt8).length = 3 := rfl
      rw [e3]
      simp at this ⊢
      omega
    | false =>
      rw [rpl_miss _ _ _ _ (by simp) hp]
      have := rpl_len e n r (by simp at h; omega)
      simp
      omega
/-- A byte that does not count at the ends. -/
def lowc (c : UInt8) : Bool := decide (c.toNat ≤ 32)
/-- Where a text ends, of its first k bytes, without such bytes. -/
def rend (l : List UInt8) : Nat → Nat
  | 0 => 0
  | k + 1 => if lowc (l.getD k 0) then rend l k else k + 1
def trmR (l : List UInt8) : List UInt8 := l.take (rend l l.length)
def trmL (l : List UInt8) : List UInt8 := l.dropWhile lowc
def trm (l : List UInt8) : List UInt8 := trmR (trmL l)

theorem trm_len (l : List UInt8) : (trm l).length ≤ l.length := by
  unfold trm trmR trmL
  rw [List.length_take]
  have : (l.dropWhile lowc).length ≤ l.length := (List.dropWhile_sublist lowc).length_le
  omega
end Go.Proofs.YtcepigekibidfaaGreatDoor
namespace Go.Proofs.YtcepigekibidfaaGreatDoor
open Go.Lib

def lowr (r : Nat) : Bool := decide (r ≤ 32)
set_option maxRecDepth 100000 in
theorem decodeN_hi (n b0 b1 b2 b3 : Nat) (h0 : 128 ≤ b0) : 128 ≤ (decodeN n b0 b1 b2 b3).1 := by
  unfold decodeN
  repeat' split
  all_goals first | (exfalso; omega) | (simp only; omega)
theorem lowr_dec (s : ByteArray) (pos : Nat) : lowr (Utf8.decode s pos).1 = lowc (s.data.toList.getD pos 0) ∧ (lowc (s.data.toList.getD pos 0) = true → (Utf8.decode s pos).2 = 1) := by
  rw [decode_N]
  by_cases h : (s.data.toList.getD pos 0).toNat < 128
  · rw [decodeN_ascii _ _ _ _ _ h]
    exact ⟨rfl, fun _ => rfl⟩
  · have := decodeN_hi (s.data.toList.length - pos) (s.data.toList.getD pos 0).toNat (s.data.toList.getD (pos + 1) 0).toNat (s.data.toList.getD (pos + 2) 0).toNat (s.data.toList.getD (pos + 3) 0).toNat (by omega)
    have e1 : lowc (s.data.toList.getD pos 0) = false := by unfold lowc; rw [decide_eq_false_iff_not]; omega
    rw [e1]
    refine ⟨?_, fun h => by cases h⟩
    unfold lowr
    rw [decide_eq_false_iff_not]
    omega

theorem left_from (s : ByteArray) : ∀ (f pos : Nat), s.size ≤ pos + f →
    (s.data.toList.drop pos).dropWhile lowc = if idxFuncFrom lowr false s f pos = -1 then [] else s.data.toList.drop (idxFuncFrom lowr false s f pos).toNat
  | 0, pos, h => by
    have : s.data.toList.drop pos = [] := List.drop_eq_nil_of_le (by rw [← size_eq]; omega)
    simp [idxFuncFrom, this]
  | f + 1, pos, h => by
    by_cases hp : pos < s.size
    · have hl : pos < s.data.toList.length := by rw [← size_eq]; exact hp
      obtain ⟨h1, h2⟩ := lowr_dec s pos
      have e : s.data.toList.drop pos = s.data.toList.getD pos 0 :: s.data.toList.drop (pos + 1) := by
        rw [List.drop_eq_getElem_cons hl, List.getD_eq_getElem?_getD, List.getElem?_eq_getElem hl]
        rfl
      rw [idxFuncFrom, if_pos hp, h1, e, List.dropWhile_cons]
      cases hc : lowc (s.data.toList.getD pos 0) with
      | true =>
        rw [h2 hc]
        simp only [Bool.true_eq_false, if_false, if_true]
        exact left_from s f (pos + 1) (by omega)
      | false =>
        simp only [if_true, Bool.false_eq_true, if_false]
        rw [if_neg (by omega), Int.toNat_natCast, e]
    · have : s.data.toList.drop pos = [] := List.drop_eq_nil_of_le (by rw [← size_eq]; omega)
      rw [this, idxFuncFrom_end _ _ _ _ _ hp, if_pos rfl]
      rfl
theorem trimLeft_low (s : ByteArray) : (trimLeftF lowr s).data.toList = trmL s.data.toList := by
  have h := left_from s s.size 0 (by omega)
  rw [List.drop_zero] at h
  unfold trmL
  rw [h]
  unfold trimLeftF idxFunc
  split
  · rfl
  · rw [extract_data, List.take_of_length_le (by rw [List.length_drop, ← size_eq]; exact Nat.le_refl _)]

/-- The last rune counts just if its last byte does. -/
theorem low_last (l : List UInt8) (i : Nat) (hi : 0 < i) (hil : i ≤ l.length) :
    lowr (decodeLastL (l.take i)).1 = lowc (l.getD (i - 1) 0) ∧ (lowc (l.getD (i - 1) 0) = true → (decodeLastL (l.take i)).2 = 1) := by
  rcases last_cases l i hi hil with ⟨ha, hd⟩ | ⟨ha, hd⟩ | ⟨ha, st, hst, hd, hsum⟩
  · rw [hd]
    exact ⟨rfl, fun _ => rfl⟩
  · have e1 : lowc (l.getD (i - 1) 0) = false := by unfold lowc; rw [decide_eq_false_iff_not]; omega
    rw [hd, e1]
    exact ⟨rfl, fun h => by cases h⟩
  · have e1 : lowc (l.getD (i - 1) 0) = false := by unfold lowc; rw [decide_eq_false_iff_not]; omega
    rw [hd, e1]
    refine ⟨?_, fun h => by cases h⟩
    have hlen : ((l.take i).drop st).length = i - st := by rw [List.length_drop, List.length_take]; omega
    have hb : 128 ≤ (((l.take i).drop st).getD 0 0).toNat := by
      apply Nat.le_of_not_lt
      intro hlt
      rw [decodeL_N, decodeN_ascii _ _ _ _ _ hlt] at hsum
      have e2 : ((l.take i).drop st).getD 0 0 = l.getD (i - 1) 0 := by
        rw [getD_dropU, getD_takeU l i (st + 0) (by omega)]
        have : st + 0 = i - 1 := by simp only at hsum; omega
        rw [this]
      rw [e2] at hlt
      omega
    have := decodeN_hi ((l.take i).drop st).length (((l.take i).drop st).getD 0 0).toNat (((l.take i).drop st).getD 1 0).toNat (((l.take i).drop st).getD 2 0).toNat (((l.take i).drop st).getD 3 0).toNat hb
    rw [decodeL_N]
    unfold lowr
    rw [decide_eq_false_iff_not]
    omega
theorem right_from (s : ByteArray) : ∀ (f i : Nat), i ≤ f → i ≤ s.data.toList.length → OpenAt s.data.toList i →
    (if 0 ≤ lastIdxFuncFrom lowr false s f i then (lastIdxFuncFrom lowr false s f i).toNat + (decodeL (s.data.toList.drop (lastIdxFuncFrom lowr false s f i).toNat)).2 else 0) = rend s.data.toList i
  | 0, i, hf, _, _ => by
    obtain rfl : i = 0 := by omega
    simp [lastIdxFuncFrom, rend]
  | f + 1, i, hf, hil, ho => by
    by_cases hi : 0 < i
    · obtain ⟨k, rfl⟩ : ∃ k, i = k + 1 := ⟨i - 1, by omega⟩
      obtain ⟨h1, h2⟩ := low_last s.data.toList (k + 1) hi hil
      have hlen : (s.data.toList.take (k + 1)).length = k + 1 := by rw [List.length_take]; omega
      have hw := decodeLastL_width (s.data.toList.take (k + 1)) (by omega)
      rw [hlen] at hw
      rw [Nat.add_sub_cancel] at h1 h2
      rw [lastIdxFuncFrom, if_pos hi, h1, rend]
      cases hc : lowc (s.data.toList.getD k 0) with
      | true =>
        rw [h2 hc]
        simp only [Bool.true_eq_false, if_false, if_true, Nat.add_sub_cancel]
        refine right_from s f k (by omega) (by omega) (.inr ?_)
        unfold lowc at hc
        rw [decide_eq_true_eq] at hc
        omega
      | false =>
        simp only [if_true, Bool.false_eq_true, if_false]
        rw [if_pos (by omega), Int.toNat_natCast, fw_width _ (k + 1) hi hil ho, Nat.sub_add_cancel hw.2]
    · obtain rfl : i = 0 := by omega
      rw [lastIdxFuncFrom_zero]
      simp [rend]
theorem lastIdx_lt (s : ByteArray) : ∀ (f i : Nat), i ≤ s.size → lastIdxFuncFrom lowr false s f i = -1 ∨ (0 ≤ lastIdxFuncFrom lowr false s f i ∧ lastIdxFuncFrom lowr false s f i < i)
  | 0, _, _ => .inl rfl
  | f + 1, i, hi => by
    unfold lastIdxFuncFrom
    split
    · rename_i h0
      have hw := decodeLastL_width (s.data.toList.take i) (by rw [List.length_take, ← size_eq]; omega)
      rw [List.length_take, ← size_eq, Nat.min_eq_left hi] at hw
      split
      · exact .inr ⟨by omega, by omega⟩
      · rcases lastIdx_lt s f (i - (decodeLastL (s.data.toList.take i)).2) (by omega) with h | h
        · exact .inl h
        · exact .inr ⟨h.1, by omega⟩
    · exact .inl rfl
theorem trimRight_low (s : ByteArray) : (trimRightF lowr s).data.toList = trmR s.data.toList := by
  have h := right_from s s.size s.size (Nat.le_refl _) (by rw [← size_eq]; exact Nat.le_refl _) (.inl (size_eq s))
  have hlt := lastIdx_lt s s.size s.size (Nat.le_refl _)
  obtain ⟨X, hX⟩ : ∃ X, X = lastIdxFuncFrom lowr false s s.size s.size := ⟨_, rfl⟩
  rw [← hX] at h hlt
  have e : rightEndF lowr s = rend s.data.toList s.size := by
    rw [← h]
    unfold rightEndF lastIdxFunc
    rw [← hX]
    by_cases h0 : 0 ≤ X
    · rw [if_pos h0, if_pos h0]
      obtain ⟨k, rfl⟩ := Int.eq_ofNat_of_zero_le h0
      simp only [Int.toNat_natCast]
      have hx : s.extract k s.size = ⟨(s.data.toList.drop k).toArray⟩ := by
        rw [extract_eq, List.take_of_length_le (by rw [List.length_drop, ← size_eq]; exact Nat.le_refl _)]
      have hz : (⟨(s.data.toList.drop k).toArray⟩ : ByteArray).size ≠ 0 := by
        rw [size_eq]
        simp only [List.length_drop]
        rw [← size_eq]
        omega
      rw [hx]
      unfold decodeGoB decodeL
      rw [if_neg hz]
    · rw [if_neg h0, if_neg h0]
  unfold trmR trimRightF
  rw [extract_data, List.drop_zero, Nat.sub_zero, e, ← size_eq]
/-- strings.TrimFunc at bytes up to 20 (to base sixteen). -/
theorem trim_low (s : ByteArray) : (trimF lowr s).data.toList = trm s.data.toList := by
  unfold trimF trm
  rw [trimRight_low, trimLeft_low]
end Go.Proofs.YtcepigekibidfaaGreatDoor
