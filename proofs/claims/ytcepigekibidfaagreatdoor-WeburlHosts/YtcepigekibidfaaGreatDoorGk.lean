/-
  A URL, told from a text, and its text: the mathematics of weburl's Parse, Text and Origin. No program, no condition.
  More mathematics of URLs: a path that is told stays so; the text of a URL that is told is told as it is. No program, no condition.
  A host that is told is one as it is written. No program, no condition.
  The mathematics of WeburlOnce, WeburlOrigins and WeburlSames: what a text tells, written, tells it again; an origin's text is its own. No program, no condition.
-/
import Derived.Test.YtcepigekibidfaaGreatDoorGj
import Derived.Test.YtcepigekibidfaaGreatDoorGd
import Derived.Test.YtcepigekibidfaaGreatDoorGc
namespace Go.Proofs.YtcepigekibidfaaGreatDoor

structure U where
  sch : List UInt8
  host : List UInt8
  port : Int
  path : List UInt8
  q : List UInt8
  f : List UInt8

/-- A scheme's default port; -1: it is opaque. -/
def dp (s : List UInt8) : Option Int :=
  if s = [104, 116, 116, 112] then some 80 else if s = [104, 116, 116, 112, 115] then some 443 else if s = [119, 115] then some 80 else if s = [119, 115, 115] then some 443
  else if s = [100, 97, 116, 97] then some (-1) else if s = [98, 108, 111, 98] then some (-1) else if s = [97, 98, 111, 117, 116] then some (-1) else none
def spc (s : List UInt8) : Bool := match dp s with
  | some p => decide (p ≠ -1)
  | none => false
/-- Neither a tab nor a line feed nor a carriage return. -/
def tnr (c : UInt8) : Bool := !(c == 9 || c == 10 || c == 13)
def cln (l : List UInt8) : List UInt8 := (trm l).filter tnr
/-- A sign, and what is behind it, encoded. -/
def sgn (c : UInt8) (n : Int) (l : List UInt8) : List UInt8 := if l.contains c then c :: enc (inS n) (aft c l) else []
/-- Where the colon stands that parts host and port: the first one that is not in brackets. -/
def col : Bool → List UInt8 → Option Nat
  | _, [] => none
  | true, a :: r => (col (a != 93) r).map (· + 1)
  | false, a :: r => if a = 58 then some 0 else if a = 91 ∧ r.contains 93 = true then (col true r).map (· + 1) else (col false r).map (· + 1)
def cpt (a : List UInt8) : List UInt8 × List UInt8 := match col false a with
  | some k => (a.take k, a.drop (k + 1))
  | none => (a, [])
def prtN (d : List UInt8) (usual : Int) : Option Int := if d = [] then some (-1) else match Lib.parseUintB 16 d with
  | .ok n => some (if (n : Int) = usual then -1 else n)
  | _ => none
/-- The parts that are put, part by part. -/
def pst : List (List UInt8) → List (List UInt8) → List (List UInt8)
  | put, [] => put
  | put, [x] => if dots x = 2 then put.dropLast ++ [[]] else if dots x = 1 then put ++ [[]] else put ++ [enc (inS 5) x]
  | put, x :: y :: r => if dots x = 2 then pst put.dropLast (y :: r) else if dots x = 1 then pst put (y :: r) else pst (put ++ [enc (inS 5) x]) (y :: r)
/-- A path, of what stands behind its first slash. -/
def pth (s : List UInt8) : List UInt8 := 47 :: Lib.join (pst [] (spl 47 s)) [47]
/-- A special URL, of what stands behind '//'. -/
def psp (sch : List UInt8) (p : Int) (b q f : List UInt8) : Option U :=
  if (bef 47 b).contains 64 then none else if (prs (cpt (bef 47 b)).1).2 then none else
  match prtN (cpt (bef 47 b)).2 p with
  | none => none
  | some n => some ⟨sch, (prs (cpt (bef 47 b)).1).1, n, pth (aft 47 b), q, f⟩
/-- The same of what stands behind the colon. -/
def psc (sch : List UInt8) (p : Int) (r : List UInt8) : Option U :=
  if p = -1 then some ⟨sch, [], -1, enc (inS 1) (bef 63 (bef 35 r)), sgn 63 3 (bef 35 r), sgn 35 2 r⟩
  else if ([47, 47] : List UInt8).isPrefixOf (sub1 92 47 (bef 63 (bef 35 r))) then psp sch p ((sub1 92 47 (bef 63 (bef 35 r))).drop 2) (sgn 63 4 (bef 35 r)) (sgn 35 2 r) else none
/-- The URL of a text that is cleaned. -/
def pcl' (s : List UInt8) : Option U := if s.contains 58 then (match dp (low (bef 58 s)) with
  | none => none
  | some p => psc (low (bef 58 s)) p (aft 58 s)) else none
def prsU (l : List UInt8) : Option U := pcl' (cln l)

def prtT (p : Int) : List UInt8 := if p = -1 then [] else 58 :: Lib.itoa p
/-- An origin that is not null. -/
def orgT (u : U) : List UInt8 := u.sch ++ [58, 47, 47] ++ u.host ++ prtT u.port
def txt (u : U) : List UInt8 := (if spc u.sch then orgT u else u.sch ++ [58]) ++ u.path ++ u.q ++ u.f
def org (u : U) : List UInt8 := if spc u.sch then orgT u else [110, 117, 108, 108]

/-! ### schemes -/
theorem dp_cases (s : List UInt8) (p : Int) (h : dp s = some p) : (s = [104, 116, 116, 112] ∧ p = 80) ∨ (s = [104, 116, 116, 112, 115] ∧ p = 443) ∨ (s = [119, 115] ∧ p = 80) ∨ (s = [119, 115, 115] ∧ p = 443) ∨ (s = [100, 97, 116, 97] ∧ p = -1) ∨ (s = [98, 108, 111, 98] ∧ p = -1) ∨ (s = [97, 98, 111, 117, 116] ∧ p = -1) := by
  unfold dp at h
  repeat' split at h
  all_goals first | (cases h; simp_all) | cases h
def letc (c : UInt8) : Bool := decide (97 ≤ c.toNat) && decide (c.toNat ≤ 122)
theorem dp_form (s : List UInt8) (p : Int) (h : dp s = some p) : s ≠ [] ∧ s.all letc = true ∧ low s = s ∧ s.length ≤ 5 := by
  rcases dp_cases s p h with ⟨rfl, _⟩ | ⟨rfl, _⟩ | ⟨rfl, _⟩ | ⟨rfl, _⟩ | ⟨rfl, _⟩ | ⟨rfl, _⟩ | ⟨rfl, _⟩ <;> exact ⟨by simp, by decide, by decide, by decide⟩
theorem dp_num (s : List UInt8) (p : Int) (h : dp s = some p) : p = -1 ∨ p = 80 ∨ p = 443 := by
  rcases dp_cases s p h with ⟨_, h⟩ | ⟨_, h⟩ | ⟨_, h⟩ | ⟨_, h⟩ | ⟨_, h⟩ | ⟨_, h⟩ | ⟨_, h⟩ <;> simp [h]

/-! ### bytes -/
theorem u8_all {P : UInt8 → Prop} (h : ∀ m, m < 256 → P (UInt8.ofNat m)) (c : UInt8) : P c := by
  have := h c.toNat c.toNat_lt
  simpa using this
def vis (c : UInt8) : Bool := decide (33 ≤ c.toNat) && decide (c.toNat ≤ 126)
theorem vis_low (c : UInt8) (h : vis c = true) : lowc c = false ∧ tnr c = true := by
  refine u8_all (P := fun c => vis c = true → lowc c = false ∧ tnr c = true) ?_ c h
  decide +kernel
theorem letc_vis (c : UInt8) (h : letc c = true) : vis c = true ∧ c ≠ 58 ∧ c ≠ 47 := by
  refine u8_all (P := fun c => letc c = true → vis c = true ∧ c ≠ 58 ∧ c ≠ 47) ?_ c h
  decide +kernel

/-! ### cleaning -/
theorem rend_full (l : List UInt8) (h : ∀ k, l.length = k + 1 → lowc (l.getD k 0) = false) : rend l l.length = l.length := by
  cases hl : l.length with
  | zero => rfl
  | succ k => rw [rend, h k hl]; simp
theorem trm_id (l : List UInt8) (h1 : ∀ a r, l = a :: r → lowc a = false) (h2 : ∀ k, l.length = k + 1 → lowc (l.getD k 0) = false) : trm l = l := by
  have e : trmL l = l := by
    unfold trmL
    cases l with
    | nil => rfl
    | cons a r => rw [List.dropWhile_cons, h1 a r rfl]; simp
  unfold trm trmR
  rw [e, rend_full l h2, List.take_length]
theorem cln_id (l : List UInt8) (h1 : ∀ a r, l = a :: r → lowc a = false) (h2 : ∀ k, l.length = k + 1 → lowc (l.getD k 0) = false) (h3 : l.all tnr = true) : cln l = l := by
  unfold cln
  rw [trm_id l h1 h2]
  exact List.filter_eq_self.2 (List.all_eq_true.1 h3)
theorem getD_mem (l : List UInt8) (k : Nat) (h : k < l.length) : l.getD k 0 ∈ l := by
  rw [List.getD_eq_getElem?_getD, List.getElem?_eq_getElem h]
  exact List.getElem_mem h
theorem cln_vis (l : List UInt8) (h : l.all vis = true) : cln l = l := by
  have hv := List.all_eq_true.1 h
  refine cln_id l (fun a r e => (vis_low a (hv a (by simp [e]))).1) (fun k hk => (vis_low _ (hv _ (getD_mem l k (by omega)))).1) ?_
  rw [List.all_eq_true]
  exact fun x hx => (vis_low x (hv x hx)).2
theorem cln_len (l : List UInt8) : (cln l).length ≤ l.length := Nat.le_trans (List.length_filter_le _ _) (trm_len l)

/-! ### ports -/
theorem pu_app (M : Nat) (c : UInt8) : ∀ (l : List UInt8) (acc : Nat), Lib.parseUintM M acc (l ++ [c]) = match Lib.parseUintM M acc l with
    | .ok u => Lib.parseUintM M u [c]
    | e => e
  | [], acc => rfl
  | a :: r, acc => by
    rw [List.cons_append, Lib.parseUintM, Lib.parseUintM]
    split
    · split
      · rfl
      · split
        · rfl
        · exact pu_app M c r _
    · rfl
theorem dig_ofNat (d : Nat) (h : d < 10) : (UInt8.ofNat (48 + d)).toNat = 48 + d := by
  have : ∀ d, d < 10 → (UInt8.ofNat (48 + d)).toNat = 48 + d := by decide
  exact this d h
theorem pu_dec (M : Nat) (hM : M < 1000000000000) : ∀ (b n : Nat), n ≤ b → n ≤ M → Lib.parseUintM M 0 (Lib.decDigits n) = .ok n
  | b, n, hb, h => by
    rw [Lib.decDigits]
    by_cases h10 : n < 10
    · rw [dif_pos h10, Lib.parseUintM, dig_ofNat n h10, if_pos ⟨by omega, by omega⟩, if_neg (by omega), if_neg (by omega), Lib.parseUintM]
      congr 1
      omega
    · rw [dif_neg h10, pu_app]
      match b with
      | 0 => omega
      | b + 1 =>
        rw [pu_dec M hM b (n / 10) (by omega) (by omega)]
        show Lib.parseUintM M (n / 10) [UInt8.ofNat (48 + n % 10)] = _
        rw [Lib.parseUintM, dig_ofNat _ (by omega), if_pos ⟨by omega, by omega⟩, if_neg (by omega), if_neg (by omega), Lib.parseUintM]
        congr 1
        omega
theorem dec_nil (n : Nat) : Lib.decDigits n ≠ [] := by
  rw [Lib.decDigits]
  split <;> simp
theorem dec_mem : ∀ (b n : Nat) (c : UInt8), n ≤ b → c ∈ Lib.decDigits n → 48 ≤ c.toNat ∧ c.toNat ≤ 57
  | b, n, c, hb, h => by
    rw [Lib.decDigits] at h
    split at h
    · rename_i h10
      rw [List.mem_singleton] at h
      rw [h, dig_ofNat n h10]
      omega
    · match b with
      | 0 => omega
      | b + 1 =>
        rcases List.mem_append.1 h with h | h
        · exact dec_mem b (n / 10) c (by omega) h
        · rw [List.mem_singleton] at h
          rw [h, dig_ofNat _ (by omega)]
          omega
theorem itoa_nat (n : Nat) : Lib.itoa (n : Int) = Lib.decDigits n := by
  unfold Lib.itoa
  rw [if_neg (by omega), Int.toNat_natCast]
theorem prtN_dec (n : Nat) (hn : n ≤ 65535) (p : Int) (hp : (n : Int) ≠ p) : prtN (Lib.itoa (n : Int)) p = some (n : Int) := by
  unfold prtN Lib.parseUintB
  rw [itoa_nat, if_neg (dec_nil n), if_neg (dec_nil n), pu_dec _ (by decide) n n (Nat.le_refl _) (by omega)]
  simp [hp]
/-- A port that is told is the default one's sign, or another one. -/
theorem pu_le (M : Nat) : ∀ (l : List UInt8) (acc n : Nat), acc ≤ M → Lib.parseUintM M acc l = .ok n → n ≤ M
  | [], acc, n, ha, h => by
    rw [Lib.parseUintM] at h
    cases h
    exact ha
  | c :: r, acc, n, ha, h => by
    rw [Lib.parseUintM] at h
    split at h
    · split at h
      · cases h
      · split at h
        · cases h
        · exact pu_le M r _ n (by omega) h
    · cases h
def PortOk (n p : Int) : Prop := n = -1 ∨ (0 ≤ n ∧ n ≤ 65535 ∧ n ≠ p)
theorem prtN_ok (d : List UInt8) (p n : Int) (h : prtN d p = some n) : PortOk n p := by
  unfold prtN at h
  split at h
  · cases h
    exact .inl rfl
  · split at h
    · rename_i m hm
      have hle : m ≤ 65535 := by
        unfold Lib.parseUintB at hm
        split at hm
        · cases hm
        · exact pu_le 65535 d 0 m (by omega) hm
      have h := Option.some.inj h
      split at h
      · exact .inl h.symm
      · exact .inr ⟨by omega, by omega, by rw [← h]; assumption⟩
    · cases h

/-! ### the colon of the port -/
theorem col_plain (m : List UInt8) : ∀ h : List UInt8, (58 : UInt8) ∉ h → (91 : UInt8) ∉ h → col false (h ++ m) = (col false m).map (· + h.length)
  | [], _, _ => by simp
  | a :: r, h1, h2 => by
    have a1 : a ≠ 58 := fun e => h1 (by simp [e])
    have a2 : a ≠ 91 := fun e => h2 (by simp [e])
    have ih := col_plain m r (fun e => h1 (by simp [e])) (fun e => h2 (by simp [e]))
    rw [List.cons_append, col, if_neg a1, if_neg (fun e => a2 e.1), ih]
    cases col false m with
    | none => rfl
    | some k => simp; omega
theorem col_in (m : List UInt8) : ∀ t : List UInt8, (93 : UInt8) ∉ t → col true (t ++ 93 :: m) = (col false m).map (· + (t.length + 1))
  | [], _ => by
    rw [List.nil_append, col]
    rfl
  | a :: r, h => by
    have a1 : a ≠ 93 := fun e => h (by simp [e])
    have ih := col_in m r (fun e => h (by simp [e]))
    have e : (a != 93) = true := by simp [a1]
    rw [List.cons_append, col, e, ih]
    cases col false m with
    | none => rfl
    | some k => simp; omega
theorem col_brk (m t : List UInt8) (h : (93 : UInt8) ∉ t) : col false (91 :: (t ++ [93]) ++ m) = (col false m).map (· + (t.length + 2)) := by
  have e : (91 :: (t ++ [93]) ++ m : List UInt8) = 91 :: (t ++ 93 :: m) := by simp
  rw [e, col, if_neg (by decide), if_pos ⟨rfl, by simp⟩, col_in m t h]
  cases col false m with
  | none => rfl
  | some k => simp; omega
theorem cpt_host (h m : List UInt8) (hh : col false (h ++ m) = (col false m).map (· + h.length)) (hm : m = [] ∨ ∃ d, m = 58 :: d) : cpt (h ++ m) = (h, m.drop 1) := by
  unfold cpt
  rw [hh]
  rcases hm with rfl | ⟨d, rfl⟩
  · simp [col]
  · have e : col false (58 :: d) = some 0 := by rw [col, if_pos rfl]
    rw [e]
    simp only [Option.map_some, Nat.zero_add]
    congr 1
    · simp
    · rw [List.drop_append]
      simp

/-! ### paths -/
theorem inS5 (c : UInt8) (h : inS 5 c = false) : vis c = true ∧ c ≠ 35 ∧ c ≠ 63 := by
  refine u8_all (P := fun c => inS 5 c = false → vis c = true ∧ c ≠ 35 ∧ c ≠ 63) ?_ c h
  decide +kernel
theorem inS4 (c : UInt8) (h : inS 4 c = false) : vis c = true ∧ c ≠ 35 := by
  refine u8_all (P := fun c => inS 4 c = false → vis c = true ∧ c ≠ 35) ?_ c h
  decide +kernel
theorem inS3 (c : UInt8) (h : inS 3 c = false) : vis c = true ∧ c ≠ 35 := by
  refine u8_all (P := fun c => inS 3 c = false → vis c = true ∧ c ≠ 35) ?_ c h
  decide +kernel
theorem inS2 (c : UInt8) (h : inS 2 c = false) : vis c = true := by
  refine u8_all (P := fun c => inS 2 c = false → vis c = true) ?_ c h
  decide +kernel
theorem inS1 (c : UInt8) (h : inS 1 c = false) : 32 ≤ c.toNat ∧ c.toNat ≤ 126 ∧ tnr c = true := by
  refine u8_all (P := fun c => inS 1 c = false → 32 ≤ c.toNat ∧ c.toNat ≤ 126 ∧ tnr c = true) ?_ c h
  decide +kernel
theorem hex_mem (k : Nat) (h : k < 16) : hex k ≠ 92 ∧ hex k ≠ 47 ∧ hex k ≠ 35 ∧ hex k ≠ 63 ∧ lowc (hex k) = false := by
  have : ∀ k, k < 16 → hex k ≠ 92 ∧ hex k ≠ 47 ∧ hex k ≠ 35 ∧ hex k ≠ 63 ∧ lowc (hex k) = false := by decide +kernel
  exact this k h
theorem enc_mem (p : UInt8 → Bool) : ∀ (l : List UInt8) (c : UInt8), c ∈ enc p l → c ∈ l ∨ c = 37 ∨ ∃ k, k < 16 ∧ c = hex k
  | [], c, h => by simp [enc] at h
  | a :: r, c, h => by
    rw [enc_cons] at h
    rcases List.mem_append.1 h with h | h
    · unfold enc1 at h
      have hlt : a.toNat < 256 := a.toNat_lt
      split at h
      · simp only [List.mem_cons, List.not_mem_nil, or_false] at h
        rcases h with h | h | h
        · exact .inr (.inl h)
        · exact .inr (.inr ⟨_, by omega, h⟩)
        · exact .inr (.inr ⟨_, by omega, h⟩)
      · rw [List.mem_singleton] at h
        exact .inl (by simp [h])
    · rcases enc_mem p r c h with h | h
      · exact .inl (by simp [h])
      · exact .inr h
theorem enc_no (p : UInt8 → Bool) (l : List UInt8) (c : UInt8) (h : c ∉ l) (h37 : c ≠ 37) (hx : ∀ k, k < 16 → c ≠ hex k) : c ∉ enc p l := by
  intro hm
  rcases enc_mem p l c hm with hm | hm | ⟨k, hk, hm⟩
  · exact h hm
  · exact h37 hm
  · exact hx k hk hm

theorem inS5_dot : inS 5 46 = false ∧ inS 5 37 = false ∧ inS 5 50 = false ∧ inS 5 69 = false ∧ inS 5 101 = false := by decide
theorem enc_out (p : UInt8 → Bool) (c : UInt8) (l : List UInt8) (h : p c = false) : enc p (c :: l) = c :: enc p l := by
  rw [enc_cons, enc1, h]
  rfl
theorem enc_in (p : UInt8 → Bool) (c : UInt8) (l : List UInt8) (h : p c = true) : enc p (c :: l) = 37 :: hex (c.toNat / 16) :: hex (c.toNat % 16) :: enc p l := by
  rw [enc_cons, enc1, h]
  rfl
theorem hex_e (m : Nat) (hm : m < 256) (h : inS 5 (UInt8.ofNat m) = true) : ¬ (hex (m / 16) = 50 ∧ (hex (m % 16) = 101 ∨ hex (m % 16) = 69)) := by
  have : ∀ m, m < 256 → inS 5 (UInt8.ofNat m) = true → ¬ (hex (m / 16) = 50 ∧ (hex (m % 16) = 101 ∨ hex (m % 16) = 69)) := by decide +kernel
  exact this m hm h
theorem dot_zero (a b c : UInt8) (r : List UInt8) (h1 : a ≠ 46) (h2 : ¬ (a = 37 ∧ b = 50 ∧ (c = 101 ∨ c = 69))) : dot (a :: b :: c :: r) = 0 := by
  unfold dot
  split
  · rename_i x r' e
    simp only [List.cons.injEq] at e
    obtain ⟨rfl, rfl, rfl, _⟩ := e
    rw [if_neg (fun h => h2 ⟨rfl, rfl, h⟩)]
  · rename_i e
    simp only [List.cons.injEq] at e
    exact absurd e.1 h1
  · rfl
theorem dot_not (a : UInt8) (r : List UInt8) (h1 : a ≠ 46) (h2 : a ≠ 37) : dot (a :: r) = 0 := by
  unfold dot
  split
  · rename_i e
    simp only [List.cons.injEq] at e
    exact absurd e.1 h2
  · rename_i e
    simp only [List.cons.injEq] at e
    exact absurd e.1 h1
  · rfl
theorem dot_37 (b : UInt8) (r : List UInt8) (h : b ≠ 50) : dot (37 :: b :: r) = 0 := by
  unfold dot
  split
  · rename_i e
    simp only [List.cons.injEq] at e
    exact absurd e.2.1 h
  · rename_i e
    simp at e
  · rfl
theorem dot_enc (l : List UInt8) : dot (enc (inS 5) l) = dot l ∧ (dot l ≠ 0 → enc (inS 5) l = l.take (dot l) ++ enc (inS 5) (l.drop (dot l))) := by
  obtain ⟨i46, i37, i50, i69, i101⟩ := inS5_dot
  cases l with
  | nil => exact ⟨rfl, fun h => absurd rfl h⟩
  | cons a r =>
    cases ha : inS 5 a with
    | true =>
      have a46 : a ≠ 46 := fun e => by rw [e, i46] at ha; cases ha
      have a37 : a ≠ 37 := fun e => by rw [e, i37] at ha; cases ha
      have hx := hex_e a.toNat a.toNat_lt (by rw [UInt8.ofNat_toNat]; exact ha)
      have h0 : dot (a :: r) = 0 := dot_not a r a46 a37
      rw [h0, enc_in _ _ _ ha]
      refine ⟨dot_zero _ _ _ _ (by decide) (fun h => hx ⟨h.2.1, h.2.2⟩), fun h => absurd rfl h⟩
    | false =>
      rw [enc_out _ _ _ ha]
      by_cases a46 : a = 46
      · subst a46
        exact ⟨rfl, fun _ => rfl⟩
      · by_cases a37 : a = 37
        · subst a37
          cases r with
          | nil => exact ⟨rfl, fun h => absurd rfl h⟩
          | cons b r2 =>
            cases hb : inS 5 b with
            | true =>
              have b50 : b ≠ 50 := fun e => by rw [e, i50] at hb; cases hb
              rw [enc_in _ _ _ hb, dot_37 b r2 b50, dot_37 37 _ (by decide)]
              exact ⟨rfl, fun h => absurd rfl h⟩
            | false =>
              rw [enc_out _ _ _ hb]
              by_cases b50 : b = 50
              · subst b50
                cases r2 with
                | nil => exact ⟨rfl, fun h => absurd rfl h⟩
                | cons c r3 =>
                  cases hc : inS 5 c with
                  | true =>
                    have c1 : ¬ (c = 101 ∨ c = 69) := fun e => by
                      rcases e with e | e
                      · rw [e, i101] at hc; cases hc
                      · rw [e, i69] at hc; cases hc
                    have h0 : dot (37 :: 50 :: c :: r3) = 0 := dot_zero _ _ _ _ (by decide) (fun h => c1 h.2.2)
                    rw [enc_in _ _ _ hc, h0, dot_zero _ _ _ _ (by decide) (by decide)]
                    exact ⟨rfl, fun h => absurd rfl h⟩
                  | false =>
                    rw [enc_out _ _ _ hc]
                    by_cases c1 : c = 101 ∨ c = 69
                    · have h3 : ∀ s, dot (37 :: 50 :: c :: s) = 3 := fun s => by simp [dot, c1]
                      rw [h3, h3]
                      exact ⟨rfl, fun _ => rfl⟩
                    · have h0 : ∀ s, dot (37 :: 50 :: c :: s) = 0 := fun s => dot_zero _ _ _ _ (by decide) (fun h => c1 h.2.2)
                      rw [h0, h0]
                      exact ⟨rfl, fun h => absurd rfl h⟩
              · rw [dot_37 b _ b50, dot_37 b _ b50]
                exact ⟨rfl, fun h => absurd rfl h⟩
        · rw [dot_not a _ a46 a37, dot_not a _ a46 a37]
          exact ⟨rfl, fun h => absurd rfl h⟩
theorem enc_empty (p : UInt8 → Bool) (l : List UInt8) : enc p l = [] ↔ l = [] := by
  constructor
  · intro h
    cases l with
    | nil => rfl
    | cons a r =>
      rw [enc_cons] at h
      have : enc1 p a ≠ [] := by unfold enc1; split <;> simp
      simp_all
  · rintro rfl
    rfl
theorem enc_dot_len (l : List UInt8) (h : dot l ≠ 0) : ((enc (inS 5) l).length = dot l ↔ l.length = dot l) ∧ (enc (inS 5) l).drop (dot l) = enc (inS 5) (l.drop (dot l)) := by
  have h1 := (dot_enc l).2 h
  have hle := dot_le l
  have hd : (enc (inS 5) l).drop (dot l) = enc (inS 5) (l.drop (dot l)) := by
    rw [h1, List.drop_left' (by rw [List.length_take]; omega)]
  refine ⟨?_, hd⟩
  have hlen : (enc (inS 5) l).length = dot l + (enc (inS 5) (l.drop (dot l))).length := by
    rw [h1, List.length_append, List.length_take]
    have : enc (inS 5) (l.take (dot l) ++ enc (inS 5) (l.drop (dot l))) = enc (inS 5) (l.take (dot l) ++ enc (inS 5) (l.drop (dot l))) := rfl
    have e2 : min (dot l) l.length = dot l := by omega
    rw [e2]
  constructor
  · intro h2
    have h3 : (enc (inS 5) (l.drop (dot l))).length = 0 := by omega
    have h4 := (enc_empty _ _).1 (List.eq_nil_of_length_eq_zero h3)
    rw [List.drop_eq_nil_iff] at h4
    omega
  · intro h2
    have h3 : l.drop (dot l) = [] := by rw [List.drop_eq_nil_iff]; omega
    rw [hlen, h3, enc_nil]
    rfl
/-- A part is as many dots encoded as it was. -/
theorem dots_enc (l : List UInt8) : dots (enc (inS 5) l) = dots l := by
  unfold dots
  rw [(dot_enc l).1]
  by_cases h : dot l = 0
  · rw [if_pos h, if_pos h]
  · obtain ⟨h1, h2⟩ := enc_dot_len l h
    rw [if_neg h, if_neg h, h2, (dot_enc _).1]
    by_cases h3 : l.length = dot l
    · rw [if_pos (h1.2 h3), if_pos h3]
    · rw [if_neg (fun e => h3 (h1.1 e)), if_neg h3]
      by_cases h4 : dot (l.drop (dot l)) = 0
      · rw [if_pos h4, if_pos h4]
      · rw [if_neg h4, if_neg h4]
        obtain ⟨h5, _⟩ := enc_dot_len (l.drop (dot l)) h4
        have hle := dot_le l
        have e1 : (enc (inS 5) l).length = dot l + (enc (inS 5) (l.drop (dot l))).length := by
          rw [← h2, List.length_drop]
          have : dot l ≤ (enc (inS 5) l).length := by rw [← (dot_enc l).1]; exact dot_le _
          omega
        have e2 : (l.drop (dot l)).length = l.length - dot l := List.length_drop
        have e3 : (enc (inS 5) l).length = dot l + dot (l.drop (dot l)) ↔ l.length = dot l + dot (l.drop (dot l)) := by
          constructor
          · intro e
            have := h5.1 (by omega)
            omega
          · intro e
            have := h5.2 (by omega)
            omega
        by_cases h6 : l.length = dot l + dot (l.drop (dot l))
        · rw [if_pos (e3.2 h6), if_pos h6]
        · rw [if_neg (fun e => h6 (e3.1 e)), if_neg h6]
end Go.Proofs.YtcepigekibidfaaGreatDoor
namespace Go.Proofs.YtcepigekibidfaaGreatDoor

/-- A part that stays as it is. -/
def Good (x : List UInt8) : Prop := dots x = 0 ∧ enc (inS 5) x = x ∧ (47 : UInt8) ∉ x
theorem good_nil : Good [] := ⟨rfl, rfl, by simp⟩
theorem enc5_no47 (x : List UInt8) (h : (47 : UInt8) ∉ x) : (47 : UInt8) ∉ enc (inS 5) x := enc_no _ x 47 h (by decide) (fun k hk e => (hex_mem k hk).2.1 e.symm)
theorem good_enc (x : List UInt8) (h1 : dots x = 0) (h2 : (47 : UInt8) ∉ x) : Good (enc (inS 5) x) := ⟨by rw [dots_enc]; exact h1, enc_enc (safe_inS 5) x, enc5_no47 x h2⟩
theorem dots_le2 (x : List UInt8) (h2 : dots x ≠ 2) (h1 : dots x ≠ 1) : dots x = 0 := by
  unfold dots at h1 h2 ⊢
  repeat' split
  all_goals simp_all
theorem mem_dropLast {α : Type} {l : List α} {x : α} (h : x ∈ l.dropLast) : x ∈ l := List.dropLast_sublist l |>.subset h
theorem pst_good : ∀ (L put : List (List UInt8)), (∀ x ∈ put, Good x) → (∀ x ∈ L, (47 : UInt8) ∉ x) → ∀ x ∈ pst put L, Good x
  | [], put, hp, _ => hp
  | [a], put, hp, hL => by
    have ha := hL a (by simp)
    rw [pst]
    intro x hx
    split at hx
    · rcases List.mem_append.1 hx with hx | hx
      · exact hp x (mem_dropLast hx)
      · rw [List.mem_singleton.1 hx]; exact good_nil
    · split at hx
      · rcases List.mem_append.1 hx with hx | hx
        · exact hp x hx
        · rw [List.mem_singleton.1 hx]; exact good_nil
      · rename_i h2 h1
        rcases List.mem_append.1 hx with hx | hx
        · exact hp x hx
        · rw [List.mem_singleton.1 hx]; exact good_enc a (dots_le2 a h2 h1) ha
  | a :: b :: r, put, hp, hL => by
    have ha := hL a (by simp)
    have hL' : ∀ x ∈ b :: r, (47 : UInt8) ∉ x := fun x hx => hL x (List.mem_cons_of_mem _ hx)
    rw [pst]
    split
    · exact pst_good (b :: r) _ (fun x hx => hp x (mem_dropLast hx)) hL'
    · split
      · exact pst_good (b :: r) _ hp hL'
      · rename_i h2 h1
        refine pst_good (b :: r) _ (fun x hx => ?_) hL'
        rcases List.mem_append.1 hx with hx | hx
        · exact hp x hx
        · rw [List.mem_singleton.1 hx]; exact good_enc a (dots_le2 a h2 h1) ha
theorem pst_id : ∀ (L put : List (List UInt8)), (∀ x ∈ L, Good x) → pst put L = put ++ L
  | [], put, _ => by simp [pst]
  | [a], put, h => by
    obtain ⟨h1, h2, _⟩ := h a (by simp)
    rw [pst, h1, h2]
    simp
  | a :: b :: r, put, h => by
    obtain ⟨h1, h2, _⟩ := h a (by simp)
    rw [pst, h1, h2]
    simp only [Nat.reduceEqDiff, if_false]
    rw [pst_id (b :: r) _ (fun x hx => h x (List.mem_cons_of_mem _ hx))]
    simp
theorem pst_ne : ∀ (L put : List (List UInt8)), L ≠ [] → pst put L ≠ []
  | [], _, h => absurd rfl h
  | [a], put, _ => by
    rw [pst]
    repeat' split
    all_goals simp
  | a :: b :: r, put, _ => by
    rw [pst]
    repeat' split
    all_goals exact pst_ne (b :: r) _ (by simp)
theorem join_cons2 (x y : List UInt8) (r : List (List UInt8)) : Lib.join (x :: y :: r) [47] = x ++ 47 :: Lib.join (y :: r) [47] := by
  rw [Lib.join_cons, Lib.join_cons]
  simp [Lib.joinTail]
theorem spl_join : ∀ L : List (List UInt8), L ≠ [] → (∀ x ∈ L, (47 : UInt8) ∉ x) → spl 47 (Lib.join L [47]) = L
  | [], h, _ => absurd rfl h
  | [x], _, h => by rw [Lib.join_one, spl_none 47 x (h x (by simp))]
  | x :: y :: r, _, h => by
    rw [join_cons2, spl_append 47 _ x (h x (by simp)), spl_join (y :: r) (by simp) (fun z hz => h z (List.mem_cons_of_mem _ hz))]
theorem spl_no (c : UInt8) (l p : List UInt8) (h : p ∈ spl c l) : c ∉ p := (spl_mem c l p h).1
/-- A path that is told is told as it is. -/
theorem pth_twice (s : List UInt8) : ∃ t, pth s = 47 :: t ∧ pth t = 47 :: t := by
  have hg : ∀ x ∈ pst [] (spl 47 s), Good x := pst_good _ _ (by simp) (fun x hx => spl_no 47 s x hx)
  have hn := pst_ne (spl 47 s) [] (spl_ne 47 s)
  refine ⟨_, rfl, ?_⟩
  unfold pth
  rw [spl_join _ hn (fun x hx => (hg x hx).2.2), pst_id _ _ hg, List.nil_append]
theorem join_mem : ∀ (L : List (List UInt8)) (c : UInt8), c ∈ Lib.join L [47] → c = 47 ∨ ∃ x ∈ L, c ∈ x
  | [], c, h => by simp [Lib.join_nil] at h
  | [x], c, h => by
    rw [Lib.join_one] at h
    exact .inr ⟨x, by simp, h⟩
  | x :: y :: r, c, h => by
    rw [join_cons2] at h
    rcases List.mem_append.1 h with h | h
    · exact .inr ⟨x, by simp, h⟩
    · rcases List.mem_cons.1 h with h | h
      · exact .inl h
      · rcases join_mem (y :: r) c h with h | ⟨z, hz, h⟩
        · exact .inl h
        · exact .inr ⟨z, List.mem_cons_of_mem _ hz, h⟩
theorem pst_from (P : List UInt8 → Prop) (h0 : P []) : ∀ (L put : List (List UInt8)), (∀ x ∈ put, P x) → (∀ x ∈ L, P (enc (inS 5) x)) → ∀ x ∈ pst put L, P x
  | [], put, hp, _ => hp
  | [a], put, hp, hL => by
    have ha := hL a (by simp)
    rw [pst]
    intro x hx
    split at hx
    · rcases List.mem_append.1 hx with hx | hx
      · exact hp x (mem_dropLast hx)
      · rw [List.mem_singleton.1 hx]; exact h0
    · split at hx
      · rcases List.mem_append.1 hx with hx | hx
        · exact hp x hx
        · rw [List.mem_singleton.1 hx]; exact h0
      · rcases List.mem_append.1 hx with hx | hx
        · exact hp x hx
        · rw [List.mem_singleton.1 hx]; exact ha
  | a :: b :: r, put, hp, hL => by
    have ha := hL a (by simp)
    have hL' : ∀ x ∈ b :: r, P (enc (inS 5) x) := fun x hx => hL x (List.mem_cons_of_mem _ hx)
    rw [pst]
    split
    · exact pst_from P h0 (b :: r) _ (fun x hx => hp x (mem_dropLast hx)) hL'
    · split
      · exact pst_from P h0 (b :: r) _ hp hL'
      · refine pst_from P h0 (b :: r) _ (fun x hx => ?_) hL'
        rcases List.mem_append.1 hx with hx | hx
        · exact hp x hx
        · rw [List.mem_singleton.1 hx]; exact ha
/-- Bytes of a path. -/
def pco (c : UInt8) : Bool := vis c && !(c == 35 || c == 63 || c == 92)
theorem pco_out (c : UInt8) (h : pco c = true) : vis c = true ∧ c ≠ 35 ∧ c ≠ 63 ∧ c ≠ 92 := by
  unfold pco at h
  simp at h
  exact ⟨h.1, h.2.1.1, h.2.1.2, h.2.2⟩
theorem pth_pco (s : List UInt8) (h : (92 : UInt8) ∉ s) : (pth s).all pco = true := by
  rw [List.all_eq_true]
  intro c hc
  unfold pth at hc
  have hP := pst_from (fun x => ∀ y ∈ x, pco y = true) (by simp) (spl 47 s) [] (by simp) (fun x hx y hy => by
    obtain ⟨h1, h2, h3⟩ := inS5 y (enc_free (safe_inS 5) x y hy)
    have h4 : y ≠ 92 := by
      rintro rfl
      exact enc_no _ x 92 (fun hm => h ((spl_mem 47 s x hx).2.2 92 hm)) (by decide) (fun k hk e => (hex_mem k hk).1 e.symm) hy
    unfold pco
    simp [h1, h2, h3, h4])
  rcases List.mem_cons.1 hc with hc | hc
  · rw [hc]; decide
  · rcases join_mem _ _ hc with hc | ⟨x, hx, hc⟩
    · rw [hc]; decide
    · exact hP x hx c hc

/-! ### a text built out of its parts -/
/-- Bytes of a host. -/
def hco (c : UInt8) : Bool := vis c && !(c == 47 || c == 63 || c == 35 || c == 64 || c == 92)
theorem hco_out (c : UInt8) (h : hco c = true) : vis c = true ∧ c ≠ 47 ∧ c ≠ 63 ∧ c ≠ 35 ∧ c ≠ 64 ∧ c ≠ 92 := by
  unfold hco at h
  simp at h
  simp [h]
/-- A host as it is written. -/
def HostOk (h : List UInt8) : Prop := prs h = (h, false) ∧ h.all hco = true ∧ (((58 : UInt8) ∉ h ∧ (91 : UInt8) ∉ h) ∨ ∃ t, h = 91 :: (t ++ [93]) ∧ (93 : UInt8) ∉ t)
theorem col_host (h m : List UInt8) (hh : HostOk h) : col false (h ++ m) = (col false m).map (· + h.length) := by
  rcases hh.2.2 with ⟨h1, h2⟩ | ⟨t, rfl, h1⟩
  · exact col_plain m h h1 h2
  · rw [col_brk m t h1]
    simp
/-- Query and fragment as they are written: nothing, or a sign and what is encoded. -/
def Sgn (c : UInt8) (n : Int) (q : List UInt8) : Prop := q = [] ∨ ∃ y, q = c :: y ∧ enc (inS n) y = y
theorem sgn_sgn (c : UInt8) (n : Int) (l : List UInt8) : Sgn c n (sgn c n l) := by
  unfold sgn
  split
  · exact .inr ⟨_, rfl, enc_enc (safe_inS n) _⟩
  · exact .inl rfl
theorem sgn_at (c : UInt8) (n : Int) (A q : List UInt8) (hA : c ∉ A) (hq : Sgn c n q) : bef c (A ++ q) = A ∧ sgn c n (A ++ q) = q := by
  rcases hq with rfl | ⟨y, rfl, hy⟩
  · rw [List.append_nil]
    refine ⟨bef_none c A hA, ?_⟩
    unfold sgn
    have : A.contains c = false := by
      rw [Bool.eq_false_iff]
      intro h
      exact hA (List.contains_iff_mem.1 h)
    rw [this]
    rfl
  · refine ⟨bef_app c y A hA, ?_⟩
    unfold sgn
    rw [aft_app c y A hA, hy]
    have : (A ++ c :: y).contains c = true := List.contains_iff_mem.2 (by simp)
    rw [this]
    rfl
theorem enc_mem_free (n : Int) (y : List UInt8) (h : enc (inS n) y = y) (c : UInt8) (hc : c ∈ y) : inS n c = false := enc_free (safe_inS n) y c (by rw [h]; exact hc)
theorem scheme_cut (sch r : List UInt8) (p : Int) (h : dp sch = some p) : pcl' (sch ++ 58 :: r) = psc sch p r := by
  obtain ⟨h1, h2, h3, _⟩ := dp_form sch p h
  have h58 : (58 : UInt8) ∉ sch := fun hm => (letc_vis 58 (List.all_eq_true.1 h2 58 hm)).2.1 rfl
  unfold pcl'
  have : (sch ++ 58 :: r).contains 58 = true := List.contains_iff_mem.2 (by simp)
  rw [this, bef_app 58 r sch h58, aft_app 58 r sch h58, h3]
  simp [h]
theorem prtT_form (n p : Int) (h : PortOk n p) : (prtT n = [] ∧ n = -1) ∨ ∃ k : Nat, n = k ∧ k ≤ 65535 ∧ n ≠ p ∧ prtT n = 58 :: Lib.itoa (k : Int) := by
  rcases h with rfl | ⟨h0, h1, h2⟩
  · exact .inl ⟨rfl, rfl⟩
  · obtain ⟨k, rfl⟩ := Int.eq_ofNat_of_zero_le h0
    refine .inr ⟨k, rfl, by omega, h2, ?_⟩
    unfold prtT
    rw [if_neg (by omega)]
theorem prtT_mem (n p : Int) (h : PortOk n p) (c : UInt8) (hc : c ∈ prtT n) : c = 58 ∨ (48 ≤ c.toNat ∧ c.toNat ≤ 57) := by
  rcases prtT_form n p h with ⟨h1, _⟩ | ⟨k, _, _, _, h1⟩
  · rw [h1] at hc
    simp at hc
  · rw [h1] at hc
    rcases List.mem_cons.1 hc with hc | hc
    · exact .inl hc
    · rw [itoa_nat] at hc
      exact .inr (dec_mem k k c (Nat.le_refl _) hc)
theorem prtT_hco (n p : Int) (h : PortOk n p) : (prtT n).all hco = true := by
  rw [List.all_eq_true]
  intro c hc
  refine u8_all (P := fun c => (c = 58 ∨ (48 ≤ c.toNat ∧ c.toNat ≤ 57)) → hco c = true) ?_ c (prtT_mem n p h c hc)
  decide +kernel
theorem sub1_id (a b : UInt8) (l : List UInt8) (h : a ∉ l) : sub1 a b l = l := by
  unfold sub1
  have : ∀ x ∈ l, (if x = a then b else x) = x := fun x hx => by
    rw [if_neg]
    rintro rfl
    exact h hx
  rw [List.map_congr_left this, List.map_id']
/-- What stands behind a scheme's colon. -/
def rst (h : List UInt8) (n : Int) (pt q f : List UInt8) : List UInt8 := [47, 47] ++ h ++ prtT n ++ pt ++ q ++ f
theorem psp_build (sch : List UInt8) (p : Int) (h : List UInt8) (n : Int) (pt s q f : List UInt8) (hh : HostOk h) (hn : PortOk n p) (hpt : (pt = [] ∧ s = []) ∨ pt = 47 :: s) :
    psp sch p (h ++ prtT n ++ pt) q f = some ⟨sch, h, n, pth s, q, f⟩ := by
  have hno : ∀ c : UInt8, c ∈ h ++ prtT n → hco c = true := fun c hc => by
    rcases List.mem_append.1 hc with hc | hc
    · exact List.all_eq_true.1 hh.2.1 c hc
    · exact List.all_eq_true.1 (prtT_hco n p hn) c hc
  have h47 : (47 : UInt8) ∉ h ++ prtT n := fun hc => (hco_out 47 (hno 47 hc)).2.1 rfl
  have h64 : (64 : UInt8) ∉ h ++ prtT n := fun hc => (hco_out 64 (hno 64 hc)).2.2.2.2.1 rfl
  have e1 : bef 47 (h ++ prtT n ++ pt) = h ++ prtT n := by
    rcases hpt with ⟨rfl, _⟩ | rfl
    · rw [List.append_nil, bef_none 47 _ h47]
    · exact bef_app 47 s _ h47
  have e2 : aft 47 (h ++ prtT n ++ pt) = s := by
    rcases hpt with ⟨rfl, rfl⟩ | rfl
    · rw [List.append_nil, aft_none 47 _ h47]
    · exact aft_app 47 s _ h47
  have e3 : (h ++ prtT n).contains 64 = false := by
    rw [Bool.eq_false_iff]
    intro hm
    exact h64 (List.contains_iff_mem.1 hm)
  have e4 : cpt (h ++ prtT n) = (h, (prtT n).drop 1) := cpt_host h _ (col_host h _ hh) (by
    rcases prtT_form n p hn with ⟨h1, _⟩ | ⟨k, _, _, _, h1⟩
    · exact .inl h1
    · exact .inr ⟨_, h1⟩)
  have e5 : prtN ((prtT n).drop 1) p = some n := by
    rcases prtT_form n p hn with ⟨h1, h2⟩ | ⟨k, h2, h3, h4, h1⟩
    · rw [h1, h2]
      rfl
    · rw [h1, List.drop_one, List.tail_cons, prtN_dec k h3 p (by rw [← h2]; exact h4), h2]
  unfold psp
  rw [e1, e2, e3, e4, e5, hh.1]
  rfl
theorem build (sch : List UInt8) (p : Int) (hd : dp sch = some p) (hp : p ≠ -1) (h : List UInt8) (n : Int) (pt s q f : List UInt8) (hh : HostOk h) (hn : PortOk n p) (hpt : (pt = [] ∧ s = []) ∨ pt = 47 :: s)
    (hpc : pt.all pco = true) (hq : Sgn 63 4 q) (hf : Sgn 35 2 f) : prsU (sch ++ 58 :: rst h n pt q f) = some ⟨sch, h, n, pth s, q, f⟩ ∧ (sch ++ 58 :: rst h n pt q f).all vis = true := by
  have hq35 : (35 : UInt8) ∉ q := by
    rcases hq with rfl | ⟨y, rfl, hy⟩
    · simp
    · intro hm
      rcases List.mem_cons.1 hm with hm | hm
      · exact absurd hm (by decide)
      · exact (inS4 35 (enc_mem_free 4 y hy 35 hm)).2 rfl
  have hqv : ∀ c ∈ q, vis c = true := by
    rcases hq with rfl | ⟨y, rfl, hy⟩
    · simp
    · intro c hm
      rcases List.mem_cons.1 hm with hm | hm
      · rw [hm]; decide
      · exact (inS4 c (enc_mem_free 4 y hy c hm)).1
  have hfv : ∀ c ∈ f, vis c = true := by
    rcases hf with rfl | ⟨y, rfl, hy⟩
    · simp
    · intro c hm
      rcases List.mem_cons.1 hm with hm | hm
      · rw [hm]; decide
      · exact inS2 c (enc_mem_free 2 y hy c hm)
  have hB : ∀ c ∈ ([47, 47] : List UInt8) ++ h ++ prtT n ++ pt, vis c = true ∧ c ≠ 35 ∧ c ≠ 63 ∧ c ≠ 92 := fun c hc => by
    rcases List.mem_append.1 hc with hc | hc
    · rcases List.mem_append.1 hc with hc | hc
      · rcases List.mem_append.1 hc with hc | hc
        · have : c = 47 := by simpa using hc
          rw [this]; decide
        · have := hco_out c (List.all_eq_true.1 hh.2.1 c hc)
          exact ⟨this.1, this.2.2.2.1, this.2.2.1, this.2.2.2.2.2⟩
      · have := hco_out c (List.all_eq_true.1 (prtT_hco n p hn) c hc)
        exact ⟨this.1, this.2.2.2.1, this.2.2.1, this.2.2.2.2.2⟩
    · have := pco_out c (List.all_eq_true.1 hpc c hc)
      exact this
  have hv : (sch ++ 58 :: rst h n pt q f).all vis = true := by
    rw [List.all_eq_true]
    intro c hc
    rcases List.mem_append.1 hc with hc | hc
    · exact (letc_vis c (List.all_eq_true.1 (dp_form sch p hd).2.1 c hc)).1
    · rcases List.mem_cons.1 hc with hc | hc
      · rw [hc]; decide
      · unfold rst at hc
        rcases List.mem_append.1 hc with hc | hc
        · rcases List.mem_append.1 hc with hc | hc
          · exact (hB c hc).1
          · exact hqv c hc
        · exact hfv c hc
  refine ⟨?_, hv⟩
  unfold prsU
  rw [cln_vis _ hv, scheme_cut sch _ p hd]
  have h35 : (35 : UInt8) ∉ ([47, 47] : List UInt8) ++ h ++ prtT n ++ pt ++ q := fun hc => by
    rcases List.mem_append.1 hc with hc | hc
    · exact (hB 35 hc).2.1 rfl
    · exact hq35 hc
  have h63 : (63 : UInt8) ∉ ([47, 47] : List UInt8) ++ h ++ prtT n ++ pt := fun hc => (hB 63 hc).2.2.1 rfl
  have h92 : (92 : UInt8) ∉ ([47, 47] : List UInt8) ++ h ++ prtT n ++ pt := fun hc => (hB 92 hc).2.2.2 rfl
  obtain ⟨e1, e2⟩ := sgn_at 35 2 _ f h35 hf
  obtain ⟨e3, e4⟩ := sgn_at 63 4 _ q h63 hq
  unfold psc rst
  rw [if_neg hp, e1, e2, e3, e4, sub1_id 92 47 _ h92]
  have e5 : ([47, 47] : List UInt8) ++ h ++ prtT n ++ pt = 47 :: 47 :: (h ++ prtT n ++ pt) := by simp
  rw [e5]
  have e6 : ([47, 47] : List UInt8).isPrefixOf (47 :: 47 :: (h ++ prtT n ++ pt)) = true := by simp [List.isPrefixOf]
  rw [if_pos e6]
  exact psp_build sch p h n pt s q f hh hn hpt
end Go.Proofs.YtcepigekibidfaaGreatDoor
namespace Go.Proofs.YtcepigekibidfaaGreatDoor

theorem okc_hco (c : UInt8) (h : okc c = true) : hco c = true ∧ c ≠ 58 ∧ c ≠ 91 := by
  refine u8_all (P := fun c => okc c = true → hco c = true ∧ c ≠ 58 ∧ c ≠ 91) ?_ c h
  decide +kernel
theorem hexL_hco (u : Nat) : (hexL u).all (fun c => hco c && c != 93) = true := by
  rw [← bsd_hexL]
  exact bsd_all 16 (by omega) (by omega) u _ (by decide)
theorem hxs_hco (x : Nat → Nat) : ∀ k, (hxs x k).all (fun c => hco c && c != 93) = true
  | 0 => rfl
  | k + 1 => by
    rw [hxs, List.all_append, List.all_append, hxs_hco x k, hexL_hco]
    split
    · rfl
    · decide
theorem text6_hco (a : List Nat) : (text6 a).all (fun c => hco c && c != 93) = true := by
  unfold text6
  rw [List.all_append, List.all_append, hxs_hco, hxs_hco]
  split
  · decide
  · decide
theorem nam_err (l : List UInt8) (h : (nam l).2 = true) : (nam l).1 = [] := by
  unfold nam at h ⊢
  repeat' split
  all_goals simp_all
/-- What is told of a host is written as it is told. -/
theorem prs_host (l : List UInt8) (h : (prs l).2 = false) : HostOk (prs l).1 := by
  unfold prs at h ⊢
  split at h
  · rename_i hp
    rw [if_pos hp]
    unfold prb at h ⊢
    split at h
    · rename_i hs
      rw [if_pos hs]
      split at h
      · rename_i a ha
        simp only
        obtain ⟨h8, hlt⟩ := ip6_ok _ a ha
        have ht := text6_hco a
        have hno : (93 : UInt8) ∉ text6 a := fun hm => by
          have := List.all_eq_true.1 ht 93 hm
          simp at this
        refine ⟨prs_brk a h8 hlt, ?_, .inr ⟨text6 a, by simp [brk], hno⟩⟩
        unfold brk
        rw [List.all_append, List.all_append]
        have h1 : (text6 a).all hco = true := by
          rw [List.all_eq_true] at ht ⊢
          intro c hc
          have := ht c hc
          simp at this
          exact this.1
        rw [h1]
        decide
      · cases h
    · cases h
  · rename_i hp
    rw [if_neg hp]
    have e : nam (dec l) = ((nam (dec l)).1, false) := by rw [← h]
    obtain ⟨h1, h2, h3, h4⟩ := prs_nam (dec l) _ e
    refine ⟨h1, ?_, .inl ⟨fun hm => (okc_hco 58 (List.all_eq_true.1 h3 58 hm)).2.1 rfl, fun hm => (okc_hco 91 (List.all_eq_true.1 h3 91 hm)).2.2 rfl⟩⟩
    rw [List.all_eq_true]
    exact fun c hc => (okc_hco c (List.all_eq_true.1 h3 c hc)).1
end Go.Proofs.YtcepigekibidfaaGreatDoor
namespace Go.Proofs.YtcepigekibidfaaGreatDoor

/-- A text's last byte counts at the end. -/
def Lst (l : List UInt8) : Prop := l = [] ∨ ∃ m x, l = m ++ [x] ∧ lowc x = false
theorem Lst.getD {l : List UInt8} (h : Lst l) (k : Nat) (hk : l.length = k + 1) : lowc (l.getD k 0) = false := by
  rcases h with rfl | ⟨m, x, rfl, hx⟩
  · simp at hk
  · have e : k = m.length := by simp at hk; omega
    subst e
    simpa using hx
theorem snoc_of {α : Type} (l : List α) (h : l ≠ []) : ∃ m x, l = m ++ [x] := ⟨l.dropLast, l.getLast h, (List.dropLast_concat_getLast h).symm⟩
theorem Lst.app {A q : List UInt8} (h : Lst A) (hq : ∀ c ∈ q, vis c = true) : Lst (A ++ q) := by
  by_cases h0 : q = []
  · rw [h0, List.append_nil]
    exact h
  · obtain ⟨m, x, rfl⟩ := snoc_of q h0
    exact .inr ⟨A ++ m, x, by simp, (vis_low x (hq x (by simp))).1⟩
theorem Lst.back {A B : List UInt8} (h : Lst (A ++ B)) (hB : B ≠ []) : Lst B := by
  obtain ⟨m, x, rfl⟩ := snoc_of B hB
  rcases h with h | ⟨m2, y, h, hy⟩
  · simp at h
  · have e : A ++ (m ++ [x]) = (A ++ m) ++ [x] := by simp
    rw [e] at h
    have := List.append_inj' h rfl
    have e2 : x = y := by simpa using this.2
    exact .inr ⟨m, x, rfl, by rw [e2]; exact hy⟩
theorem rend_form (l : List UInt8) : ∀ n, rend l n = 0 ∨ ∃ k, rend l n = k + 1 ∧ k < n ∧ lowc (l.getD k 0) = false
  | 0 => .inl rfl
  | n + 1 => by
    rw [rend]
    cases hc : lowc (l.getD n 0) with
    | true =>
      rcases rend_form l n with h | ⟨k, h1, h2, h3⟩
      · exact .inl (by simpa using h)
      · exact .inr ⟨k, by simpa using h1, by omega, h3⟩
    | false => exact .inr ⟨n, by simp, by omega, hc⟩
theorem trmR_lst (l : List UInt8) : Lst (trmR l) := by
  unfold trmR
  rcases rend_form l l.length with h | ⟨k, h1, h2, h3⟩
  · rw [h]
    exact .inl rfl
  · rw [h1, List.take_succ_eq_append_getElem h2]
    refine .inr ⟨_, _, rfl, ?_⟩
    rw [List.getD_eq_getElem?_getD, List.getElem?_eq_getElem h2] at h3
    exact h3
theorem tnr_hi (x : UInt8) (h : lowc x = false) : tnr x = true := by
  refine u8_all (P := fun x => lowc x = false → tnr x = true) ?_ x h
  decide +kernel
theorem cln_lst (l : List UInt8) : Lst (cln l) := by
  unfold cln trm
  rcases trmR_lst (trmL l) with h | ⟨m, x, h, hx⟩
  · rw [h]
    exact .inl rfl
  · rw [h, List.filter_append]
    have : [x].filter tnr = [x] := by simp [tnr_hi x hx]
    rw [this]
    exact .inr ⟨_, _, rfl, hx⟩
theorem cln_tnr (l : List UInt8) (x : UInt8) (h : x ∈ cln l) : tnr x = true := (List.mem_filter.1 h).2
theorem Lst.enc {l : List UInt8} (h : Lst l) (n : Int) : Lst (enc (inS n) l) := by
  rcases h with rfl | ⟨m, x, rfl, hx⟩
  · exact .inl rfl
  · rw [enc_append]
    have e : Go.Proofs.YtcepigekibidfaaGreatDoor.enc (inS n) [x] = enc1 (inS n) x := by simp [Go.Proofs.YtcepigekibidfaaGreatDoor.enc]
    rw [e]
    have hlt : x.toNat < 256 := x.toNat_lt
    unfold enc1
    split
    · exact .inr ⟨Go.Proofs.YtcepigekibidfaaGreatDoor.enc (inS n) m ++ [37, hex (x.toNat / 16)], hex (x.toNat % 16), by simp, (hex_mem _ (by omega)).2.2.2.2⟩
    · exact .inr ⟨_, x, rfl, hx⟩

theorem sgn_form (c : UInt8) (n : Int) (A q : List UInt8) (hA : c ∉ A) (hq : Sgn c n q) : bef c (A ++ q) = A ∧ sgn c n (A ++ q) = q := sgn_at c n A q hA hq
theorem sgn_vis (c : UInt8) (n : Int) (q : List UInt8) (hn : n = 2 ∨ n = 3 ∨ n = 4) (hc : vis c = true) (hq : Sgn c n q) : ∀ x ∈ q, vis x = true := by
  rcases hq with rfl | ⟨y, rfl, hy⟩
  · simp
  · intro x hm
    rcases List.mem_cons.1 hm with hm | hm
    · rw [hm]; exact hc
    · rcases hn with rfl | rfl | rfl
      · exact inS2 x (enc_mem_free 2 y hy x hm)
      · exact (inS3 x (enc_mem_free 3 y hy x hm)).1
      · exact (inS4 x (enc_mem_free 4 y hy x hm)).1
theorem sgn_no35 (n : Int) (q : List UInt8) (hn : n = 3 ∨ n = 4) (hq : Sgn 63 n q) : (35 : UInt8) ∉ q := by
  rcases hq with rfl | ⟨y, rfl, hy⟩
  · simp
  · intro hm
    rcases List.mem_cons.1 hm with hm | hm
    · exact absurd hm (by decide)
    · rcases hn with rfl | rfl
      · exact (inS3 35 (enc_mem_free 3 y hy 35 hm)).2 rfl
      · exact (inS4 35 (enc_mem_free 4 y hy 35 hm)).2 rfl
/-- An opaque URL out of its parts. -/
theorem build_op (sch : List UInt8) (hd : dp sch = some (-1)) (pt q f : List UInt8) (h35 : (35 : UInt8) ∉ pt) (h63 : (63 : UInt8) ∉ pt) (he : enc (inS 1) pt = pt) (hl : Lst (sch ++ 58 :: (pt ++ q ++ f))) (hq : Sgn 63 3 q) (hf : Sgn 35 2 f) :
    prsU (sch ++ 58 :: (pt ++ q ++ f)) = some ⟨sch, [], -1, pt, q, f⟩ ∧ ∀ c ∈ sch ++ 58 :: (pt ++ q ++ f), 32 ≤ c.toNat ∧ c.toNat ≤ 126 := by
  have hqv := sgn_vis 63 3 q (by decide) (by decide) hq
  have hfv := sgn_vis 35 2 f (by decide) (by decide) hf
  have hv : ∀ c, vis c = true → 32 ≤ c.toNat ∧ c.toNat ≤ 126 ∧ tnr c = true := fun c h => by
    refine u8_all (P := fun c => vis c = true → 32 ≤ c.toNat ∧ c.toNat ≤ 126 ∧ tnr c = true) ?_ c h
    decide +kernel
  have hc : ∀ c ∈ sch ++ 58 :: (pt ++ q ++ f), 32 ≤ c.toNat ∧ c.toNat ≤ 126 ∧ tnr c = true := fun c hc => by
    rcases List.mem_append.1 hc with hc | hc
    · exact hv c (letc_vis c (List.all_eq_true.1 (dp_form sch _ hd).2.1 c hc)).1
    · rcases List.mem_cons.1 hc with hc | hc
      · rw [hc]; decide
      · rcases List.mem_append.1 hc with hc | hc
        · rcases List.mem_append.1 hc with hc | hc
          · exact inS1 c (enc_mem_free 1 pt he c hc)
          · exact hv c (hqv c hc)
        · exact hv c (hfv c hc)
  refine ⟨?_, fun c h => ⟨(hc c h).1, (hc c h).2.1⟩⟩
  have hL := hl
  have ecl : cln (sch ++ 58 :: (pt ++ q ++ f)) = sch ++ 58 :: (pt ++ q ++ f) := by
    refine cln_id _ ?_ (fun k hk => hL.getD k hk) (List.all_eq_true.2 fun c h => (hc c h).2.2)
    intro a r e
    obtain ⟨h1, h2, _⟩ := dp_form sch _ hd
    cases sch with
    | nil => exact absurd rfl h1
    | cons b t =>
      rw [List.cons_append] at e
      injection e with e1 _
      rw [← e1]
      exact (vis_low b (letc_vis b (List.all_eq_true.1 h2 b (by simp))).1).1
  unfold prsU
  rw [ecl, scheme_cut sch _ _ hd]
  obtain ⟨e1, e2⟩ := sgn_at 35 2 (pt ++ q) f (fun hm => by
    rcases List.mem_append.1 hm with hm | hm
    · exact h35 hm
    · exact sgn_no35 3 q (.inl rfl) hq hm) hf
  obtain ⟨e3, e4⟩ := sgn_at 63 3 pt q h63 hq
  unfold psc
  rw [if_pos rfl, e1, e2, e3, e4, he]
/-- What a text tells. -/
theorem prsU_form (l : List UInt8) (u : U) (h : prsU l = some u) : ∃ p, dp u.sch = some p ∧
    ((p = -1 ∧ u.host = [] ∧ u.port = -1 ∧ (35 : UInt8) ∉ u.path ∧ (63 : UInt8) ∉ u.path ∧ enc (inS 1) u.path = u.path ∧ Sgn 63 3 u.q ∧ Sgn 35 2 u.f ∧ Lst (u.sch ++ 58 :: u.path ++ u.q ++ u.f)) ∨
     (p ≠ -1 ∧ HostOk u.host ∧ PortOk u.port p ∧ (∃ s, u.path = pth s ∧ (92 : UInt8) ∉ s) ∧ Sgn 63 4 u.q ∧ Sgn 35 2 u.f)) := by
  unfold prsU pcl' at h
  have hlst := cln_lst l
  obtain ⟨s, hs⟩ : ∃ s, s = cln l := ⟨_, rfl⟩
  rw [← hs] at h hlst
  clear hs
  split at h
  · rename_i h58
    split at h
    · cases h
    · rename_i p hp
      obtain ⟨sch, hsch⟩ : ∃ x, x = low (bef 58 s) := ⟨_, rfl⟩
      rw [← hsch] at h hp
      unfold psc at h
      split at h
      · rename_i hp1
        have h := Option.some.inj h
        subst h
        refine ⟨p, hp, .inl ⟨hp1, rfl, rfl, ?_, ?_, enc_enc (safe_inS 1) _, sgn_sgn _ _ _, sgn_sgn _ _ _, ?_⟩⟩
        · exact enc_no _ _ 35 (fun hm => bef_not 35 _ (bef_mem 63 _ 35 hm)) (by decide) (fun k hk e => (hex_mem k hk).2.2.1 e.symm)
        · exact enc_no _ _ 63 (bef_not 63 _) (by decide) (fun k hk e => (hex_mem k hk).2.2.2.1 e.symm)
        · show Lst (sch ++ 58 :: enc (inS 1) (bef 63 (bef 35 (aft 58 s))) ++ sgn 63 3 (bef 35 (aft 58 s)) ++ sgn 35 2 (aft 58 s))
          obtain ⟨r, hr⟩ : ∃ r, r = aft 58 s := ⟨_, rfl⟩
          have hsr : s = bef 58 s ++ 58 :: r := by rw [hr]; exact bef_aft 58 s (List.contains_iff_mem.1 h58)
          rw [← hr]
          have hrl : Lst (58 :: r) := Lst.back (A := bef 58 s) (by rw [← hsr]; exact hlst) (by simp)
          by_cases h35 : r.contains 35 = true
          · have e : sgn 35 2 r = 35 :: enc (inS 2) (aft 35 r) := by unfold sgn; rw [if_pos h35]
            rw [e]
            have hv := sgn_vis 35 2 _ (by decide) (by decide) (sgn_sgn 35 2 r)
            rw [e] at hv
            obtain ⟨m, x, hm⟩ := snoc_of (35 :: enc (inS 2) (aft 35 r)) (by simp)
            rw [hm] at hv ⊢
            refine .inr ⟨_, x, by rw [← List.append_assoc], (vis_low x (hv x (by simp))).1⟩
          · have n35 : (35 : UInt8) ∉ r := fun hm => h35 (List.contains_iff_mem.2 hm)
            have e : sgn 35 2 r = [] := by unfold sgn; rw [if_neg h35]
            rw [e, List.append_nil, bef_none 35 r n35]
            by_cases h63 : r.contains 63 = true
            · have e : sgn 63 3 r = 63 :: enc (inS 3) (aft 63 r) := by unfold sgn; rw [if_pos h63]
              rw [e]
              have hv := sgn_vis 63 3 _ (by decide) (by decide) (sgn_sgn 63 3 r)
              rw [e] at hv
              obtain ⟨m, x, hm⟩ := snoc_of (63 :: enc (inS 3) (aft 63 r)) (by simp)
              rw [hm] at hv ⊢
              refine .inr ⟨_, x, by rw [← List.append_assoc], (vis_low x (hv x (by simp))).1⟩
            · have n63 : (63 : UInt8) ∉ r := fun hm => h63 (List.contains_iff_mem.2 hm)
              have e : sgn 63 3 r = [] := by unfold sgn; rw [if_neg h63]
              rw [e, List.append_nil, bef_none 63 r n63]
              by_cases hr0 : r = []
              · rw [hr0]
                exact .inr ⟨sch, 58, rfl, by decide⟩
              · have hrr : Lst r := Lst.back (A := [58]) hrl hr0
                have hre := hrr.enc 1
                rcases hre with h0 | ⟨m, x, hm, hx⟩
                · exact absurd ((enc_empty _ _).1 h0) hr0
                · rw [hm]
                  exact .inr ⟨sch ++ 58 :: m, x, by simp, hx⟩
      · rename_i hp1
        split at h
        · unfold psp at h
          split at h
          · cases h
          · split at h
            · cases h
            · rename_i hho
              split at h
              · cases h
              · rename_i n hn
                have h := Option.some.inj h
                subst h
                refine ⟨p, hp, .inr ⟨hp1, prs_host _ (by simpa using hho), prtN_ok _ _ _ hn, ⟨_, rfl, ?_⟩, sgn_sgn _ _ _, sgn_sgn _ _ _⟩⟩
                intro hm
                have h1 := List.mem_of_mem_drop (aft_mem 47 _ 92 hm)
                unfold sub1 at h1
                obtain ⟨y, _, hy⟩ := List.mem_map.1 h1
                split at hy
                · exact absurd hy (by decide)
                · rename_i hne
                  exact hne hy
        · cases h
  · cases h
theorem spc_of (s : List UInt8) (p : Int) (h : dp s = some p) : spc s = decide (p ≠ -1) := by
  unfold spc
  rw [h]
/-- What a text tells, written, tells it again, in bytes from 20 to 7E. -/
theorem once (l : List UInt8) (u : U) (h : prsU l = some u) : prsU (txt u) = some u ∧ ∀ c ∈ txt u, 32 ≤ c.toNat ∧ c.toNat ≤ 126 := by
  obtain ⟨p, hp, ⟨rfl, h1, h2, h3, h4, h5, h6, h7, h8⟩ | ⟨h1, h2, h3, ⟨s, h4, h4b⟩, h5, h6⟩⟩ := prsU_form l u h
  · have e : txt u = u.sch ++ 58 :: (u.path ++ u.q ++ u.f) := by
      unfold txt
      rw [spc_of _ _ hp]
      simp
    rw [e]
    obtain ⟨sch, host, port, path, q, f⟩ := u
    simp only at *
    subst h1 h2
    exact build_op sch hp path q f h3 h4 h5 (by simpa using h8) h6 h7
  · obtain ⟨t, ht, ht2⟩ := pth_twice s
    have e : txt u = u.sch ++ 58 :: rst u.host u.port u.path u.q u.f := by
      unfold txt orgT rst
      rw [spc_of _ _ hp]
      simp [h1]
    have hb := build u.sch p hp h1 u.host u.port u.path t u.q u.f h2 h3 (.inr (by rw [h4, ht])) (by rw [h4]; exact pth_pco s h4b) h5 h6
    rw [e]
    refine ⟨?_, fun c hc => ?_⟩
    · rw [hb.1, ht2, ← ht, ← h4]
    · have := List.all_eq_true.1 hb.2 c hc
      unfold vis at this
      simp at this
      omega
theorem pth_nil : pth [] = [47] := by decide
/-- An origin is a URL, of that origin. -/
theorem origin_is (l : List UInt8) (u : U) (h : prsU l = some u) (hs : spc u.sch = true) : prsU (orgT u) = some ⟨u.sch, u.host, u.port, [47], [], []⟩ := by
  obtain ⟨p, hp, ⟨rfl, _⟩ | ⟨h1, h2, h3, _⟩⟩ := prsU_form l u h
  · rw [spc_of _ _ hp] at hs
    exact absurd hs (by decide)
  · have e : orgT u = u.sch ++ 58 :: rst u.host u.port [] [] [] := by
      unfold orgT rst
      simp
    have hb := build u.sch p hp h1 u.host u.port [] [] [] [] h2 h3 (.inl ⟨rfl, rfl⟩) rfl (.inl rfl) (.inl rfl)
    rw [e, hb.1, pth_nil]
/-- Have two URLs the same origin? -/
def same (u v : U) : Bool := spc u.sch && decide (u.sch = v.sch ∧ u.host = v.host ∧ u.port = v.port)
theorem same_comm (u v : U) : same u v = same v u := by
  unfold same
  rw [Bool.eq_iff_iff]
  simp only [Bool.and_eq_true, decide_eq_true_eq]
  constructor
  · rintro ⟨h, h1, h2, h3⟩
    exact ⟨by rw [← h1]; exact h, h1.symm, h2.symm, h3.symm⟩
  · rintro ⟨h, h1, h2, h3⟩
    exact ⟨by rw [← h1]; exact h, h1.symm, h2.symm, h3.symm⟩
theorem same_self (u : U) : same u u = spc u.sch := by
  unfold same
  simp
theorem orgT_ne (u : U) (h : spc u.sch = true) : orgT u ≠ [110, 117, 108, 108] := by
  unfold spc at h
  split at h
  · rename_i p hp
    unfold orgT
    rcases dp_cases _ _ hp with ⟨e, _⟩ | ⟨e, _⟩ | ⟨e, _⟩ | ⟨e, _⟩ | ⟨e, _⟩ | ⟨e, _⟩ | ⟨e, _⟩ <;> rw [e] <;> simp
  · cases h
theorem org_null (u : U) : (org u = [110, 117, 108, 108]) ↔ spc u.sch = false := by
  unfold org
  cases h : spc u.sch with
  | true => simp [orgT_ne u h]
  | false => simp
theorem same_org (l m : List UInt8) (u v : U) (hu : prsU l = some u) (hv : prsU m = some v) : same u v = (decide (org u = org v) && decide (org u ≠ [110, 117, 108, 108])) := by
  rw [Bool.eq_iff_iff]
  unfold same
  simp only [Bool.and_eq_true, decide_eq_true_eq, ne_eq, org_null, Bool.not_eq_false]
  constructor
  · rintro ⟨h, h1, h2, h3⟩
    refine ⟨?_, h⟩
    have hv2 : spc v.sch = true := by rw [← h1]; exact h
    unfold org orgT
    rw [h, hv2, h1, h2, h3]
  · rintro ⟨h, h1⟩
    refine ⟨h1, ?_⟩
    have hv2 : spc v.sch = true := by
      cases hx : spc v.sch with
      | true => rfl
      | false =>
        have := (org_null v).2 hx
        rw [← h] at this
        rw [(org_null u).1 this] at h1
        cases h1
    have h2 := origin_is l u hu h1
    have h3 := origin_is m v hv hv2
    have e : orgT u = orgT v := by
      unfold org at h
      rwa [h1, hv2] at h
    rw [e, h3] at h2
    have h2 := Option.some.inj h2
    injection h2 with a b c
    exact ⟨a.symm, b.symm, c.symm⟩
end Go.Proofs.YtcepigekibidfaaGreatDoor
