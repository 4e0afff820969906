/-
  A URL, told from a text, and its text: the mathematics of weburl's Parse, Text and Origin. No program, no condition.
  More mathematics of URLs: a path that is told stays so; the text of a URL that is told is told as it is. No program, no condition.
  A host that is told is one as it is written. No program, no condition.
  The mathematics of WeburlOnce, WeburlOrigins and WeburlSames: what a text tells, written, tells it again; an origin's text is its own. No program, no condition.
-/
import Derived.Test.YtcepigekibidfaaGreatDoorGj
import Derived.Test.YtcepigekibidfaaGreatDoorGd
import Derived.Test.YtcepigekibidfaaGreatDoorGc
namespace Go.Proofs.YtcepigekibidfaaGreatDoor

structure U where
  sch : List UInt8
  host : List UInt8
  port : Int
  path : List UInt8
  q : List UInt8
  f : List UInt8

/-- A scheme's default port; -1: it is opaque. -/
def dp (s : List UInt8) : Option Int :=
  if s = [104, 116, 116, 112] then some 80 else if s = [104, 116, 116, 112, 115] then some 443 else if s = [119, 115] then some 80 else if s = [119, 115, 115] then some 443
  else if s = [100, 97, 116, 97] then some (-1) else if s = [98, 108, 111, 98] then some (-1) else if s = [97, 98, 111, 117, 116] then some (-1) else none
def spc (s : List UInt8) : Bool := match dp s with
  | some p => decide (p ≠ -1)
  | none => false
/-- Neither a tab nor a line feed nor a carriage return. -/
def tnr (c : UInt8) : Bool := !(c == 9 || c == 10 || c == 13)
def cln (l : List UInt8) : List UInt8 := (trm l).filter tnr
/-- A sign, and what is behind it, encoded. -/
def sgn (c : UInt8) (n : Int) (l : List UInt8) : List UInt8 := if l.contains c then c :: enc (inS n) (aft c l) else []
/-- Where the colon stands that parts host and port: the first one that is not in brackets. -/
def col : Bool → List UInt8 → Option Nat
  | _, [] => none
  | true, a :: r => (col (a != 93) r).map (· + 1)
  | false, a :: r => if a = 58 then some 0 else if a = 91 ∧ r.contains 93 = true then (col true r).map (· + 1) else (col false r).map (· + 1)
def cpt (a : List UInt8) : List UInt8 × List UInt8 := match col false a with
  | some k => (a.take k, a.drop (k + 1))
  | none => (a, [])
def prtN (d : List UInt8) (usual : Int) : Option Int := if d = [] then some (-1) else match Lib.parseUintB 16 d with
  | .ok n => some (if (n : Int) = usual then -1 else n)
  | _ => none
/-- The parts that are put, part by part. -/
def pst : List (List UInt8) → List (List UInt8) → List (List UInt8)
  | put, [] => put
  | put, [x] => if dots x = 2 then put.dropLast ++ [[]] else if dots x = 1 then put ++ [[]] else put ++ [enc (inS 5) x]
  | put, x :: y :: r => if dots x = 2 then pst put.dropLast (y :: r) else if dots x = 1 then pst put (y :: r) else pst (put ++ [enc (inS 5) x]) (y :: r)
/-- A path, of what stands behind its first slash. -/
def pth (s : List UInt8) : List UInt8 := 47 :: Lib.join (pst [] (spl 47 s)) [47]
/-- A special URL, of what stands behind '//'. -/
def psp (sch : List UInt8) (p : Int) (b q f : List UInt8) : Option U :=
  if (bef 47 b).contains 64 then none else if (prs (cpt (bef 47 b)).1).2 then none else
  match prtN (cpt (bef 47 b)).2 p with
  | none => none
  | some n => some ⟨sch, (prs (cpt (bef 47 b)).1).1, n, pth (aft 47 b), q, f⟩
/-- The same of what stands behind the colon. -/
def psc (sch : List UInt8) (p : Int) (r : List UInt8) : Option U :=
  if p = -1 then some ⟨sch, [], -1, enc (inS 1) (bef 63 (bef 35 r)), sgn 63 3 (bef 35 r), sgn 35 2 r⟩
  else if ([47, 47] : List UInt8).isPrefixOf (sub1 92 47 (bef 63 (bef 35 r))) then psp sch p ((sub1 92 47 (bef 63 (bef 35 r))).drop 2) (sgn 63 4 (bef 35 r)) (sgn 35 2 r) else none
/-- The URL of a text that is cleaned. -/
def pcl' (s : List UInt8) : Option U := if s.contains 58 then (match dp (low (bef 58 s)) with
  | none => none
  | some p => psc (low (bef 58 s)) p (aft 58 s)) else none
def prsU (l : List UInt8) : Option U := pcl' (cln l)

def prtT (p : Int) : List UInt8 := if p = -1 then [] else 58 :: Lib.itoa p
/-- An origin that is not null. -/
def orgT (u : U) : List UInt8 := u.sch ++ [58, 47, 47] ++ u.host ++ prtT u.port
def txt (u : U) : List UInt8 := (if spc u.sch then orgT u else u.sch ++ [58]) ++ u.path ++ u.q ++ u.f
def org (u : U) : List UInt8 := if spc u.sch then orgT u else [110, 117, 108, 108]

theorem dp_cases (s : List UInt8) (p : Int) (h : dp s = some p) : (s = [104, 116, 116, 112] ∧ p = 80) ∨ (s = [104, 116, 116, 112, 115] ∧ p = 443) ∨ (s = [119, 115] ∧ p = 80) ∨ (s = [119, 115, 115] ∧ p = 443) ∨ (s = [100, 97, 116, 97] ∧ p = -1) ∨ (s = [98, 108, 111, 98] ∧ p = -1) ∨ (s = [97, 98, 111, 117, 116] ∧ p = -1) := by
  unfold dp at h
  repeat' split at h
  all_goals first | (cases h; simp_all) | cases h
def letc (c : UInt8) : Bool := decide (97 ≤ c.toNat) && decide (c.toNat ≤ 122)
theorem dp_form (s : List UInt8) (p : Int) (h : dp s = some p) : s ≠ [] ∧ s.all letc = true ∧ low s = s ∧ s.length ≤ 5 := by
  rcases dp_cases s p h with ⟨rfl, _⟩ | ⟨rfl, _⟩ | ⟨rfl, _⟩ | ⟨rfl, _⟩ | ⟨rfl, _⟩ | ⟨rfl, _⟩ | ⟨rfl, _⟩ <;> exact ⟨by simp, by decide, by decide, by decide⟩
theorem dp_num (s : List UInt8) (p : Int) (h : dp s = some p) : p = -1 ∨ p = 80 ∨ p = 443 := by
  rcases dp_cases s p h with ⟨_, h⟩ | ⟨_, h⟩ | ⟨_, h⟩ | ⟨_, h⟩ | ⟨_, h⟩ | ⟨_, h⟩ | ⟨_, h⟩ <;> simp [h]

theorem u8_all {P : UInt8 → Prop} (h : ∀ m, m < 256 → P (UInt8.ofNat m)) (c : UInt8) : P c := by
  have := h c.toNat c.toNat_lt
  simpa using this

theorem cln_len (l : List UInt8) : (cln l).length ≤ l.length := Nat.le_trans (List.length_filter_le _ _) (trm_len l)

/-- A port that is told is the default one's sign, or another one. -/
theorem pu_le (M : Nat) : ∀ (l : List UInt8) (acc n : Nat), acc ≤ M → Lib.parseUintM M acc l = .ok n → n ≤ M
  | [], acc, n, ha, h => by
    rw [Lib.parseUintM] at h
    cases h
    exact ha
  | c :: r, acc, n, ha, h => by
    rw [Lib.parseUintM] at h
    split at h
    · split at h
      · cases h
      · split at h
        · cases h
        · exact pu_le M r _ n (by omega) h
    · cases h
def PortOk (n p : Int) : Prop := n = -1 ∨ (0 ≤ n ∧ n ≤ 65535 ∧ n ≠ p)
theorem prtN_ok (d : List UInt8) (p n : Int) (h : prtN d p = some n) : PortOk n p := by
  unfold prtN at h
  split at h
  · cases h
    exact .inl rfl
  · split at h
    · rename_i m hm
      have hle : m ≤ 65535 := by
        unfold Lib.parseUintB at hm
        split at hm
        · cases hm
        · exact pu_le 65535 d 0 m (by omega) hm
      have h := Option.some.inj h
      split at h
      · exact .inl h.symm
      · exact .inr ⟨by omega, by omega, by rw [← h]; assumption⟩
    · cases h

theorem col_in (m : List UInt8) : ∀ t : List UInt8, (93 : UInt8) ∉ t → col true (t ++ 93 :: m) = (col false m).map (· + (t.length + 1))
  | [], _ => by
    rw [List.nil_append, col]
    rfl
  | a :: r, h => by
    have a1 : a ≠ 93 := fun e => h (by simp [e])
    have ih := col_in m r (fun e => h (by simp [e]))
    have e : (a != 93) = true := by simp [a1]
    rw [List.cons_append, col, e, ih]
    cases col false m with
    | none => rfl
    | some k => simp; omega

theorem dot_zero (a b c : UInt8) (r : List UInt8) (h1 : a ≠ 46) (h2 : ¬ (a = 37 ∧ b = 50 ∧ (c = 101 ∨ c = 69))) : dot (a :: b :: c :: r) = 0 := by
  unfold dot
  split
  · rename_i x r' e
    simp only [List.cons.injEq] at e
    obtain ⟨rfl, rfl, rfl, _⟩ := e
    rw [if_neg (fun h => h2 ⟨rfl, rfl, h⟩)]
  · rename_i e
    simp only [List.cons.injEq] at e
    exact absurd e.1 h1
  · rfl
end Go.Proofs.YtcepigekibidfaaGreatDoor
namespace Go.Proofs.YtcepigekibidfaaGreatDoor

theorem mem_dropLast {α : Type} {l : List α} {x : α} (h : x ∈ l.dropLast) : x ∈ l := List.dropLast_sublist l |>.subset h
theorem pst_ne : ∀ (L put : List (List UInt8)), L ≠ [] → pst put L ≠ []
  | [], _, h => absurd rfl h
  | [a], put, _ => by
    rw [pst]
    repeat' split
    all_goals simp
  | a :: b :: r, put, _ => by
    rw [pst]
    repeat' split
    all_goals exact pst_ne (b :: r) _ (by simp)
theorem pst_from (P : List UInt8 → Prop) (h0 : P []) : ∀ (L put : List (List UInt8)), (∀ x ∈ put, P x) → (∀ x ∈ L, P (enc (inS 5) x)) → ∀ x ∈ pst put L, P x
  | [], put, hp, _ => hp
  | [a], put, hp, hL => by
    have ha := hL a (by simp)
    rw [pst]
    intro x hx
    split at hx
    · rcases List.mem_append.1 hx with hx | hx
      · exact hp x (mem_dropLast hx)
      · rw [List.mem_singleton.1 hx]; exact h0
    · split at hx
      · rcases List.mem_append.1 hx with hx | hx
        · exact hp x hx
        · rw [List.mem_singleton.1 hx]; exact h0
      · rcases List.mem_append.1 hx with hx | hx
        · exact hp x hx
        · rw [List.mem_singleton.1 hx]; exact ha
  | a :: b :: r, put, hp, hL => by
    have ha := hL a (by simp)
    have hL' : ∀ x ∈ b :: r, P (enc (inS 5) x) := fun x hx => hL x (List.mem_cons_of_mem _ hx)
    rw [pst]
    split
    · exact pst_from P h0 (b :: r) _ (fun x hx => hp x (mem_dropLast hx)) hL'
    · split
      · exact pst_from P h0 (b :: r) _ hp hL'
      · refine pst_from P h0 (b :: r) _ (fun x hx => ?_) hL'
        rcases List.mem_append.1 hx with hx | hx
        · exact hp x hx
        · rw [List.mem_singleton.1 hx]; exact ha

end Go.Proofs.YtcepigekibidfaaGreatDoor
namespace Go.Proofs.YtcepigekibidfaaGreatDoor

end Go.Proofs.YtcepigekibidfaaGreatDoor
namespace Go.Proofs.YtcepigekibidfaaGreatDoor

/-- Have two URLs the same origin? -/
def same (u v : U) : Bool := spc u.sch && decide (u.sch = v.sch ∧ u.host = v.host ∧ u.port = v.port)
end Go.Proofs.YtcepigekibidfaaGreatDoor
