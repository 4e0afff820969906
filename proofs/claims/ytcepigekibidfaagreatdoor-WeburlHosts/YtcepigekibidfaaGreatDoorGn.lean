/-
  The mathematics of WeburlDots, WeburlPorts, WeburlParts and WeburlClean. Condition of some: 'a' and 'host.example' are hosts that are written so. No program.
-/
import Derived.Test.YtcepigekibidfaaGreatDoorGk
import Derived.Test.YtcepigekibidfaaGreatDoorGj
namespace Go.Proofs.YtcepigekibidfaaGreatDoor

theorem cln_hi (l : List UInt8) (h : ∀ c ∈ l, lowc c = false) : cln l = l :=
  cln_id l (fun a r e => h a (by simp [e])) (fun k hk => h _ (getD_mem l k (by omega))) (List.all_eq_true.2 fun x hx => tnr_hi x (h x hx))
theorem no_contains (c : UInt8) (l : List UInt8) (h : c ∉ l) : l.contains c = false := by
  rw [Bool.eq_false_iff]
  intro hm
  exact h (List.contains_iff_mem.1 hm)
theorem sgn_none (c : UInt8) (n : Int) (l : List UInt8) (h : c ∉ l) : sgn c n l = [] := by
  unfold sgn
  rw [no_contains c l h]
  rfl
theorem sub1_app (a b : UInt8) (l m : List UInt8) : sub1 a b (l ++ m) = sub1 a b l ++ sub1 a b m := by simp [sub1]
theorem sub1_cons (a b x : UInt8) (l : List UInt8) : sub1 a b (x :: l) = (if x = a then b else x) :: sub1 a b l := rfl
/-! ### dots -/
/-- http://a -/
def hta : List UInt8 := [104, 116, 116, 112, 58, 47, 47, 97]
theorem http_a (hp : prs [97] = ([97], false)) (x : List UInt8) (h : ∀ c ∈ x, lowc c = false ∧ c ≠ 35 ∧ c ≠ 63) : prsU (hta ++ 47 :: x) = some ⟨[104, 116, 116, 112], [97], -1, pth (sub1 92 47 x), [], []⟩ := by
  have hc : cln (hta ++ 47 :: x) = [104, 116, 116, 112] ++ 58 :: (47 :: 47 :: 97 :: 47 :: x) := by
    refine cln_hi _ fun c hc => ?_
    rcases List.mem_append.1 hc with hc | hc
    · have : ∀ c ∈ hta, lowc c = false := by decide
      exact this c hc
    · rcases List.mem_cons.1 hc with hc | hc
      · rw [hc]; decide
      · exact (h c hc).1
  unfold prsU
  rw [hc, scheme_cut [104, 116, 116, 112] _ 80 rfl]
  have h35 : (35 : UInt8) ∉ (47 :: 47 :: 97 :: 47 :: x : List UInt8) := by
    intro hm
    simp only [List.mem_cons] at hm
    rcases hm with hm | hm | hm | hm | hm
    · exact absurd hm (by decide)
    · exact absurd hm (by decide)
    · exact absurd hm (by decide)
    · exact absurd hm (by decide)
    · exact (h 35 hm).2.1 rfl
  have h63 : (63 : UInt8) ∉ (47 :: 47 :: 97 :: 47 :: x : List UInt8) := by
    intro hm
    simp only [List.mem_cons] at hm
    rcases hm with hm | hm | hm | hm | hm
    · exact absurd hm (by decide)
    · exact absurd hm (by decide)
    · exact absurd hm (by decide)
    · exact absurd hm (by decide)
    · exact (h 63 hm).2.2 rfl
  unfold psc
  rw [if_neg (by decide), bef_none 35 _ h35, bef_none 63 _ h63, sgn_none 63 4 _ h63, sgn_none 35 2 _ h35]
  have e : sub1 92 47 (47 :: 47 :: 97 :: 47 :: x) = 47 :: 47 :: 97 :: 47 :: sub1 92 47 x := by
    rw [sub1_cons, sub1_cons, sub1_cons, sub1_cons]
    rfl
  rw [e, if_pos (by simp [List.isPrefixOf])]
  show psp [104, 116, 116, 112] 80 (97 :: 47 :: sub1 92 47 x) [] [] = _
  have e1 : bef 47 (97 :: 47 :: sub1 92 47 x) = [97] := bef_app 47 _ [97] (by decide)
  have e2 : aft 47 (97 :: 47 :: sub1 92 47 x) = sub1 92 47 x := aft_app 47 _ [97] (by decide)
  have e3 : cpt [97] = ([97], []) := by decide
  unfold psp
  rw [e1, e2, e3, hp]
  rfl
theorem pst1 (put : List (List UInt8)) (x y : List UInt8) (r : List (List UInt8)) (h : dots x = 1) : pst put (x :: y :: r) = pst put (y :: r) := by
  rw [pst, h]
  rfl
theorem pst2 (put : List (List UInt8)) (x y : List UInt8) (r : List (List UInt8)) (h : dots x = 2) : pst put (x :: y :: r) = pst put.dropLast (y :: r) := by
  rw [pst, h]
  rfl
theorem pst0 (put : List (List UInt8)) (x y : List UInt8) (r : List (List UInt8)) (h : dots x = 0) : pst put (x :: y :: r) = pst (put ++ [enc (inS 5) x]) (y :: r) := by
  rw [pst, h]
  rfl
def aheads : List (List UInt8) := [[47, 46], [47, 37, 50, 101], [47, 120, 47, 46, 46], [47, 120, 47, 46, 37, 50, 69], [47, 37, 50, 101, 37, 50, 101], [47, 120, 47, 121, 47, 46, 46, 47, 46, 46], [47, 46, 46], [47, 46, 47, 120, 47, 37, 50, 69, 46, 47, 46]]
/-- What goes up, or nowhere, ahead of a path does not matter. -/
theorem pth_ahead (t : List UInt8) (i : Nat) (hi : i < 8) : pth ((aheads.getD i []).drop 1 ++ 47 :: t) = pth t := by
  obtain ⟨h, r, e⟩ := spl_form 47 t
  have key : ∀ w : List UInt8, (47 : UInt8) ∉ w → ∀ m, spl 47 (w ++ 47 :: m) = w :: spl 47 m := fun w hw m => spl_append 47 m w hw
  have d46 : dots [46] = 1 := by decide
  have d2e : dots [37, 50, 101] = 1 := by decide
  have dx : dots [120] = 0 := by decide
  have dy : dots [121] = 0 := by decide
  have d1 : dots [46, 46] = 2 := by decide
  have d2 : dots [46, 37, 50, 69] = 2 := by decide
  have d3 : dots [37, 50, 101, 37, 50, 101] = 2 := by decide
  have d4 : dots [37, 50, 69, 46] = 2 := by decide
  unfold pth
  congr 2
  match i, hi with
  | 0, _ =>
    show pst [] (spl 47 ([46] ++ 47 :: t)) = _
    rw [key _ (by decide), e, pst1 _ _ _ _ d46]
  | 1, _ =>
    show pst [] (spl 47 ([37, 50, 101] ++ 47 :: t)) = _
    rw [key _ (by decide), e, pst1 _ _ _ _ d2e]
  | 2, _ =>
    show pst [] (spl 47 ([120] ++ 47 :: ([46, 46] ++ 47 :: t))) = _
    rw [key _ (by decide), key _ (by decide), e, pst0 _ _ _ _ dx, pst2 _ _ _ _ d1]
    rfl
  | 3, _ =>
    show pst [] (spl 47 ([120] ++ 47 :: ([46, 37, 50, 69] ++ 47 :: t))) = _
    rw [key _ (by decide), key _ (by decide), e, pst0 _ _ _ _ dx, pst2 _ _ _ _ d2]
    rfl
  | 4, _ =>
    show pst [] (spl 47 ([37, 50, 101, 37, 50, 101] ++ 47 :: t)) = _
    rw [key _ (by decide), e, pst2 _ _ _ _ d3]
    rfl
  | 5, _ =>
    show pst [] (spl 47 ([120] ++ 47 :: ([121] ++ 47 :: ([46, 46] ++ 47 :: ([46, 46] ++ 47 :: t))))) = _
    rw [key _ (by decide), key _ (by decide), key _ (by decide), key _ (by decide), e, pst0 _ _ _ _ dx, pst0 _ _ _ _ dy, pst2 _ _ _ _ d1, pst2 _ _ _ _ d1]
    rfl
  | 6, _ =>
    show pst [] (spl 47 ([46, 46] ++ 47 :: t)) = _
    rw [key _ (by decide), e, pst2 _ _ _ _ d1]
    rfl
  | 7, _ =>
    show pst [] (spl 47 ([46] ++ 47 :: ([120] ++ 47 :: ([37, 50, 69, 46] ++ 47 :: ([46] ++ 47 :: t))))) = _
    rw [key _ (by decide), key _ (by decide), key _ (by decide), key _ (by decide), e, pst1 _ _ _ _ d46, pst0 _ _ _ _ dx, pst2 _ _ _ _ d4, pst1 _ _ _ _ d46]
    rfl
def pstp (put : List (List UInt8)) (x : List UInt8) : List (List UInt8) := if dots x = 2 then put.dropLast else if dots x = 1 then put else put ++ [enc (inS 5) x]
def fin (put : List (List UInt8)) (x : List UInt8) : List (List UInt8) := if dots x = 2 then put.dropLast ++ [[]] else if dots x = 1 then put ++ [[]] else put ++ [enc (inS 5) x]
theorem pst_snoc (x : List UInt8) : ∀ (L put : List (List UInt8)), pst put (L ++ [x]) = fin (L.foldl pstp put) x
  | [], put => rfl
  | a :: r, put => by
    obtain ⟨b, t, e⟩ : ∃ b t, r ++ [x] = b :: t := by
      cases r with
      | nil => exact ⟨x, [], rfl⟩
      | cons b t => exact ⟨b, t ++ [x], rfl⟩
    have ih : ∀ P, pst P (b :: t) = fin (r.foldl pstp P) x := fun P => by rw [← e]; exact pst_snoc x r P
    rw [List.cons_append, e, List.foldl_cons]
    unfold pstp
    rw [pst]
    split
    · exact ih _
    · split
      · exact ih _
      · exact ih _
/-- How long parts are with a slash ahead of each. -/
def tl : List (List UInt8) → Nat
  | [] => 0
  | x :: r => x.length + 1 + tl r
theorem tl_app : ∀ X Y : List (List UInt8), tl (X ++ Y) = tl X + tl Y
  | [], Y => by simp [tl]
  | x :: r, Y => by
    rw [List.cons_append, tl, tl, tl_app r Y]
    omega
theorem tl_dropLast : ∀ X : List (List UInt8), tl X.dropLast ≤ tl X
  | [] => Nat.le_refl _
  | [x] => by simp [tl]
  | x :: y :: r => by
    have := tl_dropLast (y :: r)
    rw [List.dropLast_cons_cons, tl, tl]
    omega
theorem join_tl : ∀ X : List (List UInt8), X ≠ [] → (Lib.join X [47]).length + 1 = tl X
  | [], h => absurd rfl h
  | [x], _ => by rw [Lib.join_one]; simp [tl]
  | x :: y :: r, _ => by
    have := join_tl (y :: r) (by simp)
    rw [join_cons2, tl, ← this]
    simp
    omega
theorem join_end (X : List (List UInt8)) (h : X ≠ []) : ∃ m, Lib.join (X ++ [[]]) [47] = m ++ [47] := by
  obtain ⟨Y, z, rfl⟩ := snoc_of X h
  clear h
  induction Y with
  | nil =>
    refine ⟨z, ?_⟩
    show Lib.join [z, []] [47] = _
    rw [join_cons2, Lib.join_one]
  | cons a r ih =>
    obtain ⟨m, hm⟩ := ih
    obtain ⟨b, t, e⟩ : ∃ b t, r ++ [z] ++ [[]] = b :: t := by
      cases r with
      | nil => exact ⟨z, _, rfl⟩
      | cons b t => exact ⟨b, _, rfl⟩
    refine ⟨a ++ 47 :: m, ?_⟩
    rw [List.cons_append, List.cons_append, e, join_cons2, ← e, hm]
    simp
/-- A path with '/..' behind ends with a slash, and is at most a byte longer. -/
theorem pth_up (t : List UInt8) : (∃ m, pth (t ++ 47 :: [46, 46]) = m ++ [47]) ∧ (pth (t ++ 47 :: [46, 46])).length ≤ (pth t).length + 1 := by
  obtain ⟨L, x, hL⟩ := snoc_of (spl 47 t) (spl_ne 47 t)
  have e1 : spl 47 (t ++ 47 :: [46, 46]) = spl 47 t ++ [[46, 46]] := spl_snoc 47 [46, 46] (by decide) t
  have e2 : pst [] (spl 47 t) = fin (L.foldl pstp []) x := by rw [hL]; exact pst_snoc x L []
  have e3 : pst [] (spl 47 (t ++ 47 :: [46, 46])) = (pstp (L.foldl pstp []) x).dropLast ++ [[]] := by
    rw [e1, hL, pst_snoc, List.foldl_append]
    rfl
  unfold pth
  rw [e2, e3]
  obtain ⟨P, hP⟩ : ∃ P, P = L.foldl pstp [] := ⟨_, rfl⟩
  rw [← hP]
  constructor
  · by_cases h : (pstp P x).dropLast = []
    · rw [h]
      exact ⟨[], rfl⟩
    · obtain ⟨m, hm⟩ := join_end _ h
      exact ⟨47 :: m, by rw [hm]; rfl⟩
  · have j1 := join_tl ((pstp P x).dropLast ++ [[]]) (by simp)
    have j2 := join_tl (fin P x) (by unfold fin; repeat' split; all_goals simp)
    rw [List.length_cons, List.length_cons, j1, j2, tl_app]
    have t0 : tl [[]] = 1 := rfl
    rw [t0]
    unfold pstp fin
    have a1 := tl_dropLast P
    have a2 := tl_dropLast P.dropLast
    repeat' split
    · rw [tl_app, t0]; omega
    · rw [tl_app, t0]; omega
    · rw [tl_app, List.dropLast_concat]
      simp only [tl]
      omega
/-! ### ports -/
theorem pu_zeros (M : Nat) (l : List UInt8) : ∀ k, Lib.parseUintM M 0 (List.replicate k 48 ++ l) = Lib.parseUintM M 0 l
  | 0 => rfl
  | k + 1 => by
    rw [List.replicate_succ, List.cons_append, Lib.parseUintM, if_pos (by decide), if_neg (by decide), if_neg (by have : (48 : UInt8).toNat = 48 := rfl; omega)]
    exact pu_zeros M l k
theorem pu_big (M n : Nat) (hM : M < 1000000000000) (h10 : 10 ≤ n) (h1 : n / 10 ≤ M) (h : M < n) : Lib.parseUintM M 0 (Lib.decDigits n) = .range := by
  rw [Lib.decDigits, dif_neg (by omega), pu_app, pu_dec M hM (n / 10) (n / 10) (Nat.le_refl _) h1]
  show Lib.parseUintM M (n / 10) [UInt8.ofNat (48 + n % 10)] = _
  rw [Lib.parseUintM, dig_ofNat _ (by omega), if_pos ⟨by omega, by omega⟩, if_neg (by omega), if_pos (by omega)]
def dgt (c : UInt8) : Bool := decide (48 ≤ c.toNat) && decide (c.toNat ≤ 57)
theorem dgt_out (c : UInt8) (h : dgt c = true) : vis c = true ∧ c ≠ 35 ∧ c ≠ 63 ∧ c ≠ 92 ∧ c ≠ 47 ∧ c ≠ 64 := by
  refine u8_all (P := fun c => dgt c = true → vis c = true ∧ c ≠ 35 ∧ c ≠ 63 ∧ c ≠ 92 ∧ c ≠ 47 ∧ c ≠ 64) ?_ c h
  decide +kernel
/-- A special URL of the host a, of digits behind a colon. -/
theorem port_a (ha : prs [97] = ([97], false)) (sch : List UInt8) (p : Int) (hd : dp sch = some p) (hp : p ≠ -1) (d : List UInt8) (h : ∀ c ∈ d, dgt c = true) :
    prsU (sch ++ 58 :: (47 :: 47 :: 97 :: 58 :: d)) = match prtN d p with
      | none => none
      | some n => some ⟨sch, [97], n, [47], [], []⟩ := by
  have hb : ∀ c ∈ (47 :: 47 :: 97 :: 58 :: d : List UInt8), vis c = true ∧ c ≠ 35 ∧ c ≠ 63 ∧ c ≠ 92 := by
    intro c hc
    simp only [List.mem_cons] at hc
    rcases hc with hc | hc | hc | hc | hc
    · rw [hc]; decide
    · rw [hc]; decide
    · rw [hc]; decide
    · rw [hc]; decide
    · have := dgt_out c (h c hc)
      exact ⟨this.1, this.2.1, this.2.2.1, this.2.2.2.1⟩
  have hcl : cln (sch ++ 58 :: (47 :: 47 :: 97 :: 58 :: d)) = sch ++ 58 :: (47 :: 47 :: 97 :: 58 :: d) := by
    refine cln_vis _ (List.all_eq_true.2 fun c hc => ?_)
    rcases List.mem_append.1 hc with hc | hc
    · exact (letc_vis c (List.all_eq_true.1 (dp_form sch _ hd).2.1 c hc)).1
    · rcases List.mem_cons.1 hc with hc | hc
      · rw [hc]; decide
      · exact (hb c hc).1
  unfold prsU
  rw [hcl, scheme_cut sch _ p hd]
  have h35 : (35 : UInt8) ∉ (47 :: 47 :: 97 :: 58 :: d : List UInt8) := fun hm => (hb 35 hm).2.1 rfl
  have h63 : (63 : UInt8) ∉ (47 :: 47 :: 97 :: 58 :: d : List UInt8) := fun hm => (hb 63 hm).2.2.1 rfl
  have h92 : (92 : UInt8) ∉ (47 :: 47 :: 97 :: 58 :: d : List UInt8) := fun hm => (hb 92 hm).2.2.2 rfl
  unfold psc
  rw [if_neg hp, bef_none 35 _ h35, bef_none 63 _ h63, sgn_none 63 4 _ h63, sgn_none 35 2 _ h35, sub1_id 92 47 _ h92, if_pos (by simp [List.isPrefixOf])]
  show psp sch p (97 :: 58 :: d) [] [] = _
  have n47 : (47 : UInt8) ∉ (97 :: 58 :: d : List UInt8) := by
    intro hc
    simp only [List.mem_cons] at hc
    rcases hc with hc | hc | hc
    · exact absurd hc (by decide)
    · exact absurd hc (by decide)
    · exact (dgt_out 47 (h 47 hc)).2.2.2.2.1 rfl
  have n64 : (64 : UInt8) ∉ (97 :: 58 :: d : List UInt8) := by
    intro hc
    simp only [List.mem_cons] at hc
    rcases hc with hc | hc | hc
    · exact absurd hc (by decide)
    · exact absurd hc (by decide)
    · exact (dgt_out 64 (h 64 hc)).2.2.2.2.2 rfl
  have e3 : cpt (97 :: 58 :: d) = ([97], d) := cpt_host [97] (58 :: d) (col_plain _ _ (by decide) (by decide)) (.inr ⟨d, rfl⟩)
  unfold psp
  rw [bef_none 47 _ n47, aft_none 47 _ n47, no_contains 64 _ n64, e3, ha, pth_nil]
  rfl
theorem prtN_zeros (k n : Nat) (p : Int) (hn : n ≤ 131071) : prtN (List.replicate k 48 ++ Lib.decDigits n) p = if 65535 < n then none else some (if (n : Int) = p then -1 else (n : Int)) := by
  have hne : List.replicate k 48 ++ Lib.decDigits n ≠ [] := by
    intro e
    exact dec_nil n (List.append_eq_nil_iff.1 e).2
  unfold prtN Lib.parseUintB
  rw [if_neg hne, if_neg hne, pu_zeros]
  by_cases h : 65535 < n
  · rw [pu_big _ n (by decide) (by omega) (by omega) (by omega), if_pos h]
  · rw [pu_dec _ (by decide) n n (Nat.le_refl _) (by omega), if_neg h]
theorem zeros_dgt (k n : Nat) : ∀ c ∈ List.replicate k 48 ++ Lib.decDigits n, dgt c = true := by
  intro c hc
  rcases List.mem_append.1 hc with hc | hc
  · rw [(List.mem_replicate.1 hc).2]; decide
  · have := dec_mem n n c (Nat.le_refl _) hc
    unfold dgt
    simp
    omega
/-! ### parts -/
def aln (c : UInt8) : Bool := (decide (48 ≤ c.toNat) && decide (c.toNat ≤ 57)) || (decide (65 ≤ c.toNat) && decide (c.toNat ≤ 90)) || (decide (97 ≤ c.toNat) && decide (c.toNat ≤ 122))
theorem aln_out (c : UInt8) (h : aln c = true) : pco c = true ∧ c ≠ 46 ∧ c ≠ 37 ∧ c ≠ 47 ∧ inS 5 c = false ∧ inS 1 c = false := by
  refine u8_all (P := fun c => aln c = true → pco c = true ∧ c ≠ 46 ∧ c ≠ 37 ∧ c ≠ 47 ∧ inS 5 c = false ∧ inS 1 c = false) ?_ c h
  decide +kernel
theorem aln_more (c : UInt8) (h : aln c = true ∨ c ∈ ([63, 47, 58, 61, 38, 35] : List UInt8)) : inS 2 c = false := by
  refine u8_all (P := fun c => aln c = true ∨ c ∈ ([63, 47, 58, 61, 38, 35] : List UInt8) → inS 2 c = false) ?_ c h
  decide +kernel
theorem aln_query (c : UInt8) (h : aln c = true ∨ c ∈ ([63, 47, 58, 61, 38] : List UInt8)) : inS 3 c = false ∧ inS 4 c = false := by
  refine u8_all (P := fun c => aln c = true ∨ c ∈ ([63, 47, 58, 61, 38] : List UInt8) → inS 3 c = false ∧ inS 4 c = false) ?_ c h
  decide +kernel
theorem pth_aln (p : List UInt8) (h : ∀ c ∈ p, aln c = true) : pth p = 47 :: p := by
  have h47 : (47 : UInt8) ∉ p := fun hm => (aln_out 47 (h 47 hm)).2.2.2.1 rfl
  have hd : dots p = 0 := by
    unfold dots
    have : dot p = 0 := by
      cases p with
      | nil => rfl
      | cons a r =>
        have := aln_out a (h a (by simp))
        exact dot_not a r this.2.1 this.2.2.1
    rw [if_pos this]
  have hg : Good p := ⟨hd, enc_id p (fun x hx => (aln_out x (h x hx)).2.2.2.2.1), h47⟩
  unfold pth
  rw [spl_none 47 p h47, pst_id [p] [] (by simpa using hg), List.nil_append, Lib.join_one]
/-- host.example -/
def hex_ : List UInt8 := [104, 111, 115, 116, 46, 101, 120, 97, 109, 112, 108, 101]
theorem parts_special (hh : prs hex_ = (hex_, false)) (sch : List UInt8) (p : Int) (hd : dp sch = some p) (hp : p ≠ -1) (a q f : List UInt8) (ha : ∀ c ∈ a, aln c = true) (hq : Sgn 63 4 q) (hf : Sgn 35 2 f) :
    prsU (sch ++ 58 :: ([47, 47] ++ hex_ ++ (47 :: a) ++ q ++ f)) = some ⟨sch, hex_, -1, 47 :: a, q, f⟩ := by
  have hok : HostOk hex_ := ⟨hh, by decide, .inl ⟨by decide, by decide⟩⟩
  have hb := (build sch p hd hp hex_ (-1) (47 :: a) a q f hok (.inl rfl) (.inr rfl) (List.all_eq_true.2 fun c hc => by
    rcases List.mem_cons.1 hc with hc | hc
    · rw [hc]; decide
    · exact (aln_out c (ha c hc)).1) hq hf).1
  rw [pth_aln a ha] at hb
  have e : rst hex_ (-1) (47 :: a) q f = [47, 47] ++ hex_ ++ (47 :: a) ++ q ++ f := by
    unfold rst
    have : prtT (-1) = [] := rfl
    rw [this, List.append_nil]
  rw [← e]
  exact hb
theorem parts_opaque (sch : List UInt8) (hd : dp sch = some (-1)) (a q f : List UInt8) (ha : ∀ c ∈ a, aln c = true) (hq : Sgn 63 3 q) (hf : Sgn 35 2 f) :
    prsU (sch ++ 58 :: (a ++ q ++ f)) = some ⟨sch, [], -1, a, q, f⟩ := by
  have hv : ∀ c ∈ a, vis c = true := fun c hc => (pco_out c (aln_out c (ha c hc)).1).1
  refine (build_op sch hd a q f (fun hm => (pco_out 35 (aln_out 35 (ha 35 hm)).1).2.1 rfl) (fun hm => (pco_out 63 (aln_out 63 (ha 63 hm)).1).2.2.1 rfl) (enc_id a (fun x hx => (aln_out x (ha x hx)).2.2.2.2.2)) ?_ hq hf).1
  have e : sch ++ 58 :: (a ++ q ++ f) = (((sch ++ [58]) ++ a) ++ q) ++ f := by simp
  rw [e]
  exact ((Lst.app (Lst.app (A := sch ++ [58]) (.inr ⟨sch, 58, rfl, by decide⟩) hv) (sgn_vis 63 3 q (by decide) (by decide) hq)).app (sgn_vis 35 2 f (by decide) (by decide) hf))
theorem sgn_q (n : Int) (hn : n = 3 ∨ n = 4) (y : List UInt8) (h : ∀ c ∈ y, aln c = true ∨ c ∈ ([63, 47, 58, 61, 38] : List UInt8)) : Sgn 63 n (63 :: y) := by
  refine .inr ⟨y, rfl, enc_id y fun x hx => ?_⟩
  rcases hn with rfl | rfl
  · exact (aln_query x (h x hx)).1
  · exact (aln_query x (h x hx)).2
theorem sgn_f (y : List UInt8) (h : ∀ c ∈ y, aln c = true ∨ c ∈ ([63, 47, 58, 61, 38, 35] : List UInt8)) : Sgn 35 2 (35 :: y) := .inr ⟨y, rfl, enc_id y fun x hx => aln_more x (h x hx)⟩
/-! ### what does not count -/
theorem filter_dropWhile (l : List UInt8) : (l.dropWhile lowc).filter tnr = (l.filter tnr).dropWhile lowc := by
  induction l with
  | nil => rfl
  | cons a r ih =>
    rw [List.dropWhile_cons]
    cases hc : lowc a with
    | true =>
      simp only [if_true]
      rw [ih]
      cases ht : tnr a with
      | true => rw [List.filter_cons_of_pos ht, List.dropWhile_cons, hc]; rfl
      | false => rw [List.filter_cons_of_neg (by simp [ht])]
    | false =>
      have ht := tnr_hi a hc
      simp only [Bool.false_eq_true, if_false]
      rw [List.filter_cons_of_pos ht, List.dropWhile_cons, hc]
      simp
/-- A text without low bytes at its end, told from behind. -/
theorem trmR_snoc_low (l : List UInt8) (x : UInt8) (h : lowc x = true) : trmR (l ++ [x]) = trmR l := by
  have key : ∀ n, n ≤ l.length → rend (l ++ [x]) n = rend l n := by
    intro n hn
    induction n with
    | zero => rfl
    | succ k ih =>
      have e : (l ++ [x]).getD k 0 = l.getD k 0 := by
        rw [List.getD_eq_getElem?_getD, List.getD_eq_getElem?_getD, List.getElem?_append_left (by omega)]
      rw [rend, rend, e, ih (by omega)]
  unfold trmR
  rw [List.length_append, List.length_singleton, rend]
  have e : (l ++ [x]).getD l.length 0 = x := by simp
  rw [e, h, if_pos rfl, key _ (Nat.le_refl _), List.take_append_of_le_length (rend_le l _)]
theorem trmR_snoc_hi (l : List UInt8) (x : UInt8) (h : lowc x = false) : trmR (l ++ [x]) = l ++ [x] := by
  unfold trmR
  rw [List.length_append, List.length_singleton, rend]
  have e : (l ++ [x]).getD l.length 0 = x := by simp
  rw [e, h]
  simp only [Bool.false_eq_true, if_false]
  rw [List.take_of_length_le (by simp)]
theorem trmR_low (l : List UInt8) : ∀ (n : Nat) (m : List UInt8), m.length = n → (∀ c ∈ m, lowc c = true) → trmR (l ++ m) = trmR l
  | 0, m, hm, _ => by
    rw [List.eq_nil_of_length_eq_zero hm, List.append_nil]
  | n + 1, m, hm, h => by
    obtain ⟨r, x, rfl⟩ := snoc_of m (fun e => by rw [e] at hm; cases hm)
    rw [← List.append_assoc, trmR_snoc_low _ _ (h x (by simp)), trmR_low l n r (by simpa using hm) (fun c hc => h c (by simp [hc]))]
theorem trmL_low (m : List UInt8) : ∀ l : List UInt8, (∀ c ∈ l, lowc c = true) → trmL (l ++ m) = trmL m
  | [], _ => rfl
  | a :: r, h => by
    have ih := trmL_low m r (fun c hc => h c (by simp [hc]))
    unfold trmL at ih ⊢
    rw [List.cons_append, List.dropWhile_cons, h a (by simp), if_pos rfl, ih]
/-- A text that begins and ends with bytes that count. -/
def Hih (l : List UInt8) : Prop := (∃ a r, l = a :: r ∧ lowc a = false) ∧ ∃ m x, l = m ++ [x] ∧ lowc x = false
theorem trmL_hi (l m : List UInt8) (h : ∃ a r, l = a :: r ∧ lowc a = false) : trmL (l ++ m) = l ++ m := by
  obtain ⟨a, r, rfl, ha⟩ := h
  unfold trmL
  rw [List.cons_append, List.dropWhile_cons, ha]
  simp
theorem cln_mid (pre X post : List UInt8) (h1 : ∀ c ∈ pre, lowc c = true) (h2 : ∀ c ∈ post, lowc c = true) (hX : Hih X) : cln (pre ++ X ++ post) = X.filter tnr := by
  unfold cln trm
  rw [List.append_assoc, trmL_low _ _ h1, trmL_hi X post hX.1, trmR_low X _ post rfl h2]
  obtain ⟨m, x, rfl, hx⟩ := hX.2
  rw [trmR_snoc_hi m x hx]
theorem cln_hih (X : List UInt8) (hX : Hih X) : cln X = X.filter tnr := by
  have := cln_mid [] X [] (by simp) (by simp) hX
  simpa using this
/-- Blanks at the ends, and tabs and line feeds anywhere, do not count. -/
theorem clean_wrap (s pre more post : List UInt8) (k : Nat) (hk : k ≤ s.length) (hs : Hih s) (h1 : ∀ c ∈ pre, lowc c = true) (h2 : ∀ c ∈ post, lowc c = true) (h3 : ∀ c ∈ more, tnr c = false) :
    prsU (pre ++ s.take k ++ more ++ s.drop k ++ post) = prsU s := by
  have hm : ∀ c ∈ more, lowc c = true := fun c hc => by
    cases hl : lowc c with
    | true => rfl
    | false =>
      have := tnr_hi c hl
      rw [h3 c hc] at this
      cases this
  have hf : more.filter tnr = [] := List.filter_eq_nil_iff.2 fun c hc => by simp [h3 c hc]
  have key : cln (pre ++ s.take k ++ more ++ s.drop k ++ post) = s.filter tnr := by
    by_cases h0 : k = 0
    · subst h0
      have e : pre ++ s.take 0 ++ more ++ s.drop 0 ++ post = (pre ++ more) ++ s ++ post := by simp
      rw [e]
      exact cln_mid _ s post (fun c hc => by rcases List.mem_append.1 hc with hc | hc; exact h1 c hc; exact hm c hc) h2 hs
    · by_cases h4 : k = s.length
      · have e : pre ++ s.take k ++ more ++ s.drop k ++ post = pre ++ s ++ (more ++ post) := by
          rw [h4, List.take_length, List.drop_length]
          simp
        rw [e]
        exact cln_mid _ s _ h1 (fun c hc => by rcases List.mem_append.1 hc with hc | hc; exact hm c hc; exact h2 c hc) hs
      · have e : pre ++ s.take k ++ more ++ s.drop k ++ post = pre ++ (s.take k ++ more ++ s.drop k) ++ post := by simp
        obtain ⟨⟨a, r, e1, ha⟩, m, x, e2, hx⟩ := hs
        have hlen : m.length + 1 = s.length := by rw [e2]; simp
        rw [e, cln_mid _ _ post h1 h2]
        · rw [List.filter_append, List.filter_append, hf, List.append_nil, ← List.filter_append, List.take_append_drop]
        · refine ⟨⟨a, r.take (k - 1) ++ more ++ s.drop k, ?_, ha⟩, s.take k ++ more ++ m.drop k, x, ?_, hx⟩
          · obtain ⟨j, rfl⟩ : ∃ j, k = j + 1 := ⟨k - 1, by omega⟩
            rw [e1, List.take_succ_cons]
            simp
          · have e3 : s.drop k = m.drop k ++ [x] := by rw [e2, List.drop_append_of_le_length (by omega)]
            rw [e3]
            simp
  unfold prsU
  rw [key, cln_hih s hs]
/-- A letter in upper case. -/
def upc (c : UInt8) : UInt8 := if 97 ≤ c.toNat ∧ c.toNat ≤ 122 then c - 32 else c
theorem upc_all (c : UInt8) : tnr (upc c) = tnr c ∧ Lib.lowerB (upc c) = Lib.lowerB c ∧ (c ≠ 58 → upc c ≠ 58) ∧ lowc (upc c) = lowc c := by
  refine u8_all (P := fun c => tnr (upc c) = tnr c ∧ Lib.lowerB (upc c) = Lib.lowerB c ∧ (c ≠ 58 → upc c ≠ 58) ∧ lowc (upc c) = lowc c) ?_ c
  decide +kernel
theorem low_up (l : List UInt8) : low (l.map upc) = low l := by
  unfold low Lib.toLowerA
  rw [List.map_map]
  exact List.map_congr_left fun c _ => (upc_all c).2.1
theorem upper_same (b a : List UInt8) (hb : (58 : UInt8) ∉ b) (hs : Hih (b ++ 58 :: a)) : prsU (b.map upc ++ 58 :: a) = prsU (b ++ 58 :: a) := by
  have hs2 : Hih (b.map upc ++ 58 :: a) := by
    obtain ⟨⟨c, r, e1, hc⟩, m, x, e2, hx⟩ := hs
    constructor
    · cases b with
      | nil => exact ⟨58, a, rfl, by decide⟩
      | cons d t =>
        rw [List.cons_append] at e1
        injection e1 with e1 _
        exact ⟨upc d, t.map upc ++ 58 :: a, rfl, by rw [(upc_all d).2.2.2, e1]; exact hc⟩
    · by_cases ha : a = []
      · subst ha
        exact ⟨b.map upc, 58, rfl, by decide⟩
      · obtain ⟨n, y, rfl⟩ := snoc_of a ha
        have e3 : b ++ 58 :: (n ++ [y]) = (b ++ 58 :: n) ++ [y] := by simp
        rw [e3] at e2
        have := (List.append_inj' e2 rfl).2
        have e4 : y = x := by simpa using this
        exact ⟨b.map upc ++ 58 :: n, y, by simp, by rw [e4]; exact hx⟩
  have f1 : (b.map upc).filter tnr = (b.filter tnr).map upc := by
    rw [List.filter_map]
    congr 1
    exact List.filter_congr fun c _ => (upc_all c).1
  have f2 : (58 :: a : List UInt8).filter tnr = 58 :: a.filter tnr := List.filter_cons_of_pos (by decide)
  unfold prsU
  rw [cln_hih _ hs2, cln_hih _ hs, List.filter_append, List.filter_append, f1, f2]
  have n1 : (58 : UInt8) ∉ b.filter tnr := fun hm => hb (List.mem_filter.1 hm).1
  have n2 : (58 : UInt8) ∉ (b.filter tnr).map upc := fun hm => by
    obtain ⟨c, hc, e⟩ := List.mem_map.1 hm
    exact (upc_all c).2.2.1 (fun e2 => n1 (by rw [← e2]; exact hc)) e
  unfold pcl'
  have c1 : ((b.filter tnr).map upc ++ 58 :: a.filter tnr).contains 58 = true := List.contains_iff_mem.2 (by simp)
  have c2 : (b.filter tnr ++ 58 :: a.filter tnr).contains 58 = true := List.contains_iff_mem.2 (by simp)
  rw [c1, c2, bef_app 58 _ _ n1, bef_app 58 _ _ n2, aft_app 58 _ _ n1, aft_app 58 _ _ n2, low_up]
end Go.Proofs.YtcepigekibidfaaGreatDoor
