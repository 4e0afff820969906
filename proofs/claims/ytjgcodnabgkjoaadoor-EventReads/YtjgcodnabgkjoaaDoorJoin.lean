/-
  Plain mathematics of events as bytes, third part: what Decode reads is the row of fields that the kind has. No condition.
-/
import Derived.Test.YtjgcodnabgkjoaaDoorRows2
namespace Go.Proofs.YtjgcodnabgkjoaaDoor
open Go.RowKit

theorem rd1_place (f : Fl) (hf : f.fits) (l : List UInt8) : (rd1 f l).2.1 ≤ l.length := by
  by_cases h : (rd1 f l).2.2 = 0
  · exact ((law_of f hf).fwd l (rd1 f l).1 (rd1 f l).2.1 (by rw [← h])).2.2
  · rcases (law_of f hf).err l h with h | h
    · exact Nat.le_of_eq h.2
    · exact Nat.le_of_lt h.2.2.1
theorem stp_place (f : Fl) (hf : f.fits) (l : List UInt8) (a e : Nat) (ha : a ≤ l.length) : (stp f l a e).2.1 ≤ l.length := by
  unfold stp
  split
  · exact ha
  · have := rd1_place f hf (l.drop a)
    rw [List.length_drop] at this
    simp only
    omega
theorem run_place : ∀ (fs : List Fl) (_ : FitsL fs) (l : List UInt8) (a e : Nat), a ≤ l.length → (run fs l a e).2.1 ≤ l.length
  | [], _, _, _, _, h => h
  | f :: fs, hf, l, a, e, h => run_place fs (fun g hg => hf g (by simp [hg])) l _ _ (stp_place f (hf f (by simp)) l a e h)

theorem ckE_shift (l : List UInt8) (a j e lo hi : Nat) (ha : a ≤ l.length) : ckE l (a + j) e lo hi = ckE (l.drop a) j e lo hi := by
  unfold ckE
  have h1 : (l.drop a).getD j 0 = l.getD (a + j) 0 := by simp [List.getD_eq_getElem?_getD]
  have h2 : a + j = l.length ↔ j = (l.drop a).length := by rw [List.length_drop]; omega
  rw [h1]
  by_cases h : e ≠ 0
  · rw [if_pos h, if_pos h]
  · rw [if_neg h, if_neg h]
    by_cases h3 : a + j = l.length
    · rw [if_pos h3, if_pos (h2.1 h3)]
    · rw [if_neg h3, if_neg (fun h4 => h3 (h2.2 h4))]
theorem ckE_bad (l : List UInt8) (a e lo hi : Nat) (h : e ≠ 0) : ckE l a e lo hi = e := by rw [ckE, if_pos h]

theorem stp_num (l : List UInt8) (a e : Nat) : stp .num l a e = (.n (nuR l a e).1, (nuR l a e).2) := by
  unfold stp
  by_cases h : e ≠ 0
  · rw [if_pos h, nuR, if_pos h]
    rfl
  · rw [if_neg h]
    simp only [rd1, nuR0]
    rw [nuR, if_neg h]
theorem stp_idn (f : Bool) (l : List UInt8) (a e : Nat) (ha : a ≤ l.length) : stp (.idn f) l a e = (.n (idR f l a e).1, (idR f l a e).2) := by
  unfold stp
  by_cases h : e ≠ 0
  · rw [if_pos h, idR, ckE_bad _ _ _ _ _ h, nuR, if_pos h]
    rfl
  · have h0 : e = 0 := by omega
    subst h0
    rw [if_neg h]
    simp only [rd1, idR0]
    rw [idR]
    have hs := ckE_shift l a 0 0 (if f = true then 1 else 0) (if f = true then 255 else 0) ha
    rw [Nat.add_zero] at hs
    rw [hs]
    by_cases hc : ckE (l.drop a) 0 0 (if f = true then 1 else 0) (if f = true then 255 else 0) ≠ 0
    · rw [if_pos hc, nuR, if_pos hc]
      rfl
    · rw [if_neg hc, nuR, if_neg hc]
theorem stp_txt (l : List UInt8) (a e : Nat) : stp .txt l a e = (.t (txR l [] a e).1, (txR l [] a e).2) := by
  unfold stp
  by_cases h : e ≠ 0
  · rw [if_pos h, txR, if_pos h]
    rfl
  · rw [if_neg h]
    simp only [rd1, txR0]
    rw [txR, if_neg h]
theorem tk_shift (l : List UInt8) (a j e lo hi : Nat) (ha : a ≤ l.length) : tkV l (a + j) e lo hi = tkV (l.drop a) j e lo hi ∧ tkA l (a + j) e lo hi = a + tkA (l.drop a) j e lo hi := by
  unfold tkV tkA
  rw [ckE_shift l a j e lo hi ha]
  have h1 : (l.drop a).getD j 0 = l.getD (a + j) 0 := by simp [List.getD_eq_getElem?_getD]
  rw [h1]
  refine ⟨rfl, ?_⟩
  split <;> omega
theorem stp_sml (b : Nat) (l : List UInt8) (a e : Nat) (ha : a ≤ l.length) : stp (.sml b) l a e = (.n (smR b l a e).1, (smR b l a e).2) := by
  unfold stp
  by_cases h : e ≠ 0
  · rw [if_pos h]
    unfold smR
    split
    · simp [tkV, tkA, ckE_bad _ _ _ _ _ h, h, dfl]
    · simp [tkV, tkA, ckE_bad _ _ _ _ _ h, h, dfl]
  · have h0 : e = 0 := by omega
    subst h0
    rw [if_neg h]
    simp only [rd1]
    have c0 : ∀ lo hi, ckE l a 0 lo hi = ckE (l.drop a) 0 0 lo hi := fun lo hi => ckE_shift l a 0 0 lo hi ha
    have v0 : ∀ lo hi, tkV l a 0 lo hi = tkV (l.drop a) 0 0 lo hi := fun lo hi => (tk_shift l a 0 0 lo hi ha).1
    have a0 : ∀ lo hi, tkA l a 0 lo hi = a + tkA (l.drop a) 0 0 lo hi := fun lo hi => (tk_shift l a 0 0 lo hi ha).2
    unfold smR
    split
    · rw [c0, v0, a0, ckE_shift _ _ _ _ _ _ ha, (tk_shift _ _ _ _ _ _ ha).1, (tk_shift _ _ _ _ _ _ ha).2]
    · rw [c0, v0, a0]

def smls : List Nat → List Fl
  | [] => []
  | b :: bs => if 0 < b then .sml b :: smls bs else smls bs
def numsOf : List Nat → List Int → List Vl
  | b :: bs, x :: xs => if 0 < b then .n x.toNat :: numsOf bs xs else numsOf bs xs
  | _, _ => []
def fls (h : Hav) : List Fl := .num :: .idn h.fetch :: (List.replicate h.texts .txt ++ smls h.bl)
theorem smls_fits : ∀ (bl : List Nat), (∀ b ∈ bl, b ≤ 1000) → FitsL (smls bl)
  | [], _ => fun f hf => by simp [smls] at hf
  | b :: bs, h => fun f hf => by
    have ih := smls_fits bs (fun x hx => h x (by simp [hx]))
    rw [smls] at hf
    by_cases hb : 0 < b
    · rw [if_pos hb] at hf
      rcases List.mem_cons.1 hf with rfl | hf
      · exact ⟨hb, h b (by simp)⟩
      · exact ih f hf
    · rw [if_neg hb] at hf
      exact ih f hf
theorem fls_fits {h : Hav} (hk : HavOk h) : FitsL (fls h) := by
  intro f hf
  simp only [fls, List.mem_cons, List.mem_append, List.mem_replicate] at hf
  rcases hf with rfl | rfl | ⟨_, rfl⟩ | hf
  · trivial
  · trivial
  · trivial
  · refine smls_fits h.bl (fun b hb => ?_) f hf
    obtain ⟨i, hi, rfl⟩ := List.getElem_of_mem hb
    have := hk.2.2 i
    rwa [List.getD_eq_getElem?_getD, List.getElem?_eq_getElem hi, Option.getD_some] at this
theorem replicate_fits (n : Nat) : FitsL (List.replicate n .txt) := by
  intro f hf
  obtain ⟨_, rfl⟩ := List.mem_replicate.1 hf
  trivial

theorem txS_run (l : List UInt8) (a e : Nat) : ∀ i, i ≤ 4 → (txS l [[], [], [], []] a e i).2 = (run (List.replicate i .txt) l a e).2 ∧ ((txS l [[], [], [], []] a e i).1.take i).map Vl.t = (run (List.replicate i .txt) l a e).1 ∧ ∀ j, i ≤ j → (txS l [[], [], [], []] a e i).1.getD j [] = []
  | 0, _ => by
    refine ⟨rfl, rfl, fun j _ => ?_⟩
    match j with
    | 0 | 1 | 2 | 3 => rfl
    | j + 4 => rfl
  | i + 1, hi => by
    obtain ⟨h1, h2, h3⟩ := txS_run l a e i (by omega)
    have hlen : (txS l [[], [], [], []] a e i).1.length = 4 := by rw [txS_length]; rfl
    have hrun : run (List.replicate (i + 1) .txt) l a e = ((run (List.replicate i .txt) l a e).1 ++ [.t (txR l [] (run (List.replicate i .txt) l a e).2.1 (run (List.replicate i .txt) l a e).2.2).1], (txR l [] (run (List.replicate i .txt) l a e).2.1 (run (List.replicate i .txt) l a e).2.2).2) := by
      rw [List.replicate_succ', run_append]
      simp only [run, stp_txt]
    have hold := h3 i (Nat.le_refl _)
    rw [hrun, ← h1, txS, hold]
    refine ⟨rfl, ?_, fun j hj => ?_⟩
    · simp only
      rw [List.take_set, List.take_succ_eq_append_getElem (by omega), List.set_append_right _ _ (by simp; omega), List.map_append, h2]
      have e1 : i - ((txS l [[], [], [], []] a e i).1.take i).length = 0 := by
        rw [List.length_take, hlen]
        omega
      rw [e1]
      rfl
    · simp only [List.getD_eq_getElem?_getD]
      rw [List.getElem?_set_ne (by omega)]
      have := h3 j (by omega)
      rwa [List.getD_eq_getElem?_getD] at this

theorem smls_snoc : ∀ (xs : List Nat) (b : Nat), smls (xs ++ [b]) = smls xs ++ (if 0 < b then [.sml b] else [])
  | [], b => by simp [smls]
  | x :: xs, b => by
    rw [List.cons_append, smls, smls, smls_snoc xs b]
    split <;> simp
theorem numsOf_snoc : ∀ (xs : List Nat) (ys : List Int) (b : Nat) (y : Int), xs.length = ys.length → numsOf (xs ++ [b]) (ys ++ [y]) = numsOf xs ys ++ (if 0 < b then [.n y.toNat] else [])
  | [], [], b, y, _ => by simp [numsOf]
  | x :: xs, z :: ys, b, y, h => by
    rw [List.cons_append, List.cons_append, numsOf, numsOf, numsOf_snoc xs ys b y (by simpa using h)]
    split <;> simp
  | [], _ :: _, _, _, h => by simp at h
  | _ :: _, [], _, _, h => by simp at h
theorem nmS_run (bl : List Nat) (hl : bl.length = 3) (hb : ∀ b ∈ bl, b ≤ 1000) (l : List UInt8) (a e : Nat) (ha : a ≤ l.length) : ∀ i, i ≤ 3 →
    (nmS bl l [0, 0, 0] a e i).2 = (run (smls (bl.take i)) l a e).2 ∧ numsOf (bl.take i) ((nmS bl l [0, 0, 0] a e i).1.take i) = (run (smls (bl.take i)) l a e).1 ∧
    (∀ j, i ≤ j ∨ bl.getD j 0 = 0 → (nmS bl l [0, 0, 0] a e i).1.getD j 0 = 0) ∧ ∀ j, 0 ≤ (nmS bl l [0, 0, 0] a e i).1.getD j 0
  | 0, _ => by
    have h0 : ∀ j, ([0, 0, 0] : List Int).getD j 0 = 0 := fun j => by
      match j with
      | 0 | 1 | 2 => rfl
      | j + 3 => rfl
    refine ⟨rfl, rfl, fun j _ => h0 j, fun j => ?_⟩
    show 0 ≤ ([0, 0, 0] : List Int).getD j 0
    rw [h0]
    exact Int.le_refl 0
  | i + 1, hi => by
    obtain ⟨h1, h2, h3, h4⟩ := nmS_run bl hl hb l a e ha i (by omega)
    have hlen : (nmS bl l [0, 0, 0] a e i).1.length = 3 := by rw [nmS_length]; rfl
    have hbi : bl.getD i 0 = bl[i] := by simp [List.getD_eq_getElem?_getD, List.getElem?_eq_getElem (show i < bl.length by omega)]
    have ht : bl.take (i + 1) = bl.take i ++ [bl.getD i 0] := by rw [List.take_succ_eq_append_getElem (by omega), hbi]
    have hpl := run_place (smls (bl.take i)) (smls_fits _ (fun b hb' => hb b (List.mem_of_mem_take hb'))) l a e ha
    have hlt : (bl.take i).length = ((nmS bl l [0, 0, 0] a e i).1.take i).length := by rw [List.length_take, List.length_take]; omega
    rw [ht, smls_snoc, run_append]
    by_cases hp : 0 < bl.getD i 0
    · have hn : nmS bl l [0, 0, 0] a e (i + 1) = ((nmS bl l [0, 0, 0] a e i).1.set i ((smR (bl.getD i 0) l (nmS bl l [0, 0, 0] a e i).2.1 (nmS bl l [0, 0, 0] a e i).2.2).1 : Int), (smR (bl.getD i 0) l (nmS bl l [0, 0, 0] a e i).2.1 (nmS bl l [0, 0, 0] a e i).2.2).2) := by
        rw [nmS, if_pos hp]
      rw [if_pos hp, hn, ← h1]
      simp only [run]
      rw [h1, stp_sml _ _ _ _ hpl]
      refine ⟨rfl, ?_, fun j hj => ?_, fun j => ?_⟩
      · rw [List.take_set, List.take_succ_eq_append_getElem (by omega), List.set_append_right _ _ (by simp; omega)]
        have e1 : i - ((nmS bl l [0, 0, 0] a e i).1.take i).length = 0 := by
          rw [List.length_take, hlen]
          omega
        rw [e1, List.set_cons_zero, numsOf_snoc _ _ _ _ hlt, h2, if_pos hp]
        simp
      · simp only [List.getD_eq_getElem?_getD]
        have hne : i ≠ j := by
          rintro rfl
          rcases hj with hj | hj <;> omega
        rw [List.getElem?_set_ne hne]
        have := h3 j (by omega)
        rwa [List.getD_eq_getElem?_getD] at this
      · simp only [List.getD_eq_getElem?_getD]
        by_cases hne : i = j
        · subst hne
          rw [List.getElem?_set_self (by omega)]
          simp
        · rw [List.getElem?_set_ne hne]
          have := h4 j
          rwa [List.getD_eq_getElem?_getD] at this
    · have hn : nmS bl l [0, 0, 0] a e (i + 1) = nmS bl l [0, 0, 0] a e i := by rw [nmS, if_neg hp]
      rw [if_neg hp, hn, h1]
      simp only [run, List.append_nil]
      refine ⟨trivial, ?_, fun j hj => ?_, h4⟩
      · rw [List.take_succ_eq_append_getElem (by omega), numsOf_snoc _ _ _ _ hlt, h2, if_neg hp]
        simp
      · by_cases hji : i = j
        · subst hji
          exact h3 i (Or.inl (Nat.le_refl _))
        · exact h3 j (by omega)
end Go.Proofs.YtjgcodnabgkjoaaDoor
