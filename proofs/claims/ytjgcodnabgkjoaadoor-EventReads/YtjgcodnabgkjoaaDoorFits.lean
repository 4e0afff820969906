/-
  Plain mathematics of events as bytes, fourth part: what is written is read, what is read was written, what is wrong stays so, what is cut off is cut off. Condition: numbers below 2^64.
-/
import Derived.Test.YtjgcodnabgkjoaaDoorJoin
namespace Go.Proofs.YtjgcodnabgkjoaaDoor
open Go.RowKit

def hk (e : Ev) : Hav := hav e.kind.toNat
def vsOf (e : Ev) : List Vl := .n e.time :: .n e.id :: ((e.ts.take (hk e).texts).map Vl.t ++ numsOf (hk e).bl e.ns)
/-- What the kind does not have is zero. -/
def Clean (e : Ev) : Prop := (∀ j, (hk e).texts ≤ j → e.ts.getD j [] = []) ∧ (∀ j, (hk e).bl.getD j 0 = 0 → e.ns.getD j 0 = 0) ∧ ∀ j, 0 ≤ e.ns.getD j 0
def Small (e : Ev) : Prop := e.time < 18446744073709551616 ∧ e.id < 18446744073709551616

theorem bl_le {h : Hav} (hk : HavOk h) : ∀ b ∈ h.bl, b ≤ 1000 := by
  intro b hb
  obtain ⟨i, hi, rfl⟩ := List.getElem_of_mem hb
  have := hk.2.2 i
  rwa [List.getD_eq_getElem?_getD, List.getElem?_eq_getElem hi, Option.getD_some] at this
theorem wrL_append : ∀ (fs gs : List Fl) (vs ws : List Vl), fs.length = vs.length → wrL (fs ++ gs) (vs ++ ws) = wrL fs vs ++ wrL gs ws
  | [], gs, [], ws, _ => by simp [wrL]
  | f :: fs, gs, v :: vs, ws, h => by
    rw [List.cons_append, List.cons_append, wrL, wrL, wrL_append fs gs vs ws (by simpa using h), List.append_assoc]
  | [], _, _ :: _, _, h => by simp at h
  | _ :: _, _, [], _, h => by simp at h
theorem okL_append : ∀ (fs gs : List Fl) (vs ws : List Vl), fs.length = vs.length → (okL (fs ++ gs) (vs ++ ws) ↔ okL fs vs ∧ okL gs ws)
  | [], gs, [], ws, _ => by simp [okL]
  | f :: fs, gs, v :: vs, ws, h => by
    rw [List.cons_append, List.cons_append, okL, okL, okL_append fs gs vs ws (by simpa using h), and_assoc]
  | [], _, _ :: _, _, h => by simp at h
  | _ :: _, _, [], _, h => by simp at h
theorem txW_wrL (ts : List (List UInt8)) : ∀ n, n ≤ ts.length → wrL (List.replicate n .txt) ((ts.take n).map Vl.t) = txW ts n
  | 0, _ => rfl
  | n + 1, h => by
    rw [List.replicate_succ', List.take_succ_eq_append_getElem (by omega), List.map_append, wrL_append _ _ _ _ (by simp; omega), txW_wrL ts n (by omega), txW_succ ts n (by omega)]
    simp [wrL, wr1, List.getD_eq_getElem?_getD, List.getElem?_eq_getElem (show n < ts.length by omega)]
theorem okL_texts (ts : List (List UInt8)) : ∀ n, n ≤ ts.length → (okL (List.replicate n .txt) ((ts.take n).map Vl.t) ↔ ∀ j, j < n → (ts.getD j []).length ≤ 4096)
  | 0, _ => by simp [okL]
  | n + 1, h => by
    have hg : ts[n] = ts.getD n [] := by simp [List.getD_eq_getElem?_getD, List.getElem?_eq_getElem (show n < ts.length by omega)]
    rw [List.replicate_succ', List.take_succ_eq_append_getElem (by omega), List.map_append, okL_append _ _ _ _ (by simp; omega), okL_texts ts n (by omega), hg]
    simp only [List.map_cons, List.map_nil, okL, ok1, and_true]
    constructor
    · rintro ⟨h1, h2⟩ j hj
      rcases Nat.lt_or_ge j n with h3 | h3
      · exact h1 j h3
      · obtain rfl : j = n := by omega
        exact h2
    · exact fun h1 => ⟨fun j hj => h1 j (by omega), h1 n (by omega)⟩
theorem three {α : Type} (l : List α) (h : l.length = 3) : ∃ a b c, l = [a, b, c] := by
  match l, h with
  | [a, b, c], _ => exact ⟨a, b, c, rfl⟩
theorem nmW_wrL (bl : List Nat) (ns : List Int) (h1 : bl.length = 3) (h2 : ns.length = 3) : wrL (smls bl) (numsOf bl ns) = nmW bl ns 3 := by
  obtain ⟨a, b, c, rfl⟩ := three bl h1
  obtain ⟨x, y, z, rfl⟩ := three ns h2
  by_cases ha : 0 < a <;> by_cases hb : 0 < b <;> by_cases hc : 0 < c <;> simp [smls, numsOf, nmW, wrL, wr1, ha, hb, hc]
theorem okL_nums (bl : List Nat) (ns : List Int) (h1 : bl.length = 3) (h2 : ns.length = 3) : okL (smls bl) (numsOf bl ns) ↔ ∀ j, j < 3 → 0 < bl.getD j 0 → (ns.getD j 0).toNat < bl.getD j 0 := by
  obtain ⟨a, b, c, rfl⟩ := three bl h1
  obtain ⟨x, y, z, rfl⟩ := three ns h2
  have e : (∀ j, j < 3 → 0 < ([a, b, c] : List Nat).getD j 0 → (([x, y, z] : List Int).getD j 0).toNat < ([a, b, c] : List Nat).getD j 0) ↔ (0 < a → x.toNat < a) ∧ (0 < b → y.toNat < b) ∧ (0 < c → z.toNat < c) := by
    constructor
    · exact fun h => ⟨h 0 (by omega), h 1 (by omega), h 2 (by omega)⟩
    · rintro ⟨p, q, r⟩ j hj
      match j, hj with
      | 0, _ => exact p
      | 1, _ => exact q
      | 2, _ => exact r
  rw [e]
  by_cases ha : 0 < a <;> by_cases hb : 0 < b <;> by_cases hc : 0 < c <;> simp [smls, numsOf, okL, ok1, ha, hb, hc]
theorem numsOf_len (bl : List Nat) (ns : List Int) (h1 : bl.length = 3) (h2 : ns.length = 3) : (smls bl).length = (numsOf bl ns).length := by
  obtain ⟨a, b, c, rfl⟩ := three bl h1
  obtain ⟨x, y, z, rfl⟩ := three ns h2
  by_cases ha : 0 < a <;> by_cases hb : 0 < b <;> by_cases hc : 0 < c <;> simp [smls, numsOf, ha, hb, hc]

theorem enc_wrL (e : Ev) (he : EvOk e) : encB e = UInt8.ofNat e.kind.toNat :: wrL (fls (hk e)) (vsOf e) := by
  have hh : HavOk (hk e) := hav_ok e.kind.toNat
  have h4 : (hk e).texts ≤ e.ts.length := by rw [he.1]; exact hh.1
  have hl : (List.replicate (hk e).texts Fl.txt).length = ((e.ts.take (hk e).texts).map Vl.t).length := by simp; omega
  simp only [fls, vsOf, wrL, wr1]
  rw [wrL_append _ _ _ _ hl, txW_wrL _ _ h4, nmW_wrL _ _ hh.2.1 he.2]
  simp [encB, hk]
theorem okL_vs (e : Ev) (he : EvOk e) : okL (fls (hk e)) (vsOf e) ↔ Small e ∧ ((hk e).fetch = true ↔ e.id ≠ 0) ∧ (∀ j, j < (hk e).texts → (e.ts.getD j []).length ≤ 4096) ∧ ∀ j, j < 3 → 0 < (hk e).bl.getD j 0 → (e.ns.getD j 0).toNat < (hk e).bl.getD j 0 := by
  have hh : HavOk (hk e) := hav_ok e.kind.toNat
  have h4 : (hk e).texts ≤ e.ts.length := by rw [he.1]; exact hh.1
  have hl : (List.replicate (hk e).texts Fl.txt).length = ((e.ts.take (hk e).texts).map Vl.t).length := by simp; omega
  simp only [fls, vsOf, okL, ok1]
  rw [okL_append _ _ _ _ hl, okL_texts _ _ h4, okL_nums _ _ hh.2.1 he.2]
  simp only [Small]
  constructor
  · rintro ⟨a, ⟨b, c⟩, d, f⟩
    exact ⟨⟨a, b⟩, c, d, f⟩
  · rintro ⟨⟨a, b⟩, c, d, f⟩
    exact ⟨a, ⟨b, c⟩, d, f⟩
theorem right_iff (e : Ev) (he : EvOk e) (hs : Small e) : rightE e = true ↔ (1 ≤ e.kind ∧ e.kind ≤ 14) ∧ okL (fls (hk e)) (vsOf e) ∧ Clean e := by
  have hh := hav_ok e.kind.toNat
  constructor
  · intro h
    obtain ⟨h1, h2, h3, h4⟩ := right_has h he
    refine ⟨h1, (okL_vs e he).2 ⟨hs, h2, fun j hj => ?_, fun j hj hb => ?_⟩, fun j hj => ?_, fun j hj => ?_, fun j => ?_⟩
    · have := h3 j (Nat.lt_of_lt_of_le hj hh.1)
      simp only [goodT, Bool.and_eq_true, decide_eq_true_eq] at this
      exact this.2
    · have := h4 j hj
      simp only [goodN, Bool.and_eq_true, Bool.or_eq_true, decide_eq_true_eq] at this
      obtain ⟨g1, g2⟩ := this
      show (e.ns.getD j 0).toNat < (hav e.kind.toNat).bl.getD j 0
      have hb' : 0 < (hav e.kind.toNat).bl.getD j 0 := hb
      omega
    · rcases Nat.lt_or_ge j 4 with hj4 | hj4
      · have := h3 j hj4
        simp only [goodT, Bool.and_eq_true, Bool.or_eq_true, decide_eq_true_eq] at this
        rcases this.1 with h5 | h5
        · have hj' : (hav e.kind.toNat).texts ≤ j := hj
          omega
        · exact h5
      · rw [List.getD_eq_getElem?_getD, List.getElem?_eq_none (by rw [he.1]; exact hj4)]
        rfl
    · rcases Nat.lt_or_ge j 3 with hj3 | hj3
      · have := h4 j hj3
        simp only [goodN, Bool.and_eq_true, Bool.or_eq_true, decide_eq_true_eq] at this
        obtain ⟨g1, g2⟩ := this
        have hj' : (hav e.kind.toNat).bl.getD j 0 = 0 := hj
        omega
      · rw [List.getD_eq_getElem?_getD, List.getElem?_eq_none (by rw [he.2]; exact hj3)]
        rfl
    · rcases Nat.lt_or_ge j 3 with hj3 | hj3
      · have := h4 j hj3
        simp only [goodN, Bool.and_eq_true, Bool.or_eq_true, decide_eq_true_eq] at this
        exact this.1
      · rw [List.getD_eq_getElem?_getD, List.getElem?_eq_none (by rw [he.2]; exact hj3)]
        exact Int.le_refl 0
  · rintro ⟨h1, h2, c1, c2, c3⟩
    obtain ⟨_, h3, h4, h5⟩ := (okL_vs e he).1 h2
    have hd : decide (1 ≤ e.kind ∧ e.kind ≤ 14) = true := by simpa using h1
    have hf : ((hav e.kind.toNat).fetch == decide (e.id ≠ 0)) = true := by
      rw [beq_iff_eq, Bool.eq_iff_iff]
      simpa [hk] using h3
    have ht : ∀ j, j < 4 → goodT (hav e.kind.toNat).texts e.ts j = true := by
      intro j hj
      simp only [goodT, Bool.and_eq_true, Bool.or_eq_true, decide_eq_true_eq]
      rcases Nat.lt_or_ge j (hav e.kind.toNat).texts with hjt | hjt
      · exact ⟨Or.inl hjt, h4 j hjt⟩
      · have := c1 j hjt
        exact ⟨Or.inr this, by rw [this]; simp⟩
    have hn : ∀ j, j < 3 → goodN (hav e.kind.toNat).bl e.ns j = true := by
      intro j hj
      simp only [goodN, Bool.and_eq_true, Bool.or_eq_true, decide_eq_true_eq]
      have g1 := c3 j
      refine ⟨g1, ?_⟩
      rcases Nat.eq_zero_or_pos ((hav e.kind.toNat).bl.getD j 0) with hz | hz
      · exact Or.inl (c2 j hz)
      · have : (e.ns.getD j 0).toNat < (hav e.kind.toNat).bl.getD j 0 := h5 j hj hz
        right
        omega
    rw [rightE, hd, hf, rightT_true ht, rightN_true hn]
    rfl

theorem clean_ext {a b : Ev} (ha : EvOk a) (hb : EvOk b) (hkd : a.kind = b.kind) (ca : Clean a) (cb : Clean b) (hv : vsOf a = vsOf b) : a = b := by
  have hh := hav_ok a.kind.toNat
  have hkk : hk b = hk a := by rw [hk, hk, hkd]
  obtain ⟨ka, ta, ia, tsa, nsa⟩ := a
  obtain ⟨kb, tb, ib, tsb, nsb⟩ := b
  simp only at hkd
  subst hkd
  simp only [vsOf, hkk, List.cons.injEq, Vl.n.injEq] at hv
  obtain ⟨rfl, rfl, hv⟩ := hv
  generalize hH : hk ⟨ka, ta, ia, tsa, nsa⟩ = H at *
  have hHk : H = hav ka.toNat := hH.symm
  have h4a : tsa.length = 4 := ha.1
  have h4b : tsb.length = 4 := hb.1
  have h3a : nsa.length = 3 := ha.2
  have h3b : nsb.length = 3 := hb.2
  obtain ⟨hts, hns⟩ := List.append_inj hv (by simp [h4a, h4b])
  have htake : tsa.take H.texts = tsb.take H.texts := by
    exact (List.map_inj_right (fun x y h => by injection h)).1 hts
  have hts' : tsa = tsb := by
    apply List.ext_getElem?
    intro j
    rcases Nat.lt_or_ge j 4 with hj | hj
    · rcases Nat.lt_or_ge j H.texts with hjt | hjt
      · have := congrArg (fun l => l[j]?) htake
        simpa [List.getElem?_take_of_lt hjt] using this
      · have h1 := ca.1 j (by rw [hH]; exact hjt)
        have h2 := cb.1 j (by rw [hkk]; exact hjt)
        simp only [List.getD_eq_getElem?_getD] at h1 h2
        rw [List.getElem?_eq_getElem (by omega)] at h1 ⊢
        rw [List.getElem?_eq_getElem (by omega)] at h2 ⊢
        simp only [Option.getD_some] at h1 h2
        rw [h1, h2]
    · rw [List.getElem?_eq_none (by omega), List.getElem?_eq_none (by omega)]
  have hns' : nsa = nsb := by
    have hbl : H.bl.length = 3 := by rw [hHk]; exact hh.2.1
    obtain ⟨p, q, r, hpqr⟩ := three H.bl hbl
    obtain ⟨x, y, z, rfl⟩ := three nsa h3a
    obtain ⟨x', y', z', rfl⟩ := three nsb h3b
    have a2 := ca.2.1
    have b2 := cb.2.1
    rw [hH] at a2
    rw [hkk] at b2
    rw [hpqr] at a2 b2 hns
    have a3 := ca.2.2
    have b3 := cb.2.2
    have a20 : p = 0 → x = 0 := a2 0
    have a21 : q = 0 → y = 0 := a2 1
    have a22 : r = 0 → z = 0 := a2 2
    have b20 : p = 0 → x' = 0 := b2 0
    have b21 : q = 0 → y' = 0 := b2 1
    have b22 : r = 0 → z' = 0 := b2 2
    have a30 : 0 ≤ x := a3 0
    have a31 : 0 ≤ y := a3 1
    have a32 : 0 ≤ z := a3 2
    have b30 : 0 ≤ x' := b3 0
    have b31 : 0 ≤ y' := b3 1
    have b32 : 0 ≤ z' := b3 2
    have e3 : ∀ u v s u' v' s' : Int, u = u' → v = v' → s = s' → [u, v, s] = [u', v', s'] := by
      rintro _ _ _ _ _ _ rfl rfl rfl
      rfl
    by_cases hp : 0 < p <;> by_cases hq : 0 < q <;> by_cases hr : 0 < r <;> simp [numsOf, hp, hq, hr] at hns <;> apply e3 <;> omega
  rw [hts', hns']
end Go.Proofs.YtjgcodnabgkjoaaDoor
