/-
  What the document's own Decode (transeptref05) answers: the same as the program's; nothing that was there turns. Condition: at most a million bytes.
-/
import Derived.Test.YtjgcodnabgkjoaaDoorRefLet
import Derived.Test.YtjgcodnabgkjoaaDoorStk
namespace Go.Proofs.YtjgcodnabgkjoaaDoor
open Go.RowKit

/-- The answer that Decode gives. -/
def gotE (l : List UInt8) : Value := .tuple #[.agg (evc (dV l)).toArray, .int .i64 (dA l : Int), .int .i64 (dE l : Int)]
theorem gotE_bad {l : List UInt8} {a e : Nat} (ha : dA l = a) (he : dE l = e) (h : e ≠ 0) : gotE l = .tuple #[.agg (evc ev0).toArray, .int .i64 (a : Int), .int .i64 (e : Int)] := by
  rw [gotE, dV_bad l (by rw [he]; exact h), ha, he]

theorem str_from (l : List UInt8) (a N : Nat) (hN : l.length = N) (ha : a ≤ N) : (str l).extract a N = str (l.drop a) := by
  have h1 := str_cut l a (N - a)
  rw [show a + (N - a) = N by omega] at h1
  rw [h1, List.take_of_length_le (by rw [List.length_drop]; omega)]
theorem byte_at (l : List UInt8) (a : Nat) (ha : a < l.length) : ∀ h, ((str l)[a]'h).toNat = (l.getD a 0).toNat := fun h => by
  simp [str, List.getD, List.getElem?_eq_getElem ha, ByteArray.getElem_eq_getElem_data]

set_option maxHeartbeats 1500000 in
set_option maxRecDepth 100000 in
theorem refDecode_nil (w : World) : Calls Tryd.prog 18 #[.string (str [])] w fun r w' => r = .returned (gotE []) ∧ Below w.heap.size w w' := by
  have y24 := zero24
  have z24z : (Tryd.prog.info? 24).map (·.size) = some (evc ev0).length := size24
  have HG : Hid (gotE [] = .tuple #[.agg (evc ev0).toArray, .int .i64 ((0 : Nat) : Int), .int .i64 ((2 : Nat) : Int)]) := gotE_bad dec_nil.1 dec_nil.2 (by decide)
  go_enter Tryd.func18, Tryd.ntmps18
  go_wp2_with (first
    | ((with_reducible show wpList _ _ _ (⟨some 2, _, _, _, _, _⟩ :: _) _ _); refine wp_new _ rfl 24 rfl _ y24 ?_; intro w1 g2 hB2 hf1; simp only [Act.put, List.setIfInBounds_toArray, List.set_cons_zero, List.set_cons_succ])
    | ((with_reducible show wpList _ _ _ (⟨some 29, _, _, _, _, _⟩ :: _) _ _); refine wp_build0 _ rfl 24 rfl _ (build24z _) ?_; simp only [Act.put, List.setIfInBounds_toArray, List.set_cons_zero, List.set_cons_succ])
    | ((with_reducible show wpList _ _ _ (⟨some 5, _, _, _, _, _⟩ :: _) _ _); refine wp_new _ rfl 24 rfl _ y24 ?_; intro w2 g5 hB5 hf2; simp only [Act.put, List.setIfInBounds_toArray, List.set_cons_zero, List.set_cons_succ])
    | ((with_reducible show wpList _ _ _ (⟨none, .store 24 _ _, _, _, _, _⟩ :: _) _ _); refine wp_putAll _ rfl 24 (.tmp 5) (.tmp 29) rfl g5 24 _ (evc ev0) rfl rfl hB5 rfl z24z (evc_one _) ?_; intro w3 E3 hU3; have Z3 : Blk w3 g2 24 (evc ev0) := (hf2.blk hB2).upd hU3 (by have q1 := hf2.is; have q2 := hB2.lt; omega); simp only [Act.put])
    | ((with_reducible show wpList _ _ _ (⟨some 31, _, _, _, _, _⟩ :: _) _ _); refine wp_eqS _ (by rfl) (.tmp 30) _ rfl [] [] rfl rfl true (by simp) ?_; simp only [Act.put, List.setIfInBounds_toArray, List.set_cons_zero, List.set_cons_succ])
    | ((with_reducible show wpList _ _ _ (⟨some 32, _, _, _, _, _⟩ :: _) _ _); refine wp_get _ rfl 24 (.tmp 5) rfl g5 0 (evc ev0) _ rfl E3.whole Tryd.underlying24 rfl z24z ?_; simp only [Act.put, List.setIfInBounds_toArray, List.set_cons_zero, List.set_cons_succ])
    | ((with_reducible show wpList _ _ _ (⟨none, .store 24 _ _, _, _, _, _⟩ :: _) _ _); refine wp_putAll _ rfl 24 (.tmp 2) (.tmp 32) rfl g2 24 _ (evc ev0) rfl rfl Z3 rfl z24z (evc_one _) ?_; intro wz Bz Uz; simp only [Act.put]))
  have hi1 := hf1.is
  have hi2 := hf2.is
  have hs1 := hf1.size
  have hs2 := hf2.size
  have b3 : Below w.heap.size w w3 := (hf1.below.trans (hf2.below.mono (by omega))).trans (hU3.below (by omega))
  have hg : w.heap.size ≤ g2 ∧ g2 < g5 := ⟨by omega, by omega⟩
  clear hi1 hi2 hs1 hs2 hf1 hf2 hB2 hB5 hU3
  refine ret_cell3 2 3 4 24 rfl g2 (evc ev0) _ rfl Bz.whole Tryd.underlying24 rfl z24z rfl (.int .i64 0) (.int .i64 2) rfl rfl ⟨?_, b3.trans (Uz.below (by omega))⟩
  rw [HG.out]
  rfl

set_option maxHeartbeats 1500000 in
set_option maxRecDepth 100000 in
theorem refDecode_kind (c : UInt8) (r : List UInt8) (hc : ¬ (1 ≤ c.toNat ∧ c.toNat ≤ 14)) (w : World) : Calls Tryd.prog 18 #[.string (str (c :: r))] w fun r' w' => r' = .returned (gotE (c :: r)) ∧ Below w.heap.size w w' := by
  have y24 := zero24
  have z24z : (Tryd.prog.info? 24).map (·.size) = some (evc ev0).length := size24
  have HG : Hid (gotE (c :: r) = .tuple #[.agg (evc ev0).toArray, .int .i64 ((0 : Nat) : Int), .int .i64 ((3 : Nat) : Int)]) := gotE_bad (dec_kind c r hc).1 (dec_kind c r hc).2 (by decide)
  have hsz := str_size (c :: r)
  have h0 := byte_at (c :: r) 0 (by simp)
  have hne : (false = true) ↔ c :: r = [] := ⟨fun h => (by cases h), fun h => (by cases h)⟩
  obtain ⟨k, hk⟩ : ∃ k, c.toNat = k := ⟨_, rfl⟩
  have h0' : ∀ h, ((str (c :: r))[0]'h).toNat = k := fun h => by rw [h0 h]; simpa using hk
  have hk8 : k < 256 := by rw [← hk]; exact UInt8.toNat_lt _
  rw [hk] at hc
  have SO := fun W => shape_out (k : Int) (by omega) W
  obtain ⟨l, hle⟩ : ∃ l, l = c :: r := ⟨_, rfl⟩
  have hlp : 0 < l.length := by rw [hle]; simp
  rw [← hle] at HG hsz h0' hne ⊢
  have HNE := Lib.hid hne
  have HSO := Lib.hid SO
  clear h0 hle hk SO hne
  obtain ⟨N, hN⟩ : ∃ N, l.length = N := ⟨_, rfl⟩
  rw [hN] at hsz hlp
  clear hN
  go_enter Tryd.func18, Tryd.ntmps18
  go_wp2_with (first
    | ((with_reducible show wpList _ _ _ (⟨some 2, _, _, _, _, _⟩ :: _) _ _); refine wp_new _ rfl 24 rfl _ y24 ?_; intro w1 g2 hB2 hf1; simp only [Act.put, List.setIfInBounds_toArray, List.set_cons_zero, List.set_cons_succ])
    | ((with_reducible show wpList _ _ _ (⟨some 29, _, _, _, _, _⟩ :: _) _ _); refine wp_build0 _ rfl 24 rfl _ (build24z _) ?_; simp only [Act.put, List.setIfInBounds_toArray, List.set_cons_zero, List.set_cons_succ])
    | ((with_reducible show wpList _ _ _ (⟨some 5, _, _, _, _, _⟩ :: _) _ _); refine wp_new _ rfl 24 rfl _ y24 ?_; intro w2 g5 hB5 hf2; simp only [Act.put, List.setIfInBounds_toArray, List.set_cons_zero, List.set_cons_succ])
    | ((with_reducible show wpList _ _ _ (⟨none, .store 24 _ _, _, _, _, _⟩ :: _) _ _); refine wp_putAll _ rfl 24 (.tmp 5) (.tmp 29) rfl g5 24 _ (evc ev0) rfl rfl hB5 rfl z24z (evc_one _) ?_; intro w3 E3 hU3; have Z3 : Blk w3 g2 24 (evc ev0) := (hf2.blk hB2).upd hU3 (by have q1 := hf2.is; have q2 := hB2.lt; omega); simp only [Act.put])
    | ((with_reducible show wpList _ _ _ (⟨some 31, _, _, _, _, _⟩ :: _) _ _); refine wp_eqS _ (by rfl) (.tmp 30) _ rfl l [] rfl rfl false HNE.out ?_; simp only [Act.put, List.setIfInBounds_toArray, List.set_cons_zero, List.set_cons_succ]))
  have hi1 := hf1.is
  have hi2 := hf2.is
  have hs1 := hf1.size
  have hs2 := hf2.size
  have b3 : Below w.heap.size w w3 := (hf1.below.trans (hf2.below.mono (by omega))).trans (hU3.below (by omega))
  have hg : w.heap.size ≤ g2 ∧ g2 < g5 := ⟨by omega, by omega⟩
  clear hi1 hi2 hs1 hs2 hf1 hf2 hB2 hB5 hU3
  with_reducible refine (HSO.out w3).mono ?_
  rintro r' w3' ⟨rfl, rfl⟩
  go_wp2_with (first
    | ((with_reducible show wpList _ _ _ (⟨some 38, _, _, _, _, _⟩ :: _) _ _); refine wp_eqS _ (by rfl) (.tmp 37) _ rfl [45] [45] rfl rfl true (by simp) ?_; simp only [Act.put, List.setIfInBounds_toArray, List.set_cons_zero, List.set_cons_succ])
    | ((with_reducible show wpList _ _ _ (⟨some 39, _, _, _, _, _⟩ :: _) _ _); refine wp_get _ rfl 24 (.tmp 5) rfl g5 0 (evc ev0) _ rfl E3.whole Tryd.underlying24 rfl z24z ?_; simp only [Act.put, List.setIfInBounds_toArray, List.set_cons_zero, List.set_cons_succ])
    | ((with_reducible show wpList _ _ _ (⟨none, .store 24 _ _, _, _, _, _⟩ :: _) _ _); refine wp_putAll _ rfl 24 (.tmp 2) (.tmp 39) rfl g2 24 _ (evc ev0) rfl rfl Z3 rfl z24z (evc_one _) ?_; intro wz Bz Uz; simp only [Act.put]))
  refine ret_cell3 2 3 4 24 rfl g2 (evc ev0) _ rfl Bz.whole Tryd.underlying24 rfl z24z rfl (.int .i64 0) (.int .i64 3) rfl rfl ⟨?_, b3.trans (Uz.below (by omega))⟩
  rw [HG.out]
  rfl

theorem getS_nil : getS [] = (0, 0, 2) := rfl
theorem gotE_ok {l : List UInt8} {a : Nat} {E : Ev} (he : dE l = 0) (ha : dA l = a) (hE : E = ⟨(dK l : Int), (d1 l).1, (d2 l).1, (d3 l (hav (dK l)).texts).1, (d4 l 3).1⟩) : gotE l = .tuple #[.agg (evc E).toArray, .int .i64 (a : Int), .int .i64 0] := by
  rw [gotE, dV, if_pos he, ha, he, hE]
  rfl
/-- What the walk keeps: two empty events, the event that is made. -/
def Keep (w : World) (g2 g5 g7 : Nat) (E : Ev) (w' : World) : Prop := Below w.heap.size w w' ∧ Blk w' g2 24 (evc ev0) ∧ Blk w' g5 24 (evc ev0) ∧ Blk w' g7 24 (evc E)
theorem Keep.upd {w w1 w2 : World} {g2 g5 g7 b : Nat} {E : Ev} (h : Keep w g2 g5 g7 E w1) (hu : Upd b w1 w2) (h1 : w.heap.size ≤ b) (h2 : g2 ≠ b) (h5 : g5 ≠ b) (h7 : g7 ≠ b) : Keep w g2 g5 g7 E w2 :=
  ⟨h.1.trans (hu.below h1), h.2.1.upd hu h2, h.2.2.1.upd hu h5, h.2.2.2.upd hu h7⟩
def rowT (ts : List (List UInt8)) : List Value := ts.map fun t => .string (str t)
def rowN (ns : List Int) : List Value := ns.map fun n => .int .i64 n
theorem size3r : (Tryd.prog.info? 3).map (·.size) = some 1 := by kernel_rfl
theorem rowT_set (ts : List (List UInt8)) (j : Nat) (t : List UInt8) : (rowT ts).set j (.string (str t)) = rowT (ts.set j t) := by simp [rowT, List.map_set]
theorem rowN_set (ns : List Int) (j : Nat) (n : Int) : (rowN ns).set j (.int .i64 n) = rowN (ns.set j n) := by simp [rowN, List.map_set]
theorem rowT_len (l : List UInt8) (j : Nat) : (rowT (d3 l j).1).length = 4 := by rw [rowT, List.length_map, d3_ok]
theorem rowN_len (l : List UInt8) (j : Nat) : (rowN (d4 l j).1).length = 3 := by rw [rowN, List.length_map, d4_ok]

/-- The ID. -/
theorem d2_end {l : List UInt8} {T a : Nat} (h : d1 l = (T, a, 0)) (ha : a = l.length) : d2 l = (0, a, 2) := by
  have h2 := d2_ok l (by rw [h]) 2
  rw [h] at h2
  have h3 := h2 (by simp only [ckE]; rw [if_neg (by simp), if_pos ha])
  rw [if_pos (by decide)] at h3
  exact h3
theorem d2_bad {l : List UInt8} {T a : Nat} (h : d1 l = (T, a, 0)) (ha : a ≠ l.length) (hb : (hav (dK l)).fetch = decide ((l.getD a 0).toNat = 0)) : d2 l = (0, a, 3) := by
  have h2 := d2_ok l (by rw [h]) 3
  rw [h] at h2
  have hm := UInt8.toNat_lt (l.getD a 0)
  have h3 := h2 (by
    simp only [ckE]
    rw [if_neg (by simp), if_neg ha, if_pos]
    by_cases h0 : (l.getD a 0).toNat = 0
    · rw [hb, decide_eq_true h0, if_pos rfl, if_pos rfl]
      omega
    · rw [hb, decide_eq_false h0, if_neg (by simp), if_neg (by simp)]
      omega)
  rw [if_pos (by decide)] at h3
  exact h3
theorem d2_good {l : List UInt8} {T a : Nat} (h : d1 l = (T, a, 0)) (ha : a ≠ l.length) (hb : (hav (dK l)).fetch = !decide ((l.getD a 0).toNat = 0)) : d2 l = ((getS (l.drop a)).1, a + (getS (l.drop a)).2.1, (getS (l.drop a)).2.2) := by
  have h2 := d2_ok l (by rw [h]) 0
  rw [h] at h2
  have hm := UInt8.toNat_lt (l.getD a 0)
  have h3 := h2 (by
    simp only [ckE]
    rw [if_neg (by simp), if_neg ha, if_neg]
    by_cases h0 : (l.getD a 0).toNat = 0
    · rw [hb, decide_eq_true h0, if_neg (by simp), if_neg (by simp)]
      omega
    · rw [hb, decide_eq_false h0, Bool.not_false, if_pos rfl, if_pos rfl]
      omega)
  rw [if_neg (by simp)] at h3
  exact h3

/-- The numbers. -/
theorem d4_zero (l : List UInt8) : d4 l 0 = ([0, 0, 0], (d3 l (hav (dK l)).texts).2.1, (d3 l (hav (dK l)).texts).2.2) := rfl
theorem d4_letters (l : List UInt8) (hk : dK l < 15) (h0 : 0 < dK l) : d4 l (lettersS (dK l)).length = d4 l 3 := by
  have h := letters_ok (dK l) hk h0
  have h3 := (shape_split (dK l) hk h0).2.2.2.2
  have hz : ∀ i, (lettersS (dK l)).length ≤ i → i < 3 → d4 l (i + 1) = d4 l i := fun i h1 h2 => d4_skip l i ((h i h2).2 (by omega))
  obtain ⟨n, hn⟩ : ∃ n, n = (lettersS (dK l)).length := ⟨_, rfl⟩
  rw [← hn] at h3 hz ⊢
  match n, h3 with
  | 0, _ => rw [hz 2 (by omega) (by omega), hz 1 (by omega) (by omega), hz 0 (by omega) (by omega)]
  | 1, _ => rw [hz 2 (by omega) (by omega), hz 1 (by omega) (by omega)]
  | 2, _ => rw [hz 2 (by omega) (by omega)]
  | 3, _ => rfl
theorem smR_n {b : Nat} (hb : b ≤ 256) (l : List UInt8) (a : Nat) : smR b l a 0 = (tkV l a 0 0 (b - 1), tkA l a 0 0 (b - 1), ckE l a 0 0 (b - 1)) := by
  rw [smR, if_neg (by omega)]
theorem smR_w1 (l : List UInt8) (a : Nat) (h : ckE l a 0 0 3 ≠ 0) : (smR 1000 l a 0).2 = (a, ckE l a 0 0 3) := by
  have h1 : tkA l a 0 0 3 = a := by rw [tkA, if_neg h]
  rw [smR, if_pos (by decide)]
  simp only [show (1000 - 1) / 256 = 3 from rfl, h1, ckE_stk _ _ _ _ _ h, tkA_stk _ _ _ _ _ h]
theorem smR_w2 (l : List UInt8) (a v g : Nat) (h : ckE l a 0 0 3 = 0) (hv : tkV l a 0 0 3 = v) (hg : g = min 255 (999 - v * 256)) : smR 1000 l a 0 = (v * 256 + tkV l (a + 1) 0 0 g, tkA l (a + 1) 0 0 g, ckE l (a + 1) 0 0 g) := by
  have h1 : tkA l a 0 0 3 = a + 1 := by rw [tkA, if_pos h]
  rw [smR, if_pos (by decide)]
  simp only [show (1000 - 1) / 256 = 3 from rfl, h1, h, hv, show 1000 - 1 = 999 from rfl, ← hg]
theorem moN_wide : ∀ m, m < 256 → 49 ≤ m → (m = 115 → moN m = 999) ∧ (m ≠ 115 → moN m ≤ 255) := by decide +kernel

end Go.Proofs.YtjgcodnabgkjoaaDoor
