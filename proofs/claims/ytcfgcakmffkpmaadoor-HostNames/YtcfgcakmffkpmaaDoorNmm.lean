/-
  The mathematics of names in any letters, encoded or not. No program, no condition.
-/
import Derived.Test.YtcfgcakmffkpmaaDoorFom
namespace Go.Proofs.YtcfgcakmffkpmaaDoor
open Go.RowKit

theorem val_z (b : Nat) (hb : b ≤ 16) : ∀ (l : List UInt8) (n : Nat), (122 : UInt8) ∈ l → val b n l = none
  | [], _, h => by simp at h
  | c :: r, n, h => by
    rw [val]
    split
    · rename_i hd
      rcases List.mem_cons.1 h with h | h
      · rw [← h] at hd
        have : dig 122 = 16 := by decide
        omega
      · exact val_z b hb r _ h
    · rfl
theorem num_z (l : List UInt8) : num (l ++ [122]) = none := by
  match l with
  | [] => rfl
  | [a] =>
    show num [a, 122] = none
    simp only [num]
    split
    · rw [if_neg (by decide)]
      exact val_z 8 (by omega) _ _ (by simp)
    · exact val_z 10 (by omega) _ _ (by simp)
  | a :: b :: t =>
    show num (a :: b :: (t ++ [122])) = none
    simp only [num]
    split
    · split
      · exact val_z 16 (by omega) _ _ (by simp)
      · exact val_z 8 (by omega) _ _ (by simp)
    · exact val_z 10 (by omega) _ _ (by simp)
theorem spl_last (c z : UInt8) (hz : z ≠ c) : ∀ l : List UInt8, ∃ q ps, spl c (l ++ [z]) = ps ++ [q ++ [z]]
  | [] => ⟨[], [], spl_none c [z] (by simp [Ne.symm hz])⟩
  | a :: l => by
    obtain ⟨q, ps, h⟩ := spl_last c z hz l
    by_cases ha : a = c
    · subst ha
      refine ⟨q, [] :: ps, ?_⟩
      rw [List.cons_append, spl_hit, h]
      rfl
    · cases ps with
      | nil =>
        refine ⟨a :: q, [], ?_⟩
        exact spl_miss c a _ ha (q ++ [z]) [] h
      | cons p ps =>
        refine ⟨q, (a :: p) :: ps, ?_⟩
        exact spl_miss c a _ ha p (ps ++ [q ++ [z]]) h
theorem ends_z (l : List UInt8) : ends (prt (l ++ [122])) = false := by
  obtain ⟨q, ps, h⟩ := spl_last 46 122 (by decide) l
  have hl : (ps ++ [q ++ [122]]).getLastD [] = q ++ [122] := by simp
  rw [prt_of _ _ h (by rw [hl]; simp)]
  unfold ends
  rw [hl, num_z, val_z 10 (by omega) _ _ (by simp)]
  simp
theorem ip4_z (l : List UInt8) : ip4 (l ++ [122]) = (0, false, false) := by
  unfold ip4
  rw [ends_z]
  rfl

/-- What holds of the text and the name behind some bytes. -/
structure Nms (T U W : List UInt8) : Prop where
  dec : ∀ y, dec (T ++ y) = U ++ dec y
  low : low U = W
  ok : U.all okc = true
theorem Nms.start : Nms [] [] [] := ⟨fun _ => rfl, rfl, rfl⟩
theorem Nms.code {T U W : List UInt8} (h : Nms T U W) (c : UInt8) (hc : okc c = true) (hl : Lib.lowerB c = c) : Nms (T ++ [37] ++ [hx (c.toNat / 16)] ++ [hx (c.toNat % 16)]) (U ++ [c]) (W ++ [c]) := by
  refine ⟨fun y => ?_, ?_, ?_⟩
  · have e : T ++ [37] ++ [hx (c.toNat / 16)] ++ [hx (c.toNat % 16)] ++ y = T ++ (37 :: hx (c.toNat / 16) :: hx (c.toNat % 16) :: y) := by simp
    rw [e, h.dec, dec_pair _ _ c y (pair_hx c)]
    simp
  · rw [low_append, h.low]
    simp [Go.Proofs.YtcfgcakmffkpmaaDoor.low, Lib.toLowerA, hl]
  · rw [List.all_append, h.ok]
    simp [hc]
theorem Nms.plain {T U W : List UInt8} (h : Nms T U W) (d c : UInt8) (hd : okc d = true) (hl : Lib.lowerB d = c) : Nms (T ++ [d]) (U ++ [d]) (W ++ [c]) := by
  have hd37 : d ≠ 37 := by
    intro e
    rw [e] at hd
    revert hd
    decide
  refine ⟨fun y => ?_, ?_, ?_⟩
  · rw [List.append_assoc, h.dec]
    show U ++ Go.Proofs.YtcfgcakmffkpmaaDoor.dec (d :: y) = _
    rw [dec_other d y hd37]
    simp
  · rw [low_append, h.low]
    simp [Go.Proofs.YtcfgcakmffkpmaaDoor.low, Lib.toLowerA, hl]
  · rw [List.all_append, h.ok]
    simp [hd]
theorem Nms.prs {T U W : List UInt8} (h : Nms T U W) : prs (T ++ [90]) = (W ++ [122], false) := by
  have hd : Go.Proofs.YtcfgcakmffkpmaaDoor.dec (T ++ [90]) = U ++ [90] := by
    rw [h.dec]
    rfl
  have h90 : Go.Proofs.YtcfgcakmffkpmaaDoor.low [90] = [122] := by decide
  have hh : (T ++ [90]).head? ≠ some 91 := by
    intro e
    cases T with
    | nil => exact absurd e (by decide)
    | cons a r =>
      have ha : a = 91 := by simpa using e
      have h1 := h.dec []
      rw [List.append_nil, show Go.Proofs.YtcfgcakmffkpmaaDoor.dec [] = [] from rfl, List.append_nil, ha, dec_other 91 r (by decide)] at h1
      have h2 := h.ok
      rw [← h1] at h2
      simp only [List.all_cons, Bool.and_eq_true] at h2
      exact absurd h2.1 (by decide)
  unfold Go.Proofs.YtcfgcakmffkpmaaDoor.prs
  rw [prefix91 _ hh, hd]
  unfold nam may
  rw [List.all_append, h.ok, low_append, h.low, h90, ip4_z]
  simp
  decide
theorem Nms.dom {T U W : List UInt8} (h : Nms T U W) : dom (W ++ [122]) = true := by
  have h91 : (W ++ [122]).head? ≠ some 91 := by
    intro e
    have hw : W.all okc = true := by
      rw [← h.low]
      exact low_ok _ h.ok
    cases W with
    | nil => exact absurd e (by decide)
    | cons a r =>
      have ha : a = 91 := by simpa using e
      exact okc_not91 hw (by simp [ha])
  unfold Go.Proofs.YtcfgcakmffkpmaaDoor.dom
  rw [prefix91 _ h91, ends_z]
  rfl
theorem Nms.not37 {T U W : List UInt8} (h : Nms T U W) : Go.Proofs.YtcfgcakmffkpmaaDoor.dec T ≠ [37] := by
  have h1 := h.dec []
  rw [List.append_nil, show Go.Proofs.YtcfgcakmffkpmaaDoor.dec [] = [] from rfl, List.append_nil] at h1
  rw [h1]
  intro e
  exact okc_not37 h.ok (by rw [e]; simp)
/-- The bytes that a name here may have. -/
theorem keeps (m : Nat) (h : m = 45 ∨ m = 46 ∨ (48 ≤ m ∧ m ≤ 57) ∨ (97 ≤ m ∧ m ≤ 122)) : okc (UInt8.ofNat m) = true ∧ Lib.lowerB (UInt8.ofNat m) = UInt8.ofNat m := by
  have key : ∀ m, m < 256 → (m = 45 ∨ m = 46 ∨ (48 ≤ m ∧ m ≤ 57) ∨ (97 ≤ m ∧ m ≤ 122)) → okc (UInt8.ofNat m) = true ∧ Lib.lowerB (UInt8.ofNat m) = UInt8.ofNat m := by decide +kernel
  exact key m (by omega) h
theorem keepsU (m : Nat) (h : 97 ≤ m ∧ m ≤ 122) : okc (UInt8.ofNat (m - 32)) = true ∧ Lib.lowerB (UInt8.ofNat (m - 32)) = UInt8.ofNat m := by
  have key : ∀ m, m < 256 → (97 ≤ m ∧ m ≤ 122) → okc (UInt8.ofNat (m - 32)) = true ∧ Lib.lowerB (UInt8.ofNat (m - 32)) = UInt8.ofNat m := by decide +kernel
  exact key m (by omega) h
end Go.Proofs.YtcfgcakmffkpmaaDoor
