/-
  A text parted at a byte: the mathematics, and what the library's split is in these words. No program, no condition.
-/
import Derived.Test.YtcfgcakmffkpmaaDoorShelf
import Derived.Test.YtcfgcakmffkpmaaDoorVal
namespace Go.Proofs.YtcfgcakmffkpmaaDoor
open Go.RowKit

/-- What a byte parts. -/
def spl (c : UInt8) : List UInt8 → List (List UInt8)
  | [] => [[]]
  | a :: r => if a = c then [] :: spl c r else (a :: (spl c r).headD []) :: (spl c r).tail

theorem spl_ne (c : UInt8) (l : List UInt8) : spl c l ≠ [] := by
  cases l with
  | nil => simp [spl]
  | cons a r =>
    rw [spl]
    split <;> simp
theorem spl_form (c : UInt8) (l : List UInt8) : ∃ h t, spl c l = h :: t := by
  match hs : spl c l with
  | [] => exact absurd hs (spl_ne c l)
  | h :: t => exact ⟨h, t, rfl⟩
theorem spl_hit (c : UInt8) (r : List UInt8) : spl c (c :: r) = [] :: spl c r := by simp [spl]
theorem spl_miss (c a : UInt8) (r : List UInt8) (h : a ≠ c) (x : List UInt8) (t : List (List UInt8)) (hr : spl c r = x :: t) : spl c (a :: r) = (a :: x) :: t := by simp [spl, h, hr]
theorem spl_length (c : UInt8) : ∀ l : List UInt8, (spl c l).length = l.count c + 1
  | [] => rfl
  | a :: r => by
    have ih := spl_length c r
    by_cases h : a = c
    · subst h
      rw [spl_hit]
      simp [ih]
    · obtain ⟨x, t, hx⟩ := spl_form c r
      rw [spl_miss c a r h x t hx, List.count_cons_of_ne h]
      rw [hx] at ih
      simpa using ih
/-- A text without the byte is one part; the byte behind it begins another one. -/
theorem spl_none (c : UInt8) : ∀ l : List UInt8, c ∉ l → spl c l = [l]
  | [], _ => rfl
  | a :: r, h => by
    have h1 : a ≠ c := fun e => h (by simp [e])
    have h2 : c ∉ r := fun e => h (by simp [e])
    exact spl_miss c a r h1 r [] (spl_none c r h2)
theorem spl_append (c : UInt8) (m : List UInt8) : ∀ l : List UInt8, c ∉ l → spl c (l ++ c :: m) = l :: spl c m
  | [], _ => spl_hit c m
  | a :: r, h => by
    have h1 : a ≠ c := fun e => h (by simp [e])
    have h2 : c ∉ r := fun e => h (by simp [e])
    exact spl_miss c a _ h1 r _ (spl_append c m r h2)
theorem spl_mem (c : UInt8) : ∀ (l p : List UInt8), p ∈ spl c l → c ∉ p ∧ p.length ≤ l.length ∧ ∀ x ∈ p, x ∈ l
  | [], p, h => by
    simp [spl] at h
    subst h
    simp
  | a :: r, p, h => by
    by_cases hc : a = c
    · subst hc
      rw [spl_hit] at h
      rcases List.mem_cons.1 h with h | h
      · subst h
        simp
      · obtain ⟨h1, h2, h3⟩ := spl_mem a r p h
        exact ⟨h1, by simp; omega, fun x hx => by simp [h3 x hx]⟩
    · obtain ⟨x, t, hx⟩ := spl_form c r
      rw [spl_miss c a r hc x t hx] at h
      rcases List.mem_cons.1 h with h | h
      · subst h
        obtain ⟨h1, h2, h3⟩ := spl_mem c r x (by rw [hx]; simp)
        refine ⟨?_, by simp; omega, ?_⟩
        · simp [h1, Ne.symm hc]
        · intro y hy
          rcases List.mem_cons.1 hy with hy | hy
          · simp [hy]
          · simp [h3 y hy]
      · obtain ⟨h1, h2, h3⟩ := spl_mem c r p (by rw [hx]; simp [h])
        exact ⟨h1, by simp; omega, fun x hx => by simp [h3 x hx]⟩

theorem index_one_hit (c : UInt8) (r : List UInt8) : Lib.index (c :: r) [c] = 0 := by
  rw [Lib.index]
  simp [List.isPrefixOf]
theorem index_one_miss (c a : UInt8) (r : List UInt8) (h : a ≠ c) : Lib.index (a :: r) [c] = if Lib.index r [c] == -1 then -1 else Lib.index r [c] + 1 := by
  rw [Lib.index]
  simp [List.isPrefixOf, Ne.symm h]
theorem index_none (c : UInt8) : ∀ r : List UInt8, r.count c = 0 → Lib.index r [c] = -1
  | [], _ => by simp [Lib.index]
  | a :: r, h => by
    have h1 : a ≠ c := fun e => by simp [e] at h
    rw [List.count_cons_of_ne h1] at h
    rw [index_one_miss c a r h1, index_none c r h]
    rfl
theorem index_some (c : UInt8) : ∀ r : List UInt8, r.count c ≠ 0 → 0 ≤ Lib.index r [c]
  | [], h => by simp at h
  | a :: r, h => by
    by_cases h1 : a = c
    · subst h1
      rw [index_one_hit]
      simp
    · rw [List.count_cons_of_ne h1] at h
      have := index_some c r h
      rw [index_one_miss c a r h1, if_neg (by simp; omega)]
      omega
theorem splitK_spl (c : UInt8) : ∀ l : List UInt8, Lib.splitK [c] 0 (l.count c) l = spl c l
  | [] => rfl
  | a :: r => by
    have ih := splitK_spl c r
    by_cases h : a = c
    · subst h
      rw [List.count_cons_self, Lib.splitK, index_one_hit, if_neg (by decide), spl_hit, ← ih]
      simp
    · rw [List.count_cons_of_ne h]
      obtain ⟨k, hk⟩ : ∃ k, k = r.count c := ⟨_, rfl⟩
      rw [← hk] at ih ⊢
      cases k with
      | zero =>
        rw [Lib.splitK] at ih ⊢
        exact (spl_miss c a r h r [] ih.symm).symm
      | succ k =>
        have hi := index_some c r (by omega)
        obtain ⟨i, hi2⟩ : ∃ i : Nat, Lib.index r [c] = i := ⟨(Lib.index r [c]).toNat, by omega⟩
        have hn : ¬ ((i : Int) == -1) = true := by simp
        rw [Lib.splitK, hi2, if_neg hn] at ih
        rw [Lib.splitK, index_one_miss c a r h, hi2, if_neg hn, if_neg (by simp; omega)]
        rw [spl_miss c a r h _ _ ih.symm]
        have e1 : ((i : Int) + 1).toNat = i + 1 := by omega
        rw [e1]
        simp

def vstr (l : List UInt8) : Value := .string (str l)
theorem countB_spl (c : UInt8) (l : List UInt8) : Lib.countB (str l) ⟨#[c]⟩ + 1 = (spl c l).length := by
  rw [spl_length]
  congr 1
  exact Lib.count_one c l
theorem splitB_spl (c : UInt8) (l : List UInt8) : Lib.splitB ⟨#[c]⟩ 0 (Lib.countB (str l) ⟨#[c]⟩) (str l) = (spl c l).map str := by
  have h := Lib.splitB_data ⟨#[c]⟩ 0 (Lib.countB (str l) ⟨#[c]⟩) (str l)
  have hc : Lib.countB (str l) ⟨#[c]⟩ = l.count c := Lib.count_one c l
  rw [hc] at h ⊢
  have h2 : Lib.splitK [c] 0 (l.count c) l = spl c l := splitK_spl c l
  have h3 := h.trans h2
  rw [← h3, List.map_map]
  have e : (str ∘ fun x : ByteArray => x.data.toList) = id := by
    funext x
    rfl
  rw [e, List.map_id]

/-- The block g holds texts. -/
def Ps (w : World) (g : Nat) (ps : List (List UInt8)) : Prop := g < w.heap.size ∧ ∀ j p, ps[j]? = some p → w.cell? ⟨g, j, none⟩ = some (vstr p)
theorem Ps.below {w w' : World} {g B : Nat} {ps : List (List UInt8)} (h : Ps w g ps) (hb : Below B w w') (hB : g < B) (hBw : B ≤ w.heap.size) : Ps w' g ps :=
  ⟨by have := hb.size; omega, fun j p hj => (hb.cell (p := ⟨g, j, none⟩) hB).trans (h.2 j p hj)⟩
theorem Ps.kept {w w' : World} {g : Nat} {ps : List (List UInt8)} (h : Ps w g ps) (hb : Below w.heap.size w w') : Ps w' g ps := h.below hb h.1 (Nat.le_refl _)

/-- strings.Split at a byte. -/
theorem split_one (c : UInt8) (l : List UInt8) (m : Int) (w : World) (hl : l.length ≤ 100000000) (hm : w.cell? ⟨0, 0, none⟩ = some (.int .i64 m)) :
    Calls Tryd.prog 38 #[.string (str l), .string ⟨#[c]⟩] w fun e w' => e = .returned (.slice (some ⟨w.heap.size, 0, none⟩) (spl c l).length (spl c l).length) ∧ Ps w' w.heap.size (spl c l) ∧ Below w.heap.size w w' := by
  refine (Tryd.strings_Split (str l) ⟨#[c]⟩ m w (by rw [str_size]; omega) hm (Nat.le_refl 1)).mono ?_
  rintro e w' ⟨rfl, rfl⟩
  rw [countB_spl, splitB_spl]
  refine ⟨rfl, ⟨by simp, fun j p hj => ?_⟩, (Below.refl _ _).alloc (Nat.le_refl _) _⟩
  rw [World.cell?_alloc_at _ _ _ _ rfl, List.getElem?_toArray, List.map_map, List.getElem?_map, hj]
  rfl
end Go.Proofs.YtcfgcakmffkpmaaDoor
