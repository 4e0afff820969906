/-
  Small words for the walk of ShaPieces: rows of bytes that came in, a byte of an own row written over, what the rows are at the start. No condition.
-/
import Derived.Test.YtiigmpoopmnnhaaDoorSide
namespace Go.Proofs.YtiigmpoopmnnhaaDoor
open Go.RowKit

/-- A slice of slices of bytes that came in. -/
def Rws (w : World) (A0 : Option Addr) (n0 : Nat) : Prop := ∀ i, i < n0 → ∃ b off, A0 = some ⟨b, off, none⟩ ∧ b < w.heap.size ∧
  ∃ A L C l, w.cell? ⟨b, off + i, none⟩ = some (.slice A L C) ∧ Bs w w.heap.size A L l ∧ L ≤ C ∧ C ≤ 9223372036854775807

/-- The same, as the proof's frame opens it. -/
theorem rws_of {W : World} {x : Addr} {len base : Nat} {A : Nat → Option Addr} {L C : Nat → Nat} {Z : Nat → List Int}
    (h : ∀ r, r < len → W.cell? (x.add r) = some (.slice (A r) (L r) (C r)) ∧ L r ≤ C r ∧ C r ≤ maxLen ∧ (Z r).length = C r ∧ (∀ n ∈ Z r, (Lit.int .u8 n).wf = true) ∧ (A r = none → C r = 0) ∧
        ∀ a', A r = some a' → base ≤ a'.block ∧ ∀ c, c < C r → W.cell? (a'.add c) = some (.int .u8 ((Z r).getD c 0))) : Rws W (some x) len := by
  intro i hi
  obtain ⟨h1, h2, h3, h4, h5, h6, h7⟩ := h i hi
  obtain ⟨b, off, sp⟩ := x
  have hsp : sp = none := by simpa [Addr.add] using World.cell?_spot (h 0 (by omega)).1
  subst hsp
  rw [Addr.add_lit] at h1
  obtain ⟨l, k1, k2, k3⟩ := bs_of_row (w := W) (a := A i) (len := L i) (cap := C i) (zs := Z i) (by
    cases hA : A i with
    | none =>
      have h0 := h6 hA
      exact .inl ⟨rfl, by omega, h0, List.eq_nil_of_length_eq_zero (by omega)⟩
    | some a' => exact .inr ⟨a', rfl, h2, h3, h4, fun j hj => (h7 a' hA).2 j (by omega), h5⟩)
  exact ⟨b, off, rfl, World.block_lt_of_cell? W _ h1, A i, L i, C i, l, h1, k1, k2, k3⟩

theorem size22 : (Tryd.prog.info? 22).map (·.size) = some 1 := by kernel_rfl
theorem index32 (w : World) (b off n c i : Nat) (h : i < n) : (Instr.indexAt 32 (.slice (some ⟨b, off, none⟩) n c) (.int .i64 (i : Int))).run Tryd.prog w = .ok (.pointer (some ⟨b, off + i, none⟩)) w := by
  cases hq : Tryd.prog.info? 22 with
  | none => have := size22; simp [hq] at this
  | some k =>
    have h1 : k.size = 1 := by have := size22; simpa [hq] using this
    simp [Instr.indexAt, asIntOf, run_underlying Tryd.underlying32, sizeOf, typeInfo, hq, h1, h, Addr.add_lit]

theorem St.init {w : World} {base g : Nat} (hB : Blk w g 40 (stc [])) (hb : base ≤ g) :
    St (w.alloc (.cells #[] 5)) base g (.slice (some ⟨w.heap.size, 0, none⟩) 0 0) (.slice none 0 0) (.slice none 0 0) (.slice none 0 0) [] [] [] [] [] (fun k => if k = g then 4 else 0) := by
  have hlt := hB.lt
  refine ⟨⟨own_empty w base (by omega), fun k hk => ?_⟩, Row.none_ _ _ _ _ _ _, Row.none_ _ _ _ _ _ _, Row.none_ _ _ _ _ _ _, hB.alloc _, if_pos rfl, hb⟩
  simp [Value.ownBlock] at hk
  exact if_neg (by omega)

theorem Own.bs {w : World} {base n c : Nat} {A : Option Addr} {l : List UInt8} (h : Own w base (.slice A n c) n l) : Bs w w.heap.size A n l ∧ n ≤ c := by
  obtain ⟨A', c', e, h1, h2⟩ := h.form
  injection e with e1 e2 e3
  subst e1 e3
  exact ⟨h2, h1⟩
theorem row_form {w : World} {base : Nat} {e : TypeId} {size : Nat} {v : Value} {n : Nat} {xs : List Value} (h : w.ownsRow base e size v n xs) : ∃ A c, v = .slice A n c ∧ (0 < n → ∃ gg, A = some ⟨gg, 0, none⟩) := by
  rcases h.2 with ⟨rfl, rfl⟩ | ⟨g, cap, cur, rfl, _⟩
  · exact ⟨none, 0, rfl, fun h => absurd h (by omega)⟩
  · exact ⟨_, _, rfl, fun _ => ⟨g, rfl⟩⟩
/-- A byte of an own row. -/
theorem Own.setAt {w : World} {base gp m c k : Nat} {R : List UInt8} (h : Own w base (.slice (some ⟨gp, 0, none⟩) m c) m R) (hk : k < m) :
    ∃ C, Blk w gp 5 C ∧ k < C.length ∧ C[k]? = some (vb (R.getD k 0)) ∧ ∀ w' x, Blk w' gp 5 (C.set k (vb x)) → Own w' base (.slice (some ⟨gp, 0, none⟩) m c) m (R.set k x) := by
  have hl := h.len
  rcases h.2 with ⟨e, _⟩ | ⟨g, cap, cur, e, hb, hg, hnc, hcm, hcs, htake⟩
  · cases e
  · injection e with e1 e2 e3
    injection e1 with e1
    injection e1 with e1
    subst e1 e3
    rw [Nat.mul_one] at htake hcs
    refine ⟨cur.toList, by unfold Blk; simpa using hg, by simp; omega, ?_, fun w' x hB => ?_⟩
    · have := vbs_getD R k (by omega)
      rw [← htake, List.getElem?_take, if_pos hk] at this
      exact this
    · refine ⟨by simp [vbs_length, hl], .inr ⟨gp, _, _, rfl, hb, hB, hnc, hcm, by simp; omega, ?_⟩⟩
      simp only [Nat.mul_one]
      rw [List.take_set, htake]
      simp [vbs]
theorem u8_next (x : UInt8) : (.int .u8 (((x.toNat : Int) + 1) % 256) : Value) = vb (UInt8.ofNat ((x.toNat + 1) % 256)) := by
  unfold vb
  congr 1
  simp
end Go.Proofs.YtiigmpoopmnnhaaDoor
