/-
  Words for rows of words of 32 bits in memory: a slice value that holds a list of numbers, a row that the call itself made, append. No condition.
-/
import Derived.Test.YtiigmpoopmnnhaaDoorTimes
namespace Go.Proofs.YtiigmpoopmnnhaaDoor
open Go.RowKit

theorem Us_one (l : List Nat) : ∀ u ∈ vws l, u.oneCell' = true := by
  intro u hu
  simp only [vws, List.mem_map] at hu
  obtain ⟨c, _, rfl⟩ := hu
  rfl
theorem Us_len (l : List Nat) : (vws l).length = l.length := by simp [vws]
theorem Us_app (l m : List Nat) : vws (l ++ m) = vws l ++ vws m := by simp [vws]
/-- The slice value '.slice A n c' holds the numbers l, in a block below B. -/
def Us (w : World) (B : Nat) (A : Option Addr) (n : Nat) (l : List Nat) : Prop :=
  l.length = n ∧ (0 < n → ∃ b off, A = some ⟨b, off, none⟩ ∧ b < B ∧ ∀ j c, l[j]? = some c → w.cell? ⟨b, off + j, none⟩ = some (vw c))
/-- The value v is a row of numbers of the call's own (blocks from base on), of n numbers l. -/
def OwnU (w : World) (base : Nat) (v : Value) (n : Nat) (l : List Nat) : Prop := w.ownsRow base 33 1 v n (vws l)
section
variable {w w' : World} {B B' n c : Nat} {A : Option Addr} {l : List Nat}
theorem Us.nil_ (h : Us w B none n l) : n = 0 ∧ l = [] := by
  rcases Nat.eq_zero_or_pos n with h0 | h0
  · exact ⟨h0, List.eq_nil_of_length_eq_zero (by rw [h.1, h0])⟩
  · obtain ⟨b, off, e, _⟩ := h.2 h0
    cases e
theorem Us.keep (h : Us w B A n l) (hk : ∀ b o, b < B → w'.cell? ⟨b, o, none⟩ = w.cell? ⟨b, o, none⟩) : Us w' B A n l :=
  ⟨h.1, fun hn => by
    obtain ⟨b, off, e, hb, hc⟩ := h.2 hn
    exact ⟨b, off, e, hb, fun j c hj => (hk _ _ hb).trans (hc j c hj)⟩⟩
theorem Us.more (h : Us w B A n l) (hB : B ≤ B') : Us w B' A n l :=
  ⟨h.1, fun hn => by
    obtain ⟨b, off, e, hb, hc⟩ := h.2 hn
    exact ⟨b, off, e, by omega, hc⟩⟩
theorem Us.below (h : Us w B A n l) (hb : Below B w w') : Us w' B A n l := h.keep fun b o hlt => hb.cell (p := ⟨b, o, none⟩) hlt
theorem Us.drewN (h : Us w B A n l) (k : Nat) : Us (w.drewN k) B A n l := h
theorem Us.drew (h : Us w B A n l) : Us w.drew B A n l := h
theorem Us.alloc (h : Us w B A n l) (hB : B ≤ w.heap.size) (o : Obj) : Us (w.alloc o) B A n l :=
  h.keep fun b off hb => World.cell?_alloc_lt w o ⟨b, off, none⟩ (by show b < _; omega)
theorem Us.at_ (h : Us w B A n l) {k : Nat} (hk : k < n) : ∃ b off, A = some ⟨b, off, none⟩ ∧ b < B ∧ w.cell? ⟨b, off + k, none⟩ = some (vw (l.getD k 0)) := by
  obtain ⟨b, off, e, hb, hc⟩ := h.2 (by omega)
  have hl : k < l.length := by rw [h.1]; exact hk
  refine ⟨b, off, e, hb, ?_⟩
  rw [hc k l[k] (List.getElem?_eq_getElem hl)]
  simp [List.getD, List.getElem?_eq_getElem hl]
theorem Us.get (h : Us w B A n l) {b off : Nat} (hA : A = some ⟨b, off, none⟩) {k : Nat} (hk : k < n) : w.cell? ⟨b, off + k, none⟩ = some (vw (l.getD k 0)) := by
  obtain ⟨b', off', e, _, hc⟩ := h.at_ hk
  rw [hA] at e
  injection e with e
  injection e with e1 e2
  subst e1 e2
  exact hc
theorem OwnU.form {v : Value} {base : Nat} (h : OwnU w base v n l) : ∃ A c, v = .slice A n c ∧ n ≤ c ∧ Us w w.heap.size A n l := by
  have hl := h.1
  rw [Us_len, Nat.mul_one] at hl
  rcases h.2 with ⟨rfl, rfl⟩ | ⟨g, cap, cur, rfl, hb, hg, hnc, _⟩
  · exact ⟨none, 0, rfl, Nat.le_refl _, hl, fun hn => absurd hn (by omega)⟩
  · have hlt : g < w.heap.size := (Array.getElem?_eq_some_iff.1 hg).1
    refine ⟨some ⟨g, 0, none⟩, cap, rfl, hnc, hl, fun _ => ⟨g, 0, rfl, hlt, fun j c hj => ?_⟩⟩
    have := World.ownsRow.cells (g := g) h rfl j (vw c) (by simp [vws, hj])
    rwa [Addr.add_lit] at this
theorem OwnU.len {v : Value} {base : Nat} (h : OwnU w base v n l) : l.length = n := by
  have hl := h.1
  rwa [Us_len, Nat.mul_one] at hl
theorem OwnU.base_le {v : Value} {base : Nat} (h : OwnU w base v n l) : ∀ k, v.ownBlock = some k → base ≤ k := fun k hk => (World.ownsRow.lt h k hk).1
theorem OwnU.kept {v : Value} {base : Nat} (h : OwnU w base v n l) (hb : Below w.heap.size w w') : OwnU w' base v n l := by
  refine ⟨h.1, ?_⟩
  rcases h.2 with h2 | ⟨g, cap, cur, hv, hg, hh, r⟩
  · exact .inl h2
  · exact .inr ⟨g, cap, cur, hv, hg, by rw [hb.block g (Array.getElem?_eq_some_iff.1 hh).1]; exact hh, r⟩
theorem OwnU.alloc {v : Value} {base : Nat} (h : OwnU w base v n l) (o : Obj) : OwnU (w.alloc o) base v n l := World.ownsRow.alloc h o
theorem OwnU.drew {v : Value} {base : Nat} (h : OwnU w base v n l) : OwnU w.drew base v n l := h
end
theorem rowsUinfo : (Tryd.prog.info? 33).map (fun i => (i.zero, i.size, i.bytes)) = some (some (.int .u32 0), 1, 4) := by kernel_rfl
theorem ownU_empty (w : World) (base : Nat) (hb : base ≤ w.heap.size) : OwnU (w.alloc (.cells #[] 33)) base (.slice (some ⟨w.heap.size, 0, none⟩) 0 0) 0 [] :=
  World.ownsRow_made _ _ _ hb (by decide) rfl
/-- append onto an owned row of numbers, of whatever slice of numbers, nil too. -/
theorem run_appU (w : World) (base : Nat) (ty : TypeId) (v : Value) (n : Nat) (l : List Nat) (hown : OwnU w base v n l)
    (B : Nat) (A : Option Addr) (m c : Nat) (k : List Nat) (hr : Us w B A m k) (hs : n + m ≤ 1000000000) (hbase : base ≤ w.heap.size) :
    ∃ v' w', (Builtin.append_ #[50, 50] ty #[v, .slice A m c]).run Tryd.prog w = .ok v' w' ∧ OwnU w' base v' (n + m) (l ++ k) ∧ Below base w w' := by
  obtain ⟨i, hi, hz, h1, h2⟩ := info_parts rowsUinfo
  rcases A with _ | ad
  · obtain ⟨rfl, rfl⟩ := hr.nil_
    refine ⟨v, w, ?_, by simpa using hown, Below.refl _ _⟩
    rcases hown.2 with ⟨rfl, rfl⟩ | ⟨g, cap, cur, rfl, _, _, hnc, _⟩
    · simp [Builtin.append_, run_underlying Tryd.underlying50, sizeOf, typeInfo, hi, Builtin.lenOf, Builtin.firstCells]
    · simp [Builtin.append_, run_underlying Tryd.underlying50, sizeOf, typeInfo, hi, Builtin.lenOf, Builtin.firstCells, hnc, storeCells]
  · have hcells : ∀ j u, (vws k)[j]? = some u → w.cell? (ad.add j) = some u := by
      intro j u hu
      simp only [vws, List.getElem?_map, Option.map_eq_some_iff] at hu
      obtain ⟨x, hx, rfl⟩ := hu
      have hm : 0 < m := by
        have := (List.getElem?_eq_some_iff.1 hx).1
        have := hr.1
        omega
      obtain ⟨b, off, e, _, hc⟩ := hr.2 hm
      injection e with e
      subst e
      rw [Addr.add_lit]
      exact hc j x hx
    obtain ⟨v', w', hrun, h3, h4, _, h5⟩ := run_append_own_at (P := Tryd.prog) w base 50 ty 33 i _ 1 4 Tryd.underlying50 hi hz h1 h2 rfl (by omega) v n (vws l) hown ad m c (vws k)
      (by rw [Us_len, Nat.mul_one]; exact hr.1) hcells (Us_one k) (by unfold maxLen; omega) (by omega) hbase
    exact ⟨v', w', hrun, by rw [← Us_app] at h3; exact h3, (Below.refl _ _).grown h4 hbase (OwnU.base_le hown)⟩
theorem wp_appU {ops : Array Oper} {rest : List Oper} {o : Oper} {a : Act} {Q : Exit → Act → World → Prop} (w : World) (hgd : o.guard = none) (s x : Operand)
    (ho : o.op = .call { callee := .builtin .append, args := #[s, x], argTypes := #[50, 50] })
    (base : Nat) (v : Value) (n : Nat) (l : List Nat) (hs : a.eval s = v) (hown : OwnU w base v n l)
    (B : Nat) (A : Option Addr) (m c : Nat) (k : List Nat) (hx : a.eval x = .slice A m c) (hr : Us w B A m k) (hsz : n + m ≤ 1000000000) (hbase : base ≤ w.heap.size)
    (N : Nat) (L : List Nat) (hN : n + m = N) (hL : l ++ k = L)
    (h : ∀ A' c' w', N ≤ c' → Us w' w'.heap.size A' N L → OwnU w' base (.slice A' N c') N L → Below base w w' → wpList Tryd.prog ops Q rest (a.put o.dst (.slice A' N c')) w') : wpList Tryd.prog ops Q (o :: rest) a w := by
  subst hN hL
  refine wpList_plain hgd fun K hK => ?_
  obtain ⟨v', w', hrun, h2, h3⟩ := run_appU w base o.type v n l hown B A m c k hr hsz hbase
  obtain ⟨A', c', rfl, h4, h5⟩ := h2.form
  unfold Oper.wp execOp
  simp only [ho, resolve, invoke, builtin, Sem.run_bind, Sem.run_pure, Result.andThen_ok, List.map_toArray, List.map_cons, List.map_nil, hs, hx, hrun]
  exact hK _ _ (h A' c' w' h4 h5 h2 h3)
/-- The same inside a region that draws its order. -/
theorem step_appU {ops : Array Oper} {o : Oper} {a : Act} {K : Act → World → Prop} {Q : Exit → Act → World → Prop} {E : Prop} (w : World) (hgd : o.guard = none) (s x : Operand)
    (ho : o.op = .call { callee := .builtin .append, args := #[s, x], argTypes := #[50, 50] })
    (base : Nat) (v : Value) (n : Nat) (l : List Nat) (hs : a.eval s = v) (hown : OwnU w base v n l)
    (B : Nat) (A : Option Addr) (m c : Nat) (k : List Nat) (hx : a.eval x = .slice A m c) (hr : Us w B A m k) (hsz : n + m ≤ 1000000000) (hbase : base ≤ w.heap.size)
    (N : Nat) (L : List Nat) (hN : n + m = N) (hL : l ++ k = L)
    (h : ∀ A' c' w', N ≤ c' → Us w' w'.heap.size A' N L → OwnU w' base (.slice A' N c') N L → Below base w w' → K (a.put o.dst (.slice A' N c')) w') :
    if Region.wanted o (yielded ops a.tmps) = true then Oper.wp Tryd.prog o a w K Q else E := by
  have hw : Region.wanted o (yielded ops a.tmps) = true := by simp [Region.wanted, hgd]
  rw [if_pos hw]
  subst hN hL
  obtain ⟨v', w', hrun, h2, h3⟩ := run_appU w base o.type v n l hown B A m c k hr hsz hbase
  obtain ⟨A', c', rfl, h4, h5⟩ := h2.form
  unfold Oper.wp execOp
  simp only [ho, resolve, invoke, builtin, Sem.run_bind, Sem.run_pure, Result.andThen_ok, List.map_toArray, List.map_cons, List.map_nil, hs, hx, hrun]
  exact h A' c' w' h4 h5 h2 h3
/-- A literal of numbers in a block of its own. -/
theorem Us.lit (w : World) (l : List Nat) (a : Array Value) (ha : a = (vws l).toArray) (n : Nat) (hn : l.length = n) : Us (w.alloc (.cells a 33)) (w.heap.size + 1) (some ⟨w.heap.size, 0, none⟩) n l := by
  subst ha
  refine ⟨hn, fun _ => ⟨w.heap.size, 0, rfl, by omega, fun j c hj => ?_⟩⟩
  rw [Nat.zero_add, cell_of_row _ _ _ _ _ _ (heap_alloc_new w _)]
  simp [vws, hj]
end Go.Proofs.YtiigmpoopmnnhaaDoor
