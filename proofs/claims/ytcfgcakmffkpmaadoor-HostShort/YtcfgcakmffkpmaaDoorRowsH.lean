/-
  Words for rows of words of 16 bits in memory: a slice value that holds a list of numbers, a row that the call itself made, append. No condition.
-/
import Derived.Test.YtcfgcakmffkpmaaDoorNam
namespace Go.Proofs.YtcfgcakmffkpmaaDoor
open Go.RowKit

def vh (c : Nat) : Value := .int .u16 (c : Int)
def vhs (l : List Nat) : List Value := l.map vh
theorem Hs_one (l : List Nat) : ∀ u ∈ vhs l, u.oneCell' = true := by
  intro u hu
  simp only [vhs, List.mem_map] at hu
  obtain ⟨c, _, rfl⟩ := hu
  rfl
theorem Hs_len (l : List Nat) : (vhs l).length = l.length := by simp [vhs]
theorem Hs_app (l m : List Nat) : vhs (l ++ m) = vhs l ++ vhs m := by simp [vhs]
/-- The slice value '.slice A n c' holds the numbers l, in a block below B. -/
def Hs (w : World) (B : Nat) (A : Option Addr) (n : Nat) (l : List Nat) : Prop :=
  l.length = n ∧ (0 < n → ∃ b off, A = some ⟨b, off, none⟩ ∧ b < B ∧ ∀ j c, l[j]? = some c → w.cell? ⟨b, off + j, none⟩ = some (vh c))
/-- The value v is a row of numbers of the call's own (blocks from base on), of n numbers l. -/
def OwnH (w : World) (base : Nat) (v : Value) (n : Nat) (l : List Nat) : Prop := w.ownsRow base 37 1 v n (vhs l)
section
variable {w w' : World} {B B' n c : Nat} {A : Option Addr} {l : List Nat}
theorem Hs.nil_ (h : Hs w B none n l) : n = 0 ∧ l = [] := by
  rcases Nat.eq_zero_or_pos n with h0 | h0
  · exact ⟨h0, List.eq_nil_of_length_eq_zero (by rw [h.1, h0])⟩
  · obtain ⟨b, off, e, _⟩ := h.2 h0
    cases e
theorem Hs.keep (h : Hs w B A n l) (hk : ∀ b o, b < B → w'.cell? ⟨b, o, none⟩ = w.cell? ⟨b, o, none⟩) : Hs w' B A n l :=
  ⟨h.1, fun hn => by
    obtain ⟨b, off, e, hb, hc⟩ := h.2 hn
    exact ⟨b, off, e, hb, fun j c hj => (hk _ _ hb).trans (hc j c hj)⟩⟩
theorem Hs.more (h : Hs w B A n l) (hB : B ≤ B') : Hs w B' A n l :=
  ⟨h.1, fun hn => by
    obtain ⟨b, off, e, hb, hc⟩ := h.2 hn
    exact ⟨b, off, e, by omega, hc⟩⟩
theorem Hs.below (h : Hs w B A n l) (hb : Below B w w') : Hs w' B A n l := h.keep fun b o hlt => hb.cell (p := ⟨b, o, none⟩) hlt
theorem Hs.drewN (h : Hs w B A n l) (k : Nat) : Hs (w.drewN k) B A n l := h
theorem Hs.drew (h : Hs w B A n l) : Hs w.drew B A n l := h
theorem Hs.alloc (h : Hs w B A n l) (hB : B ≤ w.heap.size) (o : Obj) : Hs (w.alloc o) B A n l :=
  h.keep fun b off hb => World.cell?_alloc_lt w o ⟨b, off, none⟩ (by show b < _; omega)
theorem Hs.at_ (h : Hs w B A n l) {k : Nat} (hk : k < n) : ∃ b off, A = some ⟨b, off, none⟩ ∧ b < B ∧ w.cell? ⟨b, off + k, none⟩ = some (vh (l.getD k 0)) := by
  obtain ⟨b, off, e, hb, hc⟩ := h.2 (by omega)
  have hl : k < l.length := by rw [h.1]; exact hk
  refine ⟨b, off, e, hb, ?_⟩
  rw [hc k l[k] (List.getElem?_eq_getElem hl)]
  simp [List.getD, List.getElem?_eq_getElem hl]
theorem Hs.get (h : Hs w B A n l) {b off : Nat} (hA : A = some ⟨b, off, none⟩) {k : Nat} (hk : k < n) : w.cell? ⟨b, off + k, none⟩ = some (vh (l.getD k 0)) := by
  obtain ⟨b', off', e, _, hc⟩ := h.at_ hk
  rw [hA] at e
  obtain ⟨e1, e2, _⟩ := Addr.mk.inj (Option.some.inj e)
  subst e1 e2
  exact hc
theorem OwnH.form {v : Value} {base : Nat} (h : OwnH w base v n l) : ∃ A c, v = .slice A n c ∧ n ≤ c ∧ Hs w w.heap.size A n l := by
  have hl := h.1
  rw [Hs_len, Nat.mul_one] at hl
  rcases h.2 with ⟨rfl, rfl⟩ | ⟨g, cap, cur, rfl, hb, hg, hnc, _⟩
  · exact ⟨none, 0, rfl, Nat.le_refl _, hl, fun hn => absurd hn (by omega)⟩
  · have hlt : g < w.heap.size := (Array.getElem?_eq_some_iff.1 hg).1
    refine ⟨some ⟨g, 0, none⟩, cap, rfl, hnc, hl, fun _ => ⟨g, 0, rfl, hlt, fun j c hj => ?_⟩⟩
    have := World.ownsRow.cells (g := g) h rfl j (vh c) (by simp [vhs, hj])
    rwa [Addr.add_lit] at this
theorem OwnH.len {v : Value} {base : Nat} (h : OwnH w base v n l) : l.length = n := by
  have hl := h.1
  rwa [Hs_len, Nat.mul_one] at hl
theorem OwnH.base_le {v : Value} {base : Nat} (h : OwnH w base v n l) : ∀ k, v.ownBlock = some k → base ≤ k := fun k hk => (World.ownsRow.lt h k hk).1
theorem OwnH.kept {v : Value} {base : Nat} (h : OwnH w base v n l) (hb : Below w.heap.size w w') : OwnH w' base v n l := by
  refine ⟨h.1, ?_⟩
  rcases h.2 with h2 | ⟨g, cap, cur, hv, hg, hh, r⟩
  · exact .inl h2
  · exact .inr ⟨g, cap, cur, hv, hg, by rw [hb.block g (Array.getElem?_eq_some_iff.1 hh).1]; exact hh, r⟩
theorem OwnH.alloc {v : Value} {base : Nat} (h : OwnH w base v n l) (o : Obj) : OwnH (w.alloc o) base v n l := World.ownsRow.alloc h o
theorem OwnH.drew {v : Value} {base : Nat} (h : OwnH w base v n l) : OwnH w.drew base v n l := h
end
theorem rowsHinfo : (Tryd.prog.info? 37).map (fun i => (i.zero, i.size, i.bytes)) = some (some (.int .u16 0), 1, 2) := by kernel_rfl
theorem ownH_empty (w : World) (base : Nat) (hb : base ≤ w.heap.size) : OwnH (w.alloc (.cells #[] 37)) base (.slice (some ⟨w.heap.size, 0, none⟩) 0 0) 0 [] :=
  World.ownsRow_made _ _ _ hb (by decide) rfl
/-- append onto an owned row of numbers, of whatever slice of numbers, nil too. -/
theorem run_appH (w : World) (base : Nat) (ty : TypeId) (v : Value) (n : Nat) (l : List Nat) (hown : OwnH w base v n l)
    (B : Nat) (A : Option Addr) (m c : Nat) (k : List Nat) (hr : Hs w B A m k) (hs : n + m ≤ 1000000000) (hbase : base ≤ w.heap.size) :
    ∃ v' w', (Builtin.append_ #[54, 54] ty #[v, .slice A m c]).run Tryd.prog w = .ok v' w' ∧ OwnH w' base v' (n + m) (l ++ k) ∧ Below base w w' ∧ KeepsBut 37 w w' := by
  obtain ⟨i, hi, hz, h1, h2⟩ := info_parts rowsHinfo
  rcases A with _ | ad
  · obtain ⟨rfl, rfl⟩ := hr.nil_
    refine ⟨v, w, ?_, by simpa using hown, Below.refl _ _, KeepsBut.refl _ _⟩
    rcases hown.2 with ⟨rfl, rfl⟩ | ⟨g, cap, cur, rfl, _, _, hnc, _⟩
    · simp [Builtin.append_, run_underlying Tryd.underlying54, sizeOf, typeInfo, hi, Builtin.lenOf, Builtin.firstCells]
    · simp [Builtin.append_, run_underlying Tryd.underlying54, sizeOf, typeInfo, hi, Builtin.lenOf, Builtin.firstCells, hnc, storeCells]
  · have hcells : ∀ j u, (vhs k)[j]? = some u → w.cell? (ad.add j) = some u := by
      intro j u hu
      simp only [vhs, List.getElem?_map, Option.map_eq_some_iff] at hu
      obtain ⟨x, hx, rfl⟩ := hu
      have hm : 0 < m := by
        have := (List.getElem?_eq_some_iff.1 hx).1
        have := hr.1
        omega
      obtain ⟨b, off, e, _, hc⟩ := hr.2 hm
      have e := Option.some.inj e
      subst e
      rw [Addr.add_lit]
      exact hc j x hx
    obtain ⟨v', w', hrun, h3, h4, _, h5⟩ := run_append_own_at (P := Tryd.prog) w base 54 ty 37 i _ 1 2 Tryd.underlying54 hi hz h1 h2 rfl (by omega) v n (vhs l) hown ad m c (vhs k)
      (by rw [Hs_len, Nat.mul_one]; exact hr.1) hcells (Hs_one k) (by unfold maxLen; omega) (by omega) hbase
    exact ⟨v', w', hrun, by rw [← Hs_app] at h3; exact h3, (Below.refl _ _).grown h4 hbase (OwnH.base_le hown), KeepsBut.of_row hown h4⟩
theorem wp_appH {ops : Array Oper} {rest : List Oper} {o : Oper} {a : Act} {Q : Exit → Act → World → Prop} (w : World) (hgd : o.guard = none) (s x : Operand)
    (ho : o.op = .call { callee := .builtin .append, args := #[s, x], argTypes := #[54, 54] })
    (base : Nat) (v : Value) (n : Nat) (l : List Nat) (hs : a.eval s = v) (hown : OwnH w base v n l)
    (B : Nat) (A : Option Addr) (m c : Nat) (k : List Nat) (hx : a.eval x = .slice A m c) (hr : Hs w B A m k) (hsz : n + m ≤ 1000000000) (hbase : base ≤ w.heap.size)
    (N : Nat) (L : List Nat) (hN : n + m = N) (hL : l ++ k = L)
    (h : ∀ A' c' w', N ≤ c' → Hs w' w'.heap.size A' N L → OwnH w' base (.slice A' N c') N L → Below base w w' → KeepsBut 37 w w' → wpList Tryd.prog ops Q rest (a.put o.dst (.slice A' N c')) w') : wpList Tryd.prog ops Q (o :: rest) a w := by
  subst hN hL
  refine wpList_plain hgd fun K hK => ?_
  obtain ⟨v', w', hrun, h2, h3, h6⟩ := run_appH w base o.type v n l hown B A m c k hr hsz hbase
  obtain ⟨A', c', rfl, h4, h5⟩ := h2.form
  unfold Oper.wp execOp
  simp only [ho, resolve, invoke, builtin, Sem.run_bind, Sem.run_pure, Result.andThen_ok, List.map_toArray, List.map_cons, List.map_nil, hs, hx, hrun]
  exact hK _ _ (h A' c' w' h4 h5 h2 h3 h6)
/-- The same inside a region that draws its order. -/
theorem step_appH {ops : Array Oper} {o : Oper} {a : Act} {K : Act → World → Prop} {Q : Exit → Act → World → Prop} {E : Prop} (w : World) (hgd : o.guard = none) (s x : Operand)
    (ho : o.op = .call { callee := .builtin .append, args := #[s, x], argTypes := #[54, 54] })
    (base : Nat) (v : Value) (n : Nat) (l : List Nat) (hs : a.eval s = v) (hown : OwnH w base v n l)
    (B : Nat) (A : Option Addr) (m c : Nat) (k : List Nat) (hx : a.eval x = .slice A m c) (hr : Hs w B A m k) (hsz : n + m ≤ 1000000000) (hbase : base ≤ w.heap.size)
    (N : Nat) (L : List Nat) (hN : n + m = N) (hL : l ++ k = L)
    (h : ∀ A' c' w', N ≤ c' → Hs w' w'.heap.size A' N L → OwnH w' base (.slice A' N c') N L → Below base w w' → KeepsBut 37 w w' → K (a.put o.dst (.slice A' N c')) w') :
    if Region.wanted o (yielded ops a.tmps) = true then Oper.wp Tryd.prog o a w K Q else E := by
  have hw : Region.wanted o (yielded ops a.tmps) = true := by simp [Region.wanted, hgd]
  rw [if_pos hw]
  subst hN hL
  obtain ⟨v', w', hrun, h2, h3, h6⟩ := run_appH w base o.type v n l hown B A m c k hr hsz hbase
  obtain ⟨A', c', rfl, h4, h5⟩ := h2.form
  unfold Oper.wp execOp
  simp only [ho, resolve, invoke, builtin, Sem.run_bind, Sem.run_pure, Result.andThen_ok, List.map_toArray, List.map_cons, List.map_nil, hs, hx, hrun]
  exact h A' c' w' h4 h5 h2 h3 h6
/-- A literal of numbers in a block of its own. -/
theorem Hs.lit (w : World) (l : List Nat) (a : Array Value) (ha : a = (vhs l).toArray) (n : Nat) (hn : l.length = n) : Hs (w.alloc (.cells a 37)) (w.heap.size + 1) (some ⟨w.heap.size, 0, none⟩) n l := by
  subst ha
  refine ⟨hn, fun _ => ⟨w.heap.size, 0, rfl, by omega, fun j c hj => ?_⟩⟩
  rw [Nat.zero_add, cell_of_row _ _ _ _ _ _ (heap_alloc_new w _)]
  simp [vhs, hj]
end Go.Proofs.YtcfgcakmffkpmaaDoor
