/-
  Small words for the walks of this seat's laws: append onto a new row, with the slice that comes back written out; bytes that came in as an argument. No condition.
-/
import Derived.Test.YtcfgcakmffkpmaaDoorMem
import Derived.Deep.RegionHeld3
namespace Go.Proofs.YtcfgcakmffkpmaaDoor
open Go.RowKit

/-- A literal of bytes in a block of its own. -/
theorem Bs.new (w : World) (l : List UInt8) (a : Array Value) (ha : a = (vbs l).toArray) (n : Nat) (hn : l.length = n) : Bs (w.alloc (.cells a 5)) (w.alloc (.cells a 5)).heap.size (some ⟨w.heap.size, 0, none⟩) n l := by
  subst ha
  refine ⟨hn, fun _ => ⟨w.heap.size, 0, rfl, by simp, fun j c hj => ?_⟩⟩
  rw [Nat.zero_add, cell_of_row _ _ _ _ _ _ (heap_alloc_new w _)]
  simp [vbs, hj]

theorem wp_appS {ops : Array Oper} {rest : List Oper} {o : Oper} {a : Act} {Q : Exit → Act → World → Prop} (w : World) (hgd : o.guard = none) (s x : Operand)
    (ho : o.op = .call { callee := .builtin .append, args := #[s, x], argTypes := #[39, 39] })
    (base : Nat) (v : Value) (n : Nat) (l : List UInt8) (hs : a.eval s = v) (hown : Own w base v n l)
    (B : Nat) (A : Option Addr) (m c : Nat) (k : List UInt8) (hx : a.eval x = .slice A m c) (hr : Bs w B A m k) (hsz : n + m ≤ 1000000000) (hbase : base ≤ w.heap.size)
    (N : Nat) (L : List UInt8) (hN : n + m = N) (hL : l ++ k = L)
    (h : ∀ A' c' w', N ≤ c' → Bs w' w'.heap.size A' N L → Own w' base (.slice A' N c') N L → Below base w w' → wpList Tryd.prog ops Q rest (a.put o.dst (.slice A' N c')) w') : wpList Tryd.prog ops Q (o :: rest) a w := by
  subst hN hL
  refine wp_app w hgd s x ho base v n l hs hown B A m c k hx hr hsz hbase fun v' w' h1 h2 => ?_
  obtain ⟨A', c', rfl, h3, h4⟩ := h1.form
  exact h A' c' w' h3 h4 h1 h2

/-- The same inside a region that draws its order. -/
theorem step_appS {ops : Array Oper} {o : Oper} {a : Act} {K : Act → World → Prop} {Q : Exit → Act → World → Prop} {E : Prop} (w : World) (hgd : o.guard = none) (s x : Operand)
    (ho : o.op = .call { callee := .builtin .append, args := #[s, x], argTypes := #[39, 39] })
    (base : Nat) (v : Value) (n : Nat) (l : List UInt8) (hs : a.eval s = v) (hown : Own w base v n l)
    (B : Nat) (A : Option Addr) (m c : Nat) (k : List UInt8) (hx : a.eval x = .slice A m c) (hr : Bs w B A m k) (hsz : n + m ≤ 1000000000) (hbase : base ≤ w.heap.size)
    (N : Nat) (L : List UInt8) (hN : n + m = N) (hL : l ++ k = L)
    (h : ∀ A' c' w', N ≤ c' → Bs w' w'.heap.size A' N L → Own w' base (.slice A' N c') N L → Below base w w' → K (a.put o.dst (.slice A' N c')) w') :
    if Region.wanted o (yielded ops a.tmps) = true then Oper.wp Tryd.prog o a w K Q else E := by
  have hw : Region.wanted o (yielded ops a.tmps) = true := by simp [Region.wanted, hgd]
  rw [if_pos hw]
  subst hN hL
  obtain ⟨v', w', hrun, h2, h3⟩ := run_app w base o.type v n l hown B A m c k hr hsz hbase
  obtain ⟨A', c', rfl, h4, h5⟩ := h2.form
  unfold Oper.wp execOp
  simp only [ho, resolve, invoke, builtin, Sem.run_bind, Sem.run_pure, Result.andThen_ok, List.map_toArray, List.map_cons, List.map_nil, hs, hx, hrun]
  exact h A' c' w' h4 h5 h2 h3

/-- In the midst of a region the worlds that it is walked over may be narrowed: behind a call, to the one that the call has left. -/
theorem wpAnyH_switch {P : Program} {md : Region.Mode} {ops : Array Oper} {Q : Exit → Act → World → Prop} {S S' : World → Prop} (hS : ∀ w, S' w → S w) :
    ∀ {fuel : Nat} {listed : Array Bool} {a : Act} {w : World}, wpAnyH P md ops Q S' fuel listed a w → wpAnyH P md ops Q S fuel listed a w
  | 0, _, _, _, h => h
  | _ + 1, _, _, _, h => ⟨h.1, fun i hi => wpOp_mono (fun _ _ h' => ⟨hS _ h'.1, wpAnyH_switch hS h'.2⟩) (h.2 i hi)⟩

/-- '[]byte{}' in a block of its own. -/
theorem own_empty (w : World) (base : Nat) (hb : base ≤ w.heap.size) : Own (w.alloc (.cells #[] 5)) base (.slice (some ⟨w.heap.size, 0, none⟩) 0 0) 0 [] :=
  World.ownsRow_made _ _ _ hb (by decide) rfl

theorem wf_u8 {n : Int} (h : (Lit.int .u8 n).wf = true) : 0 ≤ n ∧ n < 256 := by
  simp [Lit.wf, IntKind.min, IntKind.max, IntKind.signed, IntKind.bits] at h
  omega

/-- A slice of bytes that came in, as the proof's frame opens it. -/
theorem bs_of_row {w : World} {a : Option Addr} {len cap : Nat} {zs : List Int}
    (h : (a = none ∧ len = 0 ∧ cap = 0 ∧ zs = []) ∨
      ∃ x, a = some x ∧ len ≤ cap ∧ cap ≤ maxLen ∧ zs.length = cap ∧ (∀ i, i < zs.length → w.cell? (x.add i) = some (.int .u8 (zs.getD i 0))) ∧ ∀ n ∈ zs, (Lit.int .u8 n).wf = true) :
    ∃ l, Bs w w.heap.size a len l ∧ len ≤ cap ∧ cap ≤ 9223372036854775807 := by
  rcases h with ⟨rfl, rfl, rfl, rfl⟩ | ⟨x, rfl, hl, hm, hz, hcell, hwf⟩
  · exact ⟨[], Bs.empty _ _ _, Nat.le_refl _, by omega⟩
  · refine ⟨(zs.take len).map fun n => UInt8.ofNat n.toNat, ⟨by simp; omega, fun hpos => ?_⟩, hl, by unfold maxLen at hm; omega⟩
    obtain ⟨b, off, sp⟩ := x
    have h0 := hcell 0 (by omega)
    have hsp : sp = none := by simpa [Addr.add] using World.cell?_spot h0
    subst hsp
    have hb : b < w.heap.size := by
      have := World.block_lt_of_cell? w _ h0
      simpa [Addr.add_lit] using this
    refine ⟨b, off, rfl, hb, fun j c hj => ?_⟩
    rw [List.getElem?_map, Option.map_eq_some_iff] at hj
    obtain ⟨z, hz1, rfl⟩ := hj
    rw [List.getElem?_take] at hz1
    split at hz1
    · have hlt := (List.getElem?_eq_some_iff.1 hz1).1
      have hc := hcell j hlt
      rw [Addr.add_lit] at hc
      rw [hc]
      have hzd : zs.getD j 0 = z := by simp [List.getD, hz1]
      have hw := wf_u8 (hwf z (List.mem_of_getElem? hz1))
      rw [hzd, vb]
      congr 2
      simp
      omega
    · cases hz1
/-- All that w held is as it was. -/
def Kept (w W : World) : Prop := Below w.heap.size w W
theorem Kept.refl (w : World) : Kept w w := Below.refl _ _
theorem Kept.drew {w W : World} (h : Kept w W) : Kept w W.drew := Below.drew h
theorem Kept.alloc {w W : World} (h : Kept w W) (o : Obj) : Kept w (W.alloc o) := Below.alloc h h.size o
theorem Kept.base {w W W' : World} (h : Kept w W) (hb : Below w.heap.size W W') : Kept w W' := Below.trans h hb
theorem Kept.step {w W W' : World} (h : Kept w W) (hb : Below W.heap.size W W') : Kept w W' := Below.trans h (hb.mono h.size)
theorem Kept.str {w : World} {A : Option Addr} {n : Nat} {l : List UInt8} (h : Bs w w.heap.size A n l) (W : World) (hk : Kept w W) (c : Nat) : (convert 39 9 (.slice A n c)).run Tryd.prog W = .ok (.string (str l)) W :=
  run_str W _ A n c l (h.below hk)
end Go.Proofs.YtcfgcakmffkpmaaDoor
