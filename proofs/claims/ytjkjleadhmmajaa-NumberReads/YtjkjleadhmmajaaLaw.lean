/-
  Small words for the walks of this seat's laws: append onto a new row, with the slice that comes back written out; bytes that came in as an argument. No condition.
-/
import Derived.Test.YtjkjleadhmmajaaShown
namespace Go.Proofs.Ytjkjleadhmmajaa
open Go.RowKit

theorem wp_appS {ops : Array Oper} {rest : List Oper} {o : Oper} {a : Act} {Q : Exit → Act → World → Prop} (w : World) (hgd : o.guard = none) (s x : Operand)
    (ho : o.op = .call { callee := .builtin .append, args := #[s, x], argTypes := #[22, 22] })
    (base : Nat) (v : Value) (n : Nat) (l : List UInt8) (hs : a.eval s = v) (hown : Own w base v n l)
    (B : Nat) (A : Option Addr) (m c : Nat) (k : List UInt8) (hx : a.eval x = .slice A m c) (hr : Bs w B A m k) (hsz : n + m ≤ 1000000000) (hbase : base ≤ w.heap.size)
    (N : Nat) (L : List UInt8) (hN : n + m = N) (hL : l ++ k = L)
    (h : ∀ A' c' w', N ≤ c' → Bs w' w'.heap.size A' N L → Own w' base (.slice A' N c') N L → Below base w w' → wpList Try.prog ops Q rest (a.put o.dst (.slice A' N c')) w') : wpList Try.prog ops Q (o :: rest) a w := by
  subst hN hL
  refine wp_app w hgd s x ho base v n l hs hown B A m c k hx hr hsz hbase fun v' w' h1 h2 => ?_
  obtain ⟨A', c', rfl, h3, h4⟩ := h1.form
  exact h A' c' w' h3 h4 h1 h2

/-- '[]byte{}' in a block of its own. -/
theorem own_empty (w : World) (base : Nat) (hb : base ≤ w.heap.size) : Own (w.alloc (.cells #[] 5)) base (.slice (some ⟨w.heap.size, 0, none⟩) 0 0) 0 [] :=
  World.ownsRow_made _ _ _ hb (by decide) rfl

theorem wf_u8 {n : Int} (h : (Lit.int .u8 n).wf = true) : 0 ≤ n ∧ n < 256 := by
  simp [Lit.wf, IntKind.min, IntKind.max, IntKind.signed, IntKind.bits] at h
  omega

/-- A slice of bytes that came in, as the proof's frame opens it. -/
theorem bs_of_row {w : World} {a : Option Addr} {len cap : Nat} {zs : List Int}
    (h : (a = none ∧ len = 0 ∧ cap = 0 ∧ zs = []) ∨
      ∃ x, a = some x ∧ len ≤ cap ∧ cap ≤ maxLen ∧ zs.length = cap ∧ (∀ i, i < zs.length → w.cell? (x.add i) = some (.int .u8 (zs.getD i 0))) ∧ ∀ n ∈ zs, (Lit.int .u8 n).wf = true) :
    ∃ l, Bs w w.heap.size a len l ∧ len ≤ cap ∧ cap ≤ 9223372036854775807 := by
  rcases h with ⟨rfl, rfl, rfl, rfl⟩ | ⟨x, rfl, hl, hm, hz, hcell, hwf⟩
  · exact ⟨[], Bs.empty _ _ _, Nat.le_refl _, by omega⟩
  · refine ⟨(zs.take len).map fun n => UInt8.ofNat n.toNat, ⟨by simp; omega, fun hpos => ?_⟩, hl, by unfold maxLen at hm; omega⟩
    obtain ⟨b, off, sp⟩ := x
    have h0 := hcell 0 (by omega)
    have hsp : sp = none := by simpa [Addr.add] using World.cell?_spot h0
    subst hsp
    have hb : b < w.heap.size := by
      have := World.block_lt_of_cell? w _ h0
      simpa [Addr.add_lit] using this
    refine ⟨b, off, rfl, hb, fun j c hj => ?_⟩
    rw [List.getElem?_map, Option.map_eq_some_iff] at hj
    obtain ⟨z, hz1, rfl⟩ := hj
    rw [List.getElem?_take] at hz1
    split at hz1
    · have hlt := (List.getElem?_eq_some_iff.1 hz1).1
      have hc := hcell j hlt
      rw [Addr.add_lit] at hc
      rw [hc]
      have hzd : zs.getD j 0 = z := by simp [List.getD, hz1]
      have hw := wf_u8 (hwf z (List.mem_of_getElem? hz1))
      rw [hzd, vb]
      congr 2
      simp
      omega
    · cases hz1
end Go.Proofs.Ytjkjleadhmmajaa
