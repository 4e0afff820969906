/-
  What the writer of events (event.writer) does: number, text, small: the bytes that it holds behind each; of what was there only the writer, and rows of bytes of the call's own, turn. Condition: at most 100000 bytes.
-/
import Derived.Test.YtjgcodnabgkjoaaDoorArr
import Derived.Test.YtjgcodnabgkjoaaDoorAdd
import Derived.Test.YtjgcodnabgkjoaaDoorLaw
import Derived.Test.YtjgcodnabgkjoaaDoorTxt
import Derived.Deep.RegionLaw
import Derived.BigRegion
namespace Go.Proofs.YtjgcodnabgkjoaaDoor
open Go.RowKit

/-- Below base nothing turns; elsewhere only the block g, and rows of bytes. -/
structure Wch (base g : Nat) (w w' : World) : Prop where
  low : Below base w w'
  but : ∀ (k : Nat) (cs : Array Value) (t : TypeId) (fr : Nat × Nat), t ≠ 5 → k ≠ g → w.heap[k]? = some (.cells cs t fr) → w'.heap[k]? = some (.cells cs t fr)
theorem Wch.refl (base g : Nat) (w : World) : Wch base g w w := ⟨Below.refl _ _, fun _ _ _ _ _ _ h => h⟩
theorem Wch.trans {base g : Nat} {w w1 w2 : World} (h : Wch base g w w1) (k : Wch base g w1 w2) : Wch base g w w2 := ⟨h.low.trans k.low, fun i cs t fr ht hi e => k.but i cs t fr ht hi (h.but i cs t fr ht hi e)⟩
theorem Wch.of_below {base g : Nat} {w w' : World} (h : Below w.heap.size w w') (hb : base ≤ w.heap.size) : Wch base g w w' :=
  ⟨h.mono hb, fun k _ _ _ _ _ e => (h.block k (Array.getElem?_eq_some_iff.1 e).1).trans e⟩
theorem Wch.upd {base g : Nat} {w w' : World} (h : Upd g w w') (hb : base ≤ g) : Wch base g w w' := ⟨h.below hb, fun k _ _ _ _ hk e => (h.block k hk).trans e⟩
theorem Wch.grown {base g : Nat} {w w' : World} {v : Value} {n : Nat} {l : List UInt8} (hrow : Own w base v n l) (hg : w.grownBy w' v.ownBlock) (hb : base ≤ w.heap.size) : Wch base g w w' := by
  refine ⟨(Below.refl _ _).grown hg hb (Own.base_le hrow), fun k cs t fr ht _ e => ?_⟩
  refine (hg.block k (Array.getElem?_eq_some_iff.1 e).1 fun e1 => ?_).trans e
  rcases hrow.2 with ⟨rfl, _⟩ | ⟨g, cap, cur, rfl, _, hh, _⟩
  · cases e1
  · have e2 : k = g := by simpa [Value.ownBlock] using e1
    subst e2
    rw [e] at hh
    cases hh
    exact ht rfl
theorem Blk.wch {w w' : World} {b base g : Nat} {t : TypeId} {C : List Value} (h : Blk w b t C) (hc : Wch base g w w') (ht : t ≠ 5) (hb : b ≠ g) : Blk w' b t C := hc.but b _ t _ ht hb h
/-- A row of bytes stays while a block of another type turns. -/
theorem Own.upd {w w' : World} {base b n : Nat} {v : Value} {l : List UInt8} {t : TypeId} {C : List Value} (h : Own w base v n l) (hB : Blk w b t C) (ht : t ≠ 5) (hu : Upd b w w') : Own w' base v n l := by
  refine ⟨h.1, ?_⟩
  rcases h.2 with h2 | ⟨g, cap, cur, hv, hg, hh, r⟩
  · exact .inl h2
  · refine .inr ⟨g, cap, cur, hv, hg, ?_, r⟩
    rw [hu.block g ?_]
    · exact hh
    · intro e
      subst e
      rw [hB] at hh
      cases hh
      exact ht rfl

/-- The writer in block g holds the bytes l, in a row of the call's own. -/
def Wtr (w : World) (base g : Nat) (l : List UInt8) : Prop := ∃ A n c, Blk w g 50 [.slice A n c] ∧ Own w base (.slice A n c) n l ∧ n ≤ c ∧ base ≤ g ∧ base ≤ w.heap.size
theorem Wtr.set {w : World} {base g : Nat} {C : List Value} {A : Option Addr} {n c : Nat} {l : List UInt8} (hB : Blk w g 50 [C.getD 0 undef]) (ho : Own w base (.slice A n c) n l) (hc : n ≤ c) (hg : base ≤ g) (hb : base ≤ w.heap.size) :
    Wtr (w.setCell ⟨g, 0, none⟩ (.slice A n c)) base g l :=
  ⟨A, n, c, hB.set 0 _, ho.upd hB (by decide) (Upd.setCell _ _ _ _), hc, hg, by simpa [World.setCell] using hb⟩

set_option maxHeartbeats 1000000 in
theorem wnum_any (base g : Nat) (l : List UInt8) (N : Nat) (w : World) (h : Wtr w base g l) (hl : l.length ≤ 100000) (hN : N < 18446744073709551616) :
    Calls Tryd.prog 19 #[.pointer (some ⟨g, 0, none⟩), .int .u64 (N : Int)] w fun r w' => r = .returned (.tuple #[]) ∧ Wtr w' base g (l ++ leb N) ∧ Wch base g w w' := by
  obtain ⟨A, n, c, hB, ho, hc, hg, hb⟩ := h
  have c0 := hB.cell (i := 0) rfl
  have hn := ho.len
  obtain ⟨A', c', e, _, hbs⟩ := ho.form
  injection e with e1 e2 e3
  subst e1 e3
  have hp := put_any A n c l N w hbs (by omega) hN
  have HO := Lib.hid ho
  clear hbs hn ho
  go_enter Tryd.func19, Tryd.ntmps19
  go_wp2_with fail
  refine hp.mono ?_
  rintro r w1 ⟨A1, c1, rfl, hc1, hbs1, ho1, hb1⟩
  have B1 := hB.kept hb1
  have d0 := B1.cell (i := 0) rfl
  have f0 := B1.frozen 0
  have hz := hb1.size
  clear hp
  obtain ⟨n1, hn1⟩ : ∃ n1, n + (leb N).length = n1 := ⟨_, rfl⟩
  rw [hn1] at ho1 hbs1 hc1 ⊢
  go_wp2_with fail
  go_end0
  exact ⟨rfl, Wtr.set (C := [_]) B1 (ho1.down hb) hc1 hg (by omega), (Wch.of_below hb1 hb).trans (Wch.upd (Upd.setCell _ _ _ _) hg)⟩


/-- append onto a row of the call's own, inside a region that draws its order. -/
theorem step_appW {ops : Array Oper} {o : Oper} {a : Act} {K : Act → World → Prop} {Q : Exit → Act → World → Prop} {E : Prop} (w : World) (hgd : o.guard = none) (s x : Operand)
    (ho : o.op = .call { callee := .builtin .append, args := #[s, x], argTypes := #[27, 27] })
    (base : Nat) (v : Value) (n : Nat) (l : List UInt8) (hs : a.eval s = v) (hown : Own w base v n l)
    (b : Nat) (m : Nat) (hx : a.eval x = .slice (some ⟨b, 0, none⟩) 1 1) (hr : w.cell? ⟨b, 0, none⟩ = some (.int .u8 (m : Int))) (hm : m < 256) (hsz : n ≤ 1000000) (hbase : base ≤ w.heap.size)
    (h : ∀ A' c' w', n + 1 ≤ c' → Own w' base (.slice A' (n + 1) c') (n + 1) (l ++ [UInt8.ofNat m]) → (∀ g, Wch base g w w') → K (a.put o.dst (.slice A' (n + 1) c')) w') :
    if Region.wanted o (yielded ops a.tmps) = true then Oper.wp Tryd.prog o a w K Q else E := by
  have hw : Region.wanted o (yielded ops a.tmps) = true := by simp [Region.wanted, hgd]
  rw [if_pos hw]
  obtain ⟨i, hi, hz, h1, h2⟩ := info_parts byte_info
  obtain ⟨v', w', hrun, h3, h4, _, h5⟩ := run_append_own_at (P := Tryd.prog) w base 27 o.type 5 i _ 1 1 Tryd.underlying27 hi hz h1 h2 rfl (by omega) v n (vbs l) hown ⟨b, 0, none⟩ 1 1 (vbs [UInt8.ofNat m]) rfl
    (fun j u hj => by
      match j, hj with
      | 0, hj =>
        simp only [vbs, List.map_cons, List.map_nil, List.getElem?_cons_zero, Option.some.injEq] at hj
        subst hj
        simp only [Addr.add_lit, Nat.add_zero, hr, vb, toNat_ofNat_lt m hm]) (vbs_one _) (by unfold maxLen; omega) (by omega) hbase
  have h3' : Own w' base v' (n + 1) (l ++ [UInt8.ofNat m]) := by rw [← vbs_append] at h3; exact h3
  obtain ⟨A', c', rfl, h6, h7⟩ := h3'.form
  unfold Oper.wp execOp
  simp only [ho, resolve, invoke, builtin, Sem.run_bind, Sem.run_pure, Result.andThen_ok, List.map_toArray, List.map_cons, List.map_nil, hs, hx, hrun]
  exact h A' c' w' h6 h3' (fun g => Wch.grown hown h4 hbase)
set_option maxHeartbeats 1000000 in
set_option maxRecDepth 100000 in
theorem wtext_any (base g y i : Nat) (l t : List UInt8) (w : World) (h : Wtr w base g l) (hl : l.length ≤ 100000) (ht : t.length ≤ 100000) (hy : w.cell? ⟨y, i, none⟩ = some (.string (str t))) :
    Calls Tryd.prog 21 #[.pointer (some ⟨g, 0, none⟩), .pointer (some ⟨y, i, none⟩)] w fun r w' => r = .returned (.tuple #[]) ∧ Wtr w' base g (l ++ (leb t.length ++ t)) ∧ Wch base g w w' := by
  obtain ⟨A, n, c, hB, ho, hc, hg, hb⟩ := h
  have c0 := hB.cell (i := 0) rfl
  have hn := ho.len
  obtain ⟨A', c', e, _, hbs⟩ := ho.form
  injection e with e1 e2 e3
  subst e1 e3
  have hp := putText_any A n c l t w.drew hbs (by omega) (by omega)
  have HO := Lib.hid ho
  clear hbs hn ho
  go_enter Tryd.func21, Tryd.ntmps21
  go_wp2_with fail
  go_region_law (first | (go_simp; go_at_call 41; refine hp.mono ?_; rintro r w1 ⟨A1, c1, rfl, hc1, hbs1, ho1, hb1⟩; have hb1' : Below w.heap.size w w1 := Below.trans ((Below.refl _ _).drew) hb1; have B1 := hB.kept hb1'; have d0 : w1.cell? ⟨g, 0, none⟩ = some (.slice A n c) := Blk.cell B1 rfl; have f0 := B1.frozen 0))
  all_goals
    go_end0
    rw [← List.append_assoc]
    exact ⟨rfl, Wtr.set (C := [_]) B1 (ho1.down hb) hc1 hg (by have := hb1'.size; omega), (Wch.of_below hb1' hb).trans (Wch.upd (Upd.setCell _ _ _ _) hg)⟩

/-- A small number's bytes. -/
def smW (below n : Nat) : List UInt8 := if 256 < below then [UInt8.ofNat (n / 256), UInt8.ofNat (n % 256)] else [UInt8.ofNat n]

set_option maxHeartbeats 4000000 in
set_option maxRecDepth 100000 in
theorem wsmall_any (base g y i below N : Nat) (l : List UInt8) (w : World) (h : Wtr w base g l) (hl : l.length ≤ 100000) (hb1 : below ≤ 1000) (hN : N < below) (t : TypeId) (C : List Value) (hY : Blk w y t C) (ht : t ≠ 5) (hyg : y ≠ g) (hi : C[i]? = some (.int .i64 (N : Int))) :
    Calls Tryd.prog 22 #[.pointer (some ⟨g, 0, none⟩), .pointer (some ⟨y, i, none⟩), .int .i64 (below : Int)] w fun r w' => r = .returned (.tuple #[]) ∧ Wtr w' base g (l ++ smW below N) ∧ Wch base g w w' := by
  have hwd := fun W => wide_any below W hb1
  obtain ⟨A, n, c, hB, ho, hc, hg, hb⟩ := h
  have c0 := hB.cell (i := 0) rfl
  have f0 := hB.frozen 0
  have y0 := hY.cell hi
  have ca : ∀ o, (w.alloc o).cell? ⟨g, 0, none⟩ = some (.slice A n c) := fun o => Blk.cell (hB.alloc o) rfl
  have ya : ∀ o, (w.alloc o).cell? ⟨y, i, none⟩ = some (.int .i64 (N : Int)) := fun o => Blk.cell (hY.alloc o) hi
  have hn := ho.len
  rw [hn] at hl
  clear hn
  by_cases hw : 256 < below
  · have hd : decide (256 < below) = true := by simpa using hw
    rw [hd] at hwd
    obtain ⟨q, hq⟩ : ∃ q, q = N / 256 := ⟨_, rfl⟩
    obtain ⟨r, hr⟩ : ∃ r, r = N % 256 := ⟨_, rfl⟩
    have hs : smW below N = [UInt8.ofNat q, UInt8.ofNat r] := by rw [smW, if_pos hw, hq, hr]
    rw [hs]
    have hq1 : (N : Int) / 256 = (q : Int) := by omega
    have hqw : IntKind.u8.wrap (q : Int) = (q : Int) := by rw [IntKind.wrap_u8]; omega
    have hrw : IntKind.u8.wrap (N : Int) = (r : Int) := by rw [IntKind.wrap_u8]; omega
    have hq2 : q < 256 := by omega
    have hr2 : r < 256 := by omega
    have hl2 : l ++ [UInt8.ofNat q, UInt8.ofNat r] = (l ++ [UInt8.ofNat q]) ++ [UInt8.ofNat r] := by simp
    rw [hl2]
    have HL := Lib.hid (And.intro hq hr)
    clear hd hs hq hr hl2
    go_enter Tryd.func22, Tryd.ntmps22
    go_wp2_with fail
    refine (hwd _).mono ?_
    rintro e w1 ⟨rfl, rfl⟩
    clear hwd
    go_wp2_with fail
    go_region_law (first | (refine step_appW _ rfl (.tmp 12) (.tmp 18) rfl base _ n l rfl (ho.alloc _) w.heap.size q rfl (by simp) hq2 (by omega) (by simp; omega) ?_; intro A1 c1 w1 hc1 ho1 hw1; have B1 : Blk w1 g 50 [.slice A n c] := Blk.wch ((Blk.drew hB).alloc _) (hw1 (g + 1)) (by decide) (by omega); have d0 : w1.cell? ⟨g, 0, none⟩ = some (.slice A n c) := Blk.cell B1 rfl; have f0 := B1.frozen 0))
    all_goals
      have hz := (hw1 g).low.size
      have W2 : Wtr (w1.setCell ⟨g, 0, none⟩ (.slice A1 (n + 1) c1)) base g (l ++ [UInt8.ofNat q]) := Wtr.set (C := [_]) B1 ho1 hc1 hg (by simp at hz; omega)
      have X2 : Wch base g w (w1.setCell ⟨g, 0, none⟩ (.slice A1 (n + 1) c1)) := ((Wch.of_below ((Below.refl _ _).alloc (Nat.le_refl _) _).drew hb).trans (hw1 g)).trans (Wch.upd (Upd.setCell _ _ _ _) hg)
      have E2 : (w1.setCell ⟨g, 0, none⟩ (.slice A1 (n + 1) c1)).cell? ⟨g, 0, none⟩ = some (.slice A1 (n + 1) c1) := (B1.set 0 _).cell rfl
      revert W2 X2 E2
      generalize w1.setCell ⟨g, 0, none⟩ (.slice A1 (n + 1) c1) = w2
      intro W2 X2 E2
      clear d0 hw1 ho1 B1 ca ya f0 c0 hz
      obtain ⟨A2, n2, c2, B2, o2, k2, k3, k4⟩ := W2
      have g0 : w2.cell? ⟨g, 0, none⟩ = some (.slice A2 n2 c2) := B2.cell rfl
      rw [E2] at g0
      injection g0 with g0
      injection g0 with j1 j2 j3
      subst j1 j2 j3
      have Y2 := hY.wch X2 ht hyg
      have y1 := Y2.cell hi
      have f2 := B2.frozen 0
      have cb : ∀ o, (w2.alloc o).cell? ⟨g, 0, none⟩ = some (.slice A1 (n + 1) c1) := fun o => Blk.cell (B2.alloc o) rfl
      have yb : ∀ o, (w2.alloc o).cell? ⟨y, i, none⟩ = some (.int .i64 (N : Int)) := fun o => Blk.cell (Y2.alloc o) hi
      go_wp2_with fail
      go_region_law (first | (refine step_appW _ rfl (.tmp 26) (.tmp 31) rfl base _ (n + 1) (l ++ [UInt8.ofNat q]) rfl (o2.alloc _) w2.heap.size r rfl (by simp) hr2 (by omega) (by simp; omega) ?_; intro A3 c3 w3 hc3 ho3 hw3; have B3 : Blk w3 g 50 [.slice A1 (n + 1) c1] := Blk.wch ((Blk.drew B2).alloc _) (hw3 (g + 1)) (by decide) (by omega); have d3 : w3.cell? ⟨g, 0, none⟩ = some (.slice A1 (n + 1) c1) := Blk.cell B3 rfl; have f3 := B3.frozen 0))
      all_goals
        go_end0
        have hz := (hw3 g).low.size
        refine ⟨rfl, Wtr.set (C := [_]) B3 ho3 hc3 hg (by simp at hz; omega), (X2.trans ((Wch.of_below ((Below.refl _ _).alloc (Nat.le_refl _) _).drew k4).trans (hw3 g))).trans (Wch.upd (Upd.setCell _ _ _ _) hg)⟩
  · have hd : decide (256 < below) = false := by simpa using hw
    rw [hd] at hwd
    have hs : smW below N = [UInt8.ofNat N] := by rw [smW, if_neg hw]
    rw [hs]
    have hNm : IntKind.u8.wrap (N : Int) = (N : Int) := by rw [IntKind.wrap_u8]; omega
    clear hd hs
    go_enter Tryd.func22, Tryd.ntmps22
    go_wp2_with fail
    refine (hwd _).mono ?_
    rintro r w1 ⟨rfl, rfl⟩
    clear hwd
    go_wp2_with fail
    go_region_law (first | (refine step_appW _ rfl (.tmp 26) (.tmp 31) rfl base _ n l rfl (ho.alloc _) w.heap.size N rfl (by simp) (by omega) (by omega) (by simp; omega) ?_; intro A1 c1 w1 hc1 ho1 hw1; have B1 : Blk w1 g 50 [.slice A n c] := Blk.wch ((Blk.drew hB).alloc _) (hw1 (g + 1)) (by decide) (by omega); have d0 : w1.cell? ⟨g, 0, none⟩ = some (.slice A n c) := Blk.cell B1 rfl; have f0 := B1.frozen 0))
    all_goals
      go_end0
      have hz := (hw1 g).low.size
      refine ⟨rfl, Wtr.set (C := [_]) B1 ho1 hc1 hg (by simp at hz; omega), ((Wch.of_below ((Below.refl _ _).alloc (Nat.le_refl _) _).drew hb).trans (hw1 g)).trans (Wch.upd (Upd.setCell _ _ _ _) hg)⟩
end Go.Proofs.YtjgcodnabgkjoaaDoor
