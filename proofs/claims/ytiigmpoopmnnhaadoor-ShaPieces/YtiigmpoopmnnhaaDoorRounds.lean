/-
  What schedule.rounded answers: the eight words after 64 rounds; nothing that was in memory turns. Condition: the table of cube roots holds what the program's text lays.
-/
import Derived.Test.YtiigmpoopmnnhaaDoorStretch
namespace Go.Proofs.YtiigmpoopmnnhaaDoor
open Go.RowKit

/-- The tables of sha: their cells. -/
def Tab (w : World) : Prop := 1 < w.heap.size ∧ w.rangeAt 0 0 (vws H0.list) ∧ w.rangeAt 1 0 (vws cubes)
theorem Tab.below {w w' : World} (h : Tab w) (hb : Below w.heap.size w w') : Tab w' :=
  ⟨by have := hb.size; have := h.1; omega, fun j v hv => (hb.cell (p := ⟨0, 0 + j, none⟩) (by have := h.1; show 0 < _; omega)).trans (h.2.1 j v hv),
    fun j v hv => (hb.cell (p := ⟨1, 0 + j, none⟩) h.1).trans (h.2.2 j v hv)⟩
theorem Tab.cube {w : World} (h : Tab w) {i : Nat} (hi : i < 64) : w.cell? ⟨1, i, none⟩ = some (.int .u32 (cubes.getD i 0 : Nat)) := by
  have := h.2.2 i _ (vws_get cubes i hi)
  rwa [Nat.zero_add] at this

theorem list_get (s : E8) (i : Nat) (h : i < 8) : (vws s.list)[i]? = some (vw (s.list.getD i 0)) := vws_get _ _ h
theorem not_u32 (r : Nat) (hr : r < 4294967296) : bits .xor .u32 IntKind.u32.max (r : Int) = ((4294967295 ^^^ r : Nat) : Int) := u32_xor_nat 4294967295 r (by omega) hr
theorem add_int (x y : Nat) : ((x : Int) + (y : Int)) % 4294967296 = ((add x y : Nat) : Int) := by simp [add]

theorem size34 : (Tryd.prog.info? 34).map (·.size) = some 1 := by kernel_rfl

set_option maxHeartbeats 2000000 in
set_option maxRecDepth 100000 in
theorem rounded_any (W : List Nat) (s : E8) (w : World) (ht : Tab w) (hW : W.length = 64) (hl : ∀ i, i < 64 → W.getD i 0 < 4294967296) (hs : s.ok) :
    Calls Tryd.prog 30 #[.agg (vws W).toArray, .agg (vws s.list).toArray] w fun e w' => e = .returned (.agg (vws (rounds s W 64).list).toArray) ∧ Below w.heap.size w w' := by
  have hW64 : (Tryd.prog.info? 64).map (·.size) = some (vws W).length := by rw [vws_length, hW]; exact size64
  obtain ⟨b1, b2, b3, b4, b5, b6, b7, b8⟩ := hs
  obtain ⟨sa, sb, sc, sd, se, sf, sg_, sh⟩ := s
  go_enter Tryd.func30, Tryd.ntmps30
  go_wp2_with (first
    | (refine wp_box _ rfl 64 (.tmp 0) rfl (vws W) rfl ?_; intro w1 g1 hB1 hf1)
    | (refine wp_box _ rfl 36 (.tmp 1) rfl (vws (E8.list ⟨sa, sb, sc, sd, se, sf, sg_, sh⟩)) rfl ?_; intro w2 g2 hB2 hf2)
    | (refine wp_new _ rfl 36 rfl _ zero36 ?_; intro w3 g3 hB3 hf3))
  have hz1 := hf1.is
  have hz2 := hf2.is
  have hz3 := hf3.is
  have hs1 := hf1.size
  have hs2 := hf2.size
  have hs3 := hf3.size
  have bel : Below w.heap.size w w3 := (hf1.below.trans (hf2.below.mono (by omega))).trans (hf3.below.mono (by omega))
  have D1 := hf3.blk (hf2.blk hB1)
  have D2 := hf3.blk hB2
  have T3 := ht.below bel
  have LB : Hid (w.heap.size ≤ g3) := by show _ ≤ _; omega
  clear hz1 hz2 hz3 hs1 hs2 hs3 hf1 hf2 hf3 hB1 hB2 ht
  have c0 := D2.cell (i := 0) rfl
  have c1 := D2.cell (i := 1) rfl
  have c2 := D2.cell (i := 2) rfl
  have c3 := D2.cell (i := 3) rfl
  have c4 := D2.cell (i := 4) rfl
  have c5 := D2.cell (i := 5) rfl
  have c6 := D2.cell (i := 6) rfl
  have c7 := D2.cell (i := 7) rfl
  rw [vw] at c0 c1 c2 c3 c4 c5 c6 c7
  simp only [] at c0 c1 c2 c3 c4 c5 c6 c7
  go_quiet (fail)
  clear c0 c1 c2 c3 c4 c5 c6 c7 D2
  replace D1 := D1.drewN nq
  replace hB3 := hB3.drewN nq
  replace bel := below_drewN bel nq
  replace T3 : Tab (w3.drewN nq) := T3
  generalize w3.drewN nq = w4 at *
  clear nq
  go_wp2_with (refine wp_get _ rfl 64 (.tmp 2) rfl _ 0 (vws W) _ rfl D1.whole Tryd.underlying64 rfl hW64 ?_)
  have sg : IntKind.u32.signed = false := rfl
  have HR0 : Hid (rounds ⟨sa, sb, sc, sd, se, sf, sg_, sh⟩ W 0 = ⟨sa, sb, sc, sd, se, sf, sg_, sh⟩) := rfl
  have HB0 : Hid (E8.ok ⟨sa, sb, sc, sd, se, sf, sg_, sh⟩) := ⟨b1, b2, b3, b4, b5, b6, b7, b8⟩
  obtain ⟨s0, hs0⟩ : ∃ s0 : E8, s0 = ⟨sa, sb, sc, sd, se, sf, sg_, sh⟩ := ⟨_, rfl⟩
  clear b1 b2 b3 b4 b5 b6 b7 b8
  have HS0 := Lib.hid hs0
  have HR1 : Hid (rounds s0 W 0 = ⟨sa, sb, sc, sd, se, sf, sg_, sh⟩) := by show rounds s0 W 0 = _; rw [hs0]; rfl
  clear hs0 HR0 D1
  go_loopw [5, 6, 7, 8, 9, 10, 11, 12, 34] (fun v5 v6 v7 v8 v9 v10 v11 v12 v34 wr => ∃ k a b c d e f g h : Nat, k ≤ 64 ∧ v34 = .int .i64 k ∧ v5 = .int .u32 a ∧ v6 = .int .u32 b ∧ v7 = .int .u32 c ∧ v8 = .int .u32 d ∧ v9 = .int .u32 e ∧ v10 = .int .u32 f ∧ v11 = .int .u32 g ∧ v12 = .int .u32 h ∧ Hid (E8.ok ⟨a, b, c, d, e, f, g, h⟩) ∧ Hid (rounds s0 W k = ⟨a, b, c, d, e, f, g, h⟩) ∧ Tab wr ∧ Blk wr g3 36 (vws (List.replicate 8 0)) ∧ Below w.heap.size w wr) (fun _ _ _ _ _ _ _ _ i _ => 64 - (intOf i).toNat)
  case atStart => exact ⟨0, sa, sb, sc, sd, se, sf, sg_, sh, by omega, rfl, rfl, rfl, rfl, rfl, rfl, rfl, rfl, rfl, HB0, HR1, T3, hB3, bel⟩
  case round =>
    obtain ⟨k, a, b, c, d, e, f, g, h, hk, rfl, rfl, rfl, rfl, rfl, rfl, rfl, rfl, rfl, HB, HR, TR, BR, belr⟩ := hrel
    by_cases hlt : k < 64
    · have HT : Hid (tOf ⟨a, b, c, d, e, f, g, h⟩ (cubes.getD k 0) (W.getD k 0) = add (add (add (add h (mixT e 6 11 25)) ((e &&& f) ^^^ ((4294967295 ^^^ e) &&& g))) (cubes.getD k 0)) (W.getD k 0)) := rfl
      have HU : Hid (uOf ⟨a, b, c, d, e, f, g, h⟩ = add (mixT a 2 13 22) ((a &&& b) ^^^ (a &&& c) ^^^ (b &&& c))) := rfl
      have hcell := TR.cube hlt
      have hx := vws_get W k (by omega)
      have lx := hl k hlt
      have lq := cubes_lt hlt
      have HN : Hid (rounds s0 W (k + 1) = step ⟨a, b, c, d, e, f, g, h⟩ (cubes.getD k 0) (W.getD k 0)) := by
        show rounds s0 W (k + 1) = _
        rw [← HR.out]
        rfl
      have HN2 : Hid (step ⟨a, b, c, d, e, f, g, h⟩ (cubes.getD k 0) (W.getD k 0) = ⟨add (tOf ⟨a, b, c, d, e, f, g, h⟩ (cubes.getD k 0) (W.getD k 0)) (uOf ⟨a, b, c, d, e, f, g, h⟩), a, b, c, add d (tOf ⟨a, b, c, d, e, f, g, h⟩ (cubes.getD k 0) (W.getD k 0)), e, f, g⟩) := rfl
      have HBN : Hid (E8.ok (step ⟨a, b, c, d, e, f, g, h⟩ (cubes.getD k 0) (W.getD k 0))) := step_ok HB.out _ _
      rw [vw] at hx
      generalize cubes.getD k 0 = q at *
      generalize W.getD k 0 = x at *
      obtain ⟨la, lb, lc, ld, le, lf, lg, lh⟩ := HB.out
      simp only [] at la lb lc ld le lf lg lh
      have M1 : ∀ z, Calls Tryd.prog 33 #[.int .u32 e, .int .u64 6, .int .u64 11, .func (.func 35) #[] #[], .int .u64 25] (wr.drewN z) fun r w'' => r = .returned (.int .u32 (mixT e 6 11 25 : Int)) ∧ ∃ m, w'' = wr.drewN m :=
        fun z => Calls.quiet_of_same (mixedT_any e 6 11 25 (wr.drewN z) le (by omega) (by omega) (by omega))
      have M2 : ∀ z, Calls Tryd.prog 33 #[.int .u32 a, .int .u64 2, .int .u64 13, .func (.func 35) #[] #[], .int .u64 22] z fun r w' => r = .returned (.int .u32 (mixT a 2 13 22 : Int)) ∧ w' = z :=
        fun z => mixedT_any a 2 13 22 z la (by omega) (by omega) (by omega)
      have n1 := not_u32 e le
      have n2 := u32_and_nat e f le lf
      have n3 := u32_and_nat (4294967295 ^^^ e) g (not_lt le) lg
      have n4 := u32_xor_nat (e &&& f) ((4294967295 ^^^ e) &&& g) (and_lt le) (and_lt (not_lt le))
      have n5 := u32_and_nat a b la lb
      have n6 := u32_and_nat a c la lc
      have n7 := u32_and_nat b c lb lc
      have n8 := u32_xor_nat (a &&& b) (a &&& c) (and_lt la) (and_lt la)
      have n9 := u32_xor_nat ((a &&& b) ^^^ (a &&& c)) (b &&& c) (xor_lt (and_lt la) (and_lt la)) (and_lt lb)
      generalize (e &&& f) ^^^ ((4294967295 ^^^ e) &&& g) = y1 at *
      generalize (a &&& b) ^^^ (a &&& c) ^^^ (b &&& c) = y2 at *
      generalize (a &&& b) ^^^ (a &&& c) = y3 at *
      generalize a &&& b = y4 at *
      generalize a &&& c = y5 at *
      generalize b &&& c = y6 at *
      generalize e &&& f = y7 at *
      generalize (4294967295 ^^^ e) &&& g = y8 at *
      generalize 4294967295 ^^^ e = y9 at *
      generalize mixT e 6 11 25 = z1 at *
      generalize mixT a 2 13 22 = z2 at *
      have p1 := add_int h z1
      have p2 := add_int (add h z1) y1
      have p3 := add_int (add (add h z1) y1) q
      have p4 := add_int (add (add (add h z1) y1) q) x
      have p5 := add_int z2 y2
      generalize add (add (add (add h z1) y1) q) x = t at *
      generalize add (add (add h z1) y1) q = t3 at *
      generalize add (add h z1) y1 = t2 at *
      generalize add h z1 = t1 at *
      generalize add z2 y2 = u at *
      have p6 := add_int t u
      have p7 := add_int d t
      have HZ : Hid (rounds s0 W (k + 1) = ⟨add t u, a, b, c, add d t, e, f, g⟩) := by
        show rounds s0 W (k + 1) = _
        rw [HN.out, HN2.out, HT.out, HU.out]
      have HBZ : Hid (E8.ok ⟨add t u, a, b, c, add d t, e, f, g⟩) := by
        have := HBN.out
        rw [HN2.out, HT.out, HU.out] at this
        exact this
      generalize add t u = v1 at *
      generalize add d t = v2 at *
      have HM1 := Lib.hid M1
      have HM2 := Lib.hid M2
      have i1 : (k : Int) < 64 := by omega
      clear HN HN2 HBN HT HU HB HR M1 M2 la lb lc ld le lf lg lh lx lq HS0 HR1 HB0
      go_wp2_with (refine wp_index _ rfl 64 (.tmp 33) (.tmp 34) rfl 64 34 _ Tryd.underlying64 Tryd.underlying34 rfl size34 (vws W) rfl k rfl hlt _ hx ?_)
      go_quiet (first | (go_at_call 33; with_reducible exact HM1.out _))
      replace TR : Tab (wr.drewN nq) := TR
      replace BR := BR.drewN nq
      replace belr := below_drewN belr nq
      clear hcell
      generalize wr.drewN nq = w5 at *
      clear HM1
      go_wp2_with fail
      refine (HM2.out _).mono ?_
      rintro r w6 ⟨rfl, rfl⟩
      go_wp2_with fail
      go_roundw
      case rel => exact ⟨k + 1, v1, a, b, c, v2, e, f, g, by omega, by go_num, by rw [p6], rfl, rfl, rfl, by rw [p7], rfl, rfl, rfl, HBZ, HZ, TR, BR, belr⟩
      case measure => simp [intOf]; omega
    · have hk64 : k = 64 := by omega
      have HE : Hid ((rounds s0 W 64).list = [a, b, c, d, e, f, g, h]) := by
        show (rounds s0 W 64).list = _
        rw [← hk64, HR.out]
        rfl
      have z36 : (Tryd.prog.info? 36).map (·.size) = some (vws [a, b, c, d, e, f, g, h]).length := size36
      go_wp2_with (refine wp_putAll _ rfl 36 (.tmp 4) (.tmp 92) rfl g3 36 _ (vws [a, b, c, d, e, f, g, h]) rfl rfl BR rfl z36 (vws_one _) ?_; intro w6 F3 U6)
      refine ret_cell 4 36 rfl g3 _ _ rfl F3.whole Tryd.underlying36 rfl z36 rfl ⟨?_, ?_⟩
      · rw [← HE.out, HS0.out]
      · exact belr.trans (U6.below LB.out)
end Go.Proofs.YtiigmpoopmnnhaaDoor
