/-
  transeptlaw04.FrameOwn returns true, whatever it is called with, and turns nothing that was there. Condition: the table's cells hold what the program's text lays.
-/
import Derived.Test.YtknnncdmpfmgkaaDoorReads
import Derived.StillTailTactics
namespace Go.Proofs.YtknnncdmpfmgkaaDoor
open Go.RowKit

/-- A row of rows of bytes of these lengths, in blocks from lo on and below hi; what the bytes are is left open. -/
def Ms (w : World) (lo hi : Nat) (v : Value) (ns : List Nat) : Prop :=
  ∃ vs : List Value, w.ownsRow lo 22 1 v ns.length vs ∧ ∀ (i n : Nat), ns[i]? = some n → ∃ A c, vs[i]? = some (Value.slice A n c) ∧ (∀ g, A = some ⟨g, 0, none⟩ → g < hi) ∧ ∃ l, Own w lo (.slice A n c) n l
theorem Rs.lens {w : World} {lo : Nat} {v : Value} {bs : List (List UInt8)} (h : Rs w lo v bs) : Ms w lo w.heap.size v (bs.map List.length) := by
  obtain ⟨vs, h1, h2⟩ := h
  refine ⟨vs, by rw [List.length_map]; exact h1, fun i n hn => ?_⟩
  rw [List.getElem?_map, Option.map_eq_some_iff] at hn
  obtain ⟨l, hl, rfl⟩ := hn
  obtain ⟨A, c, h3, h4⟩ := h2 i l hl
  refine ⟨A, c, h3, fun g e => ?_, l, h4⟩
  subst e
  exact (World.ownsRow.lt h4 g rfl).2
theorem grown_set (w : World) (b i : Nat) (v : Value) : w.grownBy (w.setCell ⟨b, i, none⟩ v) (some b) :=
  ⟨rfl, rfl, rfl, by simp [World.setCell], fun k _ hk => Below.heap_setCell _ _ _ _ (fun e => hk (by simp [e]))⟩
/-- A byte of some block of bytes, written over. -/
theorem Own.poke {w : World} {lo n : Nat} {v : Value} {l : List UInt8} (h : Own w lo v n l) (g k : Nat) (x : UInt8) : ∃ l', Own (w.setCell ⟨g, k, none⟩ (vb x)) lo v n l' := by
  rcases h.2 with ⟨rfl, h0⟩ | ⟨g', cap, cur, rfl, hg, hh, r⟩
  · exact ⟨l, h.1, .inl ⟨rfl, h0⟩⟩
  · by_cases e : g' = g
    · subst e
      exact ⟨_, (h.put k x).1⟩
    · refine ⟨l, h.1, .inr ⟨g', cap, cur, rfl, hg, ?_, r⟩⟩
      exact ((grown_set w g k (vb x)).block g' (Array.getElem?_eq_some_iff.1 hh).1 fun e1 => by injection e1 with e1; exact e e1).trans hh
theorem Ms.poke {w : World} {lo hi : Nat} {v : Value} {ns : List Nat} (h : Ms w lo hi v ns) {g k : Nat} (x : UInt8) {cs : Array Value} {fr : Nat × Nat} (hB : w.heap[g]? = some (.cells cs 5 fr)) : Ms (w.setCell ⟨g, k, none⟩ (vb x)) lo hi v ns := by
  obtain ⟨vs, h1, h2⟩ := h
  refine ⟨vs, ownsRow_keepB h1 fun b cs' fr' _ e => ?_, fun i n hn => ?_⟩
  · refine ((grown_set w g k (vb x)).block b (Array.getElem?_eq_some_iff.1 e).1 fun e1 => ?_).trans e
    injection e1 with e1
    subst e1
    rw [hB] at e
    cases e
  · obtain ⟨A, c, h3, h4, l, h5⟩ := h2 i n hn
    obtain ⟨l', h6⟩ := h5.poke g k x
    exact ⟨A, c, h3, h4, l', h6⟩
theorem Ms.at_ {w : World} {lo hi : Nat} {v : Value} {ns : List Nat} (h : Ms w lo hi v ns) {i n : Nat} (hi' : ns[i]? = some n) : ∃ b c A' c', v = .slice (some ⟨b, 0, none⟩) ns.length c ∧ w.cell? ⟨b, i, none⟩ = some (.slice A' n c') ∧ (∀ g, A' = some ⟨g, 0, none⟩ → g < hi) ∧ ∃ l, Own w lo (.slice A' n c') n l := by
  obtain ⟨vs, h1, h2⟩ := h
  obtain ⟨A, c, h3, h4, l, h5⟩ := h2 i n hi'
  rcases h1.2 with ⟨_, h0⟩ | ⟨g, cap, cur, rfl, hg, hh, _⟩
  · have := (List.getElem?_eq_some_iff.1 hi').1
    omega
  · have hc := World.ownsRow.cells (g := g) h1 rfl i _ h3
    rw [Addr.add_lit, Nat.zero_add] at hc
    exact ⟨g, cap, A, c, rfl, hc, h4, l, h5⟩
theorem u8_next (x : UInt8) : (.int .u8 (((x.toNat : Int) + 1) % 256) : Value) = vb (UInt8.ofNat ((x.toNat + 1) % 256)) := by
  unfold vb
  congr 1
  simp

set_option maxHeartbeats 8000000 in
set_option maxRecDepth 100000 in
theorem own_walk (A : Option Addr) (n c : Nat) (b0 : List (List UInt8)) (w : World) (h : Rv w A n b0) (hn : n ≤ 9223372036854775807) (ht : Tab w) :
    Calls Tryd.prog 12 #[.slice A n c] w fun e w' => e = .returned (.bool true) ∧ Below w.heap.size w w' := by
  have hJ := fewS_join b0
  have hfin := fewS_fine b0
  have hneat := fewS_ok b0
  have hov := fewS_over b0
  have hfl := (fewS_neat b0).1
  have HSB := Lib.hid (fewS_split b0)
  have HL := Lib.hid ((fewS_neat b0).2)
  have FE := fun w1 (g : Below w.heap.size w w1) => few_any A n c b0 w1 (h.below g) hn
  generalize fewS b0 = bs at *
  clear h
  go_enter Tryd.func12, Tryd.ntmps12
  go_wp2_with fail
  refine (shown_any w ht).mono ?_
  rintro e w1 ⟨rfl, g1⟩
  go_wp2_with fail
  refine (FE w1 g1).mono ?_
  rintro e w2 ⟨va, vb, rfl, ra, sb, g2⟩
  have G2 : Below w.heap.size w w2 := g1.trans (g2.mono g1.size)
  obtain ⟨Aa, ca, rfl, ha1, ha2, hav⟩ := ra.view
  obtain ⟨Ab, cb, rfl, hb1, hb2, hbv⟩ := sb.view
  clear FE g1 g2 ra sb
  go_wp2_with fail
  refine (join_fit Aa bs.length ca bs w2 (ht.below G2) hav hfin hov).mono ?_
  rintro e w3 ⟨A3, c3, rfl, o3, g3⟩
  have G3 : Below w.heap.size w w3 := G2.trans (g3.mono G2.size)
  obtain ⟨o3a, o3b, o3c⟩ := o3.view
  have hbv3 := hbv.below g3
  have cv := run_str w3 _ A3 _ c3 (join bs) o3c
  clear hav
  obtain ⟨J, hJe⟩ : ∃ J, (join bs).length = J := ⟨_, rfl⟩
  rw [hJe] at o3 o3a o3c hJ cv HSB ⊢
  clear hJe
  have SP := splitL_any A3 _ c3 (join bs) w3 (ht.below G3) o3c o3a o3b (by omega)
  rw [HSB.out] at SP
  go_wp2_with fail
  refine SP.mono ?_
  rintro e w4 ⟨v4, rfl, r4, g4⟩
  have G4 : Below w.heap.size w w4 := G3.trans (g4.mono G3.size)
  obtain ⟨A4, c4, rfl⟩ := r4.form
  have M4 := r4.lens
  have SQ := splitL_any A3 _ c3 (join bs) w4 (ht.below G4) ((o3c.below g4).more g4.size) o3a o3b (by omega)
  rw [HSB.out] at SQ
  clear SP cv r4
  go_wp2_with fail
  refine SQ.mono ?_
  rintro e w5 ⟨v5, rfl, r5, g5⟩
  have G5 : Below w.heap.size w w5 := G4.trans (g5.mono G4.size)
  obtain ⟨A5, c5, rfl⟩ := r5.form
  have K5 : Below w3.heap.size w3 w5 := g4.trans (g5.mono g4.size)
  have M5 : Ms w5 w3.heap.size w4.heap.size (.slice A4 bs.length c4) (bs.map List.length) := by
    obtain ⟨vs, h1, h2⟩ := M4
    refine ⟨vs, ownsRow_keepB h1 fun k _ _ _ e => (g5.block k (Array.getElem?_eq_some_iff.1 e).1).trans e, fun i n hn => ?_⟩
    obtain ⟨A, c, h3, h4, l, h5⟩ := h2 i n hn
    exact ⟨A, c, h3, h4, l, h5.kept g5⟩
  have hg4 := g4.size
  have hG3 := G3.size
  clear SQ M4 g5 G4 G5 g4
  obtain ⟨P, hPe⟩ : ∃ P, bs.length = P := ⟨_, rfl⟩
  rw [hPe] at ha1 hb1 hfl hbv3 hbv M5 r5 ⊢
  have HPE := Lib.hid hPe
  clear hPe
  go_wp2_with fail
  go_loopw [15, 16] (fun i _ wr => ∃ k : Nat, k ≤ P ∧ i = .int .i64 k ∧ Ms wr w3.heap.size w4.heap.size (.slice A4 P c4) (bs.map List.length) ∧ Rs wr w4.heap.size (.slice A5 P c5) bs ∧ Below w3.heap.size w3 wr) (fun i _ _ => P - (intOf i).toNat)
  case atStart => exact ⟨0, by omega, rfl, M5, r5, K5⟩
  case round =>
    obtain ⟨k, hk, rfl, hM, hR, hB⟩ := hrel
    clear M5 r5 K5
    by_cases hlt : k < P
    · obtain ⟨l, hl⟩ : ∃ l, bs[k]? = some l := ⟨_, List.getElem?_eq_getElem (by rw [HPE.out]; exact hlt)⟩
      have hll := HL.out l (List.mem_of_getElem? hl)
      have hlk : (bs.map List.length)[k]? = some l.length := by simp [hl]
      obtain ⟨L, hLe⟩ : ∃ L, l.length = L := ⟨_, rfl⟩
      rw [hLe] at hll hlk
      have HLK := Lib.hid hlk
      clear hLe hl hlk
      go_wp2_with fail
      go_loopw [16] (fun j wr => ∃ i : Nat, i ≤ L ∧ j = .int .i64 i ∧ Ms wr w3.heap.size w4.heap.size (.slice A4 P c4) (bs.map List.length) ∧ Rs wr w4.heap.size (.slice A5 P c5) bs ∧ Below w3.heap.size w3 wr) (fun j _ => L - (intOf j).toNat)
      case atStart => exact ⟨0, by omega, rfl, hM, hR, hB⟩
      case round =>
        clear hM hR hB
        obtain ⟨i, hi, rfl, hM, hR, hB⟩ := hrel
        obtain ⟨b, cx, A6, c6, e6, hc6, hu6, l6, o6⟩ := hM.at_ HLK.out
        injection e6 with e6a e6b e6c
        subst e6a e6c
        clear e6b
        have hix := index24 wr b 0 P c4 k hlt
        rw [Nat.zero_add] at hix
        have ik0 : (0 : Int) ≤ (k : Int) := by omega
        have ik1 : (k : Int) < (P : Int) := by omega
        by_cases hlt2 : i < L
        · obtain ⟨g, rfl, hg1, hg2⟩ := o6.addr (by omega)
          have hgu := hu6 g rfl
          have hl6 := o6.len
          obtain ⟨x, hx⟩ : ∃ x, l6.getD i 0 = x := ⟨_, rfl⟩
          have hcell := World.ownsRow.cellAt o6 i (by omega)
          have hfr := World.ownsRow.frozenAt o6 i
          rw [show (vbs l6)[i]? = some (.int .u8 (x.toNat : Int)) by rw [← hx]; simp [vbs, vb, List.getD, List.getElem?_eq_getElem (show i < l6.length by omega)]] at hcell
          obtain ⟨cs, hcs⟩ : ∃ cs, wr.heap[g]? = some (.cells cs 5 (0, 0)) := by
            rcases o6.2 with ⟨e, _⟩ | ⟨g', cap, cur, e, _, hh, _⟩
            · cases e
            · injection e with e1
              injection e1 with e1
              injection e1 with e1
              subst e1
              exact ⟨cur, hh⟩
          have hMd : Ms wr.drew w3.heap.size w4.heap.size (.slice (some ⟨b, 0, none⟩) P c4) (bs.map List.length) := hM
          have hRd := hR.keep (w' := wr.drew) (fun _ _ _ _ _ _ e => e)
          have hBd := hB.drew
          have hcsd : wr.drew.heap[g]? = some (.cells cs 5 (0, 0)) := hcs
          have hcelld : wr.drew.cell? ⟨g, i, none⟩ = some (.int .u8 (x.toNat : Int)) := hcell
          have hfrd : wr.drew.frozen? ⟨g, i, none⟩ = false := hfr
          have hM1 := hMd.poke (g := g) (k := i) (UInt8.ofNat ((x.toNat + 1) % 256)) hcsd
          have hR1 := hRd.besides (grown_set wr.drew g i (vb (UInt8.ofNat ((x.toNat + 1) % 256)))) hgu
          have hB1 : Below w3.heap.size w3 (wr.drew.setCell ⟨g, i, none⟩ (vb (UInt8.ofNat ((x.toNat + 1) % 256)))) := hBd.setCell (p := ⟨g, i, none⟩) hg1 _
          rw [← u8_next] at hM1 hR1 hB1
          have HALL := Lib.hid (And.intro hM1 (And.intro hR1 hB1))
          have hx8 := UInt8.toNat_lt x
          clear hM hR hB hM1 hR1 hB1 hMd hRd hBd hcsd hx o6 hu6 hcs
          generalize x.toNat = X at *
          have i1 : (i : Int) < (L : Int) := by omega
          go_wp2_with fail
          go_still_tail 14, (by kernel_rfl)
          change wpList _ _ _ _ _ wr.drew
          generalize wr.drew = w9 at HALL hcelld hfrd ⊢
          clear hcell hfr
          go_wp2_with fail
          go_roundw
          case rel => exact ⟨i + 1, by omega, by go_num, HALL.out.1, HALL.out.2.1, HALL.out.2.2⟩
          case measure => simp [intOf]; omega
        · obtain rfl : i = L := by omega
          clear hu6 o6
          go_wp2_with fail
          go_roundw
          case rel => exact ⟨k + 1, by omega, by go_num, hM, hR, hB⟩
          case measure => simp [intOf]; omega
    · obtain rfl : k = P := by omega
      have K6 : Below w2.heap.size w2 wr := g3.trans (hB.mono g3.size)
      have cv := run_str wr _ A3 _ c3 (join bs) (o3c.below hB)
      have RJ := refJoin_any Ab k cb bs wr (hbv3.below hB) hneat
      have o6 := o3.kept hB
      have G6 : Below w.heap.size w wr := G3.trans (hB.mono G3.size)
      clear hM hB
      go_wp2_with fail
      refine RJ.mono ?_
      rintro e w6 ⟨rfl, g6⟩
      have K7 := K6.trans (g6.mono K6.size)
      have o7 := o6.kept g6
      have R7 := hR.below g6
      have G7 := G6.trans (g6.mono G6.size)
      clear RJ cv g6 o6 hR G6 K6
      have HG : Hid (∀ g, 0 < J → A3 = some ⟨g, 0, none⟩ → w2.heap.size ≤ g ∧ g < w4.heap.size) := fun g h0 e => by
        obtain ⟨g', e', h1, h2⟩ := o3.addr h0
        rw [e] at e'
        injection e' with e'
        injection e' with e'
        subst e'
        exact ⟨h1, by omega⟩
      have hG2 := G2.size
      clear o3 o3c
      go_wp2_with fail
      go_loopw [18] (fun i wr => ∃ j : Nat, j ≤ J ∧ i = .int .i64 j ∧ (∃ L, Own wr w2.heap.size (.slice A3 J c3) J L) ∧ Rs wr w4.heap.size (.slice A5 k c5) bs ∧ Below w2.heap.size w2 wr ∧ Below w.heap.size w wr) (fun i _ => J - (intOf i).toNat)
      case atStart => exact ⟨0, by omega, rfl, ⟨_, o7⟩, R7, K7, G7⟩
      case round =>
        clear o7 R7 K7 G7
        obtain ⟨j, hj, rfl, ⟨L, hown⟩, hR, hK, hG⟩ := hrel
        by_cases hlt2 : j < J
        · obtain ⟨g, rfl, hg1, hg2⟩ := hown.addr (by omega)
          obtain ⟨h1, h2⟩ := HG.out g (by omega) rfl
          have hLl := hown.len
          have hcell := World.ownsRow.cellAt hown j (by omega)
          have hfr := World.ownsRow.frozenAt hown j
          obtain ⟨u, hu⟩ : ∃ u, (vbs L)[j]? = some u := ⟨_, List.getElem?_eq_getElem (by rw [vbs_length]; omega)⟩
          rw [hu] at hcell
          obtain ⟨p1, p2⟩ := hown.put j 0
          have hR' := hR.besides p2 h2
          have hK' : Below w2.heap.size w2 (wr.setCell ⟨g, j, none⟩ (vb 0)) := hK.setCell (p := ⟨g, j, none⟩) h1 _
          have hG' : Below w.heap.size w (wr.setCell ⟨g, j, none⟩ (vb 0)) := hG.setCell (p := ⟨g, j, none⟩) (Nat.le_trans hG2 h1) _
          clear hu hown hR hK hG p2
          go_wp2_with fail
          go_roundw
          case rel => exact ⟨j + 1, by omega, by go_num, ⟨_, p1⟩, hR', hK', hG'⟩
          case measure => simp [intOf]; omega
        · obtain rfl : j = J := by omega
          obtain ⟨A8, c8, e8, h8a, h8b, h8c⟩ := hR.view
          injection e8 with e8a e8b e8c
          subst e8a e8c
          clear e8b
          rw [HPE.out] at h8c
          have SA := same_any A5 k c5 bs Ab k cb bs wr h8c (hbv.below hK) (by omega) (by omega)
          simp only [decide_true] at SA
          clear hR hown h8c
          go_wp2_with fail
          refine SA.mono ?_
          rintro e w9 ⟨rfl, g9⟩
          go_wp2_with fail
          go_ret
          exact ⟨rfl, hG.trans (g9.mono hG.size)⟩
end Go.Proofs.YtknnncdmpfmgkaaDoor
