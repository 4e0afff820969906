/-
  What mime.Of answers. No condition but sizes.
-/
import Derived.Test.YtmocjiilamcehaaDoorEc
namespace Go.Proofs.YtmocjiilamcehaaDoor
open Go.RowKit Go.Shelf
attribute [local go_sem] Oper.semAt_some
set_option linter.unusedVariables false

theorem grown_of_below {w w' : World} (h : Below w.heap.size w w') : w.grownBy w' none := ⟨h.os, h.tape, h.output, h.size, fun k hk _ => h.block k hk⟩
theorem cell_lt2 {W : World} {b k : Nat} {v : Value} (h : W.cell? ⟨b, k, none⟩ = some v) : b < W.heap.size := World.block_lt_of_cell? W _ h
theorem cell_set_other (W : World) (b d : Nat) (v : Value) (h : d ≠ b) : (W.setCell ⟨b, 0, none⟩ v).cell? ⟨d, 0, none⟩ = W.cell? ⟨d, 0, none⟩ := World.cell?_setCell_far _ _ _ _ (fun e => h e.symm)
/-- What mime.Of keeps between two rounds: nothing that counts has come, and its results stand as they were. -/
def OfI (w : World) (n : Nat) (pre : List Prt) (W : World) : Prop := n ≤ W.heap.size ∧ ((∀ p ∈ pre, gd p.1.2 = false) ∧ (W.cell? ⟨w.heap.size, 0, none⟩ = some (.string ⟨#[]⟩) ∧ W.frozen? ⟨w.heap.size, 0, none⟩ = false) ∧ (W.cell? ⟨w.heap.size + 1, 0, none⟩ = some (.bool false) ∧ W.frozen? ⟨w.heap.size + 1, 0, none⟩ = false)) ∧ Below w.heap.size w W
/-- A round has left: the last that came counts. -/
def OfX (w : World) (c : Code) (pre : List Prt) (W : World) : Prop := (c = .ret ∧ ∃ ini last, pre = ini ++ [last] ∧ (∀ p ∈ ini, gd p.1.2 = false) ∧ gd last.1.2 = true ∧ W.cell? ⟨w.heap.size, 0, none⟩ = some (.string (str (esS last.1.2))) ∧ W.cell? ⟨w.heap.size + 1, 0, none⟩ = some (.bool true)) ∧ Below w.heap.size w W
theorem OfI.own (w : World) (n B : Nat) (hB : w.heap.size ≤ B) : OwnFrom B (OfI w n) :=
  OwnFrom.and (fun s A B row hs hg hr => Nat.le_trans hs hg.size) (OwnFrom.and (Own.from (fun s A B row hs hg hr => ⟨hs.1, ⟨cell_kept hs.2.1.1 hg hr, (frozen_kept hs.2.1.1 hg hr).trans hs.2.1.2⟩, ⟨cell_kept hs.2.2.1 hg hr, (frozen_kept hs.2.2.1 hg hr).trans hs.2.2.2⟩⟩) _) (ownFrom_below (Nat.le_refl _) hB))
theorem OfX.own (w : World) (c : Code) (B : Nat) (hB : w.heap.size ≤ B) : OwnFrom B (OfX w c) :=
  OwnFrom.and (Own.from (fun s A B row hs hg hr => by obtain ⟨hc, ini, last, e1, e2, e3, e4, e5⟩ := hs; exact ⟨hc, ini, last, e1, e2, e3, cell_kept e4 hg hr, cell_kept e5 hg hr⟩) _) (ownFrom_below (Nat.le_refl _) hB)
theorem OfI.below {w W W' : World} {n : Nat} {pre : List Prt} (h : OfI w n pre W) (hb : Below W.heap.size W W') : OfI w n pre W' := by
  obtain ⟨h0, ⟨h1, ⟨h2, h3⟩, h4, h5⟩, h6⟩ := h
  have l1 := cell_lt2 h2
  have l2 := cell_lt2 h4
  refine ⟨Nat.le_trans h0 hb.size, ⟨h1, ⟨(hb.cell (p := ⟨w.heap.size, 0, none⟩) l1).trans h2, ?_⟩, (hb.cell (p := ⟨w.heap.size + 1, 0, none⟩) l2).trans h4, ?_⟩, h6.trans (hb.mono h6.size)⟩
  · exact (frozen_kept h2 (grown_of_below hb) (fun r e => by cases e)).trans h3
  · exact (frozen_kept h4 (grown_of_below hb) (fun r e => by cases e)).trans h5
set_option maxHeartbeats 4000000 in
set_option maxRecDepth 100000 in
theorem of_any (fs : List (List UInt8 × List UInt8)) (A : Option Addr) (c : Nat) (w : World) (hn : fs.length ≤ 1000) (hf : Fs w w.heap.size A fs.length fs) (hN : ∀ f ∈ fs, f.1.length ≤ 9223372036854775807 ∧ f.2.length ≤ 9223372036854775807) (hj : (jn (vals fs ctn)).length ≤ 200000000) : Calls Tryd.prog 10 #[.slice A fs.length c] w fun e w' => e = .returned (.tuple #[.string (str (ofS (spt fs ctn))), .bool (ofB (spt fs ctn))]) ∧ Below w.heap.size w w' := by
  have HSp : Hid (∀ w', Below w.heap.size w w' → Calls Tryd.prog 22 #[.slice A fs.length c, .string ⟨#[99, 111, 110, 116, 101, 110, 116, 45, 116, 121, 112, 101]⟩] w' fun e w2 => ∃ A' c', e = .returned (.tuple #[.slice A' (spt fs ctn).length c', .bool (decide (vals fs ctn ≠ []))]) ∧ OwnT w2 w'.heap.size (.slice A' (spt fs ctn).length c') (spt fs ctn).length (spt fs ctn) ∧ Below w'.heap.size w' w2) := fun w' hb => split_any fs A c ctn w' hn ((hf.below hb).more hb.size) hN (by decide) hj
  have HLen : Hid (∀ p ∈ spt fs ctn, p.length ≤ 4611686018427387904) := fun p hp => Nat.le_trans (spt_mem_len fs ctn p hp) (by omega)
  have HMax : Hid ((spt fs ctn).length ≤ 9223372036854775807) := by
    show _ ≤ _
    by_cases hv : vals fs ctn = []
    · rw [spt_no fs ctn hv]; simp
    · have := pt_len (jn (vals fs ctn)) 0 []
      rw [spt_yes fs ctn hv]; unfold prts; omega
  have HEs : Hid (∀ (p : List UInt8) (w' : World), p.length ≤ 4611686018427387904 → Calls Tryd.prog 8 #[.string (str p)] w' fun e w2 => e = .returned (.tuple #[.string (str (esS p)), .bool (esB p)]) ∧ Below w'.heap.size w' w2) := fun p w' h => ess_any p w' h
  generalize decide (vals fs ctn ≠ []) = isV at *
  clear hn hf hN hj
  obtain ⟨L, hL⟩ : ∃ L, L = spt fs ctn := ⟨_, rfl⟩
  rw [← hL] at HSp HLen HMax ⊢
  clear hL
  obtain ⟨m, hm⟩ : ∃ m, m = L.length := ⟨_, rfl⟩
  rw [← hm] at HSp HMax
  have Hm := Lib.hid hm
  clear hm
  refine (callsIn_wide (n := 5)).1 ?_
  refine callsIn_of_wp_marks Tryd.func10 rfl trivial ?_ rfl
  simp only [Tryd.ntmps10, List.size_toArray, List.length_cons, List.length_nil, Nat.reduceAdd, Nat.reduceSub, Array.replicate_succ, Array.replicate_zero, List.push_toArray, List.append_toArray, List.nil_append, List.cons_append]
  gi_wp2_with fail
  have b1 := (Boxed.new w 9 (.string ⟨#[]⟩)).alloc (.cells #[.bool false] 4)
  have b2 := Boxed.new (w.alloc (.cells #[.string ⟨#[]⟩] 9)) 4 (.bool false)
  simp only [World.size_alloc] at b2
  have hW0 : Below w.heap.size w ((w.alloc (.cells #[.string ⟨#[]⟩] 9)).alloc (.cells #[.bool false] 4)) := ((Below.refl _ w).alloc (Nat.le_refl _) _).alloc (by simp) _
  have H0 : OfI w 0 [] ((w.alloc (.cells #[.string ⟨#[]⟩] 9)).alloc (.cells #[.bool false] 4)) := ⟨Nat.zero_le _, ⟨fun p h => (by cases h), ⟨b1.cell, b1.frozen⟩, b2.cell, b2.frozen⟩, hW0⟩
  clear b1 b2
  revert hW0 H0
  generalize (w.alloc (.cells #[.string ⟨#[]⟩] 9)).alloc (.cells #[.bool false] 4) = W0
  intro hW0 H0
  refine ⟨trivial, (callsIn_wide.2 (HSp.out W0 hW0)).mono ?_⟩
  rintro e w1 ⟨A1, c1, rfl, hown, hb1⟩
  have H1 := H0.below hb1
  clear H0 hW0
  have HO := Lib.hid hown
  obtain ⟨A2, c2, he, hc2, hm2, hf2⟩ := hown.form
  have he3 := he
  injection he3 with he1 he4 he2
  subst he1 he2
  clear he he4
  clear hown
  gi_wp2_with fail
  refine ⟨trivial, (callsIn_wide.2 (back_any A1 m c1 w1)).mono ?_⟩
  rintro e w3 ⟨rfl, hw3⟩
  have B3 : w3.cell? ⟨w1.heap.size, 0, none⟩ = some (.slice A1 m c1) := by rw [hw3]; exact (Boxed.new w1 41 _).cell
  have hb3 : Below w1.heap.size w1 w3 := by rw [hw3]; exact (Below.refl _ _).alloc (Nat.le_refl _) _
  have hlt3 : w1.heap.size < w3.heap.size := by rw [hw3]; simp
  have H3 := H1.below hb3
  have hT : 0 < m → ∃ g, A1 = some ⟨g, 0, none⟩ ∧ g < w3.heap.size ∧ ∀ j p, L[j]? = some p → w3.cell? ⟨g, j, none⟩ = some (.string (str p)) := fun h => by
    obtain ⟨g, e, _, hg, hc⟩ := hf2 (by omega)
    exact ⟨g, e, by omega, fun j p hj => (hb3.cell (p := ⟨g, j, none⟩) hg).trans (hc j p hj)⟩
  have hsz3 : w.heap.size ≤ w3.heap.size := H3.2.2.size
  have H3 : OfI w w3.heap.size [] w3 := ⟨Nat.le_refl _, H3.2⟩
  generalize w1.heap.size = N2 at *
  clear hw3 H1 hf2 hb1 hb3
  gi_wp2_with fail
  refine wpIn_rangeFunc_ownG rfl (by omega) (gf := 34) (lb := #[.pointer (some ⟨N2, 0, none⟩)]) rfl trivial (enters_of Tryd.func34 (by kernel_rfl) rfl)
    (back_stops _ N2 w3.heap.size A1 m c1 L HLen.out Hm.out.symm HMax.out w3 hlt3 (Nat.le_refl _) B3 hT) belowK_t (belowK_b (Nat.le_refl _)) (Below.refl _ _) (fun _ => rfl)
    (OfI w w3.heap.size) (OfX w) (OfI.own w _ _ hsz3) (fun c => OfX.own w c _ hsz3) H3
    (fun x => { tmps := #[.slice A fs.length c, undef, .pointer (some ⟨w.heap.size, 0, none⟩), .pointer (some ⟨w.heap.size + 1, 0, none⟩), .slice A1 m c1, .bool isV, undef, .string (str x.1.2), undef, undef, .tuple #[.slice A1 m c1, .bool isV], .slice A fs.length c, .tuple #[.slice A1 m c1, .bool isV], .slice A1 m c1, .bool isV, .slice A1 m c1, .func (.func 34) #[] #[.pointer (some ⟨N2, 0, none⟩)], .int .i64 (x.1.1 : Int), .string (str x.1.2), undef, undef, undef, undef, undef, undef, undef, undef, undef, undef, undef], defers := [] }) ?assign ?body ?done ?stop
  case assign =>
    intro l x W K hK
    gi_wp2
    exact hK
  case body =>
    rintro l pre x W hI _
    have hxl := x.2
    obtain ⟨i, hi⟩ : ∃ i, i = x.1.1 := ⟨_, rfl⟩
    obtain ⟨p, hp⟩ : ∃ p, p = x.1.2 := ⟨_, rfl⟩
    rw [← hp] at hxl
    have HXp := Lib.hid hp
    simp only [← hi, ← hp]
    clear hi hp
    have HWs : Hid (w3.heap.size ≤ W.heap.size) := hI.1
    have HNo : Hid (gd p = false → ∀ {W' : World}, Below W.heap.size W W' → OfI w w3.heap.size (pre ++ [x]) W') := fun h W' hb => by
      obtain ⟨h0, ⟨h1, h2⟩, h3⟩ := hI.below hb
      refine ⟨h0, ⟨fun q hq => ?_, h2⟩, h3⟩
      rcases List.mem_append.1 hq with hq | hq
      · exact h1 q hq
      · rw [List.mem_singleton.1 hq, ← HXp.out]; exact h
    have HI := Lib.hid hI
    have HE := Lib.hid (HEs.out p W hxl)
    clear hI hxl B3 hT H3 HSp HEs HO
    have HG : Hid (gd p = (esB p && decide (esS p ≠ [42, 47, 42]))) := rfl
    obtain ⟨R, hR⟩ : ∃ R, R = decide (esS p = [42, 47, 42]) := ⟨_, rfl⟩
    have hq : ((str (esS p)).toList == [42, 47, 42]) = R := by rw [toList_str, hR, Bool.eq_iff_iff, beq_iff_eq, decide_eq_true_iff]
    have HG2 : Hid (gd p = (esB p && !R)) := by show _ = _; rw [HG.out, hR, decide_not]
    clear HG hR
    obtain ⟨z, hz⟩ : ∃ z, z = esS p := ⟨_, rfl⟩
    obtain ⟨b, hb⟩ : ∃ b, b = esB p := ⟨_, rfl⟩
    rw [← hz, ← hb] at HE
    rw [← hz] at hq
    rw [← hb] at HG2
    have HZ := Lib.hid hz
    clear hz hb
    cases b
    · gi_wp2_with fail
      refine ⟨trivial, (CallsIn.inRound l (callsIn_wide.2 HE.out)).mono ?_⟩
      rintro e w4 ⟨rfl, hb4⟩
      have HB4 := Lib.hid hb4
      clear hb4
      gi_wp2_with fail
      exact ⟨KeepsFrom.of_grownBy (grown_of_below HB4.out) (fun j e => by cases e), HB4.out.mono HWs.out, HNo.out (HG2.out.trans rfl) HB4.out⟩
    · cases R
      · gi_wp2_with fail
        refine ⟨trivial, (CallsIn.inRound l (callsIn_wide.2 HE.out)).mono ?_⟩
        rintro e w4 ⟨rfl, hb4⟩
        have HI4 := HI.out.below hb4
        obtain ⟨_, ⟨hn4, ⟨k1, k2⟩, k3, k4⟩, hbw⟩ := HI4
        have HB4 := Lib.hid hb4
        have Hbw := Lib.hid hbw
        have Hn4 := Lib.hid hn4
        clear hb4 hbw hn4
        gi_wp2_with fail
        have hgd : gd x.1.2 = true := by rw [← HXp.out, HG2.out]; rfl
        have hz2 : z = esS x.1.2 := by rw [HZ.out, HXp.out]
        have hne : w.heap.size ≠ w.heap.size + 1 := by omega
        have k5 : (w4.setCell ⟨w.heap.size, 0, none⟩ (.string (str z))).cell? ⟨w.heap.size + 1, 0, none⟩ = some (.bool false) := (cell_set_other _ _ _ _ (by simp)).trans k3
        have k6 : (w4.setCell ⟨w.heap.size, 0, none⟩ (.string (str z))).cell? ⟨w.heap.size, 0, none⟩ = some (.string (str z)) := World.cell?_setCell_same' _ _ _ (by rw [k1]; rfl)
        refine ⟨(KeepsFrom.of_grownBy (grown_of_below HB4.out) (fun j e => by cases e)).trans (((KeepsOthers.setCell _ _ _).trans (KeepsOthers.setCell _ _ _)).from _), ⟨rfl, pre, x, rfl, Hn4.out, hgd, ?_, World.cell?_setCell_same' _ _ _ (by rw [k5]; rfl)⟩, (Hbw.out.setCell (p := ⟨w.heap.size, 0, none⟩) (Nat.le_refl _) _).setCell (p := ⟨w.heap.size + 1, 0, none⟩) (Nat.le_succ _) _⟩
        rw [← hz2]
        exact (cell_set_other _ _ _ _ (by simp)).trans k6
      · gi_wp2_with fail
        refine ⟨trivial, (CallsIn.inRound l (callsIn_wide.2 HE.out)).mono ?_⟩
        rintro e w4 ⟨rfl, hb4⟩
        have HB4 := Lib.hid hb4
        clear hb4
        gi_wp2_with fail
        exact ⟨KeepsFrom.of_grownBy (grown_of_below HB4.out) (fun j e => by cases e), HB4.out.mono HWs.out, HNo.out (HG2.out.trans rfl) HB4.out⟩
  case done =>
    rintro D ys W hD hys ⟨_, ⟨hne, ⟨k1, k2⟩, k3, k4⟩, hB⟩ hK
    have HA := Lib.hid (ofS_all L fun p hp => by
      have h : p ∈ ys.map Prt.txt := by rw [hys]; exact List.mem_reverse.2 hp
      obtain ⟨y, hy, rfl⟩ := List.mem_map.1 h
      exact hne y hy)
    have HB := Lib.hid hB
    have HD := Lib.hid hD
    clear hys hne hB hD B3 hT H3 HSp HEs HO
    gi_wp2_with fail
    have k5 : (W.setCell ⟨w.heap.size, 0, none⟩ (.string ⟨#[]⟩)).cell? ⟨w.heap.size + 1, 0, none⟩ = some (.bool false) := (cell_set_other _ _ _ _ (by simp)).trans k3
    have k6 : (W.setCell ⟨w.heap.size, 0, none⟩ (.string ⟨#[]⟩)).cell? ⟨w.heap.size, 0, none⟩ = some (.string ⟨#[]⟩) := World.cell?_setCell_same' _ _ _ (by rw [k1]; rfl)
    have k7 := (cell_set_other (W.setCell ⟨w.heap.size, 0, none⟩ (.string ⟨#[]⟩)) (w.heap.size + 1) w.heap.size (.bool false) (by simp)).trans k6
    have k8 := World.cell?_setCell_same' (W.setCell ⟨w.heap.size, 0, none⟩ (.string ⟨#[]⟩)) ⟨w.heap.size + 1, 0, none⟩ (.bool false) (by rw [k5]; rfl)
    have hK' := ((KeepsOthers.setCell W ⟨w.heap.size, 0, none⟩ (.string ⟨#[]⟩)).trans (KeepsOthers.setCell _ ⟨w.heap.size + 1, 0, none⟩ (.bool false))).same D _ hK rfl
    refine ⟨by simp, .inl ⟨_, _, rfl, run_takeDeferred hK', ?_⟩⟩
    have x1 := cell_kept k7 (grownBy_putObj' _ D (.deferred none)) (fun r e => by cases e; exact ⟨_, hK', rfl⟩)
    have x2 := cell_kept k8 (grownBy_putObj' _ D (.deferred none)) (fun r e => by cases e; exact ⟨_, hK', rfl⟩)
    refine ⟨.tuple #[.string ⟨#[]⟩, .bool false], ?_, by rw [HA.out.1, HA.out.2]; rfl, ((HB.out.setCell (p := ⟨w.heap.size, 0, none⟩) (Nat.le_refl _) _).setCell (p := ⟨w.heap.size + 1, 0, none⟩) (Nat.le_succ _) _).trans (belowK_b (w := w) (Nat.le_refl _) _ D _ _ (Nat.le_trans hsz3 HD.out) hK' rfl rfl)⟩
    simp [results, Tryd.f10, go_sem, x1, x2]
  case stop =>
    rintro D c0 pre W hD hpre ⟨⟨rfl, ini, last, rfl, hn, hg, k1, k2⟩, hB⟩ hK
    have HA := Lib.hid (of_back L (ini.map Prt.txt) last.1.2 (by rw [List.map_append] at hpre; exact hpre) (fun q hq => by
      obtain ⟨y, hy, rfl⟩ := List.mem_map.1 hq
      exact hn y hy) hg)
    have HB := Lib.hid hB
    have HD := Lib.hid hD
    clear hpre hn hg hB hD B3 hT H3 HSp HEs HO
    generalize esS last.1.2 = z at *
    gi_wp2_with fail
    refine ⟨by simp, .inl ⟨_, _, rfl, run_takeDeferred hK, ?_⟩⟩
    have x1 := cell_kept k1 (grownBy_putObj' _ D (.deferred none)) (fun r e => by cases e; exact ⟨_, hK, rfl⟩)
    have x2 := cell_kept k2 (grownBy_putObj' _ D (.deferred none)) (fun r e => by cases e; exact ⟨_, hK, rfl⟩)
    refine ⟨.tuple #[.string (str z), .bool true], ?_, by rw [HA.out.1, HA.out.2], HB.out.trans (belowK_b (w := w) (Nat.le_refl _) W D _ _ (Nat.le_trans hsz3 HD.out) hK rfl rfl)⟩
    simp [results, Tryd.f10, go_sem, x1, x2]
end Go.Proofs.YtmocjiilamcehaaDoor
