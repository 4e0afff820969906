/-
  transeptlaw04.FrameTurned returns true, whatever it is called with, and turns nothing that was there. Condition: the table's cells hold what the program's text lays.
-/
import Derived.Test.YtknnncdmpfmgkaaDoorCuts
namespace Go.Proofs.YtknnncdmpfmgkaaDoor
open Go.RowKit

theorem set_ne {l : List UInt8} {k : Nat} {x : UInt8} (hk : k < l.length) (h : l.getD k 0 ≠ x) : l.set k x ≠ l := by
  intro e
  have := congrArg (fun m => m.getD k 0) e
  simp [List.getD, hk] at this
  apply h
  simp [List.getD, List.getElem?_eq_getElem hk]
  exact this.symm
theorem set_same {l : List UInt8} {k : Nat} (hk : k < l.length) : l.set k (l.getD k 0) = l := by
  apply List.ext_getElem?
  intro i
  rw [List.getElem?_set]
  split
  · rename_i h
    subst h
    simp [List.getD, List.getElem?_eq_getElem hk]
  · rfl

set_option maxHeartbeats 4000000 in
set_option maxRecDepth 100000 in
theorem turned_walk (A : Option Addr) (n c : Nat) (b0 : List (List UInt8)) (p : Int) (t : Nat) (w : World) (h : Rv w A n b0) (hn : n ≤ 9223372036854775807) (htt : t < 256) (ht : Tab w) :
    Calls Tryd.prog 11 #[.slice A n c, .int .i64 p, .int .u8 t] w fun e w' => e = .returned (.bool true) ∧ Below w.heap.size w w' := by
  obtain ⟨x, hx, hx1⟩ : ∃ q : Nat, bits .and .i64 p 16777215 = (q : Int) ∧ q ≤ 16777215 := ⟨(p % 16777216).toNat, by rw [i64_and24]; omega, by omega⟩
  have hJ := fewS_join b0
  have hfin := fewS_fine b0
  have hov := fewS_over b0
  have hfl := (fewS_neat b0).1
  have HSB := Lib.hid (fewS_split b0)
  have FE := fun w1 (g : Below w.heap.size w w1) => few_any A n c b0 w1 (h.below g) hn
  generalize fewS b0 = bs at *
  clear h
  have hJ4 : 4 ≤ (join bs).length := by rw [join_len]; omega
  obtain ⟨k, hk⟩ : ∃ k, x % (join bs).length = k := ⟨_, rfl⟩
  have hk2 : k < (join bs).length := by rw [← hk]; exact Nat.mod_lt _ (by omega)
  obtain ⟨y, hy⟩ : ∃ y, (join bs).getD k 0 = y := ⟨_, rfl⟩
  obtain ⟨L, hL⟩ : ∃ L, (join bs).set k (y ^^^ UInt8.ofNat t) = L := ⟨_, rfl⟩
  have hLl : L.length = (join bs).length := by rw [← hL, List.length_set]
  have HEQ : Hid (t = 0 → L = join bs) := fun e => by
    rw [← hL, e, show y ^^^ UInt8.ofNat 0 = y by simp, ← hy]
    exact set_same hk2
  have HNE : Hid (t ≠ 0 → L ≠ join bs) := fun e => by
    rw [← hL]
    refine set_ne hk2 ?_
    rw [hy]
    intro e2
    have e3 := congrArg UInt8.toNat e2
    rw [UInt8.toNat_xor, toNat_ofNat_lt t htt] at e3
    apply e
    have e4 : y.toNat ^^^ (y.toNat ^^^ t) = y.toNat ^^^ y.toNat := by rw [← e3]
    rwa [← Nat.xor_assoc, Nat.xor_self, Nat.zero_xor] at e4
  have hxy : bits .xor .u8 (y.toNat : Int) (t : Int) = ((y ^^^ UInt8.ofNat t).toNat : Int) := by
    rw [u8_xor_nat _ _ (UInt8.toNat_lt y) htt, UInt8.toNat_xor, toNat_ofNat_lt t htt]
  obtain ⟨z, hz⟩ : ∃ z, (y ^^^ UInt8.ofNat t).toNat = z := ⟨_, rfl⟩
  have hvz : vb (y ^^^ UInt8.ofNat t) = .int .u8 (z : Int) := by rw [vb, hz]
  rw [hz] at hxy
  clear hz
  obtain ⟨r1, hr1⟩ : ∃ r, (splitL L).1 = r := ⟨_, rfl⟩
  obtain ⟨r2, hr2⟩ : ∃ r, (splitL L).2.1 = r := ⟨_, rfl⟩
  obtain ⟨r3, hr3⟩ : ∃ r, (splitL L).2.2 = r := ⟨_, rfl⟩
  have HS : Hid (splitL L = (r1, r2, r3)) := by show splitL L = _; rw [← hr1, ← hr2, ← hr3]
  have HF : Hid (r3 = 0 → join r1 = L) := fun e => by
    have := HS.out
    rw [splitL_small (by omega)] at this
    have h2 := (split_back L (by rw [this]; exact e)).1
    rwa [this] at h2
  clear hr1 hr2 hr3
  have hr1l : r3 = 0 → r1.length ≤ 4096 := fun e => by
    have := HS.out
    rw [splitL_small (by omega)] at this
    have h2 := (split_back L (by rw [this]; exact e)).2.2.1
    rwa [this] at h2
  have HRL := Lib.hid hr1l
  clear hr1l
  go_enter Tryd.func11, Tryd.ntmps11
  go_wp2_with fail
  refine (shown_any w ht).mono ?_
  rintro e w1 ⟨rfl, g1⟩
  go_wp2_with fail
  refine (FE w1 g1).mono ?_
  rintro e w2 ⟨va, vb, rfl, ra, sb, g2⟩
  have G2 : Below w.heap.size w w2 := g1.trans (g2.mono g1.size)
  obtain ⟨Aa, ca, rfl, ha1, ha2, hav⟩ := ra.view
  obtain ⟨Ab, cb, rfl, hb1, hb2, hbv⟩ := sb.view
  clear FE g1 g2 ra sb
  go_wp2_with fail
  refine (join_fit Aa bs.length ca bs w2 (ht.below G2) hav hfin hov).mono ?_
  rintro e w3 ⟨A3, c3, rfl, o3, g3⟩
  obtain ⟨o3a, o3b, o3c⟩ := o3.view
  obtain ⟨g, rfl⟩ : ∃ g, A3 = some ⟨g, 0, none⟩ := by
    rcases o3.2 with ⟨e, e2⟩ | ⟨g, cap, cur, e, _⟩
    · omega
    · injection e with e1 e2 e3
      exact ⟨g, e1⟩
  have hcell := o3.cellAt k (by omega)
  have hfr := o3.frozenAt k
  have hst := o3.stored k (vb (y ^^^ UInt8.ofNat t))
  have e5 : (vbs (join bs))[k]? = some (.int .u8 (y.toNat : Int)) := by
    rw [← hy]
    simp [vbs, vb, List.getD, List.getElem?_eq_getElem hk2]
  have e6 : (vbs (join bs)).set k (vb (y ^^^ UInt8.ofNat t)) = vbs L := by
    rw [← hL]
    simp [vbs, List.map_set]
  rw [e5] at hcell
  rw [e6, hvz] at hst
  have g3g : w2.heap.size ≤ g := o3.base_le g rfl
  clear e5 e6 hL hy o3 o3c hav hvz
  have Gw : Below w2.heap.size w2 (w3.setCell ⟨g, k, none⟩ (.int .u8 (z : Int))) := g3.setCell (p := ⟨g, k, none⟩) g3g _
  have hbv := hbv.below Gw
  have G4 : Below w.heap.size w (w3.setCell ⟨g, k, none⟩ (.int .u8 (z : Int))) := G2.trans (Gw.mono G2.size)
  clear Gw
  obtain ⟨J, hJe⟩ : ∃ J, (join bs).length = J := ⟨_, rfl⟩
  rw [hJe] at hk hk2 hJ hJ4 hLl o3a hst ⊢
  clear hJe
  have e1 : (x : Int) % (J : Int) = (k : Int) := by rw [← hk]; rfl
  clear hk
  have d1 : decide ((J : Int) < 4) = false := by simp; omega
  have i1 : (0 : Int) ≤ (k : Int) := by omega
  have i2 : (k : Int) < (J : Int) := by omega
  have hX : Own (w3.setCell ⟨g, k, none⟩ (.int .u8 (z : Int))) w2.heap.size (.slice (some ⟨g, 0, none⟩) J c3) J L := hst.1
  have SP := splitL_any (some ⟨g, 0, none⟩) J c3 L _ (ht.below G4) hX.view.2.2 o3a o3b (by omega)
  rw [HS.out] at SP
  clear hst hX
  go_wp2_with fail
  generalize w3.setCell ⟨g, k, none⟩ (.int .u8 (z : Int)) = W at *
  refine SP.mono ?_
  rintro e w4 ⟨v4, rfl, r4, g4⟩
  have G5 : Below w.heap.size w w4 := G4.trans (g4.mono G4.size)
  obtain ⟨A4, c4, rfl, r4a, r4b, r4c⟩ := r4.view
  have hbv4 := hbv.below g4
  clear SP g4 r4 hbv G4 hcell hfr
  by_cases hr : r3 = 0
  · have hrl := HRL.out hr
    have SA := same_any A4 r1.length c4 r1 Ab bs.length cb bs w4 r4c hbv4 (by omega) (by omega)
    obtain ⟨v, hv⟩ : ∃ v, decide (r1 = bs) = v := ⟨_, rfl⟩
    have hv2 : ((t : Int) == 0) = v := by
      rw [← hv]
      by_cases h0 : t = 0
      · have e1 := HEQ.out h0
        have e2 := HSB.out
        rw [← e1, HS.out] at e2
        simp only [Prod.mk.injEq] at e2
        simp [h0, e2.1]
      · have e1 := HNE.out h0
        have e2 : r1 ≠ bs := fun e => e1 (by rw [← HF.out hr, e])
        simp [e2]
        omega
    rw [hv] at SA
    subst hr
    clear hv
    go_wp2_with fail
    refine SA.mono ?_
    rintro e w5 ⟨rfl, g5⟩
    cases v with
    | true =>
      go_wp2_with fail
      go_ret
      exact ⟨rfl, G5.trans (g5.mono G5.size)⟩
    | false =>
      go_wp2_with fail
      go_ret
      exact ⟨rfl, G5.trans (g5.mono G5.size)⟩
  · have hv2 : ((t : Int) == 0) = false := by
      rw [beq_eq_false_iff_ne]
      intro h0
      have e1 := HEQ.out (by omega)
      have e2 := HSB.out
      rw [← e1, HS.out] at e2
      simp only [Prod.mk.injEq] at e2
      exact hr e2.2.2
    have hd : ((r3 : Int) == 0) = false := by simp; omega
    clear hr
    go_wp2_with fail
    go_ret
    exact ⟨rfl, G5⟩
end Go.Proofs.YtknnncdmpfmgkaaDoor
