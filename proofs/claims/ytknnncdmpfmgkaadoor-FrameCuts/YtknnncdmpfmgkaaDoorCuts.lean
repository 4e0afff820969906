/-
  transeptlaw04.FrameCuts returns true, whatever it is called with, and turns nothing that was there. Condition: the table's cells hold what the program's text lays.
-/
import Derived.Test.YtknnncdmpfmgkaaDoorBase
import Derived.Test.YtknnncdmpfmgkaaDoorCutPlain
namespace Go.Proofs.YtknnncdmpfmgkaaDoor
open Go.RowKit

theorem i64_and24 (n : Int) : bits .and .i64 n 16777215 = n % 16777216 := by
  have h1 : (BitVec.ofInt 64 16777215).toNat = 2 ^ 24 - 1 := by decide
  have key : (BitVec.ofInt 64 n &&& BitVec.ofInt 64 16777215).toNat = (n % ((2 ^ 64 : Nat) : Int)).toNat % 2 ^ 24 := by
    rw [BitVec.toNat_and, BitVec.toNat_ofInt, h1, Nat.and_two_pow_sub_one_eq_mod]
  show IntKind.i64.wrap ((BitVec.ofInt 64 n &&& BitVec.ofInt 64 16777215).toNat : Nat) = n % 16777216
  rw [key, IntKind.wrap_i64]
  omega

set_option maxHeartbeats 4000000 in
set_option maxRecDepth 100000 in
theorem cuts_walk (A : Option Addr) (n c : Nat) (b0 : List (List UInt8)) (p : Int) (w : World) (h : Rv w A n b0) (hn : n ≤ 9223372036854775807) (ht : Tab w) :
    Calls Tryd.prog 6 #[.slice A n c, .int .i64 p] w fun e w' => e = .returned (.bool true) ∧ Below w.heap.size w w' := by
  obtain ⟨x, hx, hx1⟩ : ∃ q : Nat, bits .and .i64 p 16777215 = (q : Int) ∧ q ≤ 16777215 := ⟨(p % 16777216).toNat, by rw [i64_and24]; omega, by omega⟩
  have hJ := fewS_join b0
  have hfin := fewS_fine b0
  have hneat := fewS_ok b0
  have hov := fewS_over b0
  have hfl := (fewS_neat b0).1
  have HL := Lib.hid ((fewS_neat b0).2)
  have FE := fun w1 (g : Below w.heap.size w w1) => few_any A n c b0 w1 (h.below g) hn
  generalize fewS b0 = bs at *
  clear h
  obtain ⟨k, hk⟩ : ∃ k, x % ((join bs).length + 1) = k := ⟨_, rfl⟩
  have hk2 : k < (join bs).length + 1 := by rw [← hk]; exact Nat.mod_lt _ (by omega)
  obtain ⟨j, hj, HSP⟩ := splitS_cut bs k (fun b hb => by have := HL.out b hb; omega) (by omega) (by omega)
  rw [← splitL_small (by rw [List.length_take]; omega)] at HSP
  have HSP := Lib.hid HSP
  obtain ⟨q, hq⟩ : ∃ q, (join (bs.take j)).length = q := ⟨_, rfl⟩
  rw [hq] at HSP
  have HQ := Lib.hid hq
  clear hq
  have hjl : (bs.take j).length = j := by rw [List.length_take]; omega
  have hql : q ≤ 15704 := by
    have := frs_take_mono bs j
    have := HQ.out
    rw [join_len] at this hJ
    omega
  go_enter Tryd.func6, Tryd.ntmps6
  go_wp2_with fail
  refine (shown_any w ht).mono ?_
  rintro e w1 ⟨rfl, g1⟩
  go_wp2_with fail
  refine (FE w1 g1).mono ?_
  rintro e w2 ⟨va, vb, rfl, ra, sb, g2⟩
  have G2 : Below w.heap.size w w2 := g1.trans (g2.mono g1.size)
  obtain ⟨Aa, ca, rfl, ha1, ha2, hav⟩ := ra.view
  obtain ⟨Ab, cb, rfl, hb1, hb2, hbv⟩ := sb.view
  clear FE g1 g2 ra sb
  go_wp2_with fail
  refine (join_fit Aa bs.length ca bs w2 (ht.below G2) hav hfin hov).mono ?_
  rintro e w3 ⟨A3, c3, rfl, o3, g3⟩
  have G3 : Below w.heap.size w w3 := G2.trans (g3.mono G2.size)
  obtain ⟨o3a, o3b, o3c⟩ := o3.view
  have hbv3 := hbv.below g3
  clear g3 hav hbv o3 G2
  have hkc : k ≤ c3 := by omega
  have SP := splitL_any A3 k c3 ((join bs).take k) w3 (ht.below G3) (o3c.take k (by omega)) hkc o3b (by omega)
  rw [HSP.out] at SP
  obtain ⟨J, hJe⟩ : ∃ J, (join bs).length = J := ⟨_, rfl⟩
  rw [hJe] at hk hk2 hJ o3a o3c ⊢
  clear hJe
  have e1 : (x : Int) % ((J : Int) + 1) = (k : Int) := by
    rw [show (J : Int) + 1 = ((J + 1 : Nat) : Int) by omega, ← hk]
    rfl
  clear hk
  obtain ⟨f, hf⟩ : ∃ f, (if q = k then 0 else 2) = f := ⟨_, rfl⟩
  rw [hf] at SP
  have HF := Lib.hid hf
  clear hf
  go_wp2_with fail
  simp only [e1]
  have i1 : (0 : Int) ≤ (k : Int) := by omega
  have i2 : (k : Int) ≤ (c3 : Int) := by omega
  go_wp2_with fail
  refine SP.mono ?_
  rintro e w4 ⟨v4, rfl, r4, g4⟩
  have G4 : Below w.heap.size w w4 := G3.trans (g4.mono G3.size)
  obtain ⟨A4, c4, rfl, r4a, r4b, r4c⟩ := r4.view
  have hbv4 := hbv3.below g4
  rw [hjl] at r4a r4c ⊢
  clear SP g4 r4 hbv3 o3c G3
  have SA := same_any A4 j c4 (bs.take j) Ab j cb (bs.take j) w4 r4c (hbv4.take hj) (by omega) (by omega)
  simp only [decide_true] at SA
  have hjc : j ≤ cb := by omega
  have hd1 : decide (bs.length < j) = false := by simp; omega
  go_wp2_with fail
  refine SA.mono ?_
  rintro e w5 ⟨rfl, g5⟩
  have G5 : Below w.heap.size w w5 := G4.trans (g5.mono G4.size)
  have RJ := refJoin_any Ab j cb (bs.take j) w5 ((hbv4.take hj).below g5) ⟨by rw [hjl]; omega, fun l hl => by have := HL.out l (List.mem_of_mem_take hl); omega⟩
  have hsl : (str (join (bs.take j))).size = q := by rw [str_size]; exact HQ.out
  generalize str (join (bs.take j)) = S at *
  clear SA g5 hbv4 r4c G4
  go_wp2_with fail
  refine RJ.mono ?_
  rintro e w6 ⟨rfl, g6⟩
  have G6 : Below w.heap.size w w6 := G5.trans (g6.mono G5.size)
  clear RJ g6 G5
  by_cases hqk : q = k
  · have hf0 : f = 0 := by rw [← HF.out, if_pos hqk]
    subst hf0
    have d1 : ((q : Int) == (k : Int)) = true := by simp; omega
    clear hqk
    go_wp2_with fail
    go_ret
    exact ⟨rfl, G6⟩
  · have hf0 : f = 2 := by rw [← HF.out, if_neg hqk]
    subst hf0
    have d1 : ((q : Int) == (k : Int)) = false := by simp; omega
    clear hqk
    go_wp2_with fail
    go_ret
    exact ⟨rfl, G6⟩
end Go.Proofs.YtknnncdmpfmgkaaDoor
