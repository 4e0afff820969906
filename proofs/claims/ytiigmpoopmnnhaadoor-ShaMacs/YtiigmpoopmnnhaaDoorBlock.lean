/-
  What transeptref03.block answers: the eight words that a block makes; nothing that was in memory turns. Conditions: the words handed in are words, the roots are the cube roots, the block has 64 bytes.
-/
import Derived.Test.YtiigmpoopmnnhaaDoorKeep
import Derived.Test.YtiigmpoopmnnhaaDoorAfter
namespace Go.Proofs.YtiigmpoopmnnhaaDoor
open Go.RowKit

theorem sub_not (e : Nat) (he : e < 4294967296) : 4294967295 - e = 4294967295 ^^^ e := by
  have h := congrArg BitVec.toNat (BitVec.xor_allOnes (x := BitVec.ofNat 32 e))
  rw [BitVec.toNat_xor, BitVec.toNat_not, BitVec.toNat_allOnes, BitVec.toNat_ofNat, Nat.mod_eq_of_lt he, Nat.xor_comm] at h
  exact h.symm
theorem add_wrap (x y : Nat) : IntKind.u32.wrap ((x : Int) + (y : Int)) = ((add x y : Nat) : Int) := by
  rw [IntKind.wrap_u32, ← add_int]
theorem plus_more (s r : E8) (j : Nat) (h : j < 8) : (plus s r).list.take j ++ [add (s.list.getD j 0) (r.list.getD j 0)] = (plus s r).list.take (j + 1) := by
  rcases lt8 h with rfl | rfl | rfl | rfl | rfl | rfl | rfl | rfl <;> rfl
theorem word_cut (b : List UInt8) (i : Nat) : wordAt ((b.drop (4 * i)).take 4) 0 = wordAt b (4 * i) := by
  have e : ∀ j, j < 4 → byteAt ((b.drop (4 * i)).take 4) j = byteAt b (4 * i + j) := fun j hj => by
    simp [byteAt, List.getD, hj, List.getElem?_drop]
  unfold wordAt
  rw [e 0 (by omega), e (0 + 1) (by omega), e (0 + 2) (by omega), e (0 + 3) (by omega)]
  rfl

set_option maxHeartbeats 2000000 in
set_option maxRecDepth 100000 in
theorem block_any (A c : _) (s : E8) (b : List UInt8) (A2 : Option Addr) (c2 : Nat) (w : World) (hd : Us w w.heap.size A 8 s.list) (hr : Us w w.heap.size A2 64 cubes) (hb : b.length = 64) (hs : s.ok) :
    Calls Tryd.prog 19 #[.slice A 8 c, .string (str b), .slice A2 64 c2] w fun e w' => ∃ A' c', e = .returned (.slice A' 8 c') ∧ 8 ≤ c' ∧ Us w' w'.heap.size A' 8 (after s b).list ∧ Below w.heap.size w w' := by
  have hss := str_size b
  have HB := Lib.hid hb
  clear hb
  go_enter Tryd.func19, Tryd.ntmps19
  go_wp2_with fail
  go_loopw [7, 8] (fun v7 v8 wr => ∃ (A1 : Option Addr) (c1 k : Nat), v7 = .slice A1 k c1 ∧ v8 = .int .i64 k ∧ k ≤ 64 ∧ OwnU wr w.heap.size (.slice A1 k c1) k (sch b k) ∧ Below w.heap.size w wr) (fun _ v _ => 64 - (intOf v).toNat)
  case atStart => exact ⟨_, 0, 0, rfl, rfl, by omega, ownU_empty w w.heap.size (Nat.le_refl _), (Below.refl _ _).alloc (Nat.le_refl _) _⟩
  case round =>
    obtain ⟨A1, c1, k, rfl, rfl, hk, hown, hbel⟩ := hrel
    have hsz := hbel.size
    by_cases hlt : k < 64
    · by_cases h16 : k < 16
      · obtain ⟨q, hq⟩ : ∃ q, q = 4 * k := ⟨_, rfl⟩
        have e1 : (4 : Int) * (k : Int) = (q : Int) := by omega
        obtain ⟨q4, hq4⟩ : ∃ q4, q4 = q + 4 := ⟨_, rfl⟩
        have e2 : (q : Int) + 4 = (q4 : Int) := by omega
        obtain ⟨T, hT⟩ : ∃ T, T = (b.drop q).take 4 := ⟨_, rfl⟩
        have hex : (str b).extract q q4 = str T := by rw [hq4, hT]; exact str_cut b q 4
        have lT : T.length = 4 := by
          have := HB.out
          rw [hT]
          simp
          omega
        have WO := fun w => word_any T w lT
        have HW : Hid (sch b (k + 1) = sch b k ++ [wordAt T 0]) := by
          show _ = _
          rw [sch, if_pos h16, hT, hq, word_cut b k]
        have i1 : q ≤ q4 := by omega
        have i2 : q4 ≤ b.length := by rw [HB.out]; omega
        generalize wordAt T 0 = x at *
        generalize sch b k = L at *
        clear hq hq4 hT lT
        go_wp2_with fail
        refine (WO wr).mono ?_
        rintro e w1 ⟨rfl, rfl⟩
        go_wp2_with (at_builtin; refine wp_appU _ rfl (.tmp 39) (.tmp 41) rfl w.heap.size _ k L rfl (hown.alloc _) (w1.heap.size + 1) _ 1 1 [x] rfl (Us.lit _ [x] _ rfl 1 rfl) (by omega) (by simp; omega) (k + 1) (L ++ [x]) rfl rfl ?_; intro A3 c3 w3 hc3 hS3 hown3 hbel3)
        go_roundw
        case rel => exact ⟨A3, c3, k + 1, rfl, by go_num, by omega, by rw [HW.out]; exact hown3, hbel.trans (((Below.refl _ _).alloc (by omega) _).trans hbel3)⟩
        case measure => simp [intOf]; omega
      · obtain ⟨A', c', he, hcc, hU⟩ := hown.form
        injection he with he1 he2 he3
        subst he1 he3
        obtain ⟨gb, off, rfl, hgb, _⟩ := hU.at_ (k := 0) (by omega)
        obtain ⟨a16, h16a⟩ : ∃ a, k = a + 16 := ⟨k - 16, by omega⟩
        obtain ⟨a15, h15a⟩ : ∃ a, k = a + 15 := ⟨k - 15, by omega⟩
        obtain ⟨a7, h7a⟩ : ∃ a, k = a + 7 := ⟨k - 7, by omega⟩
        obtain ⟨a2, h2a⟩ : ∃ a, k = a + 2 := ⟨k - 2, by omega⟩
        have p16 := hU.get rfl (k := a16) (by omega)
        have p15 := hU.get rfl (k := a15) (by omega)
        have p7 := hU.get rfl (k := a7) (by omega)
        have p2 := hU.get rfl (k := a2) (by omega)
        have l16 := sch_lt b (i := k) (j := a16) (by omega)
        have l15 := sch_lt b (i := k) (j := a15) (by omega)
        have l7 := sch_lt b (i := k) (j := a7) (by omega)
        have l2 := sch_lt b (i := k) (j := a2) (by omega)
        have HW : Hid (sch b (k + 1) = sch b k ++ [add (add (add ((sch b k).getD a16 0) (mixS ((sch b k).getD a15 0) 7 18 3)) ((sch b k).getD a7 0)) (mixS ((sch b k).getD a2 0) 17 19 10)]) := by
          show _ = _
          rw [sch, if_neg h16]
          unfold nextW
          rw [show k - 16 = a16 by omega, show k - 15 = a15 by omega, show k - 7 = a7 by omega, show k - 2 = a2 by omega]
        rw [vw] at p16 p15 p7 p2
        generalize (sch b k).getD a16 0 = x16 at *
        generalize (sch b k).getD a15 0 = x15 at *
        generalize (sch b k).getD a7 0 = x7 at *
        generalize (sch b k).getD a2 0 = x2 at *
        have e16 : (k : Int) - 16 = (a16 : Int) := by omega
        have e15 : (k : Int) - 15 = (a15 : Int) := by omega
        have e7 : (k : Int) - 7 = (a7 : Int) := by omega
        have e2 : (k : Int) - 2 = (a2 : Int) := by omega
        have i16 : a16 < k := by omega
        have i15 : a15 < k := by omega
        have i7 : a7 < k := by omega
        have i2 : a2 < k := by omega
        have f16 : (a16 : Int) < (k : Int) := by omega
        have f7 : (a7 : Int) < (k : Int) := by omega
        have j16 := wrap64 a16 (by omega)
        have j7 := wrap64 a7 (by omega)
        have R1 : ∀ w, Calls Tryd.prog 28 #[.int .u32 x15, .int .u64 7] w fun e w' => e = .returned (.int .u32 (turn x15 7 : Int)) ∧ w' = w := fun w => right_any x15 7 w l15 (by omega)
        have R2 : ∀ w, Calls Tryd.prog 28 #[.int .u32 x15, .int .u64 18] w fun e w' => e = .returned (.int .u32 (turn x15 18 : Int)) ∧ w' = w := fun w => right_any x15 18 w l15 (by omega)
        have R3 : ∀ w, Calls Tryd.prog 28 #[.int .u32 x2, .int .u64 17] w fun e w' => e = .returned (.int .u32 (turn x2 17 : Int)) ∧ w' = w := fun w => right_any x2 17 w l2 (by omega)
        have R4 : ∀ w, Calls Tryd.prog 28 #[.int .u32 x2, .int .u64 19] w fun e w' => e = .returned (.int .u32 (turn x2 19 : Int)) ∧ w' = w := fun w => right_any x2 19 w l2 (by omega)
        obtain ⟨d15, hd15⟩ : ∃ d, d = x15 / 2 ^ 3 := ⟨_, rfl⟩
        obtain ⟨d2, hd2⟩ : ∃ d, d = x2 / 2 ^ 10 := ⟨_, rfl⟩
        have u1 : (x15 : Int) / 8 = (d15 : Int) := by omega
        have u2 : (x2 : Int) / 1024 = (d2 : Int) := by omega
        have n1 := u32_xor_nat (turn x15 7) (turn x15 18) (turn_lt _ l15) (turn_lt _ l15)
        have n2 := u32_xor_nat (turn x15 7 ^^^ turn x15 18) d15 (xor_lt (turn_lt _ l15) (turn_lt _ l15)) (by omega)
        have n3 := u32_xor_nat (turn x2 17) (turn x2 19) (turn_lt _ l2) (turn_lt _ l2)
        have n4 := u32_xor_nat (turn x2 17 ^^^ turn x2 19) d2 (xor_lt (turn_lt _ l2) (turn_lt _ l2)) (by omega)
        have M1 : mixS x15 7 18 3 = turn x15 7 ^^^ turn x15 18 ^^^ d15 := by rw [hd15]; rfl
        have M2 : mixS x2 17 19 10 = turn x2 17 ^^^ turn x2 19 ^^^ d2 := by rw [hd2]; rfl
        rw [M1, M2] at HW
        clear M1 M2 hd15 hd2
        generalize turn x15 7 ^^^ turn x15 18 ^^^ d15 = y15 at *
        generalize turn x2 17 ^^^ turn x2 19 ^^^ d2 = y2 at *
        generalize turn x15 7 ^^^ turn x15 18 = y15' at *
        generalize turn x2 17 ^^^ turn x2 19 = y2' at *
        generalize turn x15 7 = t1 at *
        generalize turn x15 18 = t2 at *
        generalize turn x2 17 = t3 at *
        generalize turn x2 19 = t4 at *
        have a1 := add_wrap x16 y15
        have a2' := add_wrap (add x16 y15) x7
        have a3 := add_wrap (add (add x16 y15) x7) y2
        generalize add (add (add x16 y15) x7) y2 = z3 at *
        generalize add (add x16 y15) x7 = z2 at *
        generalize add x16 y15 = z1 at *
        generalize sch b k = L at *
        have HR1 := Lib.hid R1
        have HR2 := Lib.hid R2
        have HR3 := Lib.hid R3
        have HR4 := Lib.hid R4
        clear R1 R2 R3 R4 h16a h15a h7a h2a l16 l15 l7 l2
        go_wp2_with fail
        refine (HR1.out _).mono ?_
        rintro e w1 ⟨rfl, rfl⟩
        go_wp2_with fail
        refine (HR2.out _).mono ?_
        rintro e w2 ⟨rfl, rfl⟩
        go_wp2_with fail
        refine (HR3.out _).mono ?_
        rintro e w3 ⟨rfl, rfl⟩
        go_wp2_with fail
        refine (HR4.out _).mono ?_
        rintro e w4 ⟨rfl, rfl⟩
        go_wp2_with fail
        clear HR1 HR2 HR3 HR4 n1 n2 n3 n4 u1 u2 p15 p2
        have hS0 : w4.drew.cell? ⟨gb, off + a16, none⟩ = some (.int .u32 (x16 : Int)) ∧ w4.drew.cell? ⟨gb, off + a7, none⟩ = some (.int .u32 (x7 : Int)) := ⟨p16, p7⟩
        refine wp_region_held_drew (S := fun W => W.cell? ⟨gb, off + a16, none⟩ = some (.int .u32 (x16 : Int)) ∧ W.cell? ⟨gb, off + a7, none⟩ = some (.int .u32 (x7 : Int))) (by kernel_rfl) hS0 (fun hS => ?_)
        refine wpAnyH_take (i := 0) (oi := ⟨some 69, _, _, _, _, _⟩) (v := ?va0) rfl (by kernel_rfl) (by kernel_rfl) (by kernel_rfl) (fun _ _ _ h => h) (Or.inl ⟨by rfl, ?ya0⟩) hS ?ra0
        case ya0 => intro W hW; go_simp; first | done | with_reducible rfl
        simp only [Act.put, List.setIfInBounds_toArray, List.set_cons_zero, List.set_cons_succ]
        refine wpAnyH_take (i := 1) (oi := ⟨some 70, _, _, _, _, _⟩) (v := ?va1) rfl (by kernel_rfl) (by kernel_rfl) (by kernel_rfl) (fun _ _ _ h => h) (Or.inl ⟨by rfl, ?ya1⟩) hS ?ra1
        case ya1 => intro W hW; go_simp; first | done | with_reducible rfl
        simp only [Act.put, List.setIfInBounds_toArray, List.set_cons_zero, List.set_cons_succ]
        refine wpAnyH_take (i := 2) (oi := ⟨some 71, _, _, _, _, _⟩) (v := ?va2) rfl (by kernel_rfl) (by kernel_rfl) (by kernel_rfl) (fun _ _ _ h => h) (Or.inl ⟨by rfl, ?ya2⟩) hS ?ra2
        case ya2 => intro W hW; go_simp; first | done | with_reducible rfl
        simp only [Act.put, List.setIfInBounds_toArray, List.set_cons_zero, List.set_cons_succ]
        refine wpAnyH_take (i := 3) (oi := ⟨some 72, _, _, _, _, _⟩) (v := ?va3) rfl (by kernel_rfl) (by kernel_rfl) (by kernel_rfl) (fun _ _ _ h => h) (Or.inl ⟨by rfl, ?ya3⟩) hS ?ra3
        case ya3 => intro W hW; go_simp; first | done | with_reducible rfl
        simp only [Act.put, List.setIfInBounds_toArray, List.set_cons_zero, List.set_cons_succ]
        refine wpAnyH_take (i := 4) (oi := ⟨some 73, _, _, _, _, _⟩) (v := ?va4) rfl (by kernel_rfl) (by kernel_rfl) (by kernel_rfl) (fun _ _ _ h => h) (Or.inl ⟨by rfl, ?ya4⟩) hS ?ra4
        case ya4 => intro W hW; go_simp; first | done | with_reducible rfl
        simp only [Act.put, List.setIfInBounds_toArray, List.set_cons_zero, List.set_cons_succ]
        refine wpAnyH_take (i := 5) (oi := ⟨some 74, _, _, _, _, _⟩) (v := ?va5) rfl (by kernel_rfl) (by kernel_rfl) (by kernel_rfl) (fun _ _ _ h => h) (Or.inl ⟨by rfl, ?ya5⟩) hS ?ra5
        case ya5 => intro W hW; have p1 := hW.1; go_simp; first | done | with_reducible rfl
        simp only [Act.put, List.setIfInBounds_toArray, List.set_cons_zero, List.set_cons_succ]
        refine wpAnyH_take (i := 6) (oi := ⟨some 75, _, _, _, _, _⟩) (v := ?va6) rfl (by kernel_rfl) (by kernel_rfl) (by kernel_rfl) (fun _ _ _ h => h) (Or.inl ⟨by rfl, ?ya6⟩) hS ?ra6
        case ya6 => intro W hW; go_simp; first | done | with_reducible rfl
        simp only [Act.put, List.setIfInBounds_toArray, List.set_cons_zero, List.set_cons_succ]
        refine wpAnyH_take (i := 7) (oi := ⟨some 76, _, _, _, _, _⟩) (v := ?va7) rfl (by kernel_rfl) (by kernel_rfl) (by kernel_rfl) (fun _ _ _ h => h) (Or.inl ⟨by rfl, ?ya7⟩) hS ?ra7
        case ya7 => intro W hW; go_simp; first | done | with_reducible rfl
        simp only [Act.put, List.setIfInBounds_toArray, List.set_cons_zero, List.set_cons_succ]
        refine wpAnyH_take (i := 8) (oi := ⟨some 77, _, _, _, _, _⟩) (v := ?va8) rfl (by kernel_rfl) (by kernel_rfl) (by kernel_rfl) (fun _ _ _ h => h) (Or.inl ⟨by rfl, ?ya8⟩) hS ?ra8
        case ya8 => intro W hW; go_simp; first | done | with_reducible rfl
        simp only [Act.put, List.setIfInBounds_toArray, List.set_cons_zero, List.set_cons_succ]
        refine wpAnyH_take (i := 9) (oi := ⟨some 78, _, _, _, _, _⟩) (v := ?va9) rfl (by kernel_rfl) (by kernel_rfl) (by kernel_rfl) (fun _ _ _ h => h) (Or.inl ⟨by rfl, ?ya9⟩) hS ?ra9
        case ya9 => intro W hW; go_simp; first | done | with_reducible rfl
        simp only [Act.put, List.setIfInBounds_toArray, List.set_cons_zero, List.set_cons_succ]
        refine wpAnyH_take (i := 10) (oi := ⟨some 79, _, _, _, _, _⟩) (v := ?va10) rfl (by kernel_rfl) (by kernel_rfl) (by kernel_rfl) (fun _ _ _ h => h) (Or.inl ⟨by rfl, ?ya10⟩) hS ?ra10
        case ya10 => intro W hW; go_simp; first | done | with_reducible rfl
        simp only [Act.put, List.setIfInBounds_toArray, List.set_cons_zero, List.set_cons_succ]
        refine wpAnyH_take (i := 11) (oi := ⟨some 80, _, _, _, _, _⟩) (v := ?va11) rfl (by kernel_rfl) (by kernel_rfl) (by kernel_rfl) (fun _ _ _ h => h) (Or.inl ⟨by rfl, ?ya11⟩) hS ?ra11
        case ya11 => intro W hW; go_simp; first | done | with_reducible rfl
        simp only [Act.put, List.setIfInBounds_toArray, List.set_cons_zero, List.set_cons_succ]
        refine wpAnyH_take (i := 12) (oi := ⟨some 81, _, _, _, _, _⟩) (v := ?va12) rfl (by kernel_rfl) (by kernel_rfl) (by kernel_rfl) (fun _ _ _ h => h) (Or.inl ⟨by rfl, ?ya12⟩) hS ?ra12
        case ya12 => intro W hW; have p1 := hW.2; go_simp; first | done | with_reducible rfl
        simp only [Act.put, List.setIfInBounds_toArray, List.set_cons_zero, List.set_cons_succ]
        refine wpAnyH_take (i := 13) (oi := ⟨some 82, _, _, _, _, _⟩) (v := ?va13) rfl (by kernel_rfl) (by kernel_rfl) (by kernel_rfl) (fun _ _ _ h => h) (Or.inl ⟨by rfl, ?ya13⟩) hS ?ra13
        case ya13 => intro W hW; go_simp; first | done | with_reducible rfl
        simp only [Act.put, List.setIfInBounds_toArray, List.set_cons_zero, List.set_cons_succ]
        refine wpAnyH_take (i := 14) (oi := ⟨some 83, _, _, _, _, _⟩) (v := ?va14) rfl (by kernel_rfl) (by kernel_rfl) (by kernel_rfl) (fun _ _ _ h => h) (Or.inl ⟨by rfl, ?ya14⟩) hS ?ra14
        case ya14 => intro W hW; go_simp; first | done | with_reducible rfl
        simp only [Act.put, List.setIfInBounds_toArray, List.set_cons_zero, List.set_cons_succ]
        refine wpAnyH_take (i := 15) (oi := ⟨some 84, _, _, _, _, _⟩) (v := ?va15) rfl (by kernel_rfl) (by kernel_rfl) (by kernel_rfl) (fun _ _ _ h => h) (Or.inl ⟨by rfl, ?ya15⟩) hS ?ra15
        case ya15 => intro W hW; go_simp; first | done | with_reducible rfl
        simp only [Act.put, List.setIfInBounds_toArray, List.set_cons_zero, List.set_cons_succ]
        refine wpAnyH_ready (rs := [16]) (by kernel_rfl) (by simp) ?_
        refine (AllReadyH.cons (o := ⟨some 85, _, _, _, _, _⟩) rfl (fun K hK => ?_) AllReadyH.nil)
        go_simp
        refine hK.out _ _ ⟨(World.cell?_alloc_lt _ _ _ hgb).trans hS.1, (World.cell?_alloc_lt _ _ _ hgb).trans hS.2⟩ (fun hS3 => ?_)
        clear hK K
        refine wpAnyH_ready (rs := [17]) (by kernel_rfl) (by simp) ?_
        refine (AllReadyH.cons (o := ⟨some 86, _, _, _, _, _⟩) rfl (fun K hK => ?_) AllReadyH.nil)
        refine step_appUK _ rfl (.tmp 69) (.tmp 85) rfl w.heap.size gb off k _ L rfl (hown.alloc _).drew (w4.heap.size + 1) _ 1 1 [z3] rfl (Us.lit w4 [z3] _ rfl 1 rfl).drew (by omega) (by omega) (by simp; omega) (k + 1) (L ++ [z3]) rfl rfl ?_
        intro A3 c3 w5 hc3 hS3' hown3 hbel3 hkeep
        have b5 : Below w.heap.size w w5 := (hbel.alloc hsz _).drew.trans hbel3
        have hS5 : w5.cell? ⟨gb, off + a16, none⟩ = some (.int .u32 (x16 : Int)) ∧ w5.cell? ⟨gb, off + a7, none⟩ = some (.int .u32 (x7 : Int)) := ⟨(hkeep a16 i16).trans hS3.1, (hkeep a7 i7).trans hS3.2⟩
        refine hK.out _ _ hS5 (fun _ => ?_)
        clear hK K
        simp only [Act.put, List.setIfInBounds_toArray, List.set_cons_zero, List.set_cons_succ]
        refine wpAnyH_take (i := 18) (oi := ⟨some 7, _, _, _, _, _⟩) (v := ?vz18) rfl (by kernel_rfl) (by kernel_rfl) (by kernel_rfl) (fun _ _ _ h => h) (Or.inl ⟨by rfl, ?yz18⟩) hS5 ?rz18
        case yz18 => intro W hW; go_simp; first | done | with_reducible rfl
        simp only [Act.put, List.setIfInBounds_toArray, List.set_cons_zero, List.set_cons_succ]
        refine wpAnyH_done (by kernel_rfl) ?_ _
        clear hS0 hS hS3 hS5 hkeep
        go_wp2_with fail
        go_roundw
        case rel => exact ⟨A3, c3, k + 1, rfl, by go_num, by omega, by rw [HW.out]; exact hown3, b5⟩
        case measure => simp [intOf]; omega
    · have hk64 : k = 64 := by omega
      subst hk64
      obtain ⟨A', c', he, hcc, hU⟩ := hown.form
      injection he with he1 he2 he3
      subst he1 he3
      clear hown hlt hk
      have hdB := (hd.below hbel).more hsz
      have hrB := (hr.below hbel).more hsz
      go_wp2_with ((with_reducible show wpList _ _ _ (⟨some 89, _, _, _, _, _⟩ :: _) _ _); refine wp_appU _ rfl (.tmp 87) (.tmp 88) rfl wr.heap.size _ 0 [] rfl (ownU_empty _ _ (Nat.le_refl _)) wr.heap.size _ 8 _ s.list rfl (hdB.alloc (Nat.le_refl _) _) (by omega) (by simp) 8 s.list rfl rfl ?_; intro A4 c4 wC hc4 hXC _ hbelC; simp only [Act.put, List.setIfInBounds_toArray, List.set_cons_zero, List.set_cons_succ])
      have KC : Kept wr wC := ((Below.refl _ _).alloc (Nat.le_refl _) _).trans hbelC
      have belC : Below w.heap.size w wC := hbel.trans (KC.mono hsz)
      have hdC := (hdB.below KC).more KC.size
      have hrC := (hrB.below KC).more KC.size
      have hWC := (hU.below KC).more KC.size
      obtain ⟨gr, ofr, rfl, hgr, _⟩ := hrC.at_ (k := 0) (by omega)
      obtain ⟨gw, ofw, rfl, hgw, _⟩ := hWC.at_ (k := 0) (by omega)
      obtain ⟨gd, ofd, rfl, hgd, _⟩ := hdC.at_ (k := 0) (by omega)
      clear hbelC KC hbel hsz hdB hrB hU hd hr hss HB
      obtain ⟨B9, hB9⟩ : ∃ B9, B9 = b := ⟨_, rfl⟩
      subst hB9
      obtain ⟨W, hW⟩ : ∃ W, W = sch B9 64 := ⟨_, rfl⟩
      have lW : ∀ i, i < 64 → W.getD i 0 < 4294967296 := fun i hi => by rw [hW]; exact sch_lt B9 hi
      rw [← hW] at hWC
      have HA : Hid (after s B9 = plus s (rounds s W 64)) := by show _ = _; rw [hW]; rfl
      clear hW
      obtain ⟨sa, sb, sc, sd, se, sf, sg_, sh⟩ := s
      have HB0 := Lib.hid hs
      obtain ⟨s0, hs0⟩ : ∃ s0 : E8, s0 = ⟨sa, sb, sc, sd, se, sf, sg_, sh⟩ := ⟨_, rfl⟩
      have HS0 := Lib.hid hs0
      rw [← hs0] at HA
      have HR0 : Hid (rounds s0 W 0 = ⟨sa, sb, sc, sd, se, sf, sg_, sh⟩) := by show rounds s0 W 0 = _; rw [hs0]; rfl
      have hdC' : Us wC wC.heap.size (some ⟨gd, ofd, none⟩) 8 s0.list := by rw [hs0]; exact hdC
      have hXC' : Us wC wC.heap.size A4 8 [sa, sb, sc, sd, se, sf, sg_, sh] := hXC
      clear hs0 hs hdC hXC
      go_loopw [14, 15] (fun v14 v15 wr => ∃ (A : Option Addr) (cc k a b c d e f g h : Nat), v14 = .slice A 8 cc ∧ v15 = .int .i64 k ∧ k ≤ 64 ∧ Us wr wr.heap.size A 8 [a, b, c, d, e, f, g, h] ∧ Hid (E8.ok ⟨a, b, c, d, e, f, g, h⟩) ∧ Hid (rounds s0 W k = ⟨a, b, c, d, e, f, g, h⟩) ∧ Kept wC wr) (fun _ v _ => 64 - (intOf v).toNat)
      case atStart => exact ⟨A4, c4, 0, sa, sb, sc, sd, se, sf, sg_, sh, rfl, rfl, by omega, hXC', HB0, HR0, Kept.refl _⟩
      case round =>
        obtain ⟨A5, c5, k, a, b, c, d, e, f, g, h, rfl, rfl, hk, hX, HB, HR, hK⟩ := hrel
        obtain ⟨gx, ox, rfl, hgx, _⟩ := hX.at_ (k := 0) (by omega)
        by_cases hlt : k < 64
        · have HT : Hid (tOf ⟨a, b, c, d, e, f, g, h⟩ (cubes.getD k 0) (W.getD k 0) = add (add (add (add h (mixT e 6 11 25)) ((e &&& f) ^^^ ((4294967295 ^^^ e) &&& g))) (cubes.getD k 0)) (W.getD k 0)) := rfl
          have HU : Hid (uOf ⟨a, b, c, d, e, f, g, h⟩ = add (mixT a 2 13 22) ((a &&& b) ^^^ (a &&& c) ^^^ (b &&& c))) := rfl
          have HN : Hid (rounds s0 W (k + 1) = step ⟨a, b, c, d, e, f, g, h⟩ (cubes.getD k 0) (W.getD k 0)) := by
            show rounds s0 W (k + 1) = _
            rw [← HR.out]
            rfl
          have HN2 : Hid (step ⟨a, b, c, d, e, f, g, h⟩ (cubes.getD k 0) (W.getD k 0) = ⟨add (tOf ⟨a, b, c, d, e, f, g, h⟩ (cubes.getD k 0) (W.getD k 0)) (uOf ⟨a, b, c, d, e, f, g, h⟩), a, b, c, add d (tOf ⟨a, b, c, d, e, f, g, h⟩ (cubes.getD k 0) (W.getD k 0)), e, f, g⟩) := rfl
          have HBN : Hid (E8.ok (step ⟨a, b, c, d, e, f, g, h⟩ (cubes.getD k 0) (W.getD k 0))) := step_ok HB.out _ _
          have cq := (hrC.below hK).get rfl (k := k) hlt
          have cw := (hWC.below hK).get rfl (k := k) hlt
          rw [vw] at cq cw
          have c0 : wr.cell? ⟨gx, ox + 0, none⟩ = some (.int .u32 (a : Int)) := hX.get rfl (k := 0) (by omega)
          have c1 : wr.cell? ⟨gx, ox + 1, none⟩ = some (.int .u32 (b : Int)) := hX.get rfl (k := 1) (by omega)
          have c2 : wr.cell? ⟨gx, ox + 2, none⟩ = some (.int .u32 (c : Int)) := hX.get rfl (k := 2) (by omega)
          have c3 : wr.cell? ⟨gx, ox + 3, none⟩ = some (.int .u32 (d : Int)) := hX.get rfl (k := 3) (by omega)
          have c4 : wr.cell? ⟨gx, ox + 4, none⟩ = some (.int .u32 (e : Int)) := hX.get rfl (k := 4) (by omega)
          have c5' : wr.cell? ⟨gx, ox + 5, none⟩ = some (.int .u32 (f : Int)) := hX.get rfl (k := 5) (by omega)
          have c6 : wr.cell? ⟨gx, ox + 6, none⟩ = some (.int .u32 (g : Int)) := hX.get rfl (k := 6) (by omega)
          have c7 : wr.cell? ⟨gx, ox + 7, none⟩ = some (.int .u32 (h : Int)) := hX.get rfl (k := 7) (by omega)
          rw [Nat.add_zero] at c0
          generalize cubes.getD k 0 = q at *
          generalize W.getD k 0 = x at *
          obtain ⟨la, lb, lc, ld, le, lf, lg, lh⟩ := HB.out
          simp only [] at la lb lc ld le lf lg lh
          have n1 := sub_not e le
          have n2 := u32_and_nat e f le lf
          have n3 := u32_and_nat (4294967295 ^^^ e) g (not_lt le) lg
          have n4 := u32_xor_nat (e &&& f) ((4294967295 ^^^ e) &&& g) (and_lt le) (and_lt (not_lt le))
          have n5 := u32_and_nat a b la lb
          have n6 := u32_and_nat a c la lc
          have n7 := u32_and_nat b c lb lc
          have n8 := u32_xor_nat (a &&& b) (a &&& c) (and_lt la) (and_lt la)
          have n9 := u32_xor_nat ((a &&& b) ^^^ (a &&& c)) (b &&& c) (xor_lt (and_lt la) (and_lt la)) (and_lt lb)
          have m1 := u32_xor_nat (turn e 6) (turn e 11) (turn_lt _ le) (turn_lt _ le)
          have m2 := u32_xor_nat (turn e 6 ^^^ turn e 11) (turn e 25) (xor_lt (turn_lt _ le) (turn_lt _ le)) (turn_lt _ le)
          have m3 := u32_xor_nat (turn a 2) (turn a 13) (turn_lt _ la) (turn_lt _ la)
          have m4 := u32_xor_nat (turn a 2 ^^^ turn a 13) (turn a 22) (xor_lt (turn_lt _ la) (turn_lt _ la)) (turn_lt _ la)
          have Q1 : ∀ w, Calls Tryd.prog 28 #[.int .u32 e, .int .u64 6] w fun r w' => r = .returned (.int .u32 (turn e 6 : Int)) ∧ w' = w := fun w => right_any e 6 w le (by omega)
          have Q2 : ∀ w, Calls Tryd.prog 28 #[.int .u32 e, .int .u64 11] w fun r w' => r = .returned (.int .u32 (turn e 11 : Int)) ∧ w' = w := fun w => right_any e 11 w le (by omega)
          have Q3 : ∀ w, Calls Tryd.prog 28 #[.int .u32 e, .int .u64 25] w fun r w' => r = .returned (.int .u32 (turn e 25 : Int)) ∧ w' = w := fun w => right_any e 25 w le (by omega)
          have Q4 : ∀ w, Calls Tryd.prog 28 #[.int .u32 a, .int .u64 2] w fun r w' => r = .returned (.int .u32 (turn a 2 : Int)) ∧ w' = w := fun w => right_any a 2 w la (by omega)
          have Q5 : ∀ w, Calls Tryd.prog 28 #[.int .u32 a, .int .u64 13] w fun r w' => r = .returned (.int .u32 (turn a 13 : Int)) ∧ w' = w := fun w => right_any a 13 w la (by omega)
          have Q6 : ∀ w, Calls Tryd.prog 28 #[.int .u32 a, .int .u64 22] w fun r w' => r = .returned (.int .u32 (turn a 22 : Int)) ∧ w' = w := fun w => right_any a 22 w la (by omega)
          have MT1 : mixT e 6 11 25 = turn e 6 ^^^ turn e 11 ^^^ turn e 25 := rfl
          have MT2 : mixT a 2 13 22 = turn a 2 ^^^ turn a 13 ^^^ turn a 22 := rfl
          rw [MT1] at HT
          rw [MT2] at HU
          clear MT1 MT2
          generalize turn e 6 ^^^ turn e 11 ^^^ turn e 25 = z1 at *
          generalize turn a 2 ^^^ turn a 13 ^^^ turn a 22 = z2 at *
          generalize turn e 6 ^^^ turn e 11 = z3 at *
          generalize turn a 2 ^^^ turn a 13 = z4 at *
          generalize turn e 6 = r1 at *
          generalize turn e 11 = r2 at *
          generalize turn e 25 = r3 at *
          generalize turn a 2 = r4 at *
          generalize turn a 13 = r5 at *
          generalize turn a 22 = r6 at *
          generalize (e &&& f) ^^^ ((4294967295 ^^^ e) &&& g) = y1 at *
          generalize (a &&& b) ^^^ (a &&& c) ^^^ (b &&& c) = y2 at *
          generalize (a &&& b) ^^^ (a &&& c) = y3 at *
          generalize a &&& b = y4 at *
          generalize a &&& c = y5 at *
          generalize b &&& c = y6 at *
          generalize e &&& f = y7 at *
          generalize (4294967295 ^^^ e) &&& g = y8 at *
          generalize 4294967295 ^^^ e = y9 at *
          have n0 : (4294967295 : Int) - (e : Int) = (y9 : Int) := by omega
          have p1 := add_int h z1
          have p2 := add_int (add h z1) y1
          have p3 := add_int (add (add h z1) y1) q
          have p4 := add_int (add (add (add h z1) y1) q) x
          have p5 := add_int z2 y2
          generalize add (add (add (add h z1) y1) q) x = t at *
          generalize add (add (add h z1) y1) q = t3 at *
          generalize add (add h z1) y1 = t2 at *
          generalize add h z1 = t1 at *
          generalize add z2 y2 = u at *
          have p6 := add_wrap t u
          have p7 := add_wrap d t
          have HZ : Hid (rounds s0 W (k + 1) = ⟨add t u, a, b, c, add d t, e, f, g⟩) := by
            show rounds s0 W (k + 1) = _
            rw [HN.out, HN2.out, HT.out, HU.out]
          have HBZ : Hid (E8.ok ⟨add t u, a, b, c, add d t, e, f, g⟩) := by
            have := HBN.out
            rw [HN2.out, HT.out, HU.out] at this
            exact this
          generalize add t u = v1 at *
          generalize add d t = v2 at *
          have HQ1 := Lib.hid Q1
          have HQ2 := Lib.hid Q2
          have HQ3 := Lib.hid Q3
          have HQ4 := Lib.hid Q4
          have HQ5 := Lib.hid Q5
          have HQ6 := Lib.hid Q6
          have w0 : IntKind.u32.wrap ((4294967295 : Int) - (e : Int)) = (y9 : Int) := by rw [n0, IntKind.wrap_u32]; omega
          have i1 : (k : Int) < 64 := by omega
          have HL : Hid (y9 < 4294967296) := by show _ < _; omega
          clear HN HN2 HBN HT HU HB HR Q1 Q2 Q3 Q4 Q5 Q6 n1 la lb lc ld le lf lg lh lW HA HS0 HB0 HR0
          go_wp2_with fail
          go_quiet (fail)
          replace c0 : (wr.drewN nq).cell? _ = _ := c0
          replace c1 : (wr.drewN nq).cell? _ = _ := c1
          replace c2 : (wr.drewN nq).cell? _ = _ := c2
          replace c3 : (wr.drewN nq).cell? _ = _ := c3
          replace c4 : (wr.drewN nq).cell? _ = _ := c4
          replace c5' : (wr.drewN nq).cell? _ = _ := c5'
          replace c6 : (wr.drewN nq).cell? _ = _ := c6
          replace c7 : (wr.drewN nq).cell? _ = _ := c7
          replace cq : (wr.drewN nq).cell? _ = _ := cq
          replace cw : (wr.drewN nq).cell? _ = _ := cw
          replace hX := hX.drewN nq
          replace hgx : gx < (wr.drewN nq).heap.size := hgx
          replace hK : Kept wC (wr.drewN nq) := below_drewN hK nq
          generalize wr.drewN nq = wa at *
          clear nq
          go_wp2_with fail
          go_quiet (fail)
          replace c0 : (wa.drewN nq).cell? _ = _ := c0
          replace c1 : (wa.drewN nq).cell? _ = _ := c1
          replace c2 : (wa.drewN nq).cell? _ = _ := c2
          replace c3 : (wa.drewN nq).cell? _ = _ := c3
          replace c4 : (wa.drewN nq).cell? _ = _ := c4
          replace c5' : (wa.drewN nq).cell? _ = _ := c5'
          replace c6 : (wa.drewN nq).cell? _ = _ := c6
          replace c7 : (wa.drewN nq).cell? _ = _ := c7
          replace cq : (wa.drewN nq).cell? _ = _ := cq
          replace cw : (wa.drewN nq).cell? _ = _ := cw
          replace hX := hX.drewN nq
          replace hgx : gx < (wa.drewN nq).heap.size := hgx
          replace hK : Kept wC (wa.drewN nq) := below_drewN hK nq
          generalize wa.drewN nq = wb at *
          clear nq
          go_wp2_with fail
          have D1 := Lib.hid fun z => Calls.quiet_of_same (HQ1.out (wb.drewN z))
          have D2 := Lib.hid fun z => Calls.quiet_of_same (HQ2.out (wb.drewN z))
          have D3 := Lib.hid fun z => Calls.quiet_of_same (HQ3.out (wb.drewN z))
          go_quiet (first | (go_at_call 28; with_reducible exact D1.out _) | (go_at_call 28; with_reducible exact D2.out _) | (go_at_call 28; with_reducible exact D3.out _))
          clear D1 D2 D3
          replace c0 : (wb.drewN nq).cell? _ = _ := c0
          replace c1 : (wb.drewN nq).cell? _ = _ := c1
          replace c2 : (wb.drewN nq).cell? _ = _ := c2
          replace c3 : (wb.drewN nq).cell? _ = _ := c3
          replace c4 : (wb.drewN nq).cell? _ = _ := c4
          replace c5' : (wb.drewN nq).cell? _ = _ := c5'
          replace c6 : (wb.drewN nq).cell? _ = _ := c6
          replace c7 : (wb.drewN nq).cell? _ = _ := c7
          replace cq : (wb.drewN nq).cell? _ = _ := cq
          replace cw : (wb.drewN nq).cell? _ = _ := cw
          replace hX := hX.drewN nq
          replace hgx : gx < (wb.drewN nq).heap.size := hgx
          replace hK : Kept wC (wb.drewN nq) := below_drewN hK nq
          generalize wb.drewN nq = wd at *
          clear nq
          go_wp2_with fail
          refine (HQ4.out _).mono ?_
          rintro r we ⟨rfl, rfl⟩
          go_wp2_with fail
          refine (HQ5.out _).mono ?_
          rintro r we ⟨rfl, rfl⟩
          go_wp2_with fail
          refine (HQ6.out _).mono ?_
          rintro r we ⟨rfl, rfl⟩
          go_wp2_with fail
          simp only [p5]
          clear HQ1 HQ2 HQ3 HQ4 HQ5 HQ6 n0 n2 n3 n4 n5 n6 n7 n8 n9 m1 m2 m3 m4 p1 p2 p3 p4 p5 w0 cq cw c0 c4 c7
          have hS0 : Kept we we.drew := (Kept.refl we).drew
          refine wp_region_held_drew (S := fun W => Kept we W) (by kernel_rfl) hS0 (fun hS => ?_)
          refine wpAnyH_take (i := 0) (oi := ⟨some 165, _, _, _, _, _⟩) (v := ?vr0) rfl (by kernel_rfl) (by kernel_rfl) (by kernel_rfl) (fun _ _ _ h => h) (Or.inl ⟨by rfl, ?yr0⟩) hS ?rr0
          case yr0 => intro W hW; go_simp; first | done | with_reducible rfl
          simp only [Act.put, List.setIfInBounds_toArray, List.set_cons_zero, List.set_cons_succ]
          refine wpAnyH_take (i := 1) (oi := ⟨some 166, _, _, _, _, _⟩) (v := ?vr1) rfl (by kernel_rfl) (by kernel_rfl) (by kernel_rfl) (fun _ _ _ h => h) (Or.inl ⟨by rfl, ?yr1⟩) hS ?rr1
          case yr1 => intro W hW; go_simp; first | done | with_reducible rfl
          simp only [Act.put, List.setIfInBounds_toArray, List.set_cons_zero, List.set_cons_succ]
          refine wpAnyH_take (i := 2) (oi := ⟨some 167, _, _, _, _, _⟩) (v := ?vr2) rfl (by kernel_rfl) (by kernel_rfl) (by kernel_rfl) (fun _ _ _ h => h) (Or.inl ⟨by rfl, ?yr2⟩) hS ?rr2
          case yr2 => intro W hW; go_simp; first | done | with_reducible rfl
          simp only [Act.put, List.setIfInBounds_toArray, List.set_cons_zero, List.set_cons_succ]
          refine wpAnyH_take (i := 3) (oi := ⟨some 168, _, _, _, _, _⟩) (v := ?vr3) rfl (by kernel_rfl) (by kernel_rfl) (by kernel_rfl) (fun _ _ _ h => h) (Or.inl ⟨by rfl, ?yr3⟩) hS ?rr3
          case yr3 => intro W hW; go_simp; first | done | with_reducible rfl
          simp only [Act.put, List.setIfInBounds_toArray, List.set_cons_zero, List.set_cons_succ]
          refine wpAnyH_take (i := 4) (oi := ⟨some 169, _, _, _, _, _⟩) (v := ?vr4) rfl (by kernel_rfl) (by kernel_rfl) (by kernel_rfl) (fun _ _ _ h => h) (Or.inl ⟨by rfl, ?yr4⟩) hS ?rr4
          case yr4 => intro W hW; go_simp; first | done | with_reducible rfl
          simp only [Act.put, List.setIfInBounds_toArray, List.set_cons_zero, List.set_cons_succ]
          refine wpAnyH_take (i := 5) (oi := ⟨some 170, _, _, _, _, _⟩) (v := ?vr5) rfl (by kernel_rfl) (by kernel_rfl) (by kernel_rfl) (fun _ _ _ h => h) (Or.inl ⟨by rfl, ?yr5⟩) hS ?rr5
          case yr5 => intro W hW; go_simp; first | done | with_reducible rfl
          simp only [Act.put, List.setIfInBounds_toArray, List.set_cons_zero, List.set_cons_succ]
          refine wpAnyH_take (i := 6) (oi := ⟨some 171, _, _, _, _, _⟩) (v := ?vr6) rfl (by kernel_rfl) (by kernel_rfl) (by kernel_rfl) (fun _ _ _ h => h) (Or.inl ⟨by rfl, ?yr6⟩) hS ?rr6
          case yr6 => intro W hW; have p1 := (hW.cell (p := ⟨gx, ox + 1, none⟩) hgx).trans c1; go_simp; first | done | with_reducible rfl
          simp only [Act.put, List.setIfInBounds_toArray, List.set_cons_zero, List.set_cons_succ]
          refine wpAnyH_take (i := 7) (oi := ⟨some 172, _, _, _, _, _⟩) (v := ?vr7) rfl (by kernel_rfl) (by kernel_rfl) (by kernel_rfl) (fun _ _ _ h => h) (Or.inl ⟨by rfl, ?yr7⟩) hS ?rr7
          case yr7 => intro W hW; go_simp; first | done | with_reducible rfl
          simp only [Act.put, List.setIfInBounds_toArray, List.set_cons_zero, List.set_cons_succ]
          refine wpAnyH_take (i := 8) (oi := ⟨some 173, _, _, _, _, _⟩) (v := ?vr8) rfl (by kernel_rfl) (by kernel_rfl) (by kernel_rfl) (fun _ _ _ h => h) (Or.inl ⟨by rfl, ?yr8⟩) hS ?rr8
          case yr8 => intro W hW; go_simp; first | done | with_reducible rfl
          simp only [Act.put, List.setIfInBounds_toArray, List.set_cons_zero, List.set_cons_succ]
          refine wpAnyH_take (i := 9) (oi := ⟨some 174, _, _, _, _, _⟩) (v := ?vr9) rfl (by kernel_rfl) (by kernel_rfl) (by kernel_rfl) (fun _ _ _ h => h) (Or.inl ⟨by rfl, ?yr9⟩) hS ?rr9
          case yr9 => intro W hW; have p1 := (hW.cell (p := ⟨gx, ox + 2, none⟩) hgx).trans c2; go_simp; first | done | with_reducible rfl
          simp only [Act.put, List.setIfInBounds_toArray, List.set_cons_zero, List.set_cons_succ]
          refine wpAnyH_take (i := 10) (oi := ⟨some 175, _, _, _, _, _⟩) (v := ?vr10) rfl (by kernel_rfl) (by kernel_rfl) (by kernel_rfl) (fun _ _ _ h => h) (Or.inl ⟨by rfl, ?yr10⟩) hS ?rr10
          case yr10 => intro W hW; go_simp; first | done | with_reducible rfl
          simp only [Act.put, List.setIfInBounds_toArray, List.set_cons_zero, List.set_cons_succ]
          refine wpAnyH_take (i := 11) (oi := ⟨some 176, _, _, _, _, _⟩) (v := ?vr11) rfl (by kernel_rfl) (by kernel_rfl) (by kernel_rfl) (fun _ _ _ h => h) (Or.inl ⟨by rfl, ?yr11⟩) hS ?rr11
          case yr11 => intro W hW; go_simp; first | done | with_reducible rfl
          simp only [Act.put, List.setIfInBounds_toArray, List.set_cons_zero, List.set_cons_succ]
          refine wpAnyH_take (i := 12) (oi := ⟨some 177, _, _, _, _, _⟩) (v := ?vr12) rfl (by kernel_rfl) (by kernel_rfl) (by kernel_rfl) (fun _ _ _ h => h) (Or.inl ⟨by rfl, ?yr12⟩) hS ?rr12
          case yr12 => intro W hW; have p1 := (hW.cell (p := ⟨gx, ox + 3, none⟩) hgx).trans c3; go_simp; first | done | with_reducible rfl
          simp only [Act.put, List.setIfInBounds_toArray, List.set_cons_zero, List.set_cons_succ]
          refine wpAnyH_take (i := 13) (oi := ⟨some 178, _, _, _, _, _⟩) (v := ?vr13) rfl (by kernel_rfl) (by kernel_rfl) (by kernel_rfl) (fun _ _ _ h => h) (Or.inl ⟨by rfl, ?yr13⟩) hS ?rr13
          case yr13 => intro W hW; go_simp; first | done | with_reducible rfl
          simp only [Act.put, List.setIfInBounds_toArray, List.set_cons_zero, List.set_cons_succ]
          refine wpAnyH_take (i := 14) (oi := ⟨some 179, _, _, _, _, _⟩) (v := ?vr14) rfl (by kernel_rfl) (by kernel_rfl) (by kernel_rfl) (fun _ _ _ h => h) (Or.inl ⟨by rfl, ?yr14⟩) hS ?rr14
          case yr14 => intro W hW; go_simp; first | done | with_reducible rfl
          simp only [Act.put, List.setIfInBounds_toArray, List.set_cons_zero, List.set_cons_succ]
          refine wpAnyH_take (i := 15) (oi := ⟨some 180, _, _, _, _, _⟩) (v := ?vr15) rfl (by kernel_rfl) (by kernel_rfl) (by kernel_rfl) (fun _ _ _ h => h) (Or.inl ⟨by rfl, ?yr15⟩) hS ?rr15
          case yr15 => intro W hW; go_simp; first | done | with_reducible rfl
          simp only [Act.put, List.setIfInBounds_toArray, List.set_cons_zero, List.set_cons_succ]
          refine wpAnyH_take (i := 16) (oi := ⟨some 181, _, _, _, _, _⟩) (v := ?vr16) rfl (by kernel_rfl) (by kernel_rfl) (by kernel_rfl) (fun _ _ _ h => h) (Or.inl ⟨by rfl, ?yr16⟩) hS ?rr16
          case yr16 => intro W hW; go_simp; first | done | with_reducible rfl
          simp only [Act.put, List.setIfInBounds_toArray, List.set_cons_zero, List.set_cons_succ]
          refine wpAnyH_take (i := 17) (oi := ⟨some 182, _, _, _, _, _⟩) (v := ?vr17) rfl (by kernel_rfl) (by kernel_rfl) (by kernel_rfl) (fun _ _ _ h => h) (Or.inl ⟨by rfl, ?yr17⟩) hS ?rr17
          case yr17 => intro W hW; go_simp; first | done | with_reducible rfl
          simp only [Act.put, List.setIfInBounds_toArray, List.set_cons_zero, List.set_cons_succ]
          refine wpAnyH_take (i := 18) (oi := ⟨some 183, _, _, _, _, _⟩) (v := ?vr18) rfl (by kernel_rfl) (by kernel_rfl) (by kernel_rfl) (fun _ _ _ h => h) (Or.inl ⟨by rfl, ?yr18⟩) hS ?rr18
          case yr18 => intro W hW; have p1 := (hW.cell (p := ⟨gx, ox + 5, none⟩) hgx).trans c5'; go_simp; first | done | with_reducible rfl
          simp only [Act.put, List.setIfInBounds_toArray, List.set_cons_zero, List.set_cons_succ]
          refine wpAnyH_take (i := 19) (oi := ⟨some 184, _, _, _, _, _⟩) (v := ?vr19) rfl (by kernel_rfl) (by kernel_rfl) (by kernel_rfl) (fun _ _ _ h => h) (Or.inl ⟨by rfl, ?yr19⟩) hS ?rr19
          case yr19 => intro W hW; go_simp; first | done | with_reducible rfl
          simp only [Act.put, List.setIfInBounds_toArray, List.set_cons_zero, List.set_cons_succ]
          refine wpAnyH_take (i := 20) (oi := ⟨some 185, _, _, _, _, _⟩) (v := ?vr20) rfl (by kernel_rfl) (by kernel_rfl) (by kernel_rfl) (fun _ _ _ h => h) (Or.inl ⟨by rfl, ?yr20⟩) hS ?rr20
          case yr20 => intro W hW; go_simp; first | done | with_reducible rfl
          simp only [Act.put, List.setIfInBounds_toArray, List.set_cons_zero, List.set_cons_succ]
          refine wpAnyH_take (i := 21) (oi := ⟨some 186, _, _, _, _, _⟩) (v := ?vr21) rfl (by kernel_rfl) (by kernel_rfl) (by kernel_rfl) (fun _ _ _ h => h) (Or.inl ⟨by rfl, ?yr21⟩) hS ?rr21
          case yr21 => intro W hW; have p1 := (hW.cell (p := ⟨gx, ox + 6, none⟩) hgx).trans c6; go_simp; first | done | with_reducible rfl
          simp only [Act.put, List.setIfInBounds_toArray, List.set_cons_zero, List.set_cons_succ]
          refine wpAnyH_ready (rs := [22]) (by kernel_rfl) (by simp) ?_
          refine (AllReadyH.cons (o := ⟨some 187, _, _, _, _, _⟩) rfl (fun K hK_ => ?_) AllReadyH.nil)
          go_simp
          refine hK_.out _ _ (hS.alloc _) (fun hS3 => ?_)
          clear hK_ K
          refine wpAnyH_take (i := 23) (oi := ⟨some 14, _, _, _, _, _⟩) (v := ?vs23) rfl (by kernel_rfl) (by kernel_rfl) (by kernel_rfl) (fun _ _ _ h => h) (Or.inl ⟨by rfl, ?ys23⟩) hS3 ?rs23
          case ys23 => intro W hW; go_simp; first | done | with_reducible rfl
          simp only [Act.put, List.setIfInBounds_toArray, List.set_cons_zero, List.set_cons_succ]
          refine wpAnyH_done (by kernel_rfl) ?_ _
          have KF : Kept wC (we.alloc (.cells #[.int .u32 (v1 : Int), .int .u32 (a : Int), .int .u32 (b : Int), .int .u32 (c : Int), .int .u32 (v2 : Int), .int .u32 (e : Int), .int .u32 (f : Int), .int .u32 (g : Int)] 33)).drew := (hK.alloc _).drew
          have XF := ((Us.lit we [v1, a, b, c, v2, e, f, g] #[.int .u32 (v1 : Int), .int .u32 (a : Int), .int .u32 (b : Int), .int .u32 (c : Int), .int .u32 (v2 : Int), .int .u32 (e : Int), .int .u32 (f : Int), .int .u32 (g : Int)] rfl 8 rfl).drew).more (B' := (we.alloc (.cells #[.int .u32 (v1 : Int), .int .u32 (a : Int), .int .u32 (b : Int), .int .u32 (c : Int), .int .u32 (v2 : Int), .int .u32 (e : Int), .int .u32 (f : Int), .int .u32 (g : Int)] 33)).drew.heap.size) (by simp)
          clear hS3 hS hS0 c1 c2 c3 c5' c6 hX hK p6 p7
          go_wp2_with fail
          go_roundw
          case rel => exact ⟨_, _, k + 1, v1, a, b, c, v2, e, f, g, rfl, by go_num, by omega, XF, HBZ, HZ, KF⟩
          case measure => simp [intOf]; omega
        · have hk64 : k = 64 := by omega
          subst hk64
          have HP : Hid ((after ⟨sa, sb, sc, sd, se, sf, sg_, sh⟩ B9).list = (plus s0 ⟨a, b, c, d, e, f, g, h⟩).list) := by
            show _ = _
            rw [← HS0.out, HA.out, HR.out]
          have hdD := (hdC'.below hK).more hK.size
          have belD : Below w.heap.size w wr := belC.trans (hK.mono belC.size)
          clear HA HR HB HB0 HR0 hrC hWC hdC' hXC' lW
          generalize wr = wD at *
          go_wp2_with fail
          go_loopw [22, 23] (fun v22 v23 ws => ∃ (A : Option Addr) (cc j : Nat), v22 = .slice A j cc ∧ v23 = .int .i64 j ∧ j ≤ 8 ∧ OwnU ws wD.heap.size (.slice A j cc) j ((plus s0 ⟨a, b, c, d, e, f, g, h⟩).list.take j) ∧ Kept wD ws) (fun _ v _ => 8 - (intOf v).toNat)
          case atStart => exact ⟨_, 0, 0, rfl, rfl, by omega, ownU_empty wD wD.heap.size (Nat.le_refl _), (Below.refl _ _).alloc (Nat.le_refl _) _⟩
          case round =>
            obtain ⟨A6, c6, j, rfl, rfl, hj, hown, hKj⟩ := hrel
            have hszj := hKj.size
            by_cases hlt : j < 8
            · have cd := hdD.get rfl (k := j) hlt
              have cx := hX.get rfl (k := j) hlt
              have bd : gd < wD.heap.size := Nat.lt_of_lt_of_le hgd hK.size
              have HM := Lib.hid (plus_more s0 ⟨a, b, c, d, e, f, g, h⟩ j hlt)
              have hxl : E8.list ⟨a, b, c, d, e, f, g, h⟩ = [a, b, c, d, e, f, g, h] := rfl
              rw [hxl] at HM
              rw [vw] at cd cx
              have p6 := add_wrap (s0.list.getD j 0) (([a, b, c, d, e, f, g, h] : List Nat).getD j 0)
              generalize add (s0.list.getD j 0) (([a, b, c, d, e, f, g, h] : List Nat).getD j 0) = y at *
              generalize s0.list.getD j 0 = x1 at *
              generalize ([a, b, c, d, e, f, g, h] : List Nat).getD j 0 = x2 at *
              generalize (plus s0 ⟨a, b, c, d, e, f, g, h⟩).list.take j = L at *
              clear hxl
              go_wp2_with fail
              have hS0 : Kept wD wr.drew := hKj.drew
              refine wp_region_held_drew (S := fun W => Kept wD W) (by kernel_rfl) hS0 (fun hS => ?_)
              refine wpAnyH_take (i := 0) (oi := ⟨some 193, _, _, _, _, _⟩) (v := ?vq0) rfl (by kernel_rfl) (by kernel_rfl) (by kernel_rfl) (fun _ _ _ h => h) (Or.inl ⟨by rfl, ?yq0⟩) hS ?rq0
              case yq0 => intro W hW; go_simp; first | done | with_reducible rfl
              simp only [Act.put, List.setIfInBounds_toArray, List.set_cons_zero, List.set_cons_succ]
              refine wpAnyH_take (i := 1) (oi := ⟨some 194, _, _, _, _, _⟩) (v := ?vq1) rfl (by kernel_rfl) (by kernel_rfl) (by kernel_rfl) (fun _ _ _ h => h) (Or.inl ⟨by rfl, ?yq1⟩) hS ?rq1
              case yq1 => intro W hW; go_simp; first | done | with_reducible rfl
              simp only [Act.put, List.setIfInBounds_toArray, List.set_cons_zero, List.set_cons_succ]
              refine wpAnyH_take (i := 2) (oi := ⟨some 195, _, _, _, _, _⟩) (v := ?vq2) rfl (by kernel_rfl) (by kernel_rfl) (by kernel_rfl) (fun _ _ _ h => h) (Or.inl ⟨by rfl, ?yq2⟩) hS ?rq2
              case yq2 => intro W hW; go_simp; first | done | with_reducible rfl
              simp only [Act.put, List.setIfInBounds_toArray, List.set_cons_zero, List.set_cons_succ]
              refine wpAnyH_take (i := 3) (oi := ⟨some 196, _, _, _, _, _⟩) (v := ?vq3) rfl (by kernel_rfl) (by kernel_rfl) (by kernel_rfl) (fun _ _ _ h => h) (Or.inl ⟨by rfl, ?yq3⟩) hS ?rq3
              case yq3 => intro W hW; go_simp; first | done | with_reducible rfl
              simp only [Act.put, List.setIfInBounds_toArray, List.set_cons_zero, List.set_cons_succ]
              refine wpAnyH_take (i := 4) (oi := ⟨some 197, _, _, _, _, _⟩) (v := ?vq4) rfl (by kernel_rfl) (by kernel_rfl) (by kernel_rfl) (fun _ _ _ h => h) (Or.inl ⟨by rfl, ?yq4⟩) hS ?rq4
              case yq4 => intro W hW; have p1 := (hW.cell (p := ⟨gd, ofd + j, none⟩) bd).trans cd; go_simp; first | done | with_reducible rfl
              simp only [Act.put, List.setIfInBounds_toArray, List.set_cons_zero, List.set_cons_succ]
              refine wpAnyH_take (i := 5) (oi := ⟨some 198, _, _, _, _, _⟩) (v := ?vq5) rfl (by kernel_rfl) (by kernel_rfl) (by kernel_rfl) (fun _ _ _ h => h) (Or.inl ⟨by rfl, ?yq5⟩) hS ?rq5
              case yq5 => intro W hW; go_simp; first | done | with_reducible rfl
              simp only [Act.put, List.setIfInBounds_toArray, List.set_cons_zero, List.set_cons_succ]
              refine wpAnyH_take (i := 6) (oi := ⟨some 199, _, _, _, _, _⟩) (v := ?vq6) rfl (by kernel_rfl) (by kernel_rfl) (by kernel_rfl) (fun _ _ _ h => h) (Or.inl ⟨by rfl, ?yq6⟩) hS ?rq6
              case yq6 => intro W hW; go_simp; first | done | with_reducible rfl
              simp only [Act.put, List.setIfInBounds_toArray, List.set_cons_zero, List.set_cons_succ]
              refine wpAnyH_take (i := 7) (oi := ⟨some 200, _, _, _, _, _⟩) (v := ?vq7) rfl (by kernel_rfl) (by kernel_rfl) (by kernel_rfl) (fun _ _ _ h => h) (Or.inl ⟨by rfl, ?yq7⟩) hS ?rq7
              case yq7 => intro W hW; go_simp; first | done | with_reducible rfl
              simp only [Act.put, List.setIfInBounds_toArray, List.set_cons_zero, List.set_cons_succ]
              refine wpAnyH_take (i := 8) (oi := ⟨some 201, _, _, _, _, _⟩) (v := ?vq8) rfl (by kernel_rfl) (by kernel_rfl) (by kernel_rfl) (fun _ _ _ h => h) (Or.inl ⟨by rfl, ?yq8⟩) hS ?rq8
              case yq8 => intro W hW; have p1 := (hW.cell (p := ⟨gx, ox + j, none⟩) hgx).trans cx; go_simp; first | done | with_reducible rfl
              simp only [Act.put, List.setIfInBounds_toArray, List.set_cons_zero, List.set_cons_succ]
              refine wpAnyH_take (i := 9) (oi := ⟨some 202, _, _, _, _, _⟩) (v := ?vq9) rfl (by kernel_rfl) (by kernel_rfl) (by kernel_rfl) (fun _ _ _ h => h) (Or.inl ⟨by rfl, ?yq9⟩) hS ?rq9
              case yq9 => intro W hW; go_simp; first | done | with_reducible rfl
              simp only [Act.put, List.setIfInBounds_toArray, List.set_cons_zero, List.set_cons_succ]
              refine wpAnyH_ready (rs := [10]) (by kernel_rfl) (by simp) ?_
              refine (AllReadyH.cons (o := ⟨some 203, _, _, _, _, _⟩) rfl (fun K hK_ => ?_) AllReadyH.nil)
              go_simp
              refine hK_.out _ _ (hS.alloc _) (fun hS3 => ?_)
              clear hK_ K
              refine wpAnyH_ready (rs := [11]) (by kernel_rfl) (by simp) ?_
              refine (AllReadyH.cons (o := ⟨some 204, _, _, _, _, _⟩) rfl (fun K hK_ => ?_) AllReadyH.nil)
              refine step_appU _ rfl (.tmp 193) (.tmp 203) rfl wD.heap.size _ j L rfl (hown.alloc _).drew (wr.heap.size + 1) _ 1 1 [y] rfl (Us.lit wr [y] _ rfl 1 rfl).drew (by omega) (by simp; omega) (j + 1) (L ++ [y]) rfl rfl ?_
              intro A7 c7 w7 hc7 hS7 hown7 hbel7
              have K7 : Kept wD w7 := hS3.base hbel7
              refine hK_.out _ _ K7 (fun _ => ?_)
              clear hK_ K
              simp only [Act.put, List.setIfInBounds_toArray, List.set_cons_zero, List.set_cons_succ]
              refine wpAnyH_take (i := 12) (oi := ⟨some 22, _, _, _, _, _⟩) (v := ?vo12) rfl (by kernel_rfl) (by kernel_rfl) (by kernel_rfl) (fun _ _ _ h => h) (Or.inl ⟨by rfl, ?yo12⟩) K7 ?ro12
              case yo12 => intro W hW; go_simp; first | done | with_reducible rfl
              simp only [Act.put, List.setIfInBounds_toArray, List.set_cons_zero, List.set_cons_succ]
              refine wpAnyH_done (by kernel_rfl) ?_ _
              clear hS0 hS hS3 cd cx p6
              go_wp2_with fail
              go_roundw
              case rel =>
                refine ⟨_, _, _, _, _, _, _, _, _, _, _, _, _, _, _, _, _, _, ?_, rfl⟩
                exact ⟨A7, c7, j + 1, rfl, by go_num, by omega, by rw [← HM.out]; exact hown7, K7⟩
              case measure => simp [intOf]; omega
            · have hj8 : j = 8 := by omega
              subst hj8
              have ht : (plus s0 ⟨a, b, c, d, e, f, g, h⟩).list.take 8 = (plus s0 ⟨a, b, c, d, e, f, g, h⟩).list := rfl
              rw [ht] at hown
              obtain ⟨A', c', he, hcc', hU⟩ := hown.form
              injection he with he1 he2 he3
              subst he1 he3
              clear hown ht
              rw [← HP.out] at hU
              go_wp2_with fail
              go_ret
              exact ⟨_, _, rfl, hcc', hU, belD.trans (hKj.mono belD.size)⟩
end Go.Proofs.YtiigmpoopmnnhaaDoor
