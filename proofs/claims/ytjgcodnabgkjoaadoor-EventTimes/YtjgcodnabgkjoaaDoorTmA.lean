/-
  Walks of transeptlaw05.EventTimes, kind by kind: true; nothing that was there turns. Condition: the table of kinds holds what the program's text lays.
-/
import Derived.Test.YtjgcodnabgkjoaaDoorTm
namespace Go.Proofs.YtjgcodnabgkjoaaDoor
open Go.RowKit

set_option maxHeartbeats 400000 in
set_option maxRecDepth 100000 in
theorem times_1 (q : Int) (Q : Nat) (hq : bits .and .i64 q 65535 = (Q : Int)) (hQ : (Q : Int) % 14 = 0) (hQ2 : Q ≤ 65535) (tm id : Nat) (hst : tm < 18446744073709551616) (_hsi : id < 18446744073709551616) (s t : List UInt8) (hzs : s.length ≤ 9223372036854775807) (hzt : t.length ≤ 9223372036854775807) (w : World) (ht : Tab w) :
    Calls Tryd.prog 10 #[.int .i64 q, .int .u64 (tm : Int), .int .u64 (id : Int), .string (str s), .string (str t)] w fun r w' => r = .returned (.bool true) ∧ Below w.heap.size w w' := by
  have z1 : (str s).size = s.length := str_size s
  have z2 : (str t).size = t.length := str_size t
  obtain ⟨m, hm⟩ : ∃ m : Nat, m = min s.length 4000 := ⟨_, rfl⟩
  obtain ⟨p, hp⟩ : ∃ m : Nat, m = min t.length 4000 := ⟨_, rfl⟩
  have km : min (s.length : Int) 4000 = (m : Int) := by omega
  have kp : min (t.length : Int) 4000 = (p : Int) := by omega
  have jm : (m : Int) ≤ (s.length : Int) := by omega
  have jp : (p : Int) ≤ (t.length : Int) := by omega
  obtain ⟨S, hS⟩ : ∃ S, S = s.take m := ⟨_, rfl⟩
  obtain ⟨T, hT⟩ : ∃ S, S = t.take p := ⟨_, rfl⟩
  have xs : (str s).extract 0 m = str S := by rw [str_take, hS]
  have xt : (str t).extract 0 p = str T := by rw [str_take, hT]
  have lS : S.length ≤ 4000 := by rw [hS, List.length_take]; omega
  have lT : T.length ≤ 4000 := by rw [hT, List.length_take]; omega
  have hfine : Fine ⟨1, tm, 0, [S, [], [], []], [0, 0, 0]⟩ := by
    refine ⟨⟨rfl, rfl⟩, ⟨hst, by show (0 : Nat) < _; decide⟩, ?_⟩
    simp [rightE, rightT, rightN, goodT, goodN, hav]
    omega
  obtain ⟨ev, hev⟩ : ∃ ev : Ev, ev = ⟨1, tm, 0, [S, [], [], []], [0, 0, 0]⟩ := ⟨_, rfl⟩
  rw [← hev] at hfine
  have EN := fun W (hW : Tab W) => encode_any ev hfine.ok hfine.texts hfine.small.1 hfine.small.2 W hW
  have RV := fun W (hW : Tab W) => right_any ev hfine.ok hfine.texts W hW
  rw [hfine.right] at RV
  have zv := size24' hfine.ok
  have hlv : (evc ev).length = (evc ev0).length := by rw [evc_length hfine.ok, evc_length ev0_ok]
  have ov := evc_one ev
  have y24 := zero24
  have z0 : (Tryd.prog.info? 24).map (·.size) = some (evc ⟨1, tm, 0, [[], [], [], []], [0, 0, 0]⟩).length := size24
  have l0 : (evc ⟨1, tm, 0, [[], [], [], []], [0, 0, 0]⟩).length = (evc ev0).length := rfl
  have bT := build24t
  have HEN := Lib.hid EN
  have HRV := Lib.hid RV
  have HEV := Lib.hid hev
  clear EN RV hm hp hS hT hev
  go_enter Tryd.func10, Tryd.ntmps10
  go_wp2_with fail
  refine (shown_any w ht).mono ?_
  rintro r w1 ⟨rfl, b1⟩
  have t1 := ht.kept b1
  go_wp2_with (first
    | ((with_reducible show wpList _ _ _ (⟨some 35, _, _, _, _, _⟩ :: _) _ _); refine wp_build2 _ rfl 24 (.tmp 33) (.tmp 34) rfl _ _ rfl rfl _ (bT _ 1 tm) ?_; simp only [Act.put, List.setIfInBounds_toArray, List.set_cons_zero, List.set_cons_succ])
    | ((with_reducible show wpList _ _ _ (⟨some 12, _, _, _, _, _⟩ :: _) _ _); refine wp_new _ rfl 24 rfl _ y24 ?_; intro w2 g hB2 hf2; simp only [Act.put, List.setIfInBounds_toArray, List.set_cons_zero, List.set_cons_succ])
    | ((with_reducible show wpList _ _ _ (⟨none, .store 24 (.tmp 12) (.tmp 35), _, _, _, _⟩ :: _) _ _); refine wp_putAll _ rfl 24 (.tmp 12) (.tmp 35) rfl g 24 _ (evc ⟨1, tm, 0, [[], [], [], []], [0, 0, 0]⟩) rfl rfl hB2 l0 z0 (evc_one _) ?_; intro w3 V3 U3; simp only [Act.put])
    | ((with_reducible show wpList _ _ _ (⟨none, .store 9 (.tmp 48) _, _, _, _, _⟩ :: _) _ _); refine wp_set _ rfl 9 (.tmp 48) (.tmp 47) rfl g 3 24 _ (.string (str S)) rfl rfl rfl rfl V3 (by simp [evc]) size9 ?_; intro w4 V4' U4; have V4 : Blk w4 g 24 (evc ⟨1, tm, 0, [S, [], [], []], [0, 0, 0]⟩) := V4'; simp only [Act.put])
    | ((with_reducible show wpList _ _ _ (⟨some 82, _, _, _, _, _⟩ :: _) _ _); rw [← HEV.out] at V4; refine wp_getG _ (by rfl) 24 (.tmp 12) rfl g 0 (evc ev) _ rfl V4.whole Tryd.underlying24 rfl zv ?_; simp only [Act.put, List.setIfInBounds_toArray, List.set_cons_zero, List.set_cons_succ]))
  have hg : w.heap.size ≤ g := by have := hf2.is; have := b1.size; omega
  have hg0 : 1 ≤ g := by have := ht.1; omega
  have bb : Below w.heap.size w w4 := (((b1.trans (hf2.below.mono b1.size))).trans (U3.below hg)).trans (U4.below hg)
  have tt : Tab w4 := (((t1.kept hf2.below)).below (U3.below (B := 1) hg0) (by omega)).below (U4.below (B := 1) hg0) (by omega)
  have VV := V4
  clear hf2 hB2 U3 U4
  refine (HEN.out w4 tt).mono ?_
  rintro r x1 ⟨A5, n5, c5, rfl, hc5, hs5, ho5, e5⟩
  rw [(encF_right hfine.right).1] at hs5
  rw [(encF_right hfine.right).2]
  have hlen : n5 = (encB ev).length := hs5.1.symm
  have hn5 : n5 ≤ 20000 := by rw [hlen]; exact encB_len hfine.ok hfine.small hfine.right
  obtain ⟨q1, q2, q3⟩ := dec_of_enc hfine.ok hfine.small hfine.right
  rw [← hlen] at q1
  have tx1 := tt.kept e5
  have DE := decode_any A5 n5 c5 (encB ev) x1 tx1 hs5 hc5 (Own.cap ho5) (by omega)
  rw [q1, q2, q3] at DE
  have HDE := Lib.hid DE
  have VX := VV.kept e5
  have bx := bb.trans (e5.mono bb.size)
  clear DE q1 q2 q3 hlen ho5 hs5 VV bb tt e5 HEN
  go_wp2_with fail
  refine HDE.out.mono ?_
  rintro r x2 ⟨rfl, e6⟩
  have VY := VX.kept e6
  have by2 := bx.trans (e6.mono bx.size)
  have ty2 := tx1.kept e6
  have eVV : evEq ev ev = true := evEq_self ev
  clear VX bx tx1 e6 HDE
  go_wp2_with (first
    | ((with_reducible show wpList _ _ _ (⟨some 15, _, _, _, _, _⟩ :: _) _ _); refine wp_new _ rfl 24 rfl _ y24 ?_; intro x3 g15 hB15 hf15; simp only [Act.put, List.setIfInBounds_toArray, List.set_cons_zero, List.set_cons_succ])
    | ((with_reducible show wpList _ _ _ (⟨none, .store 24 (.tmp 15) _, _, _, _, _⟩ :: _) _ _); refine wp_putAll _ rfl 24 (.tmp 15) (.tmp 89) rfl g15 24 _ (evc ev) rfl rfl hB15 hlv zv ov ?_; intro x4 VZ UZ; have VW := (hf15.blk VY).upd UZ (by have := hf15.is; have := VY.lt; omega); simp only [Act.put])
    | ((with_reducible show wpList _ _ _ (⟨some 94, _, _, _, _, _⟩ :: _) _ _); refine wp_getG _ (by rfl) 24 (.tmp 12) rfl g 0 (evc ev) _ rfl VW.whole Tryd.underlying24 rfl zv ?_; simp only [Act.put, List.setIfInBounds_toArray, List.set_cons_zero, List.set_cons_succ]))
  have bz : Below w.heap.size w x4 := (by2.trans (hf15.below.mono by2.size)).trans (UZ.below (by have := hf15.is; have := by2.size; omega))
  have tz : Tab x4 := (ty2.kept hf15.below).below (UZ.below (B := 1) (by have := hf15.is; have := ty2.1; omega)) (by omega)
  refine (HRV.out x4 tz).mono ?_
  rintro r x5 ⟨rfl, e7⟩
  have VA := VZ.kept e7
  have VB := VW.kept e7
  have bf := bz.trans (e7.mono bz.size)
  clear VZ VW bz tz e7 UZ hf15 hB15 VY by2 ty2 HRV
  go_wp2_with (first
    | ((with_reducible show wpList _ _ _ (⟨some 106, _, _, _, _, _⟩ :: _) _ _); refine wp_getG _ (by rfl) 24 (.tmp 15) rfl g15 0 (evc ev) _ rfl VA.whole Tryd.underlying24 rfl zv ?_; simp only [Act.put, List.setIfInBounds_toArray, List.set_cons_zero, List.set_cons_succ])
    | ((with_reducible show wpList _ _ _ (⟨some 107, _, _, _, _, _⟩ :: _) _ _); refine wp_getG _ (by rfl) 24 (.tmp 12) rfl g 0 (evc ev) _ rfl VB.whole Tryd.underlying24 rfl zv ?_; simp only [Act.put, List.setIfInBounds_toArray, List.set_cons_zero, List.set_cons_succ])
    | ((with_reducible show wpList _ _ _ (⟨some 108, _, _, _, _, _⟩ :: _) _ _); refine wp_eqE _ (by rfl) (.tmp 106) (.tmp 107) rfl ev ev hfine.ok hfine.ok rfl rfl true eVV ?_; simp only [Act.put, List.setIfInBounds_toArray, List.set_cons_zero, List.set_cons_succ]))
  go_ret
  exact ⟨rfl, bf⟩

set_option maxHeartbeats 400000 in
set_option maxRecDepth 100000 in
theorem times_2 (q : Int) (Q : Nat) (hq : bits .and .i64 q 65535 = (Q : Int)) (hQ : (Q : Int) % 14 = 1) (hQ2 : Q ≤ 65535) (tm id : Nat) (hst : tm < 18446744073709551616) (_hsi : id < 18446744073709551616) (s t : List UInt8) (hzs : s.length ≤ 9223372036854775807) (hzt : t.length ≤ 9223372036854775807) (w : World) (ht : Tab w) :
    Calls Tryd.prog 10 #[.int .i64 q, .int .u64 (tm : Int), .int .u64 (id : Int), .string (str s), .string (str t)] w fun r w' => r = .returned (.bool true) ∧ Below w.heap.size w w' := by
  have z1 : (str s).size = s.length := str_size s
  have z2 : (str t).size = t.length := str_size t
  obtain ⟨m, hm⟩ : ∃ m : Nat, m = min s.length 4000 := ⟨_, rfl⟩
  obtain ⟨p, hp⟩ : ∃ m : Nat, m = min t.length 4000 := ⟨_, rfl⟩
  have km : min (s.length : Int) 4000 = (m : Int) := by omega
  have kp : min (t.length : Int) 4000 = (p : Int) := by omega
  have jm : (m : Int) ≤ (s.length : Int) := by omega
  have jp : (p : Int) ≤ (t.length : Int) := by omega
  obtain ⟨S, hS⟩ : ∃ S, S = s.take m := ⟨_, rfl⟩
  obtain ⟨T, hT⟩ : ∃ S, S = t.take p := ⟨_, rfl⟩
  have xs : (str s).extract 0 m = str S := by rw [str_take, hS]
  have xt : (str t).extract 0 p = str T := by rw [str_take, hT]
  have lS : S.length ≤ 4000 := by rw [hS, List.length_take]; omega
  have lT : T.length ≤ 4000 := by rw [hT, List.length_take]; omega
  have hfine : Fine ⟨2, tm, 0, [S, [], [], []], [0, 0, 0]⟩ := by
    refine ⟨⟨rfl, rfl⟩, ⟨hst, by show (0 : Nat) < _; decide⟩, ?_⟩
    simp [rightE, rightT, rightN, goodT, goodN, hav]
    omega
  obtain ⟨ev, hev⟩ : ∃ ev : Ev, ev = ⟨2, tm, 0, [S, [], [], []], [0, 0, 0]⟩ := ⟨_, rfl⟩
  rw [← hev] at hfine
  have EN := fun W (hW : Tab W) => encode_any ev hfine.ok hfine.texts hfine.small.1 hfine.small.2 W hW
  have RV := fun W (hW : Tab W) => right_any ev hfine.ok hfine.texts W hW
  rw [hfine.right] at RV
  have zv := size24' hfine.ok
  have hlv : (evc ev).length = (evc ev0).length := by rw [evc_length hfine.ok, evc_length ev0_ok]
  have ov := evc_one ev
  have y24 := zero24
  have z0 : (Tryd.prog.info? 24).map (·.size) = some (evc ⟨2, tm, 0, [[], [], [], []], [0, 0, 0]⟩).length := size24
  have l0 : (evc ⟨2, tm, 0, [[], [], [], []], [0, 0, 0]⟩).length = (evc ev0).length := rfl
  have bT := build24t
  have HEN := Lib.hid EN
  have HRV := Lib.hid RV
  have HEV := Lib.hid hev
  clear EN RV hm hp hS hT hev
  go_enter Tryd.func10, Tryd.ntmps10
  go_wp2_with fail
  refine (shown_any w ht).mono ?_
  rintro r w1 ⟨rfl, b1⟩
  have t1 := ht.kept b1
  go_wp2_with (first
    | ((with_reducible show wpList _ _ _ (⟨some 35, _, _, _, _, _⟩ :: _) _ _); refine wp_build2 _ rfl 24 (.tmp 33) (.tmp 34) rfl _ _ rfl rfl _ (bT _ 2 tm) ?_; simp only [Act.put, List.setIfInBounds_toArray, List.set_cons_zero, List.set_cons_succ])
    | ((with_reducible show wpList _ _ _ (⟨some 12, _, _, _, _, _⟩ :: _) _ _); refine wp_new _ rfl 24 rfl _ y24 ?_; intro w2 g hB2 hf2; simp only [Act.put, List.setIfInBounds_toArray, List.set_cons_zero, List.set_cons_succ])
    | ((with_reducible show wpList _ _ _ (⟨none, .store 24 (.tmp 12) (.tmp 35), _, _, _, _⟩ :: _) _ _); refine wp_putAll _ rfl 24 (.tmp 12) (.tmp 35) rfl g 24 _ (evc ⟨2, tm, 0, [[], [], [], []], [0, 0, 0]⟩) rfl rfl hB2 l0 z0 (evc_one _) ?_; intro w3 V3 U3; simp only [Act.put])
    | ((with_reducible show wpList _ _ _ (⟨none, .store 9 (.tmp 48) _, _, _, _, _⟩ :: _) _ _); refine wp_set _ rfl 9 (.tmp 48) (.tmp 47) rfl g 3 24 _ (.string (str S)) rfl rfl rfl rfl V3 (by simp [evc]) size9 ?_; intro w4 V4' U4; have V4 : Blk w4 g 24 (evc ⟨2, tm, 0, [S, [], [], []], [0, 0, 0]⟩) := V4'; simp only [Act.put])
    | ((with_reducible show wpList _ _ _ (⟨some 82, _, _, _, _, _⟩ :: _) _ _); rw [← HEV.out] at V4; refine wp_getG _ (by rfl) 24 (.tmp 12) rfl g 0 (evc ev) _ rfl V4.whole Tryd.underlying24 rfl zv ?_; simp only [Act.put, List.setIfInBounds_toArray, List.set_cons_zero, List.set_cons_succ]))
  have hg : w.heap.size ≤ g := by have := hf2.is; have := b1.size; omega
  have hg0 : 1 ≤ g := by have := ht.1; omega
  have bb : Below w.heap.size w w4 := (((b1.trans (hf2.below.mono b1.size))).trans (U3.below hg)).trans (U4.below hg)
  have tt : Tab w4 := (((t1.kept hf2.below)).below (U3.below (B := 1) hg0) (by omega)).below (U4.below (B := 1) hg0) (by omega)
  have VV := V4
  clear hf2 hB2 U3 U4
  refine (HEN.out w4 tt).mono ?_
  rintro r x1 ⟨A5, n5, c5, rfl, hc5, hs5, ho5, e5⟩
  rw [(encF_right hfine.right).1] at hs5
  rw [(encF_right hfine.right).2]
  have hlen : n5 = (encB ev).length := hs5.1.symm
  have hn5 : n5 ≤ 20000 := by rw [hlen]; exact encB_len hfine.ok hfine.small hfine.right
  obtain ⟨q1, q2, q3⟩ := dec_of_enc hfine.ok hfine.small hfine.right
  rw [← hlen] at q1
  have tx1 := tt.kept e5
  have DE := decode_any A5 n5 c5 (encB ev) x1 tx1 hs5 hc5 (Own.cap ho5) (by omega)
  rw [q1, q2, q3] at DE
  have HDE := Lib.hid DE
  have VX := VV.kept e5
  have bx := bb.trans (e5.mono bb.size)
  clear DE q1 q2 q3 hlen ho5 hs5 VV bb tt e5 HEN
  go_wp2_with fail
  refine HDE.out.mono ?_
  rintro r x2 ⟨rfl, e6⟩
  have VY := VX.kept e6
  have by2 := bx.trans (e6.mono bx.size)
  have ty2 := tx1.kept e6
  have eVV : evEq ev ev = true := evEq_self ev
  clear VX bx tx1 e6 HDE
  go_wp2_with (first
    | ((with_reducible show wpList _ _ _ (⟨some 15, _, _, _, _, _⟩ :: _) _ _); refine wp_new _ rfl 24 rfl _ y24 ?_; intro x3 g15 hB15 hf15; simp only [Act.put, List.setIfInBounds_toArray, List.set_cons_zero, List.set_cons_succ])
    | ((with_reducible show wpList _ _ _ (⟨none, .store 24 (.tmp 15) _, _, _, _, _⟩ :: _) _ _); refine wp_putAll _ rfl 24 (.tmp 15) (.tmp 89) rfl g15 24 _ (evc ev) rfl rfl hB15 hlv zv ov ?_; intro x4 VZ UZ; have VW := (hf15.blk VY).upd UZ (by have := hf15.is; have := VY.lt; omega); simp only [Act.put])
    | ((with_reducible show wpList _ _ _ (⟨some 94, _, _, _, _, _⟩ :: _) _ _); refine wp_getG _ (by rfl) 24 (.tmp 12) rfl g 0 (evc ev) _ rfl VW.whole Tryd.underlying24 rfl zv ?_; simp only [Act.put, List.setIfInBounds_toArray, List.set_cons_zero, List.set_cons_succ]))
  have bz : Below w.heap.size w x4 := (by2.trans (hf15.below.mono by2.size)).trans (UZ.below (by have := hf15.is; have := by2.size; omega))
  have tz : Tab x4 := (ty2.kept hf15.below).below (UZ.below (B := 1) (by have := hf15.is; have := ty2.1; omega)) (by omega)
  refine (HRV.out x4 tz).mono ?_
  rintro r x5 ⟨rfl, e7⟩
  have VA := VZ.kept e7
  have VB := VW.kept e7
  have bf := bz.trans (e7.mono bz.size)
  clear VZ VW bz tz e7 UZ hf15 hB15 VY by2 ty2 HRV
  go_wp2_with (first
    | ((with_reducible show wpList _ _ _ (⟨some 106, _, _, _, _, _⟩ :: _) _ _); refine wp_getG _ (by rfl) 24 (.tmp 15) rfl g15 0 (evc ev) _ rfl VA.whole Tryd.underlying24 rfl zv ?_; simp only [Act.put, List.setIfInBounds_toArray, List.set_cons_zero, List.set_cons_succ])
    | ((with_reducible show wpList _ _ _ (⟨some 107, _, _, _, _, _⟩ :: _) _ _); refine wp_getG _ (by rfl) 24 (.tmp 12) rfl g 0 (evc ev) _ rfl VB.whole Tryd.underlying24 rfl zv ?_; simp only [Act.put, List.setIfInBounds_toArray, List.set_cons_zero, List.set_cons_succ])
    | ((with_reducible show wpList _ _ _ (⟨some 108, _, _, _, _, _⟩ :: _) _ _); refine wp_eqE _ (by rfl) (.tmp 106) (.tmp 107) rfl ev ev hfine.ok hfine.ok rfl rfl true eVV ?_; simp only [Act.put, List.setIfInBounds_toArray, List.set_cons_zero, List.set_cons_succ]))
  go_ret
  exact ⟨rfl, bf⟩

set_option maxHeartbeats 400000 in
set_option maxRecDepth 100000 in
theorem times_3 (q : Int) (Q : Nat) (hq : bits .and .i64 q 65535 = (Q : Int)) (hQ : (Q : Int) % 14 = 2) (hQ2 : Q ≤ 65535) (tm id : Nat) (hst : tm < 18446744073709551616) (hsi : id < 18446744073709551616) (s t : List UInt8) (hzs : s.length ≤ 9223372036854775807) (hzt : t.length ≤ 9223372036854775807) (w : World) (ht : Tab w) :
    Calls Tryd.prog 10 #[.int .i64 q, .int .u64 (tm : Int), .int .u64 (id : Int), .string (str s), .string (str t)] w fun r w' => r = .returned (.bool true) ∧ Below w.heap.size w w' := by
  have z1 : (str s).size = s.length := str_size s
  have z2 : (str t).size = t.length := str_size t
  obtain ⟨m, hm⟩ : ∃ m : Nat, m = min s.length 4000 := ⟨_, rfl⟩
  obtain ⟨p, hp⟩ : ∃ m : Nat, m = min t.length 4000 := ⟨_, rfl⟩
  have km : min (s.length : Int) 4000 = (m : Int) := by omega
  have kp : min (t.length : Int) 4000 = (p : Int) := by omega
  have jm : (m : Int) ≤ (s.length : Int) := by omega
  have jp : (p : Int) ≤ (t.length : Int) := by omega
  obtain ⟨S, hS⟩ : ∃ S, S = s.take m := ⟨_, rfl⟩
  obtain ⟨T, hT⟩ : ∃ S, S = t.take p := ⟨_, rfl⟩
  have xs : (str s).extract 0 m = str S := by rw [str_take, hS]
  have xt : (str t).extract 0 p = str T := by rw [str_take, hT]
  have lS : S.length ≤ 4000 := by rw [hS, List.length_take]; omega
  have lT : T.length ≤ 4000 := by rw [hT, List.length_take]; omega
  obtain ⟨I, hI⟩ : ∃ I : Nat, I = max id 1 := ⟨_, rfl⟩
  have kI : max (id : Int) 1 = (I : Int) := by omega
  have I1 : I ≠ 0 := by omega
  have I2 : I < 18446744073709551616 := by omega
  have hfine : Fine ⟨3, tm, I, [S, T, T, S], [3, 2, 1]⟩ := by
    refine ⟨⟨rfl, rfl⟩, ⟨hst, I2⟩, ?_⟩
    simp [rightE, rightT, rightN, goodT, goodN, hav, I1]
    omega
  obtain ⟨ev, hev⟩ : ∃ ev : Ev, ev = ⟨3, tm, I, [S, T, T, S], [3, 2, 1]⟩ := ⟨_, rfl⟩
  rw [← hev] at hfine
  have EN := fun W (hW : Tab W) => encode_any ev hfine.ok hfine.texts hfine.small.1 hfine.small.2 W hW
  have RV := fun W (hW : Tab W) => right_any ev hfine.ok hfine.texts W hW
  rw [hfine.right] at RV
  have zv := size24' hfine.ok
  have hlv : (evc ev).length = (evc ev0).length := by rw [evc_length hfine.ok, evc_length ev0_ok]
  have ov := evc_one ev
  have y24 := zero24
  have z0 : (Tryd.prog.info? 24).map (·.size) = some (evc ⟨3, tm, 0, [[], [], [], []], [0, 0, 0]⟩).length := size24
  have l0 : (evc ⟨3, tm, 0, [[], [], [], []], [0, 0, 0]⟩).length = (evc ev0).length := rfl
  have bT := build24t
  have HEN := Lib.hid EN
  have HRV := Lib.hid RV
  have HEV := Lib.hid hev
  clear EN RV hm hp hS hT hev hI
  go_enter Tryd.func10, Tryd.ntmps10
  go_wp2_with fail
  refine (shown_any w ht).mono ?_
  rintro r w1 ⟨rfl, b1⟩
  have t1 := ht.kept b1
  have l5 : (evc ev).length = (evc ⟨3, tm, I, [[], [], [], []], [0, 0, 0]⟩).length := by rw [evc_length hfine.ok]; rfl
  go_wp2_with (first
    | ((with_reducible show wpList _ _ _ (⟨some 35, _, _, _, _, _⟩ :: _) _ _); refine wp_build2 _ rfl 24 (.tmp 33) (.tmp 34) rfl _ _ rfl rfl _ (bT _ 3 tm) ?_; simp only [Act.put, List.setIfInBounds_toArray, List.set_cons_zero, List.set_cons_succ])
    | ((with_reducible show wpList _ _ _ (⟨some 12, _, _, _, _, _⟩ :: _) _ _); refine wp_new _ rfl 24 rfl _ y24 ?_; intro w2 g hB2 hf2; simp only [Act.put, List.setIfInBounds_toArray, List.set_cons_zero, List.set_cons_succ])
    | ((with_reducible show wpList _ _ _ (⟨none, .store 24 (.tmp 12) (.tmp 35), _, _, _, _⟩ :: _) _ _); refine wp_putAll _ rfl 24 (.tmp 12) (.tmp 35) rfl g 24 _ (evc ⟨3, tm, 0, [[], [], [], []], [0, 0, 0]⟩) rfl rfl hB2 l0 z0 (evc_one _) ?_; intro w3 V3 U3; simp only [Act.put])
    | ((with_reducible show wpList _ _ _ (⟨none, .store 22 (.tmp 40) _, _, _, _, _⟩ :: _) _ _); refine wp_set _ rfl 22 (.tmp 40) (.tmp 39) rfl g 2 24 _ (.int .u64 (I : Int)) rfl rfl rfl rfl V3 (by simp [evc]) size22 ?_; intro w4 V4' U4; have V4 : Blk w4 g 24 (evc ⟨3, tm, I, [[], [], [], []], [0, 0, 0]⟩) := V4'; have i4 : w4.cell? ⟨g, 2, none⟩ = some (.int .u64 (I : Int)) := V4.cell rfl; simp only [Act.put])
    | ((with_reducible show wpList _ _ _ (⟨some 67, _, _, _, _, _⟩ :: _) _ _); refine wp_build10 _ rfl (.tmp 59) (.tmp 60) (.tmp 62) (.tmp 63) (.tmp 64) (.tmp 65) (.tmp 66) _ _ _ rfl 3 tm I S T T S 3 2 1 rfl rfl rfl rfl rfl rfl rfl rfl rfl rfl ?_; rw [← HEV.out]; simp only [Act.put, List.setIfInBounds_toArray, List.set_cons_zero, List.set_cons_succ])
    | ((with_reducible show wpList _ _ _ (⟨none, .store 24 (.tmp 12) (.tmp 67), _, _, _, _⟩ :: _) _ _); refine wp_putAll _ rfl 24 (.tmp 12) (.tmp 67) rfl g 24 _ (evc ev) rfl rfl V4 l5 zv ov ?_; intro w5 V5 U5; simp only [Act.put])
    | ((with_reducible show wpList _ _ _ (⟨some 82, _, _, _, _, _⟩ :: _) _ _); refine wp_getG _ (by rfl) 24 (.tmp 12) rfl g 0 (evc ev) _ rfl V5.whole Tryd.underlying24 rfl zv ?_; simp only [Act.put, List.setIfInBounds_toArray, List.set_cons_zero, List.set_cons_succ]))
  have hg : w.heap.size ≤ g := by have := hf2.is; have := b1.size; omega
  have hg0 : 1 ≤ g := by have := ht.1; omega
  have bb : Below w.heap.size w w5 := ((((b1.trans (hf2.below.mono b1.size))).trans (U3.below hg)).trans (U4.below hg)).trans (U5.below hg)
  have tt : Tab w5 := ((((t1.kept hf2.below)).below (U3.below (B := 1) hg0) (by omega)).below (U4.below (B := 1) hg0) (by omega)).below (U5.below (B := 1) hg0) (by omega)
  have VV := V5
  clear hf2 hB2 U3 U4 U5
  refine (HEN.out w5 tt).mono ?_
  rintro r x1 ⟨A5, n5, c5, rfl, hc5, hs5, ho5, e5⟩
  rw [(encF_right hfine.right).1] at hs5
  rw [(encF_right hfine.right).2]
  have hlen : n5 = (encB ev).length := hs5.1.symm
  have hn5 : n5 ≤ 20000 := by rw [hlen]; exact encB_len hfine.ok hfine.small hfine.right
  obtain ⟨q1, q2, q3⟩ := dec_of_enc hfine.ok hfine.small hfine.right
  rw [← hlen] at q1
  have tx1 := tt.kept e5
  have DE := decode_any A5 n5 c5 (encB ev) x1 tx1 hs5 hc5 (Own.cap ho5) (by omega)
  rw [q1, q2, q3] at DE
  have HDE := Lib.hid DE
  have VX := VV.kept e5
  have bx := bb.trans (e5.mono bb.size)
  clear DE q1 q2 q3 hlen ho5 hs5 VV bb tt e5 HEN
  go_wp2_with fail
  refine HDE.out.mono ?_
  rintro r x2 ⟨rfl, e6⟩
  have VY := VX.kept e6
  have by2 := bx.trans (e6.mono bx.size)
  have ty2 := tx1.kept e6
  have eVV : evEq ev ev = true := evEq_self ev
  clear VX bx tx1 e6 HDE
  go_wp2_with (first
    | ((with_reducible show wpList _ _ _ (⟨some 15, _, _, _, _, _⟩ :: _) _ _); refine wp_new _ rfl 24 rfl _ y24 ?_; intro x3 g15 hB15 hf15; simp only [Act.put, List.setIfInBounds_toArray, List.set_cons_zero, List.set_cons_succ])
    | ((with_reducible show wpList _ _ _ (⟨none, .store 24 (.tmp 15) _, _, _, _, _⟩ :: _) _ _); refine wp_putAll _ rfl 24 (.tmp 15) (.tmp 89) rfl g15 24 _ (evc ev) rfl rfl hB15 hlv zv ov ?_; intro x4 VZ UZ; have VW := (hf15.blk VY).upd UZ (by have := hf15.is; have := VY.lt; omega); simp only [Act.put])
    | ((with_reducible show wpList _ _ _ (⟨some 94, _, _, _, _, _⟩ :: _) _ _); refine wp_getG _ (by rfl) 24 (.tmp 12) rfl g 0 (evc ev) _ rfl VW.whole Tryd.underlying24 rfl zv ?_; simp only [Act.put, List.setIfInBounds_toArray, List.set_cons_zero, List.set_cons_succ]))
  have bz : Below w.heap.size w x4 := (by2.trans (hf15.below.mono by2.size)).trans (UZ.below (by have := hf15.is; have := by2.size; omega))
  have tz : Tab x4 := (ty2.kept hf15.below).below (UZ.below (B := 1) (by have := hf15.is; have := ty2.1; omega)) (by omega)
  refine (HRV.out x4 tz).mono ?_
  rintro r x5 ⟨rfl, e7⟩
  have VA := VZ.kept e7
  have VB := VW.kept e7
  have bf := bz.trans (e7.mono bz.size)
  clear VZ VW bz tz e7 UZ hf15 hB15 VY by2 ty2 HRV
  go_wp2_with (first
    | ((with_reducible show wpList _ _ _ (⟨some 106, _, _, _, _, _⟩ :: _) _ _); refine wp_getG _ (by rfl) 24 (.tmp 15) rfl g15 0 (evc ev) _ rfl VA.whole Tryd.underlying24 rfl zv ?_; simp only [Act.put, List.setIfInBounds_toArray, List.set_cons_zero, List.set_cons_succ])
    | ((with_reducible show wpList _ _ _ (⟨some 107, _, _, _, _, _⟩ :: _) _ _); refine wp_getG _ (by rfl) 24 (.tmp 12) rfl g 0 (evc ev) _ rfl VB.whole Tryd.underlying24 rfl zv ?_; simp only [Act.put, List.setIfInBounds_toArray, List.set_cons_zero, List.set_cons_succ])
    | ((with_reducible show wpList _ _ _ (⟨some 108, _, _, _, _, _⟩ :: _) _ _); refine wp_eqE _ (by rfl) (.tmp 106) (.tmp 107) rfl ev ev hfine.ok hfine.ok rfl rfl true eVV ?_; simp only [Act.put, List.setIfInBounds_toArray, List.set_cons_zero, List.set_cons_succ]))
  go_ret
  exact ⟨rfl, bf⟩

set_option maxHeartbeats 400000 in
set_option maxRecDepth 100000 in
theorem times_4 (q : Int) (Q : Nat) (hq : bits .and .i64 q 65535 = (Q : Int)) (hQ : (Q : Int) % 14 = 3) (hQ2 : Q ≤ 65535) (tm id : Nat) (hst : tm < 18446744073709551616) (hsi : id < 18446744073709551616) (s t : List UInt8) (hzs : s.length ≤ 9223372036854775807) (hzt : t.length ≤ 9223372036854775807) (w : World) (ht : Tab w) :
    Calls Tryd.prog 10 #[.int .i64 q, .int .u64 (tm : Int), .int .u64 (id : Int), .string (str s), .string (str t)] w fun r w' => r = .returned (.bool true) ∧ Below w.heap.size w w' := by
  have z1 : (str s).size = s.length := str_size s
  have z2 : (str t).size = t.length := str_size t
  obtain ⟨m, hm⟩ : ∃ m : Nat, m = min s.length 4000 := ⟨_, rfl⟩
  obtain ⟨p, hp⟩ : ∃ m : Nat, m = min t.length 4000 := ⟨_, rfl⟩
  have km : min (s.length : Int) 4000 = (m : Int) := by omega
  have kp : min (t.length : Int) 4000 = (p : Int) := by omega
  have jm : (m : Int) ≤ (s.length : Int) := by omega
  have jp : (p : Int) ≤ (t.length : Int) := by omega
  obtain ⟨S, hS⟩ : ∃ S, S = s.take m := ⟨_, rfl⟩
  obtain ⟨T, hT⟩ : ∃ S, S = t.take p := ⟨_, rfl⟩
  have xs : (str s).extract 0 m = str S := by rw [str_take, hS]
  have xt : (str t).extract 0 p = str T := by rw [str_take, hT]
  have lS : S.length ≤ 4000 := by rw [hS, List.length_take]; omega
  have lT : T.length ≤ 4000 := by rw [hT, List.length_take]; omega
  obtain ⟨I, hI⟩ : ∃ I : Nat, I = max id 1 := ⟨_, rfl⟩
  have kI : max (id : Int) 1 = (I : Int) := by omega
  have I1 : I ≠ 0 := by omega
  have I2 : I < 18446744073709551616 := by omega
  have hfine : Fine ⟨4, tm, I, [S, T, [], []], [0, 0, 0]⟩ := by
    refine ⟨⟨rfl, rfl⟩, ⟨hst, I2⟩, ?_⟩
    simp [rightE, rightT, rightN, goodT, goodN, hav, I1]
    omega
  obtain ⟨ev, hev⟩ : ∃ ev : Ev, ev = ⟨4, tm, I, [S, T, [], []], [0, 0, 0]⟩ := ⟨_, rfl⟩
  rw [← hev] at hfine
  have EN := fun W (hW : Tab W) => encode_any ev hfine.ok hfine.texts hfine.small.1 hfine.small.2 W hW
  have RV := fun W (hW : Tab W) => right_any ev hfine.ok hfine.texts W hW
  rw [hfine.right] at RV
  have zv := size24' hfine.ok
  have hlv : (evc ev).length = (evc ev0).length := by rw [evc_length hfine.ok, evc_length ev0_ok]
  have ov := evc_one ev
  have y24 := zero24
  have z0 : (Tryd.prog.info? 24).map (·.size) = some (evc ⟨4, tm, 0, [[], [], [], []], [0, 0, 0]⟩).length := size24
  have l0 : (evc ⟨4, tm, 0, [[], [], [], []], [0, 0, 0]⟩).length = (evc ev0).length := rfl
  have bT := build24t
  have HEN := Lib.hid EN
  have HRV := Lib.hid RV
  have HEV := Lib.hid hev
  clear EN RV hm hp hS hT hev hI
  go_enter Tryd.func10, Tryd.ntmps10
  go_wp2_with fail
  refine (shown_any w ht).mono ?_
  rintro r w1 ⟨rfl, b1⟩
  have t1 := ht.kept b1
  go_wp2_with (first
    | ((with_reducible show wpList _ _ _ (⟨some 35, _, _, _, _, _⟩ :: _) _ _); refine wp_build2 _ rfl 24 (.tmp 33) (.tmp 34) rfl _ _ rfl rfl _ (bT _ 4 tm) ?_; simp only [Act.put, List.setIfInBounds_toArray, List.set_cons_zero, List.set_cons_succ])
    | ((with_reducible show wpList _ _ _ (⟨some 12, _, _, _, _, _⟩ :: _) _ _); refine wp_new _ rfl 24 rfl _ y24 ?_; intro w2 g hB2 hf2; simp only [Act.put, List.setIfInBounds_toArray, List.set_cons_zero, List.set_cons_succ])
    | ((with_reducible show wpList _ _ _ (⟨none, .store 24 (.tmp 12) (.tmp 35), _, _, _, _⟩ :: _) _ _); refine wp_putAll _ rfl 24 (.tmp 12) (.tmp 35) rfl g 24 _ (evc ⟨4, tm, 0, [[], [], [], []], [0, 0, 0]⟩) rfl rfl hB2 l0 z0 (evc_one _) ?_; intro w3 V3 U3; simp only [Act.put])
    | ((with_reducible show wpList _ _ _ (⟨none, .store 22 (.tmp 40) _, _, _, _, _⟩ :: _) _ _); refine wp_set _ rfl 22 (.tmp 40) (.tmp 39) rfl g 2 24 _ (.int .u64 (I : Int)) rfl rfl rfl rfl V3 (by simp [evc]) size22 ?_; intro w4 V4' U4; have V4 : Blk w4 g 24 (evc ⟨4, tm, I, [[], [], [], []], [0, 0, 0]⟩) := V4'; simp only [Act.put])
    | ((with_reducible show wpList _ _ _ (⟨none, .store 9 (.tmp 54) _, _, _, _, _⟩ :: _) _ _); refine wp_set _ rfl 9 (.tmp 54) (.tmp 53) rfl g 3 24 _ (.string (str S)) rfl rfl rfl rfl V4 (by simp [evc]) size9 ?_; intro w5 V5' U5; have V5 : Blk w5 g 24 (evc ⟨4, tm, I, [S, [], [], []], [0, 0, 0]⟩) := V5'; simp only [Act.put])
    | ((with_reducible show wpList _ _ _ (⟨none, .store 9 (.tmp 56) _, _, _, _, _⟩ :: _) _ _); refine wp_set _ rfl 9 (.tmp 56) (.tmp 55) rfl g 4 24 _ (.string (str T)) rfl rfl rfl rfl V5 (by simp [evc]) size9 ?_; intro w6 V6' U6; have V6 : Blk w6 g 24 (evc ⟨4, tm, I, [S, T, [], []], [0, 0, 0]⟩) := V6'; simp only [Act.put])
    | ((with_reducible show wpList _ _ _ (⟨some 82, _, _, _, _, _⟩ :: _) _ _); rw [← HEV.out] at V6; refine wp_getG _ (by rfl) 24 (.tmp 12) rfl g 0 (evc ev) _ rfl V6.whole Tryd.underlying24 rfl zv ?_; simp only [Act.put, List.setIfInBounds_toArray, List.set_cons_zero, List.set_cons_succ]))
  have hg : w.heap.size ≤ g := by have := hf2.is; have := b1.size; omega
  have hg0 : 1 ≤ g := by have := ht.1; omega
  have bb : Below w.heap.size w w6 := (((((b1.trans (hf2.below.mono b1.size))).trans (U3.below hg)).trans (U4.below hg)).trans (U5.below hg)).trans (U6.below hg)
  have tt : Tab w6 := (((((t1.kept hf2.below)).below (U3.below (B := 1) hg0) (by omega)).below (U4.below (B := 1) hg0) (by omega)).below (U5.below (B := 1) hg0) (by omega)).below (U6.below (B := 1) hg0) (by omega)
  have VV := V6
  clear hf2 hB2 U3 U4 U5 U6
  refine (HEN.out w6 tt).mono ?_
  rintro r x1 ⟨A5, n5, c5, rfl, hc5, hs5, ho5, e5⟩
  rw [(encF_right hfine.right).1] at hs5
  rw [(encF_right hfine.right).2]
  have hlen : n5 = (encB ev).length := hs5.1.symm
  have hn5 : n5 ≤ 20000 := by rw [hlen]; exact encB_len hfine.ok hfine.small hfine.right
  obtain ⟨q1, q2, q3⟩ := dec_of_enc hfine.ok hfine.small hfine.right
  rw [← hlen] at q1
  have tx1 := tt.kept e5
  have DE := decode_any A5 n5 c5 (encB ev) x1 tx1 hs5 hc5 (Own.cap ho5) (by omega)
  rw [q1, q2, q3] at DE
  have HDE := Lib.hid DE
  have VX := VV.kept e5
  have bx := bb.trans (e5.mono bb.size)
  clear DE q1 q2 q3 hlen ho5 hs5 VV bb tt e5 HEN
  go_wp2_with fail
  refine HDE.out.mono ?_
  rintro r x2 ⟨rfl, e6⟩
  have VY := VX.kept e6
  have by2 := bx.trans (e6.mono bx.size)
  have ty2 := tx1.kept e6
  have eVV : evEq ev ev = true := evEq_self ev
  clear VX bx tx1 e6 HDE
  go_wp2_with (first
    | ((with_reducible show wpList _ _ _ (⟨some 15, _, _, _, _, _⟩ :: _) _ _); refine wp_new _ rfl 24 rfl _ y24 ?_; intro x3 g15 hB15 hf15; simp only [Act.put, List.setIfInBounds_toArray, List.set_cons_zero, List.set_cons_succ])
    | ((with_reducible show wpList _ _ _ (⟨none, .store 24 (.tmp 15) _, _, _, _, _⟩ :: _) _ _); refine wp_putAll _ rfl 24 (.tmp 15) (.tmp 89) rfl g15 24 _ (evc ev) rfl rfl hB15 hlv zv ov ?_; intro x4 VZ UZ; have VW := (hf15.blk VY).upd UZ (by have := hf15.is; have := VY.lt; omega); simp only [Act.put])
    | ((with_reducible show wpList _ _ _ (⟨some 94, _, _, _, _, _⟩ :: _) _ _); refine wp_getG _ (by rfl) 24 (.tmp 12) rfl g 0 (evc ev) _ rfl VW.whole Tryd.underlying24 rfl zv ?_; simp only [Act.put, List.setIfInBounds_toArray, List.set_cons_zero, List.set_cons_succ]))
  have bz : Below w.heap.size w x4 := (by2.trans (hf15.below.mono by2.size)).trans (UZ.below (by have := hf15.is; have := by2.size; omega))
  have tz : Tab x4 := (ty2.kept hf15.below).below (UZ.below (B := 1) (by have := hf15.is; have := ty2.1; omega)) (by omega)
  refine (HRV.out x4 tz).mono ?_
  rintro r x5 ⟨rfl, e7⟩
  have VA := VZ.kept e7
  have VB := VW.kept e7
  have bf := bz.trans (e7.mono bz.size)
  clear VZ VW bz tz e7 UZ hf15 hB15 VY by2 ty2 HRV
  go_wp2_with (first
    | ((with_reducible show wpList _ _ _ (⟨some 106, _, _, _, _, _⟩ :: _) _ _); refine wp_getG _ (by rfl) 24 (.tmp 15) rfl g15 0 (evc ev) _ rfl VA.whole Tryd.underlying24 rfl zv ?_; simp only [Act.put, List.setIfInBounds_toArray, List.set_cons_zero, List.set_cons_succ])
    | ((with_reducible show wpList _ _ _ (⟨some 107, _, _, _, _, _⟩ :: _) _ _); refine wp_getG _ (by rfl) 24 (.tmp 12) rfl g 0 (evc ev) _ rfl VB.whole Tryd.underlying24 rfl zv ?_; simp only [Act.put, List.setIfInBounds_toArray, List.set_cons_zero, List.set_cons_succ])
    | ((with_reducible show wpList _ _ _ (⟨some 108, _, _, _, _, _⟩ :: _) _ _); refine wp_eqE _ (by rfl) (.tmp 106) (.tmp 107) rfl ev ev hfine.ok hfine.ok rfl rfl true eVV ?_; simp only [Act.put, List.setIfInBounds_toArray, List.set_cons_zero, List.set_cons_succ]))
  go_ret
  exact ⟨rfl, bf⟩

set_option maxHeartbeats 400000 in
set_option maxRecDepth 100000 in
theorem times_5 (q : Int) (Q : Nat) (hq : bits .and .i64 q 65535 = (Q : Int)) (hQ : (Q : Int) % 14 = 4) (hQ2 : Q ≤ 65535) (tm id : Nat) (hst : tm < 18446744073709551616) (hsi : id < 18446744073709551616) (s t : List UInt8) (hzs : s.length ≤ 9223372036854775807) (hzt : t.length ≤ 9223372036854775807) (w : World) (ht : Tab w) :
    Calls Tryd.prog 10 #[.int .i64 q, .int .u64 (tm : Int), .int .u64 (id : Int), .string (str s), .string (str t)] w fun r w' => r = .returned (.bool true) ∧ Below w.heap.size w w' := by
  have z1 : (str s).size = s.length := str_size s
  have z2 : (str t).size = t.length := str_size t
  obtain ⟨m, hm⟩ : ∃ m : Nat, m = min s.length 4000 := ⟨_, rfl⟩
  obtain ⟨p, hp⟩ : ∃ m : Nat, m = min t.length 4000 := ⟨_, rfl⟩
  have km : min (s.length : Int) 4000 = (m : Int) := by omega
  have kp : min (t.length : Int) 4000 = (p : Int) := by omega
  have jm : (m : Int) ≤ (s.length : Int) := by omega
  have jp : (p : Int) ≤ (t.length : Int) := by omega
  obtain ⟨S, hS⟩ : ∃ S, S = s.take m := ⟨_, rfl⟩
  obtain ⟨T, hT⟩ : ∃ S, S = t.take p := ⟨_, rfl⟩
  have xs : (str s).extract 0 m = str S := by rw [str_take, hS]
  have xt : (str t).extract 0 p = str T := by rw [str_take, hT]
  have lS : S.length ≤ 4000 := by rw [hS, List.length_take]; omega
  have lT : T.length ≤ 4000 := by rw [hT, List.length_take]; omega
  obtain ⟨I, hI⟩ : ∃ I : Nat, I = max id 1 := ⟨_, rfl⟩
  have kI : max (id : Int) 1 = (I : Int) := by omega
  have I1 : I ≠ 0 := by omega
  have I2 : I < 18446744073709551616 := by omega
  have hfine : Fine ⟨5, tm, I, [[], [], [], []], [0, 0, 0]⟩ := by
    refine ⟨⟨rfl, rfl⟩, ⟨hst, I2⟩, ?_⟩
    simp [rightE, rightT, rightN, goodT, goodN, hav, I1]
    done
  obtain ⟨ev, hev⟩ : ∃ ev : Ev, ev = ⟨5, tm, I, [[], [], [], []], [0, 0, 0]⟩ := ⟨_, rfl⟩
  rw [← hev] at hfine
  have EN := fun W (hW : Tab W) => encode_any ev hfine.ok hfine.texts hfine.small.1 hfine.small.2 W hW
  have RV := fun W (hW : Tab W) => right_any ev hfine.ok hfine.texts W hW
  rw [hfine.right] at RV
  have zv := size24' hfine.ok
  have hlv : (evc ev).length = (evc ev0).length := by rw [evc_length hfine.ok, evc_length ev0_ok]
  have ov := evc_one ev
  have y24 := zero24
  have z0 : (Tryd.prog.info? 24).map (·.size) = some (evc ⟨5, tm, 0, [[], [], [], []], [0, 0, 0]⟩).length := size24
  have l0 : (evc ⟨5, tm, 0, [[], [], [], []], [0, 0, 0]⟩).length = (evc ev0).length := rfl
  have bT := build24t
  have HEN := Lib.hid EN
  have HRV := Lib.hid RV
  have HEV := Lib.hid hev
  clear EN RV hm hp hS hT hev hI
  go_enter Tryd.func10, Tryd.ntmps10
  go_wp2_with fail
  refine (shown_any w ht).mono ?_
  rintro r w1 ⟨rfl, b1⟩
  have t1 := ht.kept b1
  go_wp2_with (first
    | ((with_reducible show wpList _ _ _ (⟨some 35, _, _, _, _, _⟩ :: _) _ _); refine wp_build2 _ rfl 24 (.tmp 33) (.tmp 34) rfl _ _ rfl rfl _ (bT _ 5 tm) ?_; simp only [Act.put, List.setIfInBounds_toArray, List.set_cons_zero, List.set_cons_succ])
    | ((with_reducible show wpList _ _ _ (⟨some 12, _, _, _, _, _⟩ :: _) _ _); refine wp_new _ rfl 24 rfl _ y24 ?_; intro w2 g hB2 hf2; simp only [Act.put, List.setIfInBounds_toArray, List.set_cons_zero, List.set_cons_succ])
    | ((with_reducible show wpList _ _ _ (⟨none, .store 24 (.tmp 12) (.tmp 35), _, _, _, _⟩ :: _) _ _); refine wp_putAll _ rfl 24 (.tmp 12) (.tmp 35) rfl g 24 _ (evc ⟨5, tm, 0, [[], [], [], []], [0, 0, 0]⟩) rfl rfl hB2 l0 z0 (evc_one _) ?_; intro w3 V3 U3; simp only [Act.put])
    | ((with_reducible show wpList _ _ _ (⟨none, .store 22 (.tmp 40) _, _, _, _, _⟩ :: _) _ _); refine wp_set _ rfl 22 (.tmp 40) (.tmp 39) rfl g 2 24 _ (.int .u64 (I : Int)) rfl rfl rfl rfl V3 (by simp [evc]) size22 ?_; intro w4 V4' U4; have V4 : Blk w4 g 24 (evc ⟨5, tm, I, [[], [], [], []], [0, 0, 0]⟩) := V4'; simp only [Act.put])
    | ((with_reducible show wpList _ _ _ (⟨some 82, _, _, _, _, _⟩ :: _) _ _); rw [← HEV.out] at V4; refine wp_getG _ (by rfl) 24 (.tmp 12) rfl g 0 (evc ev) _ rfl V4.whole Tryd.underlying24 rfl zv ?_; simp only [Act.put, List.setIfInBounds_toArray, List.set_cons_zero, List.set_cons_succ]))
  have hg : w.heap.size ≤ g := by have := hf2.is; have := b1.size; omega
  have hg0 : 1 ≤ g := by have := ht.1; omega
  have bb : Below w.heap.size w w4 := (((b1.trans (hf2.below.mono b1.size))).trans (U3.below hg)).trans (U4.below hg)
  have tt : Tab w4 := (((t1.kept hf2.below)).below (U3.below (B := 1) hg0) (by omega)).below (U4.below (B := 1) hg0) (by omega)
  have VV := V4
  clear hf2 hB2 U3 U4
  refine (HEN.out w4 tt).mono ?_
  rintro r x1 ⟨A5, n5, c5, rfl, hc5, hs5, ho5, e5⟩
  rw [(encF_right hfine.right).1] at hs5
  rw [(encF_right hfine.right).2]
  have hlen : n5 = (encB ev).length := hs5.1.symm
  have hn5 : n5 ≤ 20000 := by rw [hlen]; exact encB_len hfine.ok hfine.small hfine.right
  obtain ⟨q1, q2, q3⟩ := dec_of_enc hfine.ok hfine.small hfine.right
  rw [← hlen] at q1
  have tx1 := tt.kept e5
  have DE := decode_any A5 n5 c5 (encB ev) x1 tx1 hs5 hc5 (Own.cap ho5) (by omega)
  rw [q1, q2, q3] at DE
  have HDE := Lib.hid DE
  have VX := VV.kept e5
  have bx := bb.trans (e5.mono bb.size)
  clear DE q1 q2 q3 hlen ho5 hs5 VV bb tt e5 HEN
  go_wp2_with fail
  refine HDE.out.mono ?_
  rintro r x2 ⟨rfl, e6⟩
  have VY := VX.kept e6
  have by2 := bx.trans (e6.mono bx.size)
  have ty2 := tx1.kept e6
  have eVV : evEq ev ev = true := evEq_self ev
  clear VX bx tx1 e6 HDE
  go_wp2_with (first
    | ((with_reducible show wpList _ _ _ (⟨some 15, _, _, _, _, _⟩ :: _) _ _); refine wp_new _ rfl 24 rfl _ y24 ?_; intro x3 g15 hB15 hf15; simp only [Act.put, List.setIfInBounds_toArray, List.set_cons_zero, List.set_cons_succ])
    | ((with_reducible show wpList _ _ _ (⟨none, .store 24 (.tmp 15) _, _, _, _, _⟩ :: _) _ _); refine wp_putAll _ rfl 24 (.tmp 15) (.tmp 89) rfl g15 24 _ (evc ev) rfl rfl hB15 hlv zv ov ?_; intro x4 VZ UZ; have VW := (hf15.blk VY).upd UZ (by have := hf15.is; have := VY.lt; omega); simp only [Act.put])
    | ((with_reducible show wpList _ _ _ (⟨some 94, _, _, _, _, _⟩ :: _) _ _); refine wp_getG _ (by rfl) 24 (.tmp 12) rfl g 0 (evc ev) _ rfl VW.whole Tryd.underlying24 rfl zv ?_; simp only [Act.put, List.setIfInBounds_toArray, List.set_cons_zero, List.set_cons_succ]))
  have bz : Below w.heap.size w x4 := (by2.trans (hf15.below.mono by2.size)).trans (UZ.below (by have := hf15.is; have := by2.size; omega))
  have tz : Tab x4 := (ty2.kept hf15.below).below (UZ.below (B := 1) (by have := hf15.is; have := ty2.1; omega)) (by omega)
  refine (HRV.out x4 tz).mono ?_
  rintro r x5 ⟨rfl, e7⟩
  have VA := VZ.kept e7
  have VB := VW.kept e7
  have bf := bz.trans (e7.mono bz.size)
  clear VZ VW bz tz e7 UZ hf15 hB15 VY by2 ty2 HRV
  go_wp2_with (first
    | ((with_reducible show wpList _ _ _ (⟨some 106, _, _, _, _, _⟩ :: _) _ _); refine wp_getG _ (by rfl) 24 (.tmp 15) rfl g15 0 (evc ev) _ rfl VA.whole Tryd.underlying24 rfl zv ?_; simp only [Act.put, List.setIfInBounds_toArray, List.set_cons_zero, List.set_cons_succ])
    | ((with_reducible show wpList _ _ _ (⟨some 107, _, _, _, _, _⟩ :: _) _ _); refine wp_getG _ (by rfl) 24 (.tmp 12) rfl g 0 (evc ev) _ rfl VB.whole Tryd.underlying24 rfl zv ?_; simp only [Act.put, List.setIfInBounds_toArray, List.set_cons_zero, List.set_cons_succ])
    | ((with_reducible show wpList _ _ _ (⟨some 108, _, _, _, _, _⟩ :: _) _ _); refine wp_eqE _ (by rfl) (.tmp 106) (.tmp 107) rfl ev ev hfine.ok hfine.ok rfl rfl true eVV ?_; simp only [Act.put, List.setIfInBounds_toArray, List.set_cons_zero, List.set_cons_succ]))
  go_ret
  exact ⟨rfl, bf⟩

end Go.Proofs.YtjgcodnabgkjoaaDoor
