/-
  What transeptref08.Same, Origin, Text and Right and transeptlaw08.cut answer; nothing that was there turns. Conditions: texts of bounded length.
-/
import Derived.Test.YtcepigekibidfaaGreatDoorTue
import Derived.Test.YtcepigekibidfaaGreatDoorWub
import Derived.Test.YtcepigekibidfaaGreatDoorWpo
import Derived.Test.YtcepigekibidfaaGreatDoorTrd
namespace Go.Proofs.YtcepigekibidfaaGreatDoor
open Go.RowKit

theorem dfl_pos (s : List UInt8) : spc s = decide (0 < dfl s) := by
  unfold dfl spc
  cases h : dp s with
  | none => rfl
  | some p =>
    have hn := dp_num s p h
    simp only
    rw [Bool.eq_iff_iff, decide_eq_true_eq, decide_eq_true_eq]
    split <;> omega
set_option maxHeartbeats 8000000 in
set_option maxRecDepth 100000 in
theorem rsame_any (u v : U) (w : World) : Calls Tryz.prog 24 #[uV u, uV v] w fun e w' => e = .returned (.bool (same u v)) ∧ Below w.heap.size w w' := by
  obtain ⟨us, uh, up, upa, uq, uf⟩ := u
  obtain ⟨vs, vh, vp, vpa, vq, vf⟩ := v
  have H1 : Hid (∀ w', Calls Tryz.prog 28 #[.string (str us)] w' fun e w2 => e = .returned (.int .i64 (dfl us)) ∧ w2 = w') := fun w' => default_any _ w'
  have e1 : ((str us).toList == (str vs).toList) = decide (us = vs) := by rw [toList_str, toList_str, Bool.eq_iff_iff]; simp
  have e2 : ((str uh).toList == (str vh).toList) = decide (uh = vh) := by rw [toList_str, toList_str, Bool.eq_iff_iff]; simp
  have e3 : (up == vp) = decide (up = vp) := by rw [Bool.eq_iff_iff]; simp
  have hR : same ⟨us, uh, up, upa, uq, uf⟩ ⟨vs, vh, vp, vpa, vq, vf⟩ = (decide (0 < dfl us) && (decide (us = vs) && (decide (uh = vh) && decide (up = vp)))) := by
    unfold same
    rw [dfl_pos, Bool.decide_and, Bool.decide_and]
  rw [hR]
  clear hR
  generalize decide (us = vs) = d1 at e1 ⊢
  generalize decide (uh = vh) = d2 at e2 ⊢
  generalize decide (up = vp) = d3 at e3 ⊢
  generalize dfl us = d at H1 ⊢
  by_cases hd : 0 < d
  · rw [decide_eq_true hd]
    cases d1
    · go_enter Tryz.func24, Tryz.ntmps24
      go_wp2_with (first
        | ((with_reducible show wpList _ _ _ (⟨some 2, .box _ _, _, _, _, _⟩ :: _) _ _); refine wp_box _ rfl 24 _ rfl (uC us uh up upa uq uf) rfl ?_; intro w1 g1 B1 F1; simp only [Act.put, List.setIfInBounds_toArray, List.set_cons_zero, List.set_cons_succ])
        | ((with_reducible show wpList _ _ _ (⟨some 3, .box _ _, _, _, _, _⟩ :: _) _ _); refine wp_box _ rfl 24 _ rfl (uC vs vh vp vpa vq vf) rfl ?_; intro w2 g2 B2 F2; simp only [Act.put, List.setIfInBounds_toArray, List.set_cons_zero, List.set_cons_succ]; have C1 := F2.blk B1; have KP := Lib.hid ((show Kept w w1 from F1.below).step F2.below); have a0 : w2.cell? ⟨g1, 0, none⟩ = some (.string (str us)) := C1.cell rfl; have a1 : w2.cell? ⟨g1, 1, none⟩ = some (.string (str uh)) := C1.cell rfl; have a2 : w2.cell? ⟨g1, 2, none⟩ = some (.int .i64 up) := C1.cell rfl; have b0 : w2.cell? ⟨g2, 0, none⟩ = some (.string (str vs)) := B2.cell rfl; have b1 : w2.cell? ⟨g2, 1, none⟩ = some (.string (str vh)) := B2.cell rfl; have b2 : w2.cell? ⟨g2, 2, none⟩ = some (.int .i64 vp) := B2.cell rfl)
        | (go_at_call 28; (with_reducible refine (H1.out _).mono ?_); (rintro e wd ⟨rfl, hw⟩; subst wd)))
      go_ret
      exact ⟨rfl, KP.out⟩
    · cases d2
      · go_enter Tryz.func24, Tryz.ntmps24
        go_wp2_with (first
          | ((with_reducible show wpList _ _ _ (⟨some 2, .box _ _, _, _, _, _⟩ :: _) _ _); refine wp_box _ rfl 24 _ rfl (uC us uh up upa uq uf) rfl ?_; intro w1 g1 B1 F1; simp only [Act.put, List.setIfInBounds_toArray, List.set_cons_zero, List.set_cons_succ])
          | ((with_reducible show wpList _ _ _ (⟨some 3, .box _ _, _, _, _, _⟩ :: _) _ _); refine wp_box _ rfl 24 _ rfl (uC vs vh vp vpa vq vf) rfl ?_; intro w2 g2 B2 F2; simp only [Act.put, List.setIfInBounds_toArray, List.set_cons_zero, List.set_cons_succ]; have C1 := F2.blk B1; have KP := Lib.hid ((show Kept w w1 from F1.below).step F2.below); have a0 : w2.cell? ⟨g1, 0, none⟩ = some (.string (str us)) := C1.cell rfl; have a1 : w2.cell? ⟨g1, 1, none⟩ = some (.string (str uh)) := C1.cell rfl; have a2 : w2.cell? ⟨g1, 2, none⟩ = some (.int .i64 up) := C1.cell rfl; have b0 : w2.cell? ⟨g2, 0, none⟩ = some (.string (str vs)) := B2.cell rfl; have b1 : w2.cell? ⟨g2, 1, none⟩ = some (.string (str vh)) := B2.cell rfl; have b2 : w2.cell? ⟨g2, 2, none⟩ = some (.int .i64 vp) := B2.cell rfl)
          | (go_at_call 28; (with_reducible refine (H1.out _).mono ?_); (rintro e wd ⟨rfl, hw⟩; subst wd)))
        go_ret
        exact ⟨rfl, KP.out⟩
      · go_enter Tryz.func24, Tryz.ntmps24
        go_wp2_with (first
          | ((with_reducible show wpList _ _ _ (⟨some 2, .box _ _, _, _, _, _⟩ :: _) _ _); refine wp_box _ rfl 24 _ rfl (uC us uh up upa uq uf) rfl ?_; intro w1 g1 B1 F1; simp only [Act.put, List.setIfInBounds_toArray, List.set_cons_zero, List.set_cons_succ])
          | ((with_reducible show wpList _ _ _ (⟨some 3, .box _ _, _, _, _, _⟩ :: _) _ _); refine wp_box _ rfl 24 _ rfl (uC vs vh vp vpa vq vf) rfl ?_; intro w2 g2 B2 F2; simp only [Act.put, List.setIfInBounds_toArray, List.set_cons_zero, List.set_cons_succ]; have C1 := F2.blk B1; have KP := Lib.hid ((show Kept w w1 from F1.below).step F2.below); have a0 : w2.cell? ⟨g1, 0, none⟩ = some (.string (str us)) := C1.cell rfl; have a1 : w2.cell? ⟨g1, 1, none⟩ = some (.string (str uh)) := C1.cell rfl; have a2 : w2.cell? ⟨g1, 2, none⟩ = some (.int .i64 up) := C1.cell rfl; have b0 : w2.cell? ⟨g2, 0, none⟩ = some (.string (str vs)) := B2.cell rfl; have b1 : w2.cell? ⟨g2, 1, none⟩ = some (.string (str vh)) := B2.cell rfl; have b2 : w2.cell? ⟨g2, 2, none⟩ = some (.int .i64 vp) := B2.cell rfl)
          | (go_at_call 28; (with_reducible refine (H1.out _).mono ?_); (rintro e wd ⟨rfl, hw⟩; subst wd)))
        go_ret
        exact ⟨by simp, KP.out⟩
  · rw [decide_eq_false hd]
    go_enter Tryz.func24, Tryz.ntmps24
    go_wp2_with (first
      | ((with_reducible show wpList _ _ _ (⟨some 2, .box _ _, _, _, _, _⟩ :: _) _ _); refine wp_box _ rfl 24 _ rfl (uC us uh up upa uq uf) rfl ?_; intro w1 g1 B1 F1; simp only [Act.put, List.setIfInBounds_toArray, List.set_cons_zero, List.set_cons_succ])
      | ((with_reducible show wpList _ _ _ (⟨some 3, .box _ _, _, _, _, _⟩ :: _) _ _); refine wp_box _ rfl 24 _ rfl (uC vs vh vp vpa vq vf) rfl ?_; intro w2 g2 B2 F2; simp only [Act.put, List.setIfInBounds_toArray, List.set_cons_zero, List.set_cons_succ]; have C1 := F2.blk B1; have KP := Lib.hid ((show Kept w w1 from F1.below).step F2.below); have a0 : w2.cell? ⟨g1, 0, none⟩ = some (.string (str us)) := C1.cell rfl; have a1 : w2.cell? ⟨g1, 1, none⟩ = some (.string (str uh)) := C1.cell rfl; have a2 : w2.cell? ⟨g1, 2, none⟩ = some (.int .i64 up) := C1.cell rfl; have b0 : w2.cell? ⟨g2, 0, none⟩ = some (.string (str vs)) := B2.cell rfl; have b1 : w2.cell? ⟨g2, 1, none⟩ = some (.string (str vh)) := B2.cell rfl; have b2 : w2.cell? ⟨g2, 2, none⟩ = some (.int .i64 vp) := B2.cell rfl)
      | (go_at_call 28; (with_reducible refine (H1.out _).mono ?_); (rintro e wd ⟨rfl, hw⟩; subst wd)))
    go_ret
    exact ⟨rfl, KP.out⟩
def cutU (u : U) : U := ⟨u.sch.take 200, u.host.take 200, u.port, u.path.take 200, u.q.take 200, u.f.take 200⟩
set_option maxHeartbeats 8000000 in
set_option maxRecDepth 100000 in
theorem cu_all (us uh ua uq uf ys yh ya yq yf : List UInt8) (up : Int) (ns nh na nq nf ms mh ma mq mf : Nat) (w : World) (hss : (str us).size = ns) (hms : min (ns : Int) 200 = (ms : Int)) (hls : (ms : Int) ≤ (ns : Int)) (hxs : (str us).extract 0 ms = str ys) (hsh : (str uh).size = nh) (hmh : min (nh : Int) 200 = (mh : Int)) (hlh : (mh : Int) ≤ (nh : Int)) (hxh : (str uh).extract 0 mh = str yh) (hsa : (str ua).size = na) (hma : min (na : Int) 200 = (ma : Int)) (hla : (ma : Int) ≤ (na : Int)) (hxa : (str ua).extract 0 ma = str ya) (hsq : (str uq).size = nq) (hmq : min (nq : Int) 200 = (mq : Int)) (hlq : (mq : Int) ≤ (nq : Int)) (hxq : (str uq).extract 0 mq = str yq) (hsf : (str uf).size = nf) (hmf : min (nf : Int) 200 = (mf : Int)) (hlf : (mf : Int) ≤ (nf : Int)) (hxf : (str uf).extract 0 mf = str yf) : Calls Tryz.prog 16 #[.agg (uC us uh up ua uq uf).toArray] w fun e w' => e = .returned (.agg (uC ys yh up ya yq yf).toArray) ∧ Below w.heap.size w w' := by
  go_enter Tryz.func16, Tryz.ntmps16
  go_wp2_with (first
    | ((with_reducible show wpList _ _ _ (⟨some 1, .box _ _, _, _, _, _⟩ :: _) _ _); refine wp_box _ rfl 24 _ rfl (uC us uh up ua uq uf) rfl ?_; intro w1 g1 B1 F1; simp only [Act.put, List.setIfInBounds_toArray, List.set_cons_zero, List.set_cons_succ])
    | ((with_reducible show wpList _ _ _ (⟨some 2, .alloc _, _, _, _, _⟩ :: _) _ _); refine wp_new _ rfl 24 rfl _ z24 ?_; intro w2 g2 B2 F2; simp only [Act.put, List.setIfInBounds_toArray, List.set_cons_zero, List.set_cons_succ]; have S2 := Sp.new B1 F1 B2 F2; clear B1 F1 B2 F2; have k0w2 : w2.cell? ⟨g1, 0, none⟩ = some (.string (str us)) := S2.b1.cell rfl; have k1w2 : w2.cell? ⟨g1, 1, none⟩ = some (.string (str uh)) := S2.b1.cell rfl; have k3w2 : w2.cell? ⟨g1, 3, none⟩ = some (.string (str ua)) := S2.b1.cell rfl; have k4w2 : w2.cell? ⟨g1, 4, none⟩ = some (.string (str uq)) := S2.b1.cell rfl; have k5w2 : w2.cell? ⟨g1, 5, none⟩ = some (.string (str uf)) := S2.b1.cell rfl)
    | ((with_reducible show wpList _ _ _ (⟨none, .store 9 (.tmp 10) (.tmp 9), _, _, _, _⟩ :: _) _ _); refine wp_set _ rfl 9 (.tmp 10) (.tmp 9) rfl g1 0 24 _ (.string (str ys)) rfl rfl rfl rfl S2.b1 (by simp [uC]) n9 ?_; intro w3 B U; simp only [Act.put]; have S3 := S2.set1 B U; clear B U; have k1w3 : w3.cell? ⟨g1, 1, none⟩ = some (.string (str uh)) := S3.b1.cell rfl; have k3w3 : w3.cell? ⟨g1, 3, none⟩ = some (.string (str ua)) := S3.b1.cell rfl; have k4w3 : w3.cell? ⟨g1, 4, none⟩ = some (.string (str uq)) := S3.b1.cell rfl; have k5w3 : w3.cell? ⟨g1, 5, none⟩ = some (.string (str uf)) := S3.b1.cell rfl)
    | ((with_reducible show wpList _ _ _ (⟨none, .store 9 (.tmp 18) (.tmp 17), _, _, _, _⟩ :: _) _ _); refine wp_set _ rfl 9 (.tmp 18) (.tmp 17) rfl g1 1 24 _ (.string (str yh)) rfl rfl rfl rfl S3.b1 (by simp [uC]) n9 ?_; intro w4 B U; simp only [Act.put]; have S4 := S3.set1 B U; clear B U; have k3w4 : w4.cell? ⟨g1, 3, none⟩ = some (.string (str ua)) := S4.b1.cell rfl; have k4w4 : w4.cell? ⟨g1, 4, none⟩ = some (.string (str uq)) := S4.b1.cell rfl; have k5w4 : w4.cell? ⟨g1, 5, none⟩ = some (.string (str uf)) := S4.b1.cell rfl)
    | ((with_reducible show wpList _ _ _ (⟨none, .store 9 (.tmp 26) (.tmp 25), _, _, _, _⟩ :: _) _ _); refine wp_set _ rfl 9 (.tmp 26) (.tmp 25) rfl g1 3 24 _ (.string (str ya)) rfl rfl rfl rfl S4.b1 (by simp [uC]) n9 ?_; intro w5 B U; simp only [Act.put]; have S5 := S4.set1 B U; clear B U; have k4w5 : w5.cell? ⟨g1, 4, none⟩ = some (.string (str uq)) := S5.b1.cell rfl; have k5w5 : w5.cell? ⟨g1, 5, none⟩ = some (.string (str uf)) := S5.b1.cell rfl)
    | ((with_reducible show wpList _ _ _ (⟨none, .store 9 (.tmp 34) (.tmp 33), _, _, _, _⟩ :: _) _ _); refine wp_set _ rfl 9 (.tmp 34) (.tmp 33) rfl g1 4 24 _ (.string (str yq)) rfl rfl rfl rfl S5.b1 (by simp [uC]) n9 ?_; intro w6 B U; simp only [Act.put]; have S6 := S5.set1 B U; clear B U; have k5w6 : w6.cell? ⟨g1, 5, none⟩ = some (.string (str uf)) := S6.b1.cell rfl)
    | ((with_reducible show wpList _ _ _ (⟨none, .store 9 (.tmp 42) (.tmp 41), _, _, _, _⟩ :: _) _ _); refine wp_set _ rfl 9 (.tmp 42) (.tmp 41) rfl g1 5 24 _ (.string (str yf)) rfl rfl rfl rfl S6.b1 (by simp [uC]) n9 ?_; intro w7 B U; simp only [Act.put]; have S7 := S6.set1 B U; clear B U)
    | ((with_reducible show wpList _ _ _ (⟨some 43, .load 24 (.tmp 1), _, _, _, _⟩ :: _) _ _); refine wp_get _ rfl 24 (.tmp 1) rfl g1 0 (uC ys yh up ya yq yf) _ rfl S7.b1.whole Tryz.underlying24 rfl n24 ?_; simp only [Act.put, List.setIfInBounds_toArray, List.set_cons_zero, List.set_cons_succ])
    | ((with_reducible show wpList _ _ _ (⟨none, .store 24 (.tmp 2) (.tmp 43), _, _, _, _⟩ :: _) _ _); refine wp_putAll _ rfl 24 (.tmp 2) (.tmp 43) rfl g2 24 _ (uC ys yh up ya yq yf) rfl rfl S7.b2 rfl n24 (uC_one _ _ _ _ _ _) ?_; intro wz B U; simp only [Act.put]; have SZ := S7.set2 B U; clear B U))
  refine ret_cell 2 24 rfl g2 (uC ys yh up ya yq yf) _ rfl SZ.b2.whole Tryz.underlying24 rfl n24 rfl ⟨rfl, SZ.kp⟩
theorem cutU_any (u : U) (w : World) : Calls Tryz.prog 16 #[uV u] w fun e w' => e = .returned (uV (cutU u)) ∧ Below w.heap.size w w' := by
  have hm : ∀ x : List UInt8, min (x.length : Int) 200 = ((min x.length 200 : Nat) : Int) := fun x => by omega
  have hl : ∀ x : List UInt8, ((min x.length 200 : Nat) : Int) ≤ (x.length : Int) := fun x => by omega
  have hx : ∀ x : List UInt8, (str x).extract 0 (min x.length 200) = str (x.take 200) := fun x => by
    rw [str_take, show x.take (min x.length 200) = x.take 200 by
      rcases Nat.le_total x.length 200 with h | h
      · rw [Nat.min_eq_left h, List.take_length, List.take_of_length_le h]
      · rw [Nat.min_eq_right h]]
  exact cu_all u.sch u.host u.path u.q u.f _ _ _ _ _ u.port _ _ _ _ _ _ _ _ _ _ w (str_size _) (hm _) (hl _) (hx _) (str_size _) (hm _) (hl _) (hx _) (str_size _) (hm _) (hl _) (hx _) (str_size _) (hm _) (hl _) (hx _) (str_size _) (hm _) (hl _) (hx _)
set_option maxHeartbeats 8000000 in
set_option maxRecDepth 100000 in
theorem rorigin_any (u : U) (w : World) (hu : Ub u) : Calls Tryz.prog 22 #[uV u] w fun e w' => e = .returned (.string (str (org u))) ∧ Below w.heap.size w w' := by
  obtain ⟨s, h, p, pa, q, f⟩ := u
  have H1 : Hid (∀ w', Calls Tryz.prog 28 #[.string (str s)] w' fun e w2 => e = .returned (.int .i64 (dfl s)) ∧ w2 = w') := fun w' => default_any _ w'
  have HN : Hid (∀ w', Calls Tryz.prog 47 #[.int .i64 p] w' fun e w2 => e = .returned (.string (str (Lib.itoa p))) ∧ Below w'.heap.size w' w2) := fun w' => rnum47_any p w' hu.p0 hu.p1
  have ho : org ⟨s, h, p, pa, q, f⟩ = if spc s then s ++ [58, 47, 47] ++ h ++ prtT p else [110, 117, 108, 108] := rfl
  rw [ho, dfl_pos]
  have hsl := hu.s
  have hhl := hu.h
  have hpl := hu.pi
  simp only at hsl hhl hpl
  clear hu ho
  have a1 : str s ++ ⟨#[58, 47, 47]⟩ = str (s ++ [58, 47, 47]) := str_add s [58, 47, 47]
  have a2 : str (s ++ [58, 47, 47]) ++ str h = str (s ++ [58, 47, 47] ++ h) := str_add _ _
  have a3 : str (s ++ [58, 47, 47] ++ h) ++ ⟨#[58]⟩ = str (s ++ [58, 47, 47] ++ h ++ [58]) := str_add _ [58]
  have a4 : str (s ++ [58, 47, 47] ++ h ++ [58]) ++ str (Lib.itoa p) = str (s ++ [58, 47, 47] ++ h ++ [58] ++ Lib.itoa p) := str_add _ _
  have r1 : ¬ (9223372036854775807 : Nat) < (str s).size + 3 := by rw [str_size]; omega
  have r2 : ¬ (9223372036854775807 : Nat) < (str (s ++ [58, 47, 47])).size + (str h).size := by simp only [str_size, List.length_append, List.length_cons, List.length_nil]; omega
  have r3 : ¬ (9223372036854775807 : Nat) < (str (s ++ [58, 47, 47] ++ h)).size + 1 := by simp only [str_size, List.length_append, List.length_cons, List.length_nil]; omega
  have r4 : ¬ (9223372036854775807 : Nat) < (str (s ++ [58, 47, 47] ++ h ++ [58])).size + (str (Lib.itoa p)).size := by simp only [str_size, List.length_append, List.length_cons, List.length_nil]; omega
  have hR0 : Hid (p = -1 → s ++ [58, 47, 47] ++ h ++ prtT p = s ++ [58, 47, 47] ++ h) := fun e => by rw [prtT, if_pos e, List.append_nil]
  have hR1 : Hid (p ≠ -1 → s ++ [58, 47, 47] ++ h ++ prtT p = s ++ [58, 47, 47] ++ h ++ [58] ++ Lib.itoa p) := fun e => by rw [prtT, if_neg e, List.append_assoc _ [58]]; rfl
  generalize s ++ [58, 47, 47] ++ h ++ prtT p = R at hR0 hR1 ⊢
  generalize s ++ [58, 47, 47] ++ h ++ [58] ++ Lib.itoa p = M4 at a4 hR1
  generalize s ++ [58, 47, 47] ++ h ++ [58] = M3 at a3 a4 r4
  generalize s ++ [58, 47, 47] ++ h = M2 at a2 a3 r3 hR0
  generalize s ++ [58, 47, 47] = M1 at a1 a2 r2
  generalize Lib.itoa p = I at HN a4 r4 hpl
  generalize dfl s = d at H1 ⊢
  clear hsl hhl hpl
  by_cases hd : 0 < d
  · rw [if_pos (decide_eq_true hd)]
    have hd1 : ¬ d < 1 := by omega
    by_cases hp : p = -1
    · have hb : (p == -1) = true := by simp [hp]
      have hR := Lib.hid (hR0.out hp)
      clear hR0 hR1 HN a3 a4 r3 r4 hp hd
      go_enter Tryz.func22, Tryz.ntmps22
      go_wp2_with (first
        | ((with_reducible show wpList _ _ _ (⟨some 1, .box _ _, _, _, _, _⟩ :: _) _ _); refine wp_box _ rfl 24 _ rfl (uC s h p pa q f) rfl ?_; intro w1 g1 B1 F1; simp only [Act.put, List.setIfInBounds_toArray, List.set_cons_zero, List.set_cons_succ]; have KP := Lib.hid (show Kept w w1 from F1.below); have a0 : w1.cell? ⟨g1, 0, none⟩ = some (.string (str s)) := B1.cell rfl; have a1 : w1.cell? ⟨g1, 1, none⟩ = some (.string (str h)) := B1.cell rfl; have a2 : w1.cell? ⟨g1, 2, none⟩ = some (.int .i64 p) := B1.cell rfl)
        | (go_at_call 28; (with_reducible refine (H1.out _).mono ?_); (rintro e wd ⟨rfl, hw⟩; subst wd)))
      go_ret
      rw [hR.out]
      exact ⟨rfl, KP.out⟩
    · have hb : (p == -1) = false := by simp [hp]
      have hR := Lib.hid (hR1.out hp)
      clear hR0 hR1 hp hd
      go_enter Tryz.func22, Tryz.ntmps22
      go_wp2_with (first
        | ((with_reducible show wpList _ _ _ (⟨some 1, .box _ _, _, _, _, _⟩ :: _) _ _); refine wp_box _ rfl 24 _ rfl (uC s h p pa q f) rfl ?_; intro w1 g1 B1 F1; simp only [Act.put, List.setIfInBounds_toArray, List.set_cons_zero, List.set_cons_succ]; have KP := Lib.hid (show Kept w w1 from F1.below); have a0 : w1.cell? ⟨g1, 0, none⟩ = some (.string (str s)) := B1.cell rfl; have a1 : w1.cell? ⟨g1, 1, none⟩ = some (.string (str h)) := B1.cell rfl; have a2 : w1.cell? ⟨g1, 2, none⟩ = some (.int .i64 p) := B1.cell rfl)
        | (go_at_call 28; (with_reducible refine (H1.out _).mono ?_); (rintro e wd ⟨rfl, hw⟩; subst wd)))
      refine wp_region_held_drew (S := fun W => Kept w1 W) (by kernel_rfl) (Kept.refl w1).drew (fun hS => ?_)
      refine wpAnyH_take (i := 0) (oi := ⟨some 16, _, _, _, _, _⟩) (v := ?vo0) rfl (by kernel_rfl) (by kernel_rfl) (by kernel_rfl) (fun _ _ _ h => h) (Or.inl ⟨by rfl, ?yo0⟩) hS ?ro0
      case yo0 => intro W hW; go_simp; first | done | with_reducible rfl
      simp only [Act.put, List.setIfInBounds_toArray, List.set_cons_zero, List.set_cons_succ]
      refine wpAnyH_take (i := 1) (oi := ⟨some 17, _, _, _, _, _⟩) (v := ?vo1) rfl (by kernel_rfl) (by kernel_rfl) (by kernel_rfl) (fun _ _ _ h => h) (Or.inl ⟨by rfl, ?yo1⟩) hS ?ro1
      case yo1 => intro W hW; have hc : W.cell? ⟨g1, 0, none⟩ = some (.string (str s)) := (B1.kept hW).cell rfl; go_simp; first | done | with_reducible rfl
      simp only [Act.put, List.setIfInBounds_toArray, List.set_cons_zero, List.set_cons_succ]
      refine wpAnyH_take (i := 2) (oi := ⟨some 18, _, _, _, _, _⟩) (v := ?vo2) rfl (by kernel_rfl) (by kernel_rfl) (by kernel_rfl) (fun _ _ _ h => h) (Or.inl ⟨by rfl, ?yo2⟩) hS ?ro2
      case yo2 => intro W hW; go_simp; first | done | with_reducible rfl
      simp only [Act.put, List.setIfInBounds_toArray, List.set_cons_zero, List.set_cons_succ]
      refine wpAnyH_take (i := 3) (oi := ⟨some 19, _, _, _, _, _⟩) (v := ?vo3) rfl (by kernel_rfl) (by kernel_rfl) (by kernel_rfl) (fun _ _ _ h => h) (Or.inl ⟨by rfl, ?yo3⟩) hS ?ro3
      case yo3 => intro W hW; go_simp; first | done | with_reducible rfl
      simp only [Act.put, List.setIfInBounds_toArray, List.set_cons_zero, List.set_cons_succ]
      refine wpAnyH_take (i := 4) (oi := ⟨some 20, _, _, _, _, _⟩) (v := ?vo4) rfl (by kernel_rfl) (by kernel_rfl) (by kernel_rfl) (fun _ _ _ h => h) (Or.inl ⟨by rfl, ?yo4⟩) hS ?ro4
      case yo4 => intro W hW; have hc : W.cell? ⟨g1, 1, none⟩ = some (.string (str h)) := (B1.kept hW).cell rfl; go_simp; first | done | with_reducible rfl
      simp only [Act.put, List.setIfInBounds_toArray, List.set_cons_zero, List.set_cons_succ]
      refine wpAnyH_take (i := 5) (oi := ⟨some 21, _, _, _, _, _⟩) (v := ?vo5) rfl (by kernel_rfl) (by kernel_rfl) (by kernel_rfl) (fun _ _ _ h => h) (Or.inl ⟨by rfl, ?yo5⟩) hS ?ro5
      case yo5 => intro W hW; go_simp; first | done | with_reducible rfl
      simp only [Act.put, List.setIfInBounds_toArray, List.set_cons_zero, List.set_cons_succ]
      refine wpAnyH_take (i := 6) (oi := ⟨some 22, _, _, _, _, _⟩) (v := ?vo6) rfl (by kernel_rfl) (by kernel_rfl) (by kernel_rfl) (fun _ _ _ h => h) (Or.inl ⟨by rfl, ?yo6⟩) hS ?ro6
      case yo6 => intro W hW; go_simp; first | done | with_reducible rfl
      simp only [Act.put, List.setIfInBounds_toArray, List.set_cons_zero, List.set_cons_succ]
      refine wpAnyH_take (i := 7) (oi := ⟨some 23, _, _, _, _, _⟩) (v := ?vo7) rfl (by kernel_rfl) (by kernel_rfl) (by kernel_rfl) (fun _ _ _ h => h) (Or.inl ⟨by rfl, ?yo7⟩) hS ?ro7
      case yo7 => intro W hW; go_simp; first | done | with_reducible rfl
      simp only [Act.put, List.setIfInBounds_toArray, List.set_cons_zero, List.set_cons_succ]
      refine wpAnyH_take (i := 8) (oi := ⟨some 24, _, _, _, _, _⟩) (v := ?vo8) rfl (by kernel_rfl) (by kernel_rfl) (by kernel_rfl) (fun _ _ _ h => h) (Or.inl ⟨by rfl, ?yo8⟩) hS ?ro8
      case yo8 => intro W hW; have hc : W.cell? ⟨g1, 2, none⟩ = some (.int .i64 p) := (B1.kept hW).cell rfl; go_simp; first | done | with_reducible rfl
      simp only [Act.put, List.setIfInBounds_toArray, List.set_cons_zero, List.set_cons_succ]
      refine wpAnyH_ready (rs := [9]) (by kernel_rfl) (by simp) ?_
      refine (AllReadyH.cons (o := ⟨some 25, _, _, _, _, _⟩) rfl (fun K hK => ?_) AllReadyH.nil)
      try go_simp
      (with_reducible refine (HN.out _).mono ?_)
      rintro e wx9 ⟨rfl, hb⟩
      have hS9 := hS.step hb
      clear hb hS
      have hS := hS9
      clear hS9
      refine hK.out _ _ hS (fun _ => ?_)
      clear hK K
      try simp only [Act.put, List.setIfInBounds_toArray, List.set_cons_zero, List.set_cons_succ]
      refine wpAnyH_take (i := 10) (oi := ⟨some 26, _, _, _, _, _⟩) (v := ?vo10) rfl (by kernel_rfl) (by kernel_rfl) (by kernel_rfl) (fun _ _ _ h => h) (Or.inl ⟨by rfl, ?yo10⟩) hS ?ro10
      case yo10 => intro W hW; go_simp; first | done | with_reducible rfl
      simp only [Act.put, List.setIfInBounds_toArray, List.set_cons_zero, List.set_cons_succ]
      refine wpAnyH_take (i := 11) (oi := ⟨some 2, _, _, _, _, _⟩) (v := ?vo11) rfl (by kernel_rfl) (by kernel_rfl) (by kernel_rfl) (fun _ _ _ h => h) (Or.inl ⟨by rfl, ?yo11⟩) hS ?ro11
      case yo11 => intro W hW; go_simp; first | done | with_reducible rfl
      simp only [Act.put, List.setIfInBounds_toArray, List.set_cons_zero, List.set_cons_succ]
      have S9 := hS
      clear hS
      refine wpAnyH_done (by kernel_rfl) ?_ _
      go_wp2_with fail
      go_ret
      rw [hR.out]
      exact ⟨rfl, KP.out.step S9⟩
  · rw [if_neg (by simpa using hd)]
    have hd1 : d < 1 := by omega
    clear hR0 hR1 hd
    go_enter Tryz.func22, Tryz.ntmps22
    go_wp2_with (first
      | ((with_reducible show wpList _ _ _ (⟨some 1, .box _ _, _, _, _, _⟩ :: _) _ _); refine wp_box _ rfl 24 _ rfl (uC s h p pa q f) rfl ?_; intro w1 g1 B1 F1; simp only [Act.put, List.setIfInBounds_toArray, List.set_cons_zero, List.set_cons_succ]; have KP := Lib.hid (show Kept w w1 from F1.below); have a0 : w1.cell? ⟨g1, 0, none⟩ = some (.string (str s)) := B1.cell rfl; have a1 : w1.cell? ⟨g1, 1, none⟩ = some (.string (str h)) := B1.cell rfl; have a2 : w1.cell? ⟨g1, 2, none⟩ = some (.int .i64 p) := B1.cell rfl)
      | (go_at_call 28; (with_reducible refine (H1.out _).mono ?_); (rintro e wd ⟨rfl, hw⟩; subst wd)))
    go_ret
    exact ⟨rfl, KP.out⟩
set_option maxHeartbeats 8000000 in
set_option maxRecDepth 100000 in
theorem rtext_any (u : U) (w : World) (hu : Ub u) (hpa : u.path.length ≤ 100000000) : Calls Tryz.prog 18 #[uV u] w fun e w' => e = .returned (.string (str (txt u))) ∧ Below w.heap.size w w' := by
  have HO0 : ∀ w', Calls Tryz.prog 22 #[uV u] w' fun e w2 => e = .returned (.string (str (org u))) ∧ Below w'.heap.size w' w2 := fun w' => rorigin_any u w' hu
  obtain ⟨s, h, p, pa, q, f⟩ := u
  have H1 : Hid (∀ w', Calls Tryz.prog 28 #[.string (str s)] w' fun e w2 => e = .returned (.int .i64 (dfl s)) ∧ w2 = w') := fun w' => default_any _ w'
  have ho : txt ⟨s, h, p, pa, q, f⟩ = (if spc s then orgT ⟨s, h, p, pa, q, f⟩ else s ++ [58]) ++ pa ++ q ++ f := rfl
  have ho2 : org ⟨s, h, p, pa, q, f⟩ = if spc s then orgT ⟨s, h, p, pa, q, f⟩ else [110, 117, 108, 108] := rfl
  have hsl := hu.s
  have hhl := hu.h
  have hpl := hu.pi
  have hql := hu.q
  have hfl := hu.f
  simp only at hsl hhl hpl hql hfl hpa
  have hol : (orgT ⟨s, h, p, pa, q, f⟩).length ≤ 200000000 := by
    have h4 : (prtT p).length ≤ 101 := by
      unfold prtT
      split
      · simp
      · rw [List.length_cons]; omega
    show (s ++ [58, 47, 47] ++ h ++ prtT p).length ≤ _
    simp only [List.length_append, List.length_cons, List.length_nil]
    omega
  rw [ho]
  rw [ho2] at HO0
  rw [dfl_pos] at HO0 ⊢
  clear hu ho ho2
  generalize orgT ⟨s, h, p, pa, q, f⟩ = O at HO0 hol ⊢
  have key : ∀ X : List UInt8, X.length ≤ 300000000 → (str X ++ str pa = str (X ++ pa) ∧ str (X ++ pa) ++ str q = str (X ++ pa ++ q) ∧ str (X ++ pa ++ q) ++ str f = str (X ++ pa ++ q ++ f)) ∧ (¬ (9223372036854775807 : Nat) < (str X).size + (str pa).size) ∧ (¬ (9223372036854775807 : Nat) < (str (X ++ pa)).size + (str q).size) ∧ (¬ (9223372036854775807 : Nat) < (str (X ++ pa ++ q)).size + (str f).size) := fun X hX => by
    refine ⟨⟨str_add _ _, str_add _ _, str_add _ _⟩, ?_, ?_, ?_⟩ <;> (simp only [str_size, List.length_append]; omega)
  by_cases hd : 0 < dfl s
  · have hd1 : ¬ dfl s < 1 := by omega
    rw [if_pos (decide_eq_true hd)] at HO0 ⊢
    have HO : Hid (∀ w', Calls Tryz.prog 22 #[.agg (uC s h p pa q f).toArray] w' fun e w2 => e = .returned (.string (str O)) ∧ Below w'.heap.size w' w2) := HO0
    obtain ⟨⟨a1, a2, a3⟩, r1, r2, r3⟩ := key O (by omega)
    generalize O ++ pa ++ q ++ f = M3 at a3 ⊢
    generalize O ++ pa ++ q = M2 at a2 a3 r3
    generalize O ++ pa = M1 at a1 a2 r2
    generalize dfl s = d at H1 hd1
    clear key hsl hhl hpl hql hfl hol hpa hd HO0
    go_enter Tryz.func18, Tryz.ntmps18
    go_wp2_with (first
      | ((with_reducible show wpList _ _ _ (⟨some 1, .box _ _, _, _, _, _⟩ :: _) _ _); refine wp_box _ rfl 24 _ rfl (uC s h p pa q f) rfl ?_; intro w1 g1 B1 F1; simp only [Act.put, List.setIfInBounds_toArray, List.set_cons_zero, List.set_cons_succ]; have KP := Lib.hid (show Kept w w1 from F1.below); have a0 : w1.cell? ⟨g1, 0, none⟩ = some (.string (str s)) := B1.cell rfl; have a3 : w1.cell? ⟨g1, 3, none⟩ = some (.string (str pa)) := B1.cell rfl; have a4 : w1.cell? ⟨g1, 4, none⟩ = some (.string (str q)) := B1.cell rfl; have a5 : w1.cell? ⟨g1, 5, none⟩ = some (.string (str f)) := B1.cell rfl)
      | (go_at_call 28; (with_reducible refine (H1.out _).mono ?_); (rintro e wd ⟨rfl, hw⟩; subst wd)))
    refine wp_region_held_drew (S := fun W => Kept w1 W) (by kernel_rfl) (Kept.refl w1).drew (fun hS => ?_)
    refine wpAnyH_take (i := 0) (oi := ⟨some 19, _, _, _, _, _⟩) (v := _) rfl (by kernel_rfl) (by kernel_rfl) (by kernel_rfl) (fun _ _ _ h => h) (yieldsIf_load_mid (by rfl) 24 (.tmp 1) rfl g1 0 rfl (uC s h p pa q f) _ (fun W hW => (B1.kept hW).whole) Tryz.underlying24 rfl n24) hS ?_
    simp only [Act.put, List.setIfInBounds_toArray, List.set_cons_zero, List.set_cons_succ]
    refine wpAnyH_take (i := 2) (oi := ⟨some 21, _, _, _, _, _⟩) (v := ?vt2) rfl (by kernel_rfl) (by kernel_rfl) (by kernel_rfl) (fun _ _ _ h => h) (Or.inl ⟨by rfl, ?yt2⟩) hS ?rt2
    case yt2 => intro W hW; go_simp; first | done | with_reducible rfl
    simp only [Act.put, List.setIfInBounds_toArray, List.set_cons_zero, List.set_cons_succ]
    refine wpAnyH_take (i := 3) (oi := ⟨some 22, _, _, _, _, _⟩) (v := ?vt3) rfl (by kernel_rfl) (by kernel_rfl) (by kernel_rfl) (fun _ _ _ h => h) (Or.inl ⟨by rfl, ?yt3⟩) hS ?rt3
    case yt3 => intro W hW; have hc : W.cell? ⟨g1, 3, none⟩ = some (.string (str pa)) := (B1.kept hW).cell rfl; go_simp; first | done | with_reducible rfl
    simp only [Act.put, List.setIfInBounds_toArray, List.set_cons_zero, List.set_cons_succ]
    refine wpAnyH_take (i := 5) (oi := ⟨some 24, _, _, _, _, _⟩) (v := ?vt5) rfl (by kernel_rfl) (by kernel_rfl) (by kernel_rfl) (fun _ _ _ h => h) (Or.inl ⟨by rfl, ?yt5⟩) hS ?rt5
    case yt5 => intro W hW; go_simp; first | done | with_reducible rfl
    simp only [Act.put, List.setIfInBounds_toArray, List.set_cons_zero, List.set_cons_succ]
    refine wpAnyH_take (i := 6) (oi := ⟨some 25, _, _, _, _, _⟩) (v := ?vt6) rfl (by kernel_rfl) (by kernel_rfl) (by kernel_rfl) (fun _ _ _ h => h) (Or.inl ⟨by rfl, ?yt6⟩) hS ?rt6
    case yt6 => intro W hW; have hc : W.cell? ⟨g1, 4, none⟩ = some (.string (str q)) := (B1.kept hW).cell rfl; go_simp; first | done | with_reducible rfl
    simp only [Act.put, List.setIfInBounds_toArray, List.set_cons_zero, List.set_cons_succ]
    refine wpAnyH_take (i := 8) (oi := ⟨some 27, _, _, _, _, _⟩) (v := ?vt8) rfl (by kernel_rfl) (by kernel_rfl) (by kernel_rfl) (fun _ _ _ h => h) (Or.inl ⟨by rfl, ?yt8⟩) hS ?rt8
    case yt8 => intro W hW; go_simp; first | done | with_reducible rfl
    simp only [Act.put, List.setIfInBounds_toArray, List.set_cons_zero, List.set_cons_succ]
    refine wpAnyH_take (i := 9) (oi := ⟨some 28, _, _, _, _, _⟩) (v := ?vt9) rfl (by kernel_rfl) (by kernel_rfl) (by kernel_rfl) (fun _ _ _ h => h) (Or.inl ⟨by rfl, ?yt9⟩) hS ?rt9
    case yt9 => intro W hW; have hc : W.cell? ⟨g1, 5, none⟩ = some (.string (str f)) := (B1.kept hW).cell rfl; go_simp; first | done | with_reducible rfl
    simp only [Act.put, List.setIfInBounds_toArray, List.set_cons_zero, List.set_cons_succ]
    refine wpAnyH_ready (rs := [1]) (by kernel_rfl) (by simp) ?_
    refine (AllReadyH.cons (o := ⟨some 20, _, _, _, _, _⟩) rfl (fun K hK => ?_) AllReadyH.nil)
    try go_simp
    (with_reducible refine (HO.out _).mono ?_)
    rintro e wx9 ⟨rfl, hb⟩
    have hS9 := hS.step hb
    clear hb hS
    have hS := hS9
    clear hS9
    refine hK.out _ _ hS (fun _ => ?_)
    clear hK K
    try simp only [Act.put, List.setIfInBounds_toArray, List.set_cons_zero, List.set_cons_succ]
    refine wpAnyH_take (i := 4) (oi := ⟨some 23, _, _, _, _, _⟩) (v := ?vt4) rfl (by kernel_rfl) (by kernel_rfl) (by kernel_rfl) (fun _ _ _ h => h) (Or.inl ⟨by rfl, ?yt4⟩) hS ?rt4
    case yt4 => intro W hW; go_simp; first | done | with_reducible rfl
    simp only [Act.put, List.setIfInBounds_toArray, List.set_cons_zero, List.set_cons_succ]
    refine wpAnyH_take (i := 7) (oi := ⟨some 26, _, _, _, _, _⟩) (v := ?vt7) rfl (by kernel_rfl) (by kernel_rfl) (by kernel_rfl) (fun _ _ _ h => h) (Or.inl ⟨by rfl, ?yt7⟩) hS ?rt7
    case yt7 => intro W hW; go_simp; first | done | with_reducible rfl
    simp only [Act.put, List.setIfInBounds_toArray, List.set_cons_zero, List.set_cons_succ]
    refine wpAnyH_take (i := 10) (oi := ⟨some 29, _, _, _, _, _⟩) (v := ?vt10) rfl (by kernel_rfl) (by kernel_rfl) (by kernel_rfl) (fun _ _ _ h => h) (Or.inl ⟨by rfl, ?yt10⟩) hS ?rt10
    case yt10 => intro W hW; go_simp; first | done | with_reducible rfl
    simp only [Act.put, List.setIfInBounds_toArray, List.set_cons_zero, List.set_cons_succ]
    refine wpAnyH_take (i := 11) (oi := ⟨some 2, _, _, _, _, _⟩) (v := ?vt11) rfl (by kernel_rfl) (by kernel_rfl) (by kernel_rfl) (fun _ _ _ h => h) (Or.inl ⟨by rfl, ?yt11⟩) hS ?rt11
    case yt11 => intro W hW; go_simp; first | done | with_reducible rfl
    simp only [Act.put, List.setIfInBounds_toArray, List.set_cons_zero, List.set_cons_succ]
    have S9 := hS
    clear hS
    refine wpAnyH_done (by kernel_rfl) ?_ _
    go_wp2_with fail
    go_ret
    exact ⟨rfl, KP.out.step S9⟩
  · have hd1 : dfl s < 1 := by omega
    rw [if_neg (by simpa using hd)]
    have a0 : str s ++ ⟨#[58]⟩ = str (s ++ [58]) := str_add s [58]
    have r0 : ¬ (9223372036854775807 : Nat) < (str s).size + 1 := by rw [str_size]; omega
    obtain ⟨⟨a1, a2, a3⟩, r1, r2, r3⟩ := key (s ++ [58]) (by simp only [List.length_append, List.length_cons, List.length_nil]; omega)
    generalize s ++ [58] ++ pa ++ q ++ f = M3 at a3 ⊢
    generalize s ++ [58] ++ pa ++ q = M2 at a2 a3 r3
    generalize s ++ [58] ++ pa = M1 at a1 a2 r2
    generalize s ++ [58] = M0 at a0 a1 r1
    generalize dfl s = d at H1 hd1
    clear key hsl hhl hpl hql hfl hol hpa hd HO0
    go_enter Tryz.func18, Tryz.ntmps18
    go_wp2_with (first
      | ((with_reducible show wpList _ _ _ (⟨some 1, .box _ _, _, _, _, _⟩ :: _) _ _); refine wp_box _ rfl 24 _ rfl (uC s h p pa q f) rfl ?_; intro w1 g1 B1 F1; simp only [Act.put, List.setIfInBounds_toArray, List.set_cons_zero, List.set_cons_succ]; have KP := Lib.hid (show Kept w w1 from F1.below); have a0 : w1.cell? ⟨g1, 0, none⟩ = some (.string (str s)) := B1.cell rfl; have a3 : w1.cell? ⟨g1, 3, none⟩ = some (.string (str pa)) := B1.cell rfl; have a4 : w1.cell? ⟨g1, 4, none⟩ = some (.string (str q)) := B1.cell rfl; have a5 : w1.cell? ⟨g1, 5, none⟩ = some (.string (str f)) := B1.cell rfl)
      | (go_at_call 28; (with_reducible refine (H1.out _).mono ?_); (rintro e wd ⟨rfl, hw⟩; subst wd)))
    go_ret
    exact ⟨rfl, KP.out⟩
set_option maxHeartbeats 8000000 in
set_option maxRecDepth 100000 in
theorem rright_any (u : U) (w : World) (hu : Ub u) (hl : (txt u).length ≤ 5000) (hpa : u.path.length ≤ 100000000) : Calls Tryz.prog 20 #[uV u] w fun e w' => e = .returned (.bool (rgt u)) ∧ Below w.heap.size w w' := by
  have H2 : Hid (∀ w', Kept w w' → Calls Tryz.prog 18 #[uV u] w' fun e w2 => e = .returned (.string (str (txt u))) ∧ Below w'.heap.size w' w2) := fun w' _ => rtext_any u w' hu hpa
  have H1 : Hid (∀ w', Kept w w' → Calls Tryz.prog 15 #[.string (str (txt u))] w' fun e w2 => e = .returned (rU (prsU (txt u))) ∧ Below w'.heap.size w' w2) := fun w' _ => rurl_any (txt u) w' (by omega)
  unfold rgt
  generalize txt u = t at H1 H2
  cases ho : prsU t with
  | none =>
    rw [ho] at H1
    have H1 : Hid (∀ w', Kept w w' → Calls Tryz.prog 15 #[.string (str t)] w' fun e w2 => e = .returned (.tuple #[.agg (uC [] [] 0 [] [] []).toArray, .int .i64 7]) ∧ Below w'.heap.size w' w2) := H1
    clear ho
    go_enter Tryz.func20, Tryz.ntmps20
    go_wp2_with (first
      | ((with_reducible show wpList _ _ _ (⟨some 1, .box _ _, _, _, _, _⟩ :: _) _ _); refine wp_box _ rfl 24 _ rfl (uC u.sch u.host u.port u.path u.q u.f) rfl ?_; intro w1 g1 B1 B1f; simp only [Act.put, List.setIfInBounds_toArray, List.set_cons_zero, List.set_cons_succ]; have k1 : Kept w w1 := B1f.below)
      | ((with_reducible show wpList _ _ _ (⟨some 6, .load 24 (.tmp 1), _, _, _, _⟩ :: _) _ _); refine wp_getU _ (by rfl) (.tmp 1) rfl g1 _ rfl B1 ?_; simp only [Act.put, List.setIfInBounds_toArray, List.set_cons_zero, List.set_cons_succ])
      | (go_at_call 18; (with_reducible refine (H2.out _ k1).mono ?_); (rintro e w2 ⟨rfl, hb2⟩; have k2 := k1.step hb2; have B2 := B1.kept hb2))
      | (go_at_call 15; (with_reducible refine (H1.out _ k2).mono ?_); (rintro e w3 ⟨rfl, hb3⟩; have k3 := k2.step hb3; have B3 := B2.kept hb3))
      | ((with_reducible show wpList _ _ _ (⟨some 3, .alloc _, _, _, _, _⟩ :: _) _ _); refine wp_new _ rfl 24 rfl _ z24 ?_; intro w4 g4 B4 B4f; simp only [Act.put, List.setIfInBounds_toArray, List.set_cons_zero, List.set_cons_succ]; have k4 := k3.step B4f.below; have B3' := B4f.blk B3; have hg : g1 ≠ g4 := (by have := B3.lt; rw [B4f.is]; omega); have hw4 : w.heap.size ≤ g4 := (by rw [B4f.is]; exact k3.size))
      | ((with_reducible show wpList _ _ _ (⟨none, .store 24 (.tmp 3) (.tmp 9), _, _, _, _⟩ :: _) _ _); refine wp_putAll _ rfl 24 (.tmp 3) (.tmp 9) rfl g4 24 _ (uC [] [] 0 [] [] []) rfl rfl B4 rfl n24 (uC_one _ _ _ _ _ _) ?_; intro w5 B5 U5; simp only [Act.put]; have k5 := k4.base (U5.below hw4)))
    go_ret
    exact ⟨by simp, k5⟩
  | some v =>
    rw [ho] at H1
    have H1 : Hid (∀ w', Kept w w' → Calls Tryz.prog 15 #[.string (str t)] w' fun e w2 => e = .returned (.tuple #[.agg (uC v.sch v.host v.port v.path v.q v.f).toArray, .int .i64 0]) ∧ Below w'.heap.size w' w2) := H1
    have hd : Hid (decide (some v = some u) = true ↔ v = u) := by show _ ↔ _; simp
    generalize decide (some v = some u) = d at hd ⊢
    clear ho
    go_enter Tryz.func20, Tryz.ntmps20
    go_wp2_with (first
      | ((with_reducible show wpList _ _ _ (⟨some 1, .box _ _, _, _, _, _⟩ :: _) _ _); refine wp_box _ rfl 24 _ rfl (uC u.sch u.host u.port u.path u.q u.f) rfl ?_; intro w1 g1 B1 B1f; simp only [Act.put, List.setIfInBounds_toArray, List.set_cons_zero, List.set_cons_succ]; have k1 : Kept w w1 := B1f.below)
      | ((with_reducible show wpList _ _ _ (⟨some 6, .load 24 (.tmp 1), _, _, _, _⟩ :: _) _ _); refine wp_getU _ (by rfl) (.tmp 1) rfl g1 _ rfl B1 ?_; simp only [Act.put, List.setIfInBounds_toArray, List.set_cons_zero, List.set_cons_succ])
      | (go_at_call 18; (with_reducible refine (H2.out _ k1).mono ?_); (rintro e w2 ⟨rfl, hb2⟩; have k2 := k1.step hb2; have B2 := B1.kept hb2))
      | (go_at_call 15; (with_reducible refine (H1.out _ k2).mono ?_); (rintro e w3 ⟨rfl, hb3⟩; have k3 := k2.step hb3; have B3 := B2.kept hb3))
      | ((with_reducible show wpList _ _ _ (⟨some 3, .alloc _, _, _, _, _⟩ :: _) _ _); refine wp_new _ rfl 24 rfl _ z24 ?_; intro w4 g4 B4 B4f; simp only [Act.put, List.setIfInBounds_toArray, List.set_cons_zero, List.set_cons_succ]; have k4 := k3.step B4f.below; have B3' := B4f.blk B3; have hg : g1 ≠ g4 := (by have := B3.lt; rw [B4f.is]; omega); have hw4 : w.heap.size ≤ g4 := (by rw [B4f.is]; exact k3.size))
      | ((with_reducible show wpList _ _ _ (⟨none, .store 24 (.tmp 3) (.tmp 9), _, _, _, _⟩ :: _) _ _); refine wp_putAll _ rfl 24 (.tmp 3) (.tmp 9) rfl g4 24 _ (uC v.sch v.host v.port v.path v.q v.f) rfl rfl B4 rfl n24 (uC_one _ _ _ _ _ _) ?_; intro w5 B5 U5; simp only [Act.put]; have k5 := k4.base (U5.below hw4); have B6 := B3'.upd U5 hg)
      | ((with_reducible show wpList _ _ _ (⟨some 14, .load 24 (.tmp 3), _, _, _, _⟩ :: _) _ _); refine wp_getU _ (by rfl) (.tmp 3) rfl g4 _ rfl B5 ?_; simp only [Act.put, List.setIfInBounds_toArray, List.set_cons_zero, List.set_cons_succ])
      | ((with_reducible show wpList _ _ _ (⟨some 15, .load 24 (.tmp 1), _, _, _, _⟩ :: _) _ _); refine wp_getU _ (by rfl) (.tmp 1) rfl g1 _ rfl B6 ?_; simp only [Act.put, List.setIfInBounds_toArray, List.set_cons_zero, List.set_cons_succ])
      | ((with_reducible show wpList _ _ _ (⟨some 16, .binOp .eql 24 _ _ _, _, _, _, _⟩ :: _) _ _); refine wp_eqU _ (by rfl) (.tmp 14) (.tmp 15) rfl v u rfl rfl d hd.out ?_; simp only [Act.put, List.setIfInBounds_toArray, List.set_cons_zero, List.set_cons_succ]))
    go_ret
    exact ⟨by simp, k5⟩
end Go.Proofs.YtcepigekibidfaaGreatDoor
