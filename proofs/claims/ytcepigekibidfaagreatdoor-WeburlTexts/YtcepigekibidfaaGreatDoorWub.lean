/-
  A parsed URL keeps the bounds of the walks; what Right, is and Same answer. Condition: a text of at most 10000 bytes.
-/
import Derived.Test.YtcepigekibidfaaGreatDoorGq
import Derived.Test.YtcepigekibidfaaGreatDoorGj
import Derived.Lib.ItoaLen
namespace Go.Proofs.YtcepigekibidfaaGreatDoor
open Go.RowKit

theorem sgn_len (c : UInt8) (n : Int) (l : List UInt8) : (sgn c n l).length ≤ 3 * l.length + 1 := by
  unfold sgn
  have h1 := aft_len c l
  have h2 := enc_len (inS n) (aft c l)
  split
  · rw [List.length_cons]; omega
  · simp
theorem port_ub (n p : Int) (h : PortOk n p) : -1 ≤ n ∧ n ≤ 65535 := by
  rcases h with rfl | ⟨h1, h2, _⟩ <;> omega
theorem itoa_ub (n : Int) (h0 : -9223372036854775808 ≤ n) (h1 : n ≤ 9223372036854775807) : (Lib.itoa n).length ≤ 100 := by
  have := Lib.itoa_length_le n h0 h1
  omega
theorem ub_of (l : List UInt8) (u : U) (h : prsU l = some u) (hl : l.length ≤ 10000) : Ub u := by
  unfold prsU pcl' at h
  have h0 := cln_len l
  generalize cln l = s at h h0
  split at h
  · split at h
    · cases h
    · rename_i p hp
      have hs := (dp_form _ p hp).2.2.2
      generalize low (bef 58 s) = sch at h hs
      have h1 := aft_len 58 s
      generalize aft 58 s = r at h h1
      have h2 := bef_len 35 r
      have h3 := sgn_len 35 2 r
      unfold psc at h
      generalize bef 35 r = r1 at h h2
      generalize sgn 35 2 r = f at h h3
      have h4 := bef_len 63 r1
      have h5 := sgn_len 63 3 r1
      have h6 := sgn_len 63 4 r1
      have h7 := enc_len (inS 1) (bef 63 r1)
      split at h
      · cases h
        exact ⟨by simp only; omega, by simp, by simp only; omega, by simp only; omega, itoa_ub (-1) (by omega) (by omega), by simp only; omega, by simp only; omega, by simp only; omega⟩
      · split at h
        · unfold psp at h
          have h8 := sub1_len' 92 47 (bef 63 r1)
          generalize sub1 92 47 (bef 63 r1) = r2 at h h8
          have h9 : (r2.drop 2).length ≤ r2.length := by rw [List.length_drop]; omega
          generalize r2.drop 2 = b at h h9
          have h10 := bef_len 47 b
          have h11 := aft_len 47 b
          split at h
          · cases h
          · split at h
            · cases h
            · split at h
              · cases h
              · rename_i n hn
                cases h
                have hpo := port_ub _ _ (prtN_ok _ _ _ hn)
                have hc : (cpt (bef 47 b)).1.length ≤ 10000 := by
                  unfold cpt
                  split
                  · rw [List.length_take]; omega
                  · show (bef 47 b).length ≤ _; omega
                have hpl : (prs (cpt (bef 47 b)).1).1.length ≤ 100000 := prs_len _ _ _ rfl hc
                have hpa := pth_bound (aft 47 b) (by omega)
                refine ⟨by simp only; omega, by simp only; omega, by simp only; omega, by simp only; omega, itoa_ub n (by omega) (by omega), ?_, by simp only; omega, by simp only; omega⟩
                show (pth (aft 47 b)).length ≤ _
                unfold pth
                rw [List.length_cons]
                omega
        · cases h
  · cases h
/-- Is a text's URL written so? -/
def isB (a b : List UInt8) : Bool := match prsU a with
  | some u => decide (txt u = b)
  | none => false
instance : DecidableEq U := fun u v => by
  obtain ⟨a, b, c, d, e, f⟩ := u
  obtain ⟨a2, b2, c2, d2, e2, f2⟩ := v
  rw [U.mk.injEq]
  infer_instance
def rgt (u : U) : Bool := decide (prsU (txt u) = some u)
section
variable {ops : Array Oper} {rest : List Oper} {o : Oper} {a : Act} {Q : Exit → Act → World → Prop}
/-- A URL is read whole. -/
theorem wp_getU (w : World) (hgd : Region.wanted o (yielded ops a.tmps) = true) (x : Operand) (ho : o.op = .load 24 x) (b : Nat) (u : U)
    (hx : a.eval x = .pointer (some ⟨b, 0, none⟩)) (hb : Blk w b 24 (uC u.sch u.host u.port u.path u.q u.f))
    (h : wpList Tryz.prog ops Q rest (a.put o.dst (uV u)) w) : wpList Tryz.prog ops Q (o :: rest) a w :=
  wpList_step fun K hK => by
    rw [if_pos hgd]
    exact wp_load_mid 24 x ho b 0 hx _ _ hb.whole Tryz.underlying24 rfl n24 (hK _ _ h)
end
set_option maxHeartbeats 4000000 in
set_option maxRecDepth 100000 in
theorem is_anyU (a b : List UInt8) (w : World) (ha : a.length ≤ 1000000) (hub : ∀ u, prsU a = some u → Ub u) (ht : Tb w) : Calls Tryz.prog 25 #[.string (str a), .string (str b)] w fun e w' => e = .returned (.bool (isB a b)) ∧ Below w.heap.size w w' := by
  have H1 := url_any a w (by omega) ht
  unfold isB
  cases ho : prsU a with
  | none =>
    rw [ho] at H1
    have H1 : Hid (Calls Tryz.prog 14 #[.string (str a)] w fun e w' => e = .returned (.tuple #[.agg (uC [] [] 0 [] [] []).toArray, .int .i64 7]) ∧ Below w.heap.size w w') := H1
    clear ho ha hub
    go_enter Tryz.func25, Tryz.ntmps25
    go_wp2_with (first
      | (go_at_call 14; (with_reducible refine H1.out.mono ?_); (rintro e w1 ⟨rfl, hb1⟩))
      | ((with_reducible show wpList _ _ _ (⟨some 5, .alloc _, _, _, _, _⟩ :: _) _ _); refine wp_new _ rfl 24 rfl _ z24 ?_; intro w2 g1 B1 B1f; simp only [Act.put, List.setIfInBounds_toArray, List.set_cons_zero, List.set_cons_succ])
      | ((with_reducible show wpList _ _ _ (⟨none, .store 24 (.tmp 5) (.tmp 10), _, _, _, _⟩ :: _) _ _); refine wp_putAll _ rfl 24 (.tmp 5) (.tmp 10) rfl g1 24 _ (uC [] [] 0 [] [] []) rfl rfl B1 rfl n24 (uC_one _ _ _ _ _ _) ?_; intro w3 B2 U2; simp only [Act.put]))
    go_ret
    have k1 : Kept w w1 := hb1
    exact ⟨rfl, (k1.step B1f.below).base (U2.below (by rw [B1f.is]; exact hb1.size))⟩
  | some u =>
    rw [ho] at H1
    have H1 : Hid (Calls Tryz.prog 14 #[.string (str a)] w fun e w' => e = .returned (.tuple #[.agg (uC u.sch u.host u.port u.path u.q u.f).toArray, .int .i64 0]) ∧ Below w.heap.size w w') := H1
    have hu := hub u ho
    have H2 : Hid (∀ w', Kept w w' → Calls Tryz.prog 17 #[uV u] w' fun e w2 => e = .returned (.string (str (txt u))) ∧ Below w'.heap.size w' w2) := fun w' hk => text_any u w' hu (ht.kp hk)
    have he : ((str (txt u)).toList == (str b).toList) = decide (txt u = b) := by rw [toList_str, toList_str, Bool.eq_iff_iff, beq_iff_eq, decide_eq_true_eq]
    show Calls _ _ _ _ fun e w' => e = .returned (.bool (decide (txt u = b))) ∧ _
    generalize decide (txt u = b) = d at he ⊢
    generalize txt u = t at H2 he
    clear ho ha hu hub
    go_enter Tryz.func25, Tryz.ntmps25
    go_wp2_with (first
      | (go_at_call 14; (with_reducible refine H1.out.mono ?_); (rintro e w1 ⟨rfl, hb1⟩))
      | ((with_reducible show wpList _ _ _ (⟨some 5, .alloc _, _, _, _, _⟩ :: _) _ _); refine wp_new _ rfl 24 rfl _ z24 ?_; intro w2 g1 B1 B1f; simp only [Act.put, List.setIfInBounds_toArray, List.set_cons_zero, List.set_cons_succ])
      | ((with_reducible show wpList _ _ _ (⟨none, .store 24 (.tmp 5) (.tmp 10), _, _, _, _⟩ :: _) _ _); refine wp_putAll _ rfl 24 (.tmp 5) (.tmp 10) rfl g1 24 _ (uC u.sch u.host u.port u.path u.q u.f) rfl rfl B1 rfl n24 (uC_one _ _ _ _ _ _) ?_; intro w3 B2 U2; simp only [Act.put]; have k3 : Kept w w3 := ((show Kept w w1 from hb1).step B1f.below).base (U2.below (by rw [B1f.is]; exact hb1.size)))
      | ((with_reducible show wpList _ _ _ (⟨some 15, .load 24 (.tmp 5), _, _, _, _⟩ :: _) _ _); refine wp_getU _ (by rfl) (.tmp 5) rfl g1 _ rfl B2 ?_; simp only [Act.put, List.setIfInBounds_toArray, List.set_cons_zero, List.set_cons_succ])
      | (go_at_call 17; (with_reducible refine (H2.out _ k3).mono ?_); (rintro e w4 ⟨rfl, hb4⟩)))
    go_ret
    exact ⟨by simp, k3.step hb4⟩
theorem is_any (a b : List UInt8) (w : World) (ha : a.length ≤ 10000) (ht : Tb w) : Calls Tryz.prog 25 #[.string (str a), .string (str b)] w fun e w' => e = .returned (.bool (isB a b)) ∧ Below w.heap.size w w' :=
  is_anyU a b w (by omega) (fun u h => ub_of a u h ha) ht
set_option maxHeartbeats 4000000 in
set_option maxRecDepth 100000 in
theorem right_any (u : U) (w : World) (hu : Ub u) (hl : (txt u).length ≤ 1000000) (ht : Tb w) : Calls Tryz.prog 19 #[uV u] w fun e w' => e = .returned (.bool (rgt u)) ∧ Below w.heap.size w w' := by
  have H2 : Hid (∀ w', Kept w w' → Calls Tryz.prog 17 #[uV u] w' fun e w2 => e = .returned (.string (str (txt u))) ∧ Below w'.heap.size w' w2) := fun w' hk => text_any u w' hu (ht.kp hk)
  have H1 : Hid (∀ w', Kept w w' → Calls Tryz.prog 14 #[.string (str (txt u))] w' fun e w2 => e = .returned (rU (prsU (txt u))) ∧ Below w'.heap.size w' w2) := fun w' hk => url_any (txt u) w' (by omega) (ht.kp hk)
  unfold rgt
  generalize txt u = t at H1 H2
  cases ho : prsU t with
  | none =>
    rw [ho] at H1
    have H1 : Hid (∀ w', Kept w w' → Calls Tryz.prog 14 #[.string (str t)] w' fun e w2 => e = .returned (.tuple #[.agg (uC [] [] 0 [] [] []).toArray, .int .i64 7]) ∧ Below w'.heap.size w' w2) := H1
    clear ho
    go_enter Tryz.func19, Tryz.ntmps19
    go_wp2_with (first
      | ((with_reducible show wpList _ _ _ (⟨some 1, .box _ _, _, _, _, _⟩ :: _) _ _); refine wp_box _ rfl 24 _ rfl (uC u.sch u.host u.port u.path u.q u.f) rfl ?_; intro w1 g1 B1 B1f; simp only [Act.put, List.setIfInBounds_toArray, List.set_cons_zero, List.set_cons_succ]; have k1 : Kept w w1 := B1f.below)
      | ((with_reducible show wpList _ _ _ (⟨some 6, .load 24 (.tmp 1), _, _, _, _⟩ :: _) _ _); refine wp_getU _ (by rfl) (.tmp 1) rfl g1 _ rfl B1 ?_; simp only [Act.put, List.setIfInBounds_toArray, List.set_cons_zero, List.set_cons_succ])
      | (go_at_call 17; (with_reducible refine (H2.out _ k1).mono ?_); (rintro e w2 ⟨rfl, hb2⟩; have k2 := k1.step hb2; have B2 := B1.kept hb2))
      | (go_at_call 14; (with_reducible refine (H1.out _ k2).mono ?_); (rintro e w3 ⟨rfl, hb3⟩; have k3 := k2.step hb3; have B3 := B2.kept hb3))
      | ((with_reducible show wpList _ _ _ (⟨some 3, .alloc _, _, _, _, _⟩ :: _) _ _); refine wp_new _ rfl 24 rfl _ z24 ?_; intro w4 g4 B4 B4f; simp only [Act.put, List.setIfInBounds_toArray, List.set_cons_zero, List.set_cons_succ]; have k4 := k3.step B4f.below; have B3' := B4f.blk B3; have hg : g1 ≠ g4 := (by have := B3.lt; rw [B4f.is]; omega); have hw4 : w.heap.size ≤ g4 := (by rw [B4f.is]; exact k3.size))
      | ((with_reducible show wpList _ _ _ (⟨none, .store 24 (.tmp 3) (.tmp 9), _, _, _, _⟩ :: _) _ _); refine wp_putAll _ rfl 24 (.tmp 3) (.tmp 9) rfl g4 24 _ (uC [] [] 0 [] [] []) rfl rfl B4 rfl n24 (uC_one _ _ _ _ _ _) ?_; intro w5 B5 U5; simp only [Act.put]; have k5 := k4.base (U5.below hw4)))
    go_ret
    exact ⟨by simp, k5⟩
  | some v =>
    rw [ho] at H1
    have H1 : Hid (∀ w', Kept w w' → Calls Tryz.prog 14 #[.string (str t)] w' fun e w2 => e = .returned (.tuple #[.agg (uC v.sch v.host v.port v.path v.q v.f).toArray, .int .i64 0]) ∧ Below w'.heap.size w' w2) := H1
    have hd : Hid (decide (some v = some u) = true ↔ v = u) := by show _ ↔ _; simp
    generalize decide (some v = some u) = d at hd ⊢
    clear ho
    go_enter Tryz.func19, Tryz.ntmps19
    go_wp2_with (first
      | ((with_reducible show wpList _ _ _ (⟨some 1, .box _ _, _, _, _, _⟩ :: _) _ _); refine wp_box _ rfl 24 _ rfl (uC u.sch u.host u.port u.path u.q u.f) rfl ?_; intro w1 g1 B1 B1f; simp only [Act.put, List.setIfInBounds_toArray, List.set_cons_zero, List.set_cons_succ]; have k1 : Kept w w1 := B1f.below)
      | ((with_reducible show wpList _ _ _ (⟨some 6, .load 24 (.tmp 1), _, _, _, _⟩ :: _) _ _); refine wp_getU _ (by rfl) (.tmp 1) rfl g1 _ rfl B1 ?_; simp only [Act.put, List.setIfInBounds_toArray, List.set_cons_zero, List.set_cons_succ])
      | (go_at_call 17; (with_reducible refine (H2.out _ k1).mono ?_); (rintro e w2 ⟨rfl, hb2⟩; have k2 := k1.step hb2; have B2 := B1.kept hb2))
      | (go_at_call 14; (with_reducible refine (H1.out _ k2).mono ?_); (rintro e w3 ⟨rfl, hb3⟩; have k3 := k2.step hb3; have B3 := B2.kept hb3))
      | ((with_reducible show wpList _ _ _ (⟨some 3, .alloc _, _, _, _, _⟩ :: _) _ _); refine wp_new _ rfl 24 rfl _ z24 ?_; intro w4 g4 B4 B4f; simp only [Act.put, List.setIfInBounds_toArray, List.set_cons_zero, List.set_cons_succ]; have k4 := k3.step B4f.below; have B3' := B4f.blk B3; have hg : g1 ≠ g4 := (by have := B3.lt; rw [B4f.is]; omega); have hw4 : w.heap.size ≤ g4 := (by rw [B4f.is]; exact k3.size))
      | ((with_reducible show wpList _ _ _ (⟨none, .store 24 (.tmp 3) (.tmp 9), _, _, _, _⟩ :: _) _ _); refine wp_putAll _ rfl 24 (.tmp 3) (.tmp 9) rfl g4 24 _ (uC v.sch v.host v.port v.path v.q v.f) rfl rfl B4 rfl n24 (uC_one _ _ _ _ _ _) ?_; intro w5 B5 U5; simp only [Act.put]; have k5 := k4.base (U5.below hw4); have B6 := B3'.upd U5 hg)
      | ((with_reducible show wpList _ _ _ (⟨some 14, .load 24 (.tmp 3), _, _, _, _⟩ :: _) _ _); refine wp_getU _ (by rfl) (.tmp 3) rfl g4 _ rfl B5 ?_; simp only [Act.put, List.setIfInBounds_toArray, List.set_cons_zero, List.set_cons_succ])
      | ((with_reducible show wpList _ _ _ (⟨some 15, .load 24 (.tmp 1), _, _, _, _⟩ :: _) _ _); refine wp_getU _ (by rfl) (.tmp 1) rfl g1 _ rfl B6 ?_; simp only [Act.put, List.setIfInBounds_toArray, List.set_cons_zero, List.set_cons_succ])
      | ((with_reducible show wpList _ _ _ (⟨some 16, .binOp .eql 24 _ _ _, _, _, _, _⟩ :: _) _ _); refine wp_eqU _ (by rfl) (.tmp 14) (.tmp 15) rfl v u rfl rfl d hd.out ?_; simp only [Act.put, List.setIfInBounds_toArray, List.set_cons_zero, List.set_cons_succ]))
    go_ret
    exact ⟨by simp, k5⟩
set_option maxHeartbeats 4000000 in
set_option maxRecDepth 100000 in
theorem same_any (u v : U) (w : World) (hu : u.sch.length ≤ 1000) : Calls Tryz.prog 23 #[uV u, uV v] w fun e w' => e = .returned (.bool (same u v)) ∧ Below w.heap.size w w' := by
  have H1 : Hid (∀ w', Calls Tryz.prog 36 #[.string (str u.sch)] w' fun e w2 => e = .returned (.bool (spc u.sch)) ∧ Below w'.heap.size w' w2) := fun w' => special_any u.sch w' (by omega)
  unfold same
  cases hs : spc u.sch with
  | false =>
    rw [hs] at H1
    clear hs
    go_enter Tryz.func23, Tryz.ntmps23
    go_wp2_with (first
      | ((with_reducible show wpList _ _ _ (⟨some 2, .box _ _, _, _, _, _⟩ :: _) _ _); refine wp_box _ rfl 24 _ rfl (uC u.sch u.host u.port u.path u.q u.f) rfl ?_; intro w1 g1 B1 B1f; simp only [Act.put, List.setIfInBounds_toArray, List.set_cons_zero, List.set_cons_succ]; have k1 : Kept w w1 := B1f.below)
      | ((with_reducible show wpList _ _ _ (⟨some 3, .box _ _, _, _, _, _⟩ :: _) _ _); refine wp_box _ rfl 24 _ rfl (uC v.sch v.host v.port v.path v.q v.f) rfl ?_; intro w2 g2 B2 B2f; simp only [Act.put, List.setIfInBounds_toArray, List.set_cons_zero, List.set_cons_succ]; have k2 := k1.step B2f.below; have C1 := B2f.blk B1))
    refine wp_region_held_drew (S := fun W => Kept w2 W) (by kernel_rfl) (Kept.refl w2).drew (fun hS => ?_)
    refine wpAnyH_take (i := 0) (oi := ⟨some 5, _, _, _, _, _⟩) (v := ?va0) rfl (by kernel_rfl) (by kernel_rfl) (by kernel_rfl) (fun _ _ _ h => h) (Or.inl ⟨by rfl, ?ya0⟩) hS ?ra0
    case ya0 => intro W hW; go_simp; first | done | with_reducible rfl
    simp only [Act.put, List.setIfInBounds_toArray, List.set_cons_zero, List.set_cons_succ]
    refine wpAnyH_take (i := 1) (oi := ⟨some 6, _, _, _, _, _⟩) (v := ?va1) rfl (by kernel_rfl) (by kernel_rfl) (by kernel_rfl) (fun _ _ _ h => h) (Or.inl ⟨by rfl, ?ya1⟩) hS ?ra1
    case ya1 => intro W hW; have hc : W.cell? ⟨g1, 0, none⟩ = some (.string (str u.sch)) := (C1.kept hW).cell rfl; go_simp; first | done | with_reducible rfl
    simp only [Act.put, List.setIfInBounds_toArray, List.set_cons_zero, List.set_cons_succ]
    refine wpAnyH_ready (rs := [2]) (by kernel_rfl) (by simp) ?_
    refine (AllReadyH.cons (o := ⟨some 7, _, _, _, _, _⟩) rfl (fun K hK => ?_) AllReadyH.nil)
    try go_simp
    (with_reducible refine (H1.out _).mono ?_)
    rintro e w3 ⟨rfl, hb⟩
    have hS3 : Kept w2 w3 := hS.step hb
    clear hb
    refine hK.out _ _ hS3 (fun _ => ?_)
    clear hK K
    try simp only [Act.put, List.setIfInBounds_toArray, List.set_cons_zero, List.set_cons_succ]
    have hS := hS3
    refine wpAnyH_take (i := 3) (oi := ⟨some 8, _, _, _, _, _⟩) (v := ?va3) rfl (by kernel_rfl) (by kernel_rfl) (by kernel_rfl) (fun _ _ _ h => h) (Or.inl ⟨by rfl, ?ya3⟩) hS ?ra3
    case ya3 => intro W hW; go_simp; first | done | with_reducible rfl
    simp only [Act.put, List.setIfInBounds_toArray, List.set_cons_zero, List.set_cons_succ]
    refine wpAnyH_take (i := 4) (oi := ⟨some 9, _, _, _, _, _⟩) (v := undef) rfl (by kernel_rfl) (by kernel_rfl) (by kernel_rfl) (fun _ _ _ h => h) (Or.inr ⟨by rfl, rfl⟩) hS ?_
    simp only [Act.put, List.setIfInBounds_toArray, List.set_cons_zero, List.set_cons_succ]
    refine wpAnyH_take (i := 6) (oi := ⟨some 11, _, _, _, _, _⟩) (v := undef) rfl (by kernel_rfl) (by kernel_rfl) (by kernel_rfl) (fun _ _ _ h => h) (Or.inr ⟨by rfl, rfl⟩) hS ?_
    simp only [Act.put, List.setIfInBounds_toArray, List.set_cons_zero, List.set_cons_succ]
    refine wpAnyH_ready (rs := [5]) (by kernel_rfl) (by simp) ?_
    refine (AllReadyH.cons (o := ⟨some 10, _, _, _, _, _⟩) rfl (fun K hK => ?_) AllReadyH.nil)
    try go_simp
    refine hK.out _ _ hS (fun _ => ?_)
    clear hK K
    try simp only [Act.put, List.setIfInBounds_toArray, List.set_cons_zero, List.set_cons_succ]
    refine wpAnyH_ready (rs := [7]) (by kernel_rfl) (by simp) ?_
    refine (AllReadyH.cons (o := ⟨some 12, _, _, _, _, _⟩) rfl (fun K hK => ?_) AllReadyH.nil)
    try go_simp
    refine hK.out _ _ hS (fun _ => ?_)
    clear hK K
    try simp only [Act.put, List.setIfInBounds_toArray, List.set_cons_zero, List.set_cons_succ]
    refine wpAnyH_take (i := 8) (oi := ⟨some 13, _, _, _, _, _⟩) (v := undef) rfl (by kernel_rfl) (by kernel_rfl) (by kernel_rfl) (fun _ _ _ h => h) (Or.inr ⟨by rfl, rfl⟩) hS ?_
    simp only [Act.put, List.setIfInBounds_toArray, List.set_cons_zero, List.set_cons_succ]
    refine wpAnyH_take (i := 9) (oi := ⟨some 14, _, _, _, _, _⟩) (v := ?xa9) rfl (by kernel_rfl) (by kernel_rfl) (by kernel_rfl) (fun _ _ _ h => h) (Or.inl ⟨by rfl, ?xy9⟩) hS ?xr9
    case xy9 => intro W hW; go_simp; first | done | with_reducible rfl
    simp only [Act.put, List.setIfInBounds_toArray, List.set_cons_zero, List.set_cons_succ]
    refine wpAnyH_take (i := 10) (oi := ⟨some 4, _, _, _, _, _⟩) (v := ?xa10) rfl (by kernel_rfl) (by kernel_rfl) (by kernel_rfl) (fun _ _ _ h => h) (Or.inl ⟨by rfl, ?xy10⟩) hS ?xr10
    case xy10 => intro W hW; go_simp; first | done | with_reducible rfl
    simp only [Act.put, List.setIfInBounds_toArray, List.set_cons_zero, List.set_cons_succ]
    refine wpAnyH_done (by kernel_rfl) ?_ _
    go_wp2_with fail
    go_ret
    exact ⟨by simp, k2.step hS3⟩
  | true =>
    rw [hs] at H1
    have H2 : Hid (∀ w', Calls Tryz.prog 45 #[.agg (uC u.sch u.host u.port u.path u.q u.f).toArray] w' fun e w2 => e = .returned (.agg (oC u.sch u.host u.port).toArray) ∧ Below w'.heap.size w' w2) := fun w' => originOf_any u.sch u.host u.path u.q u.f u.port w'
    have H3 : Hid (∀ w', Calls Tryz.prog 45 #[.agg (uC v.sch v.host v.port v.path v.q v.f).toArray] w' fun e w2 => e = .returned (.agg (oC v.sch v.host v.port).toArray) ∧ Below w'.heap.size w' w2) := fun w' => originOf_any v.sch v.host v.path v.q v.f v.port w'
    have hd : Hid (decide (u.sch = v.sch ∧ u.host = v.host ∧ u.port = v.port) = true ↔ (u.sch = v.sch ∧ u.host = v.host ∧ u.port = v.port)) := by show _ ↔ _; simp
    rw [Bool.true_and]
    generalize decide (u.sch = v.sch ∧ u.host = v.host ∧ u.port = v.port) = d at hd ⊢
    have he : ∀ W : World, (binOp .eql 58 (.agg (oC u.sch u.host u.port).toArray) (.agg (oC v.sch v.host v.port).toArray)).run Tryz.prog W = .ok (.bool d) W := fun W => run_eq58 _ _ _ _ _ _ d hd.out W
    have hgd : ∀ (x y : Operand) (W : World), (eqGuard .eql 58 x y (.agg (oC u.sch u.host u.port).toArray) (.agg (oC v.sch v.host v.port).toArray)).run Tryz.prog W = .ok () W := fun x y W => run_eqGuard_agg W .eql 58 x y _ _ guard58
    clear hs
    go_enter Tryz.func23, Tryz.ntmps23
    go_wp2_with (first
      | ((with_reducible show wpList _ _ _ (⟨some 2, .box _ _, _, _, _, _⟩ :: _) _ _); refine wp_box _ rfl 24 _ rfl (uC u.sch u.host u.port u.path u.q u.f) rfl ?_; intro w1 g1 B1 B1f; simp only [Act.put, List.setIfInBounds_toArray, List.set_cons_zero, List.set_cons_succ]; have k1 : Kept w w1 := B1f.below)
      | ((with_reducible show wpList _ _ _ (⟨some 3, .box _ _, _, _, _, _⟩ :: _) _ _); refine wp_box _ rfl 24 _ rfl (uC v.sch v.host v.port v.path v.q v.f) rfl ?_; intro w2 g2 B2 B2f; simp only [Act.put, List.setIfInBounds_toArray, List.set_cons_zero, List.set_cons_succ]; have k2 := k1.step B2f.below; have C1 := B2f.blk B1))
    refine wp_region_held_drew (S := fun W => Kept w2 W) (by kernel_rfl) (Kept.refl w2).drew (fun hS => ?_)
    refine wpAnyH_take (i := 0) (oi := ⟨some 5, _, _, _, _, _⟩) (v := ?wa0) rfl (by kernel_rfl) (by kernel_rfl) (by kernel_rfl) (fun _ _ _ h => h) (Or.inl ⟨by rfl, ?za0⟩) hS ?sa0
    case za0 => intro W hW; go_simp; first | done | with_reducible rfl
    simp only [Act.put, List.setIfInBounds_toArray, List.set_cons_zero, List.set_cons_succ]
    refine wpAnyH_take (i := 1) (oi := ⟨some 6, _, _, _, _, _⟩) (v := ?wa1) rfl (by kernel_rfl) (by kernel_rfl) (by kernel_rfl) (fun _ _ _ h => h) (Or.inl ⟨by rfl, ?za1⟩) hS ?sa1
    case za1 => intro W hW; have hc : W.cell? ⟨g1, 0, none⟩ = some (.string (str u.sch)) := (C1.kept hW).cell rfl; go_simp; first | done | with_reducible rfl
    simp only [Act.put, List.setIfInBounds_toArray, List.set_cons_zero, List.set_cons_succ]
    refine wpAnyH_ready (rs := [2]) (by kernel_rfl) (by simp) ?_
    refine (AllReadyH.cons (o := ⟨some 7, _, _, _, _, _⟩) rfl (fun K hK => ?_) AllReadyH.nil)
    try go_simp
    (with_reducible refine (H1.out _).mono ?_)
    rintro e w3 ⟨rfl, hb⟩
    have hS3 : Kept w2 w3 := hS.step hb
    clear hb
    refine hK.out _ _ hS3 (fun _ => ?_)
    clear hK K
    try simp only [Act.put, List.setIfInBounds_toArray, List.set_cons_zero, List.set_cons_succ]
    have hS := hS3
    refine wpAnyH_take (i := 3) (oi := ⟨some 8, _, _, _, _, _⟩) (v := ?wa3) rfl (by kernel_rfl) (by kernel_rfl) (by kernel_rfl) (fun _ _ _ h => h) (Or.inl ⟨by rfl, ?za3⟩) hS ?sa3
    case za3 => intro W hW; go_simp; first | done | with_reducible rfl
    simp only [Act.put, List.setIfInBounds_toArray, List.set_cons_zero, List.set_cons_succ]
    refine wpAnyH_take (i := 4) (oi := ⟨some 9, _, _, _, _, _⟩) (v := _) rfl (by kernel_rfl) (by kernel_rfl) (by kernel_rfl) (fun _ _ _ h => h) (yieldsIf_load_mid (by rfl) 24 (.tmp 2) rfl g1 0 rfl (uC u.sch u.host u.port u.path u.q u.f) _ (fun W hW => (C1.kept hW).whole) Tryz.underlying24 rfl n24) hS ?_
    simp only [Act.put, List.setIfInBounds_toArray, List.set_cons_zero, List.set_cons_succ]
    refine wpAnyH_take (i := 6) (oi := ⟨some 11, _, _, _, _, _⟩) (v := _) rfl (by kernel_rfl) (by kernel_rfl) (by kernel_rfl) (fun _ _ _ h => h) (yieldsIf_load_mid (by rfl) 24 (.tmp 3) rfl g2 0 rfl (uC v.sch v.host v.port v.path v.q v.f) _ (fun W hW => (B2.kept hW).whole) Tryz.underlying24 rfl n24) hS ?_
    simp only [Act.put, List.setIfInBounds_toArray, List.set_cons_zero, List.set_cons_succ]
    refine wpAnyH_ready (rs := [5]) (by kernel_rfl) (by simp) ?_
    refine (AllReadyH.cons (o := ⟨some 10, _, _, _, _, _⟩) rfl (fun K hK => ?_) AllReadyH.nil)
    try go_simp
    (with_reducible refine (H2.out _).mono ?_)
    rintro e w4 ⟨rfl, hb⟩
    have hS4 : Kept w2 w4 := hS.step hb
    clear hb
    refine hK.out _ _ hS4 (fun _ => ?_)
    clear hK K
    try simp only [Act.put, List.setIfInBounds_toArray, List.set_cons_zero, List.set_cons_succ]
    have hS := hS4
    refine wpAnyH_ready (rs := [7]) (by kernel_rfl) (by simp) ?_
    refine (AllReadyH.cons (o := ⟨some 12, _, _, _, _, _⟩) rfl (fun K hK => ?_) AllReadyH.nil)
    try go_simp
    (with_reducible refine (H3.out _).mono ?_)
    rintro e w5 ⟨rfl, hb⟩
    have hS5 : Kept w2 w5 := hS.step hb
    clear hb
    refine hK.out _ _ hS5 (fun _ => ?_)
    clear hK K
    try simp only [Act.put, List.setIfInBounds_toArray, List.set_cons_zero, List.set_cons_succ]
    have hS := hS5
    refine wpAnyH_take (i := 8) (oi := ⟨some 13, _, _, _, _, _⟩) (v := ?va8) rfl (by kernel_rfl) (by kernel_rfl) (by kernel_rfl) (fun _ _ _ h => h) (Or.inl ⟨by rfl, ?ya8⟩) hS ?ra8
    case ya8 => intro W hW; go_simp; first | done | with_reducible rfl
    simp only [Act.put, List.setIfInBounds_toArray, List.set_cons_zero, List.set_cons_succ]
    refine wpAnyH_take (i := 9) (oi := ⟨some 14, _, _, _, _, _⟩) (v := ?va9) rfl (by kernel_rfl) (by kernel_rfl) (by kernel_rfl) (fun _ _ _ h => h) (Or.inl ⟨by rfl, ?ya9⟩) hS ?ra9
    case ya9 => intro W hW; go_simp; first | done | with_reducible rfl
    simp only [Act.put, List.setIfInBounds_toArray, List.set_cons_zero, List.set_cons_succ]
    refine wpAnyH_take (i := 10) (oi := ⟨some 4, _, _, _, _, _⟩) (v := ?va10) rfl (by kernel_rfl) (by kernel_rfl) (by kernel_rfl) (fun _ _ _ h => h) (Or.inl ⟨by rfl, ?ya10⟩) hS ?ra10
    case ya10 => intro W hW; go_simp; first | done | with_reducible rfl
    simp only [Act.put, List.setIfInBounds_toArray, List.set_cons_zero, List.set_cons_succ]
    refine wpAnyH_done (by kernel_rfl) ?_ _
    go_wp2_with fail
    go_ret
    exact ⟨by simp, k2.step hS5⟩
end Go.Proofs.YtcepigekibidfaaGreatDoor
