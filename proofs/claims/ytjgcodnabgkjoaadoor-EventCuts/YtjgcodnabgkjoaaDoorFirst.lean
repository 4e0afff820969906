/-
  The walk of transeptlaw05.EventFirst: true, for all bytes; nothing that was there turns. Condition: the table of kinds holds what the program's text lays.
-/
import Derived.Test.YtjgcodnabgkjoaaDoorApp
namespace Go.Proofs.YtjgcodnabgkjoaaDoor
open Go.RowKit

theorem Own.view {w : World} {base n c : Nat} {A : Option Addr} {l : List UInt8} (h : Own w base (.slice A n c) n l) : n ≤ c ∧ Bs w w.heap.size A n l := by
  obtain ⟨A', c', e, h1, h2⟩ := h.form
  injection e with e1 e2 e3
  subst e1 e3
  exact ⟨h1, h2⟩

set_option maxHeartbeats 4000000 in
set_option maxRecDepth 100000 in
theorem first_walk (A : Option Addr) (n c : Nat) (l : List UInt8) (A' : Option Addr) (n' c' : Nat) (l' : List UInt8) (w : World) (ht : Tab w) (h : Bs w w.heap.size A n l) (hc : n ≤ c) (hcm : c ≤ 9223372036854775807) (h' : Bs w w.heap.size A' n' l') (hc' : n' ≤ c') (_hcm' : c' ≤ 9223372036854775807) :
    Calls Tryd.prog 7 #[.slice A n c, .slice A' n' c'] w fun r w' => r = .returned (.bool true) ∧ Below w.heap.size w w' := by
  obtain ⟨m, hm⟩ : ∃ m : Nat, m = min n 2000 := ⟨_, rfl⟩
  have km : min (n : Int) 2000 = (m : Int) := by omega
  have jm : (m : Int) ≤ (c : Int) := by omega
  have jm' : m ≤ c := by omega
  have hm6 : m ≤ 2000 := by omega
  have hB := h.take m (by omega)
  obtain ⟨B, hBe⟩ : ∃ L, L = l.take m := ⟨_, rfl⟩
  rw [← hBe] at hB
  have hBm := hB.1
  obtain ⟨q, hq⟩ : ∃ m : Nat, m = min n' 50 := ⟨_, rfl⟩
  have kq : min (n' : Int) 50 = (q : Int) := by omega
  have jq : (q : Int) ≤ (c' : Int) := by omega
  have hq5 : q ≤ 50 := by omega
  have hE := h'.take q (by omega)
  obtain ⟨E, hEe⟩ : ∃ L, L = l'.take q := ⟨_, rfl⟩
  rw [← hEe] at hE
  have hEq := hE.1
  have y24 := zero24
  have vok := dV_ok B
  have zV := size24' vok
  have hlV : (evc (dV B)).length = (evc ev0).length := by rw [evc_length vok, evc_length ev0_ok]
  have oV := evc_one (dV B)
  have DL := fun W (hW : Tab W) (hB : Bs W W.heap.size A m B) => decode_any A m c B W hW hB jm' hcm (by omega)
  obtain ⟨f1, f2⟩ := dec_err B
  have f0 : dE B = 0 → dA B = m := fun h0 => by rw [(dec_fwd B h0).1, hBm]
  rw [hBm] at f1 f2
  obtain ⟨a, ha⟩ : ∃ a, a = dA B := ⟨_, rfl⟩
  obtain ⟨er, her⟩ : ∃ a, a = dE B := ⟨_, rfl⟩
  rw [← ha, ← her] at DL f1 f2
  rw [← ha, ← her] at f0
  have HDL := Lib.hid DL
  have HF := Lib.hid (And.intro f0 (And.intro f1 f2))
  have HM := Lib.hid (And.intro hm (And.intro hBe (And.intro hq (And.intro hEe (And.intro ha her)))))
  clear DL f0 f1 f2 hm hBe hq hEe ha her h h'
  generalize evc (dV B) = CV at *
  go_enter Tryd.func7, Tryd.ntmps7
  go_wp2_with fail
  refine (shown_any w ht).mono ?_
  rintro r w1 ⟨rfl, b1⟩
  have t1 := ht.kept b1
  have s1 := (hB.below b1).more b1.size
  go_wp2_with fail
  refine (HDL.out w1 t1 s1).mono ?_
  rintro r w5 ⟨rfl, e5⟩
  have b5 := b1.trans (e5.mono b1.size)
  have t5 := t1.kept e5
  clear s1 e5 b1 t1 HDL
  by_cases hz : er = 0 ∨ er = 2
  · have ham : a = m := by
      rcases hz with rfl | rfl
      · exact HF.out.1 rfl
      · exact HF.out.2.1 rfl
    subst ham
    rcases hz with rfl | rfl
    · go_wp2_with (first
        | ((with_reducible show wpList _ _ _ (⟨some 6, _, _, _, _, _⟩ :: _) _ _); refine wp_new _ rfl 24 rfl _ y24 ?_; intro w6 g6 hB6 hf6; simp only [Act.put, List.setIfInBounds_toArray, List.set_cons_zero, List.set_cons_succ])
        | ((with_reducible show wpList _ _ _ (⟨none, .store 24 (.tmp 6) _, _, _, _, _⟩ :: _) _ _); refine wp_putAll _ rfl 24 (.tmp 6) (.tmp 24) rfl g6 24 _ CV rfl rfl hB6 hlV zV oV ?_; intro w7 hX7 hU7; simp only [Act.put]))
      go_ret
      exact ⟨rfl, (b5.trans (hf6.below.mono b5.size)).trans (hU7.below (by have := hf6.is; have := b5.size; omega))⟩
    · go_wp2_with (first
        | ((with_reducible show wpList _ _ _ (⟨some 6, _, _, _, _, _⟩ :: _) _ _); refine wp_new _ rfl 24 rfl _ y24 ?_; intro w6 g6 hB6 hf6; simp only [Act.put, List.setIfInBounds_toArray, List.set_cons_zero, List.set_cons_succ])
        | ((with_reducible show wpList _ _ _ (⟨none, .store 24 (.tmp 6) _, _, _, _, _⟩ :: _) _ _); refine wp_putAll _ rfl 24 (.tmp 6) (.tmp 24) rfl g6 24 _ CV rfl rfl hB6 hlV zV oV ?_; intro w7 hX7 hU7; simp only [Act.put]))
      go_ret
      exact ⟨rfl, (b5.trans (hf6.below.mono b5.size)).trans (hU7.below (by have := hf6.is; have := b5.size; omega))⟩
  · obtain ⟨ha, hmore, hcutA, hcutE⟩ := HF.out.2.2 (by omega) (by omega)
    have hB1 := hB.take (a + 1) (by omega)
    have hB0 := hB.take a (by omega)
    have hDl : (B.take (a + 1) ++ E).length = a + 1 + q := by rw [List.length_append, hB1.1, hEq]
    have ne0 : dE (B.take (a + 1) ++ E) ≠ 0 := by rw [(hmore E).2]; omega
    have DX := fun W A1 c1 (hW : Tab W) (hb : Bs W W.heap.size A1 (a + 1 + q) (B.take (a + 1) ++ E)) h1 h2 => decode_any A1 (a + 1 + q) c1 (B.take (a + 1) ++ E) W hW hb h1 h2 (by omega)
    have hvX : dV (B.take (a + 1) ++ E) = ev0 := by rw [dV, if_neg ne0]
    rw [(hmore E).1, (hmore E).2, hvX] at DX
    have D0 := fun W (hW : Tab W) (hb : Bs W W.heap.size A a (B.take a)) => decode_any A a c (B.take a) W hW hb (by omega) hcm (by omega)
    rw [hcutA, hcutE] at D0
    have vok0 := dV_ok (B.take a)
    have zV0 := size24' vok0
    have hlV0 : (evc (dV (B.take a))).length = (evc ev0).length := by rw [evc_length vok0, evc_length ev0_ok]
    have oV0 := evc_one (dV (B.take a))
    have z00 : (Tryd.prog.info? 24).map (·.size) = some (evc ev0).length := size24
    have o00 := evc_one ev0
    generalize evc (dV (B.take a)) = C0 at *
    have d1 : ((er : Int) == 0) = false := by simp; omega
    have d2 : ((er : Int) == 2) = false := by simp; omega
    have d3 : decide ((a : Int) < 0) = false := by simp
    have d4 : decide (m ≤ a) = false := by simp; omega
    have i1 : (a : Int) + 1 ≤ (c : Int) := by omega
    have i2 : (a : Int) ≤ (c : Int) := by omega
    obtain ⟨a1, ha1⟩ : ∃ x, a + 1 = x := ⟨_, rfl⟩
    have e1 : (a : Int) + 1 = (a1 : Int) := by omega
    rw [ha1] at hB1 DX
    rw [e1] at i1
    have i3 : a1 ≤ c := by omega
    have a1m : a1 ≤ m := by omega
    have hwrap : IntKind.i64.wrap (a1 : Int) = (a1 : Int) := by rw [IntKind.wrap_i64]; omega
    obtain ⟨D, hD⟩ : ∃ D, B.take a1 = D := ⟨_, rfl⟩
    rw [hD] at hB1 DX
    have HDX := Lib.hid DX
    have HD0 := Lib.hid D0
    have HZ := Lib.hid hz
    clear DX D0 hD ha1 ne0 hvX hDl hmore hcutA hcutE HF HM hz
    go_wp2_with (first
      | ((with_reducible show wpList _ _ _ (⟨some 6, _, _, _, _, _⟩ :: _) _ _); refine wp_new _ rfl 24 rfl _ y24 ?_; intro w6 g6 hB6 hf6; simp only [Act.put, List.setIfInBounds_toArray, List.set_cons_zero, List.set_cons_succ])
      | ((with_reducible show wpList _ _ _ (⟨none, .store 24 (.tmp 6) _, _, _, _, _⟩ :: _) _ _); refine wp_putAll _ rfl 24 (.tmp 6) (.tmp 24) rfl g6 24 _ CV rfl rfl hB6 hlV zV oV ?_; intro w2 hX7 hU7; simp only [Act.put]))
    have G2 : Below w.heap.size w w2 := (b5.trans (hf6.below.mono b5.size)).trans (hU7.below (by have := hf6.is; have := b5.size; omega))
    clear hX7 hU7 hB6 hf6 b5 t5 zV hlV oV
    have hB2 := (hB1.below G2).more G2.size
    have hE2 := (hE.below G2).more G2.size
    have T2 : Tab w2 := ht.kept G2
    refine wp_region_held_drew (S := Kept w2) (by kernel_rfl) (Kept.refl w2).drew (fun hS => ?_)
    revert hS
    generalize w2.drew = X0
    intro hS
    refine wpAnyH_take (i := 1) (oi := ⟨some 50, _, _, _, _, _⟩) (v := ?va1) rfl (by kernel_rfl) (by kernel_rfl) (by kernel_rfl) (fun _ _ _ h => h) (Or.inl ⟨by rfl, ?ya1⟩) hS ?ra1
    case ya1 => intro W hW; go_simp; first | done | with_reducible rfl
    simp only [Act.put, List.setIfInBounds_toArray, List.set_cons_zero, List.set_cons_succ]
    refine wpAnyH_take (i := 2) (oi := ⟨some 51, _, _, _, _, _⟩) (v := ?va2) rfl (by kernel_rfl) (by kernel_rfl) (by kernel_rfl) (fun _ _ _ h => h) (Or.inl ⟨by rfl, ?ya2⟩) hS ?ra2
    case ya2 => intro W hW; go_simp; first | done | with_reducible rfl
    simp only [Act.put, List.setIfInBounds_toArray, List.set_cons_zero, List.set_cons_succ]
    refine wpAnyH_take (i := 3) (oi := ⟨some 52, _, _, _, _, _⟩) (v := ?va3) rfl (by kernel_rfl) (by kernel_rfl) (by kernel_rfl) (fun _ _ _ h => h) (Or.inl ⟨by rfl, ?ya3⟩) hS ?ra3
    case ya3 => intro W hW; go_simp; first | done | with_reducible rfl
    simp only [Act.put, List.setIfInBounds_toArray, List.set_cons_zero, List.set_cons_succ]
    refine wpAnyH_take (i := 4) (oi := ⟨some 53, _, _, _, _, _⟩) (v := ?va4) rfl (by kernel_rfl) (by kernel_rfl) (by kernel_rfl) (fun _ _ _ h => h) (Or.inl ⟨by rfl, ?ya4⟩) hS ?ra4
    case ya4 => intro W hW; go_simp; first | done | with_reducible rfl
    simp only [Act.put, List.setIfInBounds_toArray, List.set_cons_zero, List.set_cons_succ]
    refine wpAnyH_take (i := 6) (oi := ⟨some 55, _, _, _, _, _⟩) (v := ?va6) rfl (by kernel_rfl) (by kernel_rfl) (by kernel_rfl) (fun _ _ _ h => h) (Or.inl ⟨by rfl, ?ya6⟩) hS ?ra6
    case ya6 => intro W hW; go_simp; first | done | with_reducible rfl
    simp only [Act.put, List.setIfInBounds_toArray, List.set_cons_zero, List.set_cons_succ]
    refine wpAnyH_take (i := 7) (oi := ⟨some 56, _, _, _, _, _⟩) (v := ?va7) rfl (by kernel_rfl) (by kernel_rfl) (by kernel_rfl) (fun _ _ _ h => h) (Or.inl ⟨by rfl, ?ya7⟩) hS ?ra7
    case ya7 => intro W hW; go_simp; first | done | with_reducible rfl
    simp only [Act.put, List.setIfInBounds_toArray, List.set_cons_zero, List.set_cons_succ]
    refine wpAnyH_take (i := 8) (oi := ⟨some 57, _, _, _, _, _⟩) (v := ?va8) rfl (by kernel_rfl) (by kernel_rfl) (by kernel_rfl) (fun _ _ _ h => h) (Or.inl ⟨by rfl, ?ya8⟩) hS ?ra8
    case ya8 => intro W hW; go_simp; first | done | with_reducible rfl
    simp only [Act.put, List.setIfInBounds_toArray, List.set_cons_zero, List.set_cons_succ]
    refine wpAnyH_take (i := 9) (oi := ⟨some 58, _, _, _, _, _⟩) (v := ?va9) rfl (by kernel_rfl) (by kernel_rfl) (by kernel_rfl) (fun _ _ _ h => h) (Or.inl ⟨by rfl, ?ya9⟩) hS ?ra9
    case ya9 => intro W hW; go_simp; first | done | with_reducible rfl
    simp only [Act.put, List.setIfInBounds_toArray, List.set_cons_zero, List.set_cons_succ]
    refine wpAnyH_take (i := 10) (oi := ⟨some 59, _, _, _, _, _⟩) (v := ?va10) rfl (by kernel_rfl) (by kernel_rfl) (by kernel_rfl) (fun _ _ _ h => h) (Or.inl ⟨by rfl, ?ya10⟩) hS ?ra10
    case ya10 => intro W hW; go_simp; first | done | with_reducible rfl
    simp only [Act.put, List.setIfInBounds_toArray, List.set_cons_zero, List.set_cons_succ]
    refine wpAnyH_ready (rs := [0, 17]) (by kernel_rfl) (by simp) ?_
    refine (AllReadyH.cons (o := ⟨some 49, _, _, _, _, _⟩) rfl (fun K hK => ?_) (AllReadyH.cons (o := ⟨some 9, _, _, _, _, _⟩) rfl (fun K hK => ?_) AllReadyH.nil))
    · go_simp
      have k1 : Kept w2 (X0.alloc (.cells #[] 5)) := Kept.alloc hS _
      have o1 := own_empty X0 w2.heap.size (Below.size hS)
      refine hK.out _ _ k1 (fun _ => ?_)
      clear hK K
      try simp only [Act.put, List.setIfInBounds_toArray, List.set_cons_zero, List.set_cons_succ]
      generalize hX1 : (X0.alloc (.cells #[] 5)) = X1 at k1 o1 ⊢
      have z1 : Hid (X1.heap.size = X0.heap.size + 1) := by show _ = _; rw [← hX1]; simp
      clear hX1
      refine wpAnyH_ready (rs := [5, 17]) (by kernel_rfl) (by simp) ?_
      refine (AllReadyH.cons (o := ⟨some 54, _, _, _, _, _⟩) rfl (fun K hK => ?_) (AllReadyH.cons (o := ⟨some 9, _, _, _, _, _⟩) rfl (fun K hK => ?_) AllReadyH.nil))
      · refine step_appG _ rfl (.tmp 49) (.tmp 53) rfl w2.heap.size (.slice (some ⟨X0.heap.size, 0, none⟩) 0 0) (0) ([]) rfl o1 _ A (a1) c (D) rfl (hB2.below k1) (by omega) (Below.size k1) (a1) (D) (by omega) (by simp) ?_
        intro A2 c2 X2 hc2 hb2 ho2 hbel2 hw2 hbut2
        have k2 : Kept w2 X2 := Kept.base k1 hbel2
        have s2 := hbel2.size
        refine hK.out _ _ k2 (fun _ => ?_)
        clear hK K
        try simp only [Act.put, List.setIfInBounds_toArray, List.set_cons_zero, List.set_cons_succ]
        refine wpAnyH_ready (rs := [11, 17]) (by kernel_rfl) (by simp) ?_
        refine (AllReadyH.cons (o := ⟨some 60, _, _, _, _, _⟩) rfl (fun K hK => ?_) (AllReadyH.cons (o := ⟨some 9, _, _, _, _, _⟩) rfl (fun K hK => ?_) AllReadyH.nil))
        · refine step_appG _ rfl (.tmp 54) (.tmp 59) rfl w2.heap.size (.slice A2 (a1) c2) (a1) (D) rfl ho2 _ A' (q) c' (E) rfl (hE2.below k2) (by omega) (Below.size k2) (a1 + q) (D ++ E) (by omega) (by simp) ?_
          intro A3 c3 X3 hc3 hb3 ho3 hbel3 hw3 hbut3
          have k3 : Kept w2 X3 := Kept.base k2 hbel3
          have s3 := hbel3.size
          refine hK.out _ _ k3 (fun _ => ?_)
          clear hK K
          try simp only [Act.put, List.setIfInBounds_toArray, List.set_cons_zero, List.set_cons_succ]
          refine wpAnyH_ready (rs := [12, 17]) (by kernel_rfl) (by simp) ?_
          refine (AllReadyH.cons (o := ⟨some 61, _, _, _, _, _⟩) rfl (fun K hK => ?_) (AllReadyH.cons (o := ⟨some 9, _, _, _, _, _⟩) rfl (fun K hK => ?_) AllReadyH.nil))
          · go_simp
            refine (HDX.out X3 A3 c3 (T2.kept k3) (Bs.more ((Own.view ho3).2) (Nat.le_refl _)) (Own.view ho3).1 (Own.cap ho3)).mono ?_
            rintro e X4 ⟨rfl, e4⟩
            have k4 : Kept w2 X4 := Kept.step k3 e4
            refine hK.out _ _ k4 (fun _ => ?_)
            clear hK K
            try simp only [Act.put, List.setIfInBounds_toArray, List.set_cons_zero, List.set_cons_succ]
            refine wpAnyH_take (i := 13) (oi := ⟨some 48, _, _, _, _, _⟩) (v := ?vM113) rfl (by kernel_rfl) (by kernel_rfl) (by kernel_rfl) (fun _ _ _ h => h) (Or.inl ⟨by rfl, ?yM113⟩) k4 ?rM113
            case yM113 => intro W hW; go_simp; first | done | with_reducible rfl
            simp only [Act.put, List.setIfInBounds_toArray, List.set_cons_zero, List.set_cons_succ]
            refine wpAnyH_take (i := 14) (oi := ⟨some 62, _, _, _, _, _⟩) (v := ?vM114) rfl (by kernel_rfl) (by kernel_rfl) (by kernel_rfl) (fun _ _ _ h => h) (Or.inl ⟨by rfl, ?yM114⟩) k4 ?rM114
            case yM114 => intro W hW; go_simp; first | done | with_reducible rfl
            simp only [Act.put, List.setIfInBounds_toArray, List.set_cons_zero, List.set_cons_succ]
            refine wpAnyH_take (i := 15) (oi := ⟨some 63, _, _, _, _, _⟩) (v := ?vM115) rfl (by kernel_rfl) (by kernel_rfl) (by kernel_rfl) (fun _ _ _ h => h) (Or.inl ⟨by rfl, ?yM115⟩) k4 ?rM115
            case yM115 => intro W hW; go_simp; first | done | with_reducible rfl
            simp only [Act.put, List.setIfInBounds_toArray, List.set_cons_zero, List.set_cons_succ]
            refine wpAnyH_take (i := 16) (oi := ⟨some 64, _, _, _, _, _⟩) (v := ?vM116) rfl (by kernel_rfl) (by kernel_rfl) (by kernel_rfl) (fun _ _ _ h => h) (Or.inl ⟨by rfl, ?yM116⟩) k4 ?rM116
            case yM116 => intro W hW; go_simp; first | done | with_reducible rfl
            simp only [Act.put, List.setIfInBounds_toArray, List.set_cons_zero, List.set_cons_succ]
            refine wpAnyH_ready (rs := [17]) (by kernel_rfl) (by simp) ?_
            refine (AllReadyH.cons (o := ⟨some 9, _, _, _, _, _⟩) rfl (fun K hK => ?_) AllReadyH.nil)
            go_simp
            have k5 : Kept w2 (X4.alloc (.cells #[.int .i64 0, .int .u64 0, .int .u64 0, .string ⟨#[]⟩, .string ⟨#[]⟩, .string ⟨#[]⟩, .string ⟨#[]⟩, .int .i64 0, .int .i64 0, .int .i64 0] 24)) := Kept.alloc k4 _
            have g5 : Blk (X4.alloc (.cells #[.int .i64 0, .int .u64 0, .int .u64 0, .string ⟨#[]⟩, .string ⟨#[]⟩, .string ⟨#[]⟩, .string ⟨#[]⟩, .int .i64 0, .int .i64 0, .int .i64 0] 24)) X4.heap.size 24 (evc ev0) := Blk.new X4 24 (evc ev0)
            have q5 : w2.heap.size ≤ X4.heap.size := Below.size k4
            refine hK.out _ _ k5 (fun _ => ?_)
            clear hK K
            try simp only [Act.put, List.setIfInBounds_toArray, List.set_cons_zero, List.set_cons_succ]
            generalize hX5 : (X4.alloc (.cells #[.int .i64 0, .int .u64 0, .int .u64 0, .string ⟨#[]⟩, .string ⟨#[]⟩, .string ⟨#[]⟩, .string ⟨#[]⟩, .int .i64 0, .int .i64 0, .int .i64 0] 24)) = X5 at k5 g5 ⊢
            have z5 : Hid (X5.heap.size = X4.heap.size + 1) := by show _ = _; rw [← hX5]; simp
            clear hX5
            refine wpAnyH_ready (rs := [18]) (by kernel_rfl) (by simp) ?_
            refine (AllReadyH.cons (o := ⟨none, _, _, _, _, _⟩) rfl (fun K hK => ?_) AllReadyH.nil)
            rw [if_pos (by rfl)]
            refine wp_store_mid 24 (.tmp 9) (.tmp 62) rfl (X4.heap.size) 0 (evc ev0).toArray rfl rfl (by have h1 := Blk.there g5 (o := 0) (n := (evc ev0).length) (by rw [(rfl : (evc ev0).length = (evc ev0).length)]; omega); simpa using h1) (by simpa using z00) (all_oneCell_toArray o00) ?_
            have u6 := Upd.setCells (X4.heap.size) (evc ev0) 0 X5
            have k6 : Kept w2 (X5.setCells (X4.heap.size) 0 (evc ev0)) := Below.trans k5 (u6.below q5)
            refine hK.out _ _ k6 (fun _ => ?_)
            clear hK K
            try simp only [Act.put]
            revert k6
            generalize (X5.setCells (X4.heap.size) 0 (evc ev0)) = X6
            intro k6
            refine wpAnyH_take (i := 19) (oi := ⟨some 10, _, _, _, _, _⟩) (v := ?vL2b19) rfl (by kernel_rfl) (by kernel_rfl) (by kernel_rfl) (fun _ _ _ h => h) (Or.inl ⟨by rfl, ?yL2b19⟩) k6 ?rL2b19
            case yL2b19 => intro W hW; go_simp; first | done | with_reducible rfl
            simp only [Act.put, List.setIfInBounds_toArray, List.set_cons_zero, List.set_cons_succ]
            refine wpAnyH_take (i := 20) (oi := ⟨some 11, _, _, _, _, _⟩) (v := ?vL2b20) rfl (by kernel_rfl) (by kernel_rfl) (by kernel_rfl) (fun _ _ _ h => h) (Or.inl ⟨by rfl, ?yL2b20⟩) k6 ?rL2b20
            case yL2b20 => intro W hW; go_simp; first | done | with_reducible rfl
            simp only [Act.put, List.setIfInBounds_toArray, List.set_cons_zero, List.set_cons_succ]
            refine wpAnyH_done (by kernel_rfl) ?_ _
            have G9 : Below w.heap.size w X6 := G2.trans (Below.mono k6 G2.size)
            have DD := HD0.out X6 (ht.kept G9) ((hB0.below G9).more G9.size)
            go_wp2_with fail
            refine DD.mono ?_
            rintro r y1 ⟨rfl, f1⟩
            have G10 := G9.trans (f1.mono G9.size)
            by_cases h8 : er = 8
            · subst h8
              rw [if_pos rfl]
              go_wp2_with (first
                | ((with_reducible show wpList _ _ _ (⟨some 12, _, _, _, _, _⟩ :: _) _ _); refine wp_new _ rfl 24 rfl _ y24 ?_; intro y2 gy hBy hfy; simp only [Act.put, List.setIfInBounds_toArray, List.set_cons_zero, List.set_cons_succ])
                | ((with_reducible show wpList _ _ _ (⟨none, .store 24 (.tmp 12) _, _, _, _, _⟩ :: _) _ _); refine wp_putAll _ rfl 24 (.tmp 12) (.tmp 70) rfl gy 24 _ C0 rfl rfl hBy hlV0 zV0 oV0 ?_; intro y3 hXy hUy; simp only [Act.put]))
              go_ret
              exact ⟨rfl, (G10.trans (hfy.below.mono G10.size)).trans (hUy.below (by have := hfy.is; have := G10.size; omega))⟩
            · have d8 : ((er : Int) != 8) = true := by simp; omega
              have d9 : ((er : Int) == 8) = false := by simp; omega
              rw [if_neg h8]
              go_wp2_with (first
                | ((with_reducible show wpList _ _ _ (⟨some 12, _, _, _, _, _⟩ :: _) _ _); refine wp_new _ rfl 24 rfl _ y24 ?_; intro y2 gy hBy hfy; simp only [Act.put, List.setIfInBounds_toArray, List.set_cons_zero, List.set_cons_succ])
                | ((with_reducible show wpList _ _ _ (⟨none, .store 24 (.tmp 12) _, _, _, _, _⟩ :: _) _ _); refine wp_putAll _ rfl 24 (.tmp 12) (.tmp 70) rfl gy 24 _ C0 rfl rfl hBy hlV0 zV0 oV0 ?_; intro y3 hXy hUy; simp only [Act.put]))
              go_ret
              exact ⟨rfl, (G10.trans (hfy.below.mono G10.size)).trans (hUy.below (by have := hfy.is; have := G10.size; omega))⟩
          · go_simp
            have k7 : Kept w2 (X3.alloc (.cells #[.int .i64 0, .int .u64 0, .int .u64 0, .string ⟨#[]⟩, .string ⟨#[]⟩, .string ⟨#[]⟩, .string ⟨#[]⟩, .int .i64 0, .int .i64 0, .int .i64 0] 24)) := Kept.alloc k3 _
            have o7 := Own.alloc ho3 (.cells #[.int .i64 0, .int .u64 0, .int .u64 0, .string ⟨#[]⟩, .string ⟨#[]⟩, .string ⟨#[]⟩, .string ⟨#[]⟩, .int .i64 0, .int .i64 0, .int .i64 0] 24)
            have g7 : Blk (X3.alloc (.cells #[.int .i64 0, .int .u64 0, .int .u64 0, .string ⟨#[]⟩, .string ⟨#[]⟩, .string ⟨#[]⟩, .string ⟨#[]⟩, .int .i64 0, .int .i64 0, .int .i64 0] 24)) X3.heap.size 24 (evc ev0) := Blk.new X3 24 (evc ev0)
            have q7 : w2.heap.size ≤ X3.heap.size := Below.size k3
            refine hK.out _ _ k7 (fun _ => ?_)
            clear hK K
            try simp only [Act.put, List.setIfInBounds_toArray, List.set_cons_zero, List.set_cons_succ]
            generalize hX7 : (X3.alloc (.cells #[.int .i64 0, .int .u64 0, .int .u64 0, .string ⟨#[]⟩, .string ⟨#[]⟩, .string ⟨#[]⟩, .string ⟨#[]⟩, .int .i64 0, .int .i64 0, .int .i64 0] 24)) = X7 at k7 o7 g7 ⊢
            have z7 : Hid (X7.heap.size = X3.heap.size + 1) := by show _ = _; rw [← hX7]; simp
            clear hX7
            refine wpAnyH_ready (rs := [12]) (by kernel_rfl) (by simp) ?_
            refine (AllReadyH.cons (o := ⟨some 61, _, _, _, _, _⟩) rfl (fun K hK => ?_) AllReadyH.nil)
            go_simp
            refine (HDX.out X7 A3 c3 (T2.kept k7) (Bs.more ((Own.view o7).2) (Nat.le_refl _)) (Own.view o7).1 (Own.cap o7)).mono ?_
            rintro e X8 ⟨rfl, e8⟩
            have k8 : Kept w2 X8 := Kept.step k7 e8
            have g8 := Blk.kept g7 e8
            refine hK.out _ _ k8 (fun _ => ?_)
            clear hK K
            try simp only [Act.put, List.setIfInBounds_toArray, List.set_cons_zero, List.set_cons_succ]
            refine wpAnyH_take (i := 13) (oi := ⟨some 48, _, _, _, _, _⟩) (v := ?vM313) rfl (by kernel_rfl) (by kernel_rfl) (by kernel_rfl) (fun _ _ _ h => h) (Or.inl ⟨by rfl, ?yM313⟩) k8 ?rM313
            case yM313 => intro W hW; go_simp; first | done | with_reducible rfl
            simp only [Act.put, List.setIfInBounds_toArray, List.set_cons_zero, List.set_cons_succ]
            refine wpAnyH_take (i := 14) (oi := ⟨some 62, _, _, _, _, _⟩) (v := ?vM314) rfl (by kernel_rfl) (by kernel_rfl) (by kernel_rfl) (fun _ _ _ h => h) (Or.inl ⟨by rfl, ?yM314⟩) k8 ?rM314
            case yM314 => intro W hW; go_simp; first | done | with_reducible rfl
            simp only [Act.put, List.setIfInBounds_toArray, List.set_cons_zero, List.set_cons_succ]
            refine wpAnyH_take (i := 15) (oi := ⟨some 63, _, _, _, _, _⟩) (v := ?vM315) rfl (by kernel_rfl) (by kernel_rfl) (by kernel_rfl) (fun _ _ _ h => h) (Or.inl ⟨by rfl, ?yM315⟩) k8 ?rM315
            case yM315 => intro W hW; go_simp; first | done | with_reducible rfl
            simp only [Act.put, List.setIfInBounds_toArray, List.set_cons_zero, List.set_cons_succ]
            refine wpAnyH_take (i := 16) (oi := ⟨some 64, _, _, _, _, _⟩) (v := ?vM316) rfl (by kernel_rfl) (by kernel_rfl) (by kernel_rfl) (fun _ _ _ h => h) (Or.inl ⟨by rfl, ?yM316⟩) k8 ?rM316
            case yM316 => intro W hW; go_simp; first | done | with_reducible rfl
            simp only [Act.put, List.setIfInBounds_toArray, List.set_cons_zero, List.set_cons_succ]
            refine wpAnyH_ready (rs := [18]) (by kernel_rfl) (by simp) ?_
            refine (AllReadyH.cons (o := ⟨none, _, _, _, _, _⟩) rfl (fun K hK => ?_) AllReadyH.nil)
            rw [if_pos (by rfl)]
            refine wp_store_mid 24 (.tmp 9) (.tmp 62) rfl (X3.heap.size) 0 (evc ev0).toArray rfl rfl (by have h1 := Blk.there g8 (o := 0) (n := (evc ev0).length) (by rw [(rfl : (evc ev0).length = (evc ev0).length)]; omega); simpa using h1) (by simpa using z00) (all_oneCell_toArray o00) ?_
            have u9 := Upd.setCells (X3.heap.size) (evc ev0) 0 X8
            have k9 : Kept w2 (X8.setCells (X3.heap.size) 0 (evc ev0)) := Below.trans k8 (u9.below q7)
            refine hK.out _ _ k9 (fun _ => ?_)
            clear hK K
            try simp only [Act.put]
            revert k9
            generalize (X8.setCells (X3.heap.size) 0 (evc ev0)) = X9
            intro k9
            refine wpAnyH_take (i := 19) (oi := ⟨some 10, _, _, _, _, _⟩) (v := ?vL4b19) rfl (by kernel_rfl) (by kernel_rfl) (by kernel_rfl) (fun _ _ _ h => h) (Or.inl ⟨by rfl, ?yL4b19⟩) k9 ?rL4b19
            case yL4b19 => intro W hW; go_simp; first | done | with_reducible rfl
            simp only [Act.put, List.setIfInBounds_toArray, List.set_cons_zero, List.set_cons_succ]
            refine wpAnyH_take (i := 20) (oi := ⟨some 11, _, _, _, _, _⟩) (v := ?vL4b20) rfl (by kernel_rfl) (by kernel_rfl) (by kernel_rfl) (fun _ _ _ h => h) (Or.inl ⟨by rfl, ?yL4b20⟩) k9 ?rL4b20
            case yL4b20 => intro W hW; go_simp; first | done | with_reducible rfl
            simp only [Act.put, List.setIfInBounds_toArray, List.set_cons_zero, List.set_cons_succ]
            refine wpAnyH_done (by kernel_rfl) ?_ _
            have G9 : Below w.heap.size w X9 := G2.trans (Below.mono k9 G2.size)
            have DD := HD0.out X9 (ht.kept G9) ((hB0.below G9).more G9.size)
            go_wp2_with fail
            refine DD.mono ?_
            rintro r y1 ⟨rfl, f1⟩
            have G10 := G9.trans (f1.mono G9.size)
            by_cases h8 : er = 8
            · subst h8
              rw [if_pos rfl]
              go_wp2_with (first
                | ((with_reducible show wpList _ _ _ (⟨some 12, _, _, _, _, _⟩ :: _) _ _); refine wp_new _ rfl 24 rfl _ y24 ?_; intro y2 gy hBy hfy; simp only [Act.put, List.setIfInBounds_toArray, List.set_cons_zero, List.set_cons_succ])
                | ((with_reducible show wpList _ _ _ (⟨none, .store 24 (.tmp 12) _, _, _, _, _⟩ :: _) _ _); refine wp_putAll _ rfl 24 (.tmp 12) (.tmp 70) rfl gy 24 _ C0 rfl rfl hBy hlV0 zV0 oV0 ?_; intro y3 hXy hUy; simp only [Act.put]))
              go_ret
              exact ⟨rfl, (G10.trans (hfy.below.mono G10.size)).trans (hUy.below (by have := hfy.is; have := G10.size; omega))⟩
            · have d8 : ((er : Int) != 8) = true := by simp; omega
              have d9 : ((er : Int) == 8) = false := by simp; omega
              rw [if_neg h8]
              go_wp2_with (first
                | ((with_reducible show wpList _ _ _ (⟨some 12, _, _, _, _, _⟩ :: _) _ _); refine wp_new _ rfl 24 rfl _ y24 ?_; intro y2 gy hBy hfy; simp only [Act.put, List.setIfInBounds_toArray, List.set_cons_zero, List.set_cons_succ])
                | ((with_reducible show wpList _ _ _ (⟨none, .store 24 (.tmp 12) _, _, _, _, _⟩ :: _) _ _); refine wp_putAll _ rfl 24 (.tmp 12) (.tmp 70) rfl gy 24 _ C0 rfl rfl hBy hlV0 zV0 oV0 ?_; intro y3 hXy hUy; simp only [Act.put]))
              go_ret
              exact ⟨rfl, (G10.trans (hfy.below.mono G10.size)).trans (hUy.below (by have := hfy.is; have := G10.size; omega))⟩
        · go_simp
          have k10 : Kept w2 (X2.alloc (.cells #[.int .i64 0, .int .u64 0, .int .u64 0, .string ⟨#[]⟩, .string ⟨#[]⟩, .string ⟨#[]⟩, .string ⟨#[]⟩, .int .i64 0, .int .i64 0, .int .i64 0] 24)) := Kept.alloc k2 _
          have o10 := Own.alloc ho2 (.cells #[.int .i64 0, .int .u64 0, .int .u64 0, .string ⟨#[]⟩, .string ⟨#[]⟩, .string ⟨#[]⟩, .string ⟨#[]⟩, .int .i64 0, .int .i64 0, .int .i64 0] 24)
          have g10 : Blk (X2.alloc (.cells #[.int .i64 0, .int .u64 0, .int .u64 0, .string ⟨#[]⟩, .string ⟨#[]⟩, .string ⟨#[]⟩, .string ⟨#[]⟩, .int .i64 0, .int .i64 0, .int .i64 0] 24)) X2.heap.size 24 (evc ev0) := Blk.new X2 24 (evc ev0)
          have q10 : w2.heap.size ≤ X2.heap.size := Below.size k2
          refine hK.out _ _ k10 (fun _ => ?_)
          clear hK K
          try simp only [Act.put, List.setIfInBounds_toArray, List.set_cons_zero, List.set_cons_succ]
          generalize hX10 : (X2.alloc (.cells #[.int .i64 0, .int .u64 0, .int .u64 0, .string ⟨#[]⟩, .string ⟨#[]⟩, .string ⟨#[]⟩, .string ⟨#[]⟩, .int .i64 0, .int .i64 0, .int .i64 0] 24)) = X10 at k10 o10 g10 ⊢
          have z10 : Hid (X10.heap.size = X2.heap.size + 1) := by show _ = _; rw [← hX10]; simp
          clear hX10
          refine wpAnyH_ready (rs := [11]) (by kernel_rfl) (by simp) ?_
          refine (AllReadyH.cons (o := ⟨some 60, _, _, _, _, _⟩) rfl (fun K hK => ?_) AllReadyH.nil)
          refine step_appG _ rfl (.tmp 54) (.tmp 59) rfl w2.heap.size (.slice A2 (a1) c2) (a1) (D) rfl o10 _ A' (q) c' (E) rfl (hE2.below k10) (by omega) (Below.size k10) (a1 + q) (D ++ E) (by omega) (by simp) ?_
          intro A11 c11 X11 hc11 hb11 ho11 hbel11 hw11 hbut11
          have k11 : Kept w2 X11 := Kept.base k10 hbel11
          have s11 := hbel11.size
          have g11 : Blk X11 X2.heap.size 24 (evc ev0) := Blk.wch g10 (hw11 (X2.heap.size + 1)) (by decide) (by omega)
          refine hK.out _ _ k11 (fun _ => ?_)
          clear hK K
          try simp only [Act.put, List.setIfInBounds_toArray, List.set_cons_zero, List.set_cons_succ]
          refine wpAnyH_ready (rs := [12]) (by kernel_rfl) (by simp) ?_
          refine (AllReadyH.cons (o := ⟨some 61, _, _, _, _, _⟩) rfl (fun K hK => ?_) AllReadyH.nil)
          go_simp
          refine (HDX.out X11 A11 c11 (T2.kept k11) (Bs.more ((Own.view ho11).2) (Nat.le_refl _)) (Own.view ho11).1 (Own.cap ho11)).mono ?_
          rintro e X12 ⟨rfl, e12⟩
          have k12 : Kept w2 X12 := Kept.step k11 e12
          have g12 := Blk.kept g11 e12
          refine hK.out _ _ k12 (fun _ => ?_)
          clear hK K
          try simp only [Act.put, List.setIfInBounds_toArray, List.set_cons_zero, List.set_cons_succ]
          refine wpAnyH_take (i := 13) (oi := ⟨some 48, _, _, _, _, _⟩) (v := ?vM513) rfl (by kernel_rfl) (by kernel_rfl) (by kernel_rfl) (fun _ _ _ h => h) (Or.inl ⟨by rfl, ?yM513⟩) k12 ?rM513
          case yM513 => intro W hW; go_simp; first | done | with_reducible rfl
          simp only [Act.put, List.setIfInBounds_toArray, List.set_cons_zero, List.set_cons_succ]
          refine wpAnyH_take (i := 14) (oi := ⟨some 62, _, _, _, _, _⟩) (v := ?vM514) rfl (by kernel_rfl) (by kernel_rfl) (by kernel_rfl) (fun _ _ _ h => h) (Or.inl ⟨by rfl, ?yM514⟩) k12 ?rM514
          case yM514 => intro W hW; go_simp; first | done | with_reducible rfl
          simp only [Act.put, List.setIfInBounds_toArray, List.set_cons_zero, List.set_cons_succ]
          refine wpAnyH_take (i := 15) (oi := ⟨some 63, _, _, _, _, _⟩) (v := ?vM515) rfl (by kernel_rfl) (by kernel_rfl) (by kernel_rfl) (fun _ _ _ h => h) (Or.inl ⟨by rfl, ?yM515⟩) k12 ?rM515
          case yM515 => intro W hW; go_simp; first | done | with_reducible rfl
          simp only [Act.put, List.setIfInBounds_toArray, List.set_cons_zero, List.set_cons_succ]
          refine wpAnyH_take (i := 16) (oi := ⟨some 64, _, _, _, _, _⟩) (v := ?vM516) rfl (by kernel_rfl) (by kernel_rfl) (by kernel_rfl) (fun _ _ _ h => h) (Or.inl ⟨by rfl, ?yM516⟩) k12 ?rM516
          case yM516 => intro W hW; go_simp; first | done | with_reducible rfl
          simp only [Act.put, List.setIfInBounds_toArray, List.set_cons_zero, List.set_cons_succ]
          refine wpAnyH_ready (rs := [18]) (by kernel_rfl) (by simp) ?_
          refine (AllReadyH.cons (o := ⟨none, _, _, _, _, _⟩) rfl (fun K hK => ?_) AllReadyH.nil)
          rw [if_pos (by rfl)]
          refine wp_store_mid 24 (.tmp 9) (.tmp 62) rfl (X2.heap.size) 0 (evc ev0).toArray rfl rfl (by have h1 := Blk.there g12 (o := 0) (n := (evc ev0).length) (by rw [(rfl : (evc ev0).length = (evc ev0).length)]; omega); simpa using h1) (by simpa using z00) (all_oneCell_toArray o00) ?_
          have u13 := Upd.setCells (X2.heap.size) (evc ev0) 0 X12
          have k13 : Kept w2 (X12.setCells (X2.heap.size) 0 (evc ev0)) := Below.trans k12 (u13.below q10)
          refine hK.out _ _ k13 (fun _ => ?_)
          clear hK K
          try simp only [Act.put]
          revert k13
          generalize (X12.setCells (X2.heap.size) 0 (evc ev0)) = X13
          intro k13
          refine wpAnyH_take (i := 19) (oi := ⟨some 10, _, _, _, _, _⟩) (v := ?vL6b19) rfl (by kernel_rfl) (by kernel_rfl) (by kernel_rfl) (fun _ _ _ h => h) (Or.inl ⟨by rfl, ?yL6b19⟩) k13 ?rL6b19
          case yL6b19 => intro W hW; go_simp; first | done | with_reducible rfl
          simp only [Act.put, List.setIfInBounds_toArray, List.set_cons_zero, List.set_cons_succ]
          refine wpAnyH_take (i := 20) (oi := ⟨some 11, _, _, _, _, _⟩) (v := ?vL6b20) rfl (by kernel_rfl) (by kernel_rfl) (by kernel_rfl) (fun _ _ _ h => h) (Or.inl ⟨by rfl, ?yL6b20⟩) k13 ?rL6b20
          case yL6b20 => intro W hW; go_simp; first | done | with_reducible rfl
          simp only [Act.put, List.setIfInBounds_toArray, List.set_cons_zero, List.set_cons_succ]
          refine wpAnyH_done (by kernel_rfl) ?_ _
          have G9 : Below w.heap.size w X13 := G2.trans (Below.mono k13 G2.size)
          have DD := HD0.out X13 (ht.kept G9) ((hB0.below G9).more G9.size)
          go_wp2_with fail
          refine DD.mono ?_
          rintro r y1 ⟨rfl, f1⟩
          have G10 := G9.trans (f1.mono G9.size)
          by_cases h8 : er = 8
          · subst h8
            rw [if_pos rfl]
            go_wp2_with (first
              | ((with_reducible show wpList _ _ _ (⟨some 12, _, _, _, _, _⟩ :: _) _ _); refine wp_new _ rfl 24 rfl _ y24 ?_; intro y2 gy hBy hfy; simp only [Act.put, List.setIfInBounds_toArray, List.set_cons_zero, List.set_cons_succ])
              | ((with_reducible show wpList _ _ _ (⟨none, .store 24 (.tmp 12) _, _, _, _, _⟩ :: _) _ _); refine wp_putAll _ rfl 24 (.tmp 12) (.tmp 70) rfl gy 24 _ C0 rfl rfl hBy hlV0 zV0 oV0 ?_; intro y3 hXy hUy; simp only [Act.put]))
            go_ret
            exact ⟨rfl, (G10.trans (hfy.below.mono G10.size)).trans (hUy.below (by have := hfy.is; have := G10.size; omega))⟩
          · have d8 : ((er : Int) != 8) = true := by simp; omega
            have d9 : ((er : Int) == 8) = false := by simp; omega
            rw [if_neg h8]
            go_wp2_with (first
              | ((with_reducible show wpList _ _ _ (⟨some 12, _, _, _, _, _⟩ :: _) _ _); refine wp_new _ rfl 24 rfl _ y24 ?_; intro y2 gy hBy hfy; simp only [Act.put, List.setIfInBounds_toArray, List.set_cons_zero, List.set_cons_succ])
              | ((with_reducible show wpList _ _ _ (⟨none, .store 24 (.tmp 12) _, _, _, _, _⟩ :: _) _ _); refine wp_putAll _ rfl 24 (.tmp 12) (.tmp 70) rfl gy 24 _ C0 rfl rfl hBy hlV0 zV0 oV0 ?_; intro y3 hXy hUy; simp only [Act.put]))
            go_ret
            exact ⟨rfl, (G10.trans (hfy.below.mono G10.size)).trans (hUy.below (by have := hfy.is; have := G10.size; omega))⟩
      · go_simp
        have k14 : Kept w2 (X1.alloc (.cells #[.int .i64 0, .int .u64 0, .int .u64 0, .string ⟨#[]⟩, .string ⟨#[]⟩, .string ⟨#[]⟩, .string ⟨#[]⟩, .int .i64 0, .int .i64 0, .int .i64 0] 24)) := Kept.alloc k1 _
        have o14 := Own.alloc o1 (.cells #[.int .i64 0, .int .u64 0, .int .u64 0, .string ⟨#[]⟩, .string ⟨#[]⟩, .string ⟨#[]⟩, .string ⟨#[]⟩, .int .i64 0, .int .i64 0, .int .i64 0] 24)
        have g14 : Blk (X1.alloc (.cells #[.int .i64 0, .int .u64 0, .int .u64 0, .string ⟨#[]⟩, .string ⟨#[]⟩, .string ⟨#[]⟩, .string ⟨#[]⟩, .int .i64 0, .int .i64 0, .int .i64 0] 24)) X1.heap.size 24 (evc ev0) := Blk.new X1 24 (evc ev0)
        have q14 : w2.heap.size ≤ X1.heap.size := Below.size k1
        refine hK.out _ _ k14 (fun _ => ?_)
        clear hK K
        try simp only [Act.put, List.setIfInBounds_toArray, List.set_cons_zero, List.set_cons_succ]
        generalize hX14 : (X1.alloc (.cells #[.int .i64 0, .int .u64 0, .int .u64 0, .string ⟨#[]⟩, .string ⟨#[]⟩, .string ⟨#[]⟩, .string ⟨#[]⟩, .int .i64 0, .int .i64 0, .int .i64 0] 24)) = X14 at k14 o14 g14 ⊢
        have z14 : Hid (X14.heap.size = X1.heap.size + 1) := by show _ = _; rw [← hX14]; simp
        clear hX14
        refine wpAnyH_ready (rs := [5]) (by kernel_rfl) (by simp) ?_
        refine (AllReadyH.cons (o := ⟨some 54, _, _, _, _, _⟩) rfl (fun K hK => ?_) AllReadyH.nil)
        refine step_appG _ rfl (.tmp 49) (.tmp 53) rfl w2.heap.size (.slice (some ⟨X0.heap.size, 0, none⟩) 0 0) (0) ([]) rfl o14 _ A (a1) c (D) rfl (hB2.below k14) (by omega) (Below.size k14) (a1) (D) (by omega) (by simp) ?_
        intro A15 c15 X15 hc15 hb15 ho15 hbel15 hw15 hbut15
        have k15 : Kept w2 X15 := Kept.base k14 hbel15
        have s15 := hbel15.size
        have g15 : Blk X15 X1.heap.size 24 (evc ev0) := Blk.wch g14 (hw15 (X1.heap.size + 1)) (by decide) (by omega)
        refine hK.out _ _ k15 (fun _ => ?_)
        clear hK K
        try simp only [Act.put, List.setIfInBounds_toArray, List.set_cons_zero, List.set_cons_succ]
        refine wpAnyH_ready (rs := [11]) (by kernel_rfl) (by simp) ?_
        refine (AllReadyH.cons (o := ⟨some 60, _, _, _, _, _⟩) rfl (fun K hK => ?_) AllReadyH.nil)
        refine step_appG _ rfl (.tmp 54) (.tmp 59) rfl w2.heap.size (.slice A15 (a1) c15) (a1) (D) rfl ho15 _ A' (q) c' (E) rfl (hE2.below k15) (by omega) (Below.size k15) (a1 + q) (D ++ E) (by omega) (by simp) ?_
        intro A16 c16 X16 hc16 hb16 ho16 hbel16 hw16 hbut16
        have k16 : Kept w2 X16 := Kept.base k15 hbel16
        have s16 := hbel16.size
        have g16 : Blk X16 X1.heap.size 24 (evc ev0) := Blk.wch g15 (hw16 (X1.heap.size + 1)) (by decide) (by omega)
        refine hK.out _ _ k16 (fun _ => ?_)
        clear hK K
        try simp only [Act.put, List.setIfInBounds_toArray, List.set_cons_zero, List.set_cons_succ]
        refine wpAnyH_ready (rs := [12]) (by kernel_rfl) (by simp) ?_
        refine (AllReadyH.cons (o := ⟨some 61, _, _, _, _, _⟩) rfl (fun K hK => ?_) AllReadyH.nil)
        go_simp
        refine (HDX.out X16 A16 c16 (T2.kept k16) (Bs.more ((Own.view ho16).2) (Nat.le_refl _)) (Own.view ho16).1 (Own.cap ho16)).mono ?_
        rintro e X17 ⟨rfl, e17⟩
        have k17 : Kept w2 X17 := Kept.step k16 e17
        have g17 := Blk.kept g16 e17
        refine hK.out _ _ k17 (fun _ => ?_)
        clear hK K
        try simp only [Act.put, List.setIfInBounds_toArray, List.set_cons_zero, List.set_cons_succ]
        refine wpAnyH_take (i := 13) (oi := ⟨some 48, _, _, _, _, _⟩) (v := ?vM713) rfl (by kernel_rfl) (by kernel_rfl) (by kernel_rfl) (fun _ _ _ h => h) (Or.inl ⟨by rfl, ?yM713⟩) k17 ?rM713
        case yM713 => intro W hW; go_simp; first | done | with_reducible rfl
        simp only [Act.put, List.setIfInBounds_toArray, List.set_cons_zero, List.set_cons_succ]
        refine wpAnyH_take (i := 14) (oi := ⟨some 62, _, _, _, _, _⟩) (v := ?vM714) rfl (by kernel_rfl) (by kernel_rfl) (by kernel_rfl) (fun _ _ _ h => h) (Or.inl ⟨by rfl, ?yM714⟩) k17 ?rM714
        case yM714 => intro W hW; go_simp; first | done | with_reducible rfl
        simp only [Act.put, List.setIfInBounds_toArray, List.set_cons_zero, List.set_cons_succ]
        refine wpAnyH_take (i := 15) (oi := ⟨some 63, _, _, _, _, _⟩) (v := ?vM715) rfl (by kernel_rfl) (by kernel_rfl) (by kernel_rfl) (fun _ _ _ h => h) (Or.inl ⟨by rfl, ?yM715⟩) k17 ?rM715
        case yM715 => intro W hW; go_simp; first | done | with_reducible rfl
        simp only [Act.put, List.setIfInBounds_toArray, List.set_cons_zero, List.set_cons_succ]
        refine wpAnyH_take (i := 16) (oi := ⟨some 64, _, _, _, _, _⟩) (v := ?vM716) rfl (by kernel_rfl) (by kernel_rfl) (by kernel_rfl) (fun _ _ _ h => h) (Or.inl ⟨by rfl, ?yM716⟩) k17 ?rM716
        case yM716 => intro W hW; go_simp; first | done | with_reducible rfl
        simp only [Act.put, List.setIfInBounds_toArray, List.set_cons_zero, List.set_cons_succ]
        refine wpAnyH_ready (rs := [18]) (by kernel_rfl) (by simp) ?_
        refine (AllReadyH.cons (o := ⟨none, _, _, _, _, _⟩) rfl (fun K hK => ?_) AllReadyH.nil)
        rw [if_pos (by rfl)]
        refine wp_store_mid 24 (.tmp 9) (.tmp 62) rfl (X1.heap.size) 0 (evc ev0).toArray rfl rfl (by have h1 := Blk.there g17 (o := 0) (n := (evc ev0).length) (by rw [(rfl : (evc ev0).length = (evc ev0).length)]; omega); simpa using h1) (by simpa using z00) (all_oneCell_toArray o00) ?_
        have u18 := Upd.setCells (X1.heap.size) (evc ev0) 0 X17
        have k18 : Kept w2 (X17.setCells (X1.heap.size) 0 (evc ev0)) := Below.trans k17 (u18.below q14)
        refine hK.out _ _ k18 (fun _ => ?_)
        clear hK K
        try simp only [Act.put]
        revert k18
        generalize (X17.setCells (X1.heap.size) 0 (evc ev0)) = X18
        intro k18
        refine wpAnyH_take (i := 19) (oi := ⟨some 10, _, _, _, _, _⟩) (v := ?vL8b19) rfl (by kernel_rfl) (by kernel_rfl) (by kernel_rfl) (fun _ _ _ h => h) (Or.inl ⟨by rfl, ?yL8b19⟩) k18 ?rL8b19
        case yL8b19 => intro W hW; go_simp; first | done | with_reducible rfl
        simp only [Act.put, List.setIfInBounds_toArray, List.set_cons_zero, List.set_cons_succ]
        refine wpAnyH_take (i := 20) (oi := ⟨some 11, _, _, _, _, _⟩) (v := ?vL8b20) rfl (by kernel_rfl) (by kernel_rfl) (by kernel_rfl) (fun _ _ _ h => h) (Or.inl ⟨by rfl, ?yL8b20⟩) k18 ?rL8b20
        case yL8b20 => intro W hW; go_simp; first | done | with_reducible rfl
        simp only [Act.put, List.setIfInBounds_toArray, List.set_cons_zero, List.set_cons_succ]
        refine wpAnyH_done (by kernel_rfl) ?_ _
        have G9 : Below w.heap.size w X18 := G2.trans (Below.mono k18 G2.size)
        have DD := HD0.out X18 (ht.kept G9) ((hB0.below G9).more G9.size)
        go_wp2_with fail
        refine DD.mono ?_
        rintro r y1 ⟨rfl, f1⟩
        have G10 := G9.trans (f1.mono G9.size)
        by_cases h8 : er = 8
        · subst h8
          rw [if_pos rfl]
          go_wp2_with (first
            | ((with_reducible show wpList _ _ _ (⟨some 12, _, _, _, _, _⟩ :: _) _ _); refine wp_new _ rfl 24 rfl _ y24 ?_; intro y2 gy hBy hfy; simp only [Act.put, List.setIfInBounds_toArray, List.set_cons_zero, List.set_cons_succ])
            | ((with_reducible show wpList _ _ _ (⟨none, .store 24 (.tmp 12) _, _, _, _, _⟩ :: _) _ _); refine wp_putAll _ rfl 24 (.tmp 12) (.tmp 70) rfl gy 24 _ C0 rfl rfl hBy hlV0 zV0 oV0 ?_; intro y3 hXy hUy; simp only [Act.put]))
          go_ret
          exact ⟨rfl, (G10.trans (hfy.below.mono G10.size)).trans (hUy.below (by have := hfy.is; have := G10.size; omega))⟩
        · have d8 : ((er : Int) != 8) = true := by simp; omega
          have d9 : ((er : Int) == 8) = false := by simp; omega
          rw [if_neg h8]
          go_wp2_with (first
            | ((with_reducible show wpList _ _ _ (⟨some 12, _, _, _, _, _⟩ :: _) _ _); refine wp_new _ rfl 24 rfl _ y24 ?_; intro y2 gy hBy hfy; simp only [Act.put, List.setIfInBounds_toArray, List.set_cons_zero, List.set_cons_succ])
            | ((with_reducible show wpList _ _ _ (⟨none, .store 24 (.tmp 12) _, _, _, _, _⟩ :: _) _ _); refine wp_putAll _ rfl 24 (.tmp 12) (.tmp 70) rfl gy 24 _ C0 rfl rfl hBy hlV0 zV0 oV0 ?_; intro y3 hXy hUy; simp only [Act.put]))
          go_ret
          exact ⟨rfl, (G10.trans (hfy.below.mono G10.size)).trans (hUy.below (by have := hfy.is; have := G10.size; omega))⟩
    · go_simp
      have k19 : Kept w2 (X0.alloc (.cells #[.int .i64 0, .int .u64 0, .int .u64 0, .string ⟨#[]⟩, .string ⟨#[]⟩, .string ⟨#[]⟩, .string ⟨#[]⟩, .int .i64 0, .int .i64 0, .int .i64 0] 24)) := Kept.alloc hS _
      have g19 : Blk (X0.alloc (.cells #[.int .i64 0, .int .u64 0, .int .u64 0, .string ⟨#[]⟩, .string ⟨#[]⟩, .string ⟨#[]⟩, .string ⟨#[]⟩, .int .i64 0, .int .i64 0, .int .i64 0] 24)) X0.heap.size 24 (evc ev0) := Blk.new X0 24 (evc ev0)
      have q19 : w2.heap.size ≤ X0.heap.size := Below.size hS
      refine hK.out _ _ k19 (fun _ => ?_)
      clear hK K
      try simp only [Act.put, List.setIfInBounds_toArray, List.set_cons_zero, List.set_cons_succ]
      generalize hX19 : (X0.alloc (.cells #[.int .i64 0, .int .u64 0, .int .u64 0, .string ⟨#[]⟩, .string ⟨#[]⟩, .string ⟨#[]⟩, .string ⟨#[]⟩, .int .i64 0, .int .i64 0, .int .i64 0] 24)) = X19 at k19 g19 ⊢
      have z19 : Hid (X19.heap.size = X0.heap.size + 1) := by show _ = _; rw [← hX19]; simp
      clear hX19
      refine wpAnyH_ready (rs := [0]) (by kernel_rfl) (by simp) ?_
      refine (AllReadyH.cons (o := ⟨some 49, _, _, _, _, _⟩) rfl (fun K hK => ?_) AllReadyH.nil)
      go_simp
      have k20 : Kept w2 (X19.alloc (.cells #[] 5)) := Kept.alloc k19 _
      have g20 := Blk.alloc g19 (.cells #[] 5)
      have o20 := own_empty X19 w2.heap.size (Below.size k19)
      refine hK.out _ _ k20 (fun _ => ?_)
      clear hK K
      try simp only [Act.put, List.setIfInBounds_toArray, List.set_cons_zero, List.set_cons_succ]
      generalize hX20 : (X19.alloc (.cells #[] 5)) = X20 at k20 o20 g20 ⊢
      have z20 : Hid (X20.heap.size = X19.heap.size + 1) := by show _ = _; rw [← hX20]; simp
      clear hX20
      refine wpAnyH_ready (rs := [5]) (by kernel_rfl) (by simp) ?_
      refine (AllReadyH.cons (o := ⟨some 54, _, _, _, _, _⟩) rfl (fun K hK => ?_) AllReadyH.nil)
      refine step_appG _ rfl (.tmp 49) (.tmp 53) rfl w2.heap.size (.slice (some ⟨X19.heap.size, 0, none⟩) 0 0) (0) ([]) rfl o20 _ A (a1) c (D) rfl (hB2.below k20) (by omega) (Below.size k20) (a1) (D) (by omega) (by simp) ?_
      intro A21 c21 X21 hc21 hb21 ho21 hbel21 hw21 hbut21
      have k21 : Kept w2 X21 := Kept.base k20 hbel21
      have s21 := hbel21.size
      have g21 : Blk X21 X0.heap.size 24 (evc ev0) := Blk.wch g20 (hw21 (X0.heap.size + 1)) (by decide) (by omega)
      refine hK.out _ _ k21 (fun _ => ?_)
      clear hK K
      try simp only [Act.put, List.setIfInBounds_toArray, List.set_cons_zero, List.set_cons_succ]
      refine wpAnyH_ready (rs := [11]) (by kernel_rfl) (by simp) ?_
      refine (AllReadyH.cons (o := ⟨some 60, _, _, _, _, _⟩) rfl (fun K hK => ?_) AllReadyH.nil)
      refine step_appG _ rfl (.tmp 54) (.tmp 59) rfl w2.heap.size (.slice A21 (a1) c21) (a1) (D) rfl ho21 _ A' (q) c' (E) rfl (hE2.below k21) (by omega) (Below.size k21) (a1 + q) (D ++ E) (by omega) (by simp) ?_
      intro A22 c22 X22 hc22 hb22 ho22 hbel22 hw22 hbut22
      have k22 : Kept w2 X22 := Kept.base k21 hbel22
      have s22 := hbel22.size
      have g22 : Blk X22 X0.heap.size 24 (evc ev0) := Blk.wch g21 (hw22 (X0.heap.size + 1)) (by decide) (by omega)
      refine hK.out _ _ k22 (fun _ => ?_)
      clear hK K
      try simp only [Act.put, List.setIfInBounds_toArray, List.set_cons_zero, List.set_cons_succ]
      refine wpAnyH_ready (rs := [12]) (by kernel_rfl) (by simp) ?_
      refine (AllReadyH.cons (o := ⟨some 61, _, _, _, _, _⟩) rfl (fun K hK => ?_) AllReadyH.nil)
      go_simp
      refine (HDX.out X22 A22 c22 (T2.kept k22) (Bs.more ((Own.view ho22).2) (Nat.le_refl _)) (Own.view ho22).1 (Own.cap ho22)).mono ?_
      rintro e X23 ⟨rfl, e23⟩
      have k23 : Kept w2 X23 := Kept.step k22 e23
      have g23 := Blk.kept g22 e23
      refine hK.out _ _ k23 (fun _ => ?_)
      clear hK K
      try simp only [Act.put, List.setIfInBounds_toArray, List.set_cons_zero, List.set_cons_succ]
      refine wpAnyH_take (i := 13) (oi := ⟨some 48, _, _, _, _, _⟩) (v := ?vM913) rfl (by kernel_rfl) (by kernel_rfl) (by kernel_rfl) (fun _ _ _ h => h) (Or.inl ⟨by rfl, ?yM913⟩) k23 ?rM913
      case yM913 => intro W hW; go_simp; first | done | with_reducible rfl
      simp only [Act.put, List.setIfInBounds_toArray, List.set_cons_zero, List.set_cons_succ]
      refine wpAnyH_take (i := 14) (oi := ⟨some 62, _, _, _, _, _⟩) (v := ?vM914) rfl (by kernel_rfl) (by kernel_rfl) (by kernel_rfl) (fun _ _ _ h => h) (Or.inl ⟨by rfl, ?yM914⟩) k23 ?rM914
      case yM914 => intro W hW; go_simp; first | done | with_reducible rfl
      simp only [Act.put, List.setIfInBounds_toArray, List.set_cons_zero, List.set_cons_succ]
      refine wpAnyH_take (i := 15) (oi := ⟨some 63, _, _, _, _, _⟩) (v := ?vM915) rfl (by kernel_rfl) (by kernel_rfl) (by kernel_rfl) (fun _ _ _ h => h) (Or.inl ⟨by rfl, ?yM915⟩) k23 ?rM915
      case yM915 => intro W hW; go_simp; first | done | with_reducible rfl
      simp only [Act.put, List.setIfInBounds_toArray, List.set_cons_zero, List.set_cons_succ]
      refine wpAnyH_take (i := 16) (oi := ⟨some 64, _, _, _, _, _⟩) (v := ?vM916) rfl (by kernel_rfl) (by kernel_rfl) (by kernel_rfl) (fun _ _ _ h => h) (Or.inl ⟨by rfl, ?yM916⟩) k23 ?rM916
      case yM916 => intro W hW; go_simp; first | done | with_reducible rfl
      simp only [Act.put, List.setIfInBounds_toArray, List.set_cons_zero, List.set_cons_succ]
      refine wpAnyH_ready (rs := [18]) (by kernel_rfl) (by simp) ?_
      refine (AllReadyH.cons (o := ⟨none, _, _, _, _, _⟩) rfl (fun K hK => ?_) AllReadyH.nil)
      rw [if_pos (by rfl)]
      refine wp_store_mid 24 (.tmp 9) (.tmp 62) rfl (X0.heap.size) 0 (evc ev0).toArray rfl rfl (by have h1 := Blk.there g23 (o := 0) (n := (evc ev0).length) (by rw [(rfl : (evc ev0).length = (evc ev0).length)]; omega); simpa using h1) (by simpa using z00) (all_oneCell_toArray o00) ?_
      have u24 := Upd.setCells (X0.heap.size) (evc ev0) 0 X23
      have k24 : Kept w2 (X23.setCells (X0.heap.size) 0 (evc ev0)) := Below.trans k23 (u24.below q19)
      refine hK.out _ _ k24 (fun _ => ?_)
      clear hK K
      try simp only [Act.put]
      revert k24
      generalize (X23.setCells (X0.heap.size) 0 (evc ev0)) = X24
      intro k24
      refine wpAnyH_take (i := 19) (oi := ⟨some 10, _, _, _, _, _⟩) (v := ?vL10b19) rfl (by kernel_rfl) (by kernel_rfl) (by kernel_rfl) (fun _ _ _ h => h) (Or.inl ⟨by rfl, ?yL10b19⟩) k24 ?rL10b19
      case yL10b19 => intro W hW; go_simp; first | done | with_reducible rfl
      simp only [Act.put, List.setIfInBounds_toArray, List.set_cons_zero, List.set_cons_succ]
      refine wpAnyH_take (i := 20) (oi := ⟨some 11, _, _, _, _, _⟩) (v := ?vL10b20) rfl (by kernel_rfl) (by kernel_rfl) (by kernel_rfl) (fun _ _ _ h => h) (Or.inl ⟨by rfl, ?yL10b20⟩) k24 ?rL10b20
      case yL10b20 => intro W hW; go_simp; first | done | with_reducible rfl
      simp only [Act.put, List.setIfInBounds_toArray, List.set_cons_zero, List.set_cons_succ]
      refine wpAnyH_done (by kernel_rfl) ?_ _
      have G9 : Below w.heap.size w X24 := G2.trans (Below.mono k24 G2.size)
      have DD := HD0.out X24 (ht.kept G9) ((hB0.below G9).more G9.size)
      go_wp2_with fail
      refine DD.mono ?_
      rintro r y1 ⟨rfl, f1⟩
      have G10 := G9.trans (f1.mono G9.size)
      by_cases h8 : er = 8
      · subst h8
        rw [if_pos rfl]
        go_wp2_with (first
          | ((with_reducible show wpList _ _ _ (⟨some 12, _, _, _, _, _⟩ :: _) _ _); refine wp_new _ rfl 24 rfl _ y24 ?_; intro y2 gy hBy hfy; simp only [Act.put, List.setIfInBounds_toArray, List.set_cons_zero, List.set_cons_succ])
          | ((with_reducible show wpList _ _ _ (⟨none, .store 24 (.tmp 12) _, _, _, _, _⟩ :: _) _ _); refine wp_putAll _ rfl 24 (.tmp 12) (.tmp 70) rfl gy 24 _ C0 rfl rfl hBy hlV0 zV0 oV0 ?_; intro y3 hXy hUy; simp only [Act.put]))
        go_ret
        exact ⟨rfl, (G10.trans (hfy.below.mono G10.size)).trans (hUy.below (by have := hfy.is; have := G10.size; omega))⟩
      · have d8 : ((er : Int) != 8) = true := by simp; omega
        have d9 : ((er : Int) == 8) = false := by simp; omega
        rw [if_neg h8]
        go_wp2_with (first
          | ((with_reducible show wpList _ _ _ (⟨some 12, _, _, _, _, _⟩ :: _) _ _); refine wp_new _ rfl 24 rfl _ y24 ?_; intro y2 gy hBy hfy; simp only [Act.put, List.setIfInBounds_toArray, List.set_cons_zero, List.set_cons_succ])
          | ((with_reducible show wpList _ _ _ (⟨none, .store 24 (.tmp 12) _, _, _, _, _⟩ :: _) _ _); refine wp_putAll _ rfl 24 (.tmp 12) (.tmp 70) rfl gy 24 _ C0 rfl rfl hBy hlV0 zV0 oV0 ?_; intro y3 hXy hUy; simp only [Act.put]))
        go_ret
        exact ⟨rfl, (G10.trans (hfy.below.mono G10.size)).trans (hUy.below (by have := hfy.is; have := G10.size; omega))⟩
end Go.Proofs.YtjgcodnabgkjoaaDoor
