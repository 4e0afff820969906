/-
  The walk of transeptlaw05.EventCuts: true, for every event, number and bytes; nothing that was there turns. Condition: the table of kinds holds what the program's text lays.
-/
import Derived.Test.YtjgcodnabgkjoaaDoorFirst
namespace Go.Proofs.YtjgcodnabgkjoaaDoor
open Go.RowKit

theorem i64_and24 (n : Int) : bits .and .i64 n 16777215 = n % 16777216 := by
  have h1 : (BitVec.ofInt 64 16777215).toNat = 2 ^ 24 - 1 := by decide
  have key : (BitVec.ofInt 64 n &&& BitVec.ofInt 64 16777215).toNat = (n % ((2 ^ 64 : Nat) : Int)).toNat % 2 ^ 24 := by
    rw [BitVec.toNat_and, BitVec.toNat_ofInt, h1, Nat.and_two_pow_sub_one_eq_mod]
  show IntKind.i64.wrap ((BitVec.ofInt 64 n &&& BitVec.ofInt 64 16777215).toNat : Nat) = n % 16777216
  rw [key, IntKind.wrap_i64]
  omega
theorem encB_pos (e : Ev) : 0 < (encB e).length := by simp [encB]

set_option maxHeartbeats 8000000 in
set_option maxRecDepth 100000 in
theorem cuts_walk (e : Ev) (he : EvOk e) (hs : Small e) (hsz : ∀ t ∈ e.ts, t.length ≤ 9223372036854775807) (x : Int) (A' : Option Addr) (n' c' : Nat) (l' : List UInt8) (w : World) (ht : Tab w) (h' : Bs w w.heap.size A' n' l') (hc' : n' ≤ c') (_hcm' : c' ≤ 9223372036854775807) :
    Calls Tryd.prog 6 #[.agg (evc e).toArray, .int .i64 x, .slice A' n' c'] w fun r w' => r = .returned (.bool true) ∧ Below w.heap.size w w' := by
  have CU := fun W => cut_any e he hsz W
  have hok := cutE_ok he
  have hsm := cutE_small hs
  have EN := fun W (hW : Tab W) => encode_any (cutE e) hok (fun t h => by have := cutE_texts e t h; omega) hsm.1 hsm.2 W hW
  have z24 := size24' he
  have y24 := zero24
  have z00 : (Tryd.prog.info? 24).map (·.size) = some (evc ev0).length := size24
  have o00 := evc_one ev0
  obtain ⟨q, hq⟩ : ∃ m : Nat, m = min n' 50 := ⟨_, rfl⟩
  have kq : min (n' : Int) 50 = (q : Int) := by omega
  have jq : (q : Int) ≤ (c' : Int) := by omega
  have hq5 : q ≤ 50 := by omega
  have hE := h'.take q (by omega)
  obtain ⟨E, hEe⟩ : ∃ L, L = l'.take q := ⟨_, rfl⟩
  rw [← hEe] at hE
  have hEq := hE.1
  obtain ⟨Q, hQ, hQ2⟩ : ∃ Q : Nat, bits .and .i64 x 16777215 = (Q : Int) ∧ Q ≤ 16777215 := ⟨(x % 16777216).toNat, by rw [i64_and24]; omega, by omega⟩
  obtain ⟨F, hF⟩ : ∃ F, F = cutE e := ⟨_, rfl⟩
  rw [← hF] at CU EN hok hsm
  have HCU := Lib.hid CU
  have HEN := Lib.hid EN
  clear CU EN hF h' hs he hsz hq hEe
  obtain ⟨CF, hCF⟩ : ∃ C, C = evc F := ⟨_, rfl⟩
  rw [← hCF] at HCU HEN
  clear hCF
  go_enter Tryd.func6, Tryd.ntmps6
  go_wp2_with (first
    | ((with_reducible show wpList _ _ _ (⟨some 3, _, _, _, _, _⟩ :: _) _ _); refine wp_box _ rfl 24 (.tmp 0) rfl (evc e) rfl ?_; intro w1 g3 hB1 hf1; simp only [Act.put, List.setIfInBounds_toArray, List.set_cons_zero, List.set_cons_succ]))
  have t1 := ht.kept hf1.below
  refine (shown_any w1 t1).mono ?_
  rintro r w3 ⟨rfl, e3⟩
  have B3 := hB1.kept e3
  have b3 := hf1.below.trans (e3.mono hf1.below.size)
  have t3 := t1.kept e3
  clear hB1 hf1 e3 t1
  go_wp2_with (first
    | ((with_reducible show wpList _ _ _ (⟨some 19, _, _, _, _, _⟩ :: _) _ _); refine wp_getG _ (by rfl) 24 (.tmp 3) rfl g3 0 (evc e) _ rfl B3.whole Tryd.underlying24 rfl z24 ?_; simp only [Act.put, List.setIfInBounds_toArray, List.set_cons_zero, List.set_cons_succ]))
  refine (HCU.out w3).mono ?_
  rintro r w4 ⟨rfl, e4⟩
  have b4 := b3.trans (e4.mono b3.size)
  have t4 := t3.kept e4
  clear B3 e4 b3 t3 HCU
  go_wp2_with fail
  refine (HEN.out w4 t4).mono ?_
  rintro r w5 ⟨A5, n5, c5, rfl, hc5, hs5, ho5, e5⟩
  have b5 := b4.trans (e5.mono b4.size)
  have t5 := t4.kept e5
  have HC5 := Lib.hid (Own.cap ho5)
  clear e5 t4 b4 HEN ho5
  by_cases hr : rightE F = true
  · rw [(encF_right hr).1] at hs5
    rw [(encF_right hr).2]
    have hlen : n5 = (encB F).length := hs5.1.symm
    have hn5 : n5 ≤ 20000 := by rw [hlen]; exact encB_len hok hsm hr
    have hn0 : 0 < n5 := by rw [hlen]; exact encB_pos F
    obtain ⟨K, hK1, hK2⟩ : ∃ K : Nat, (Q : Int) % (n5 : Int) = (K : Int) ∧ K < n5 := ⟨Q % n5, by omega, Nat.mod_lt _ hn0⟩
    have hc5' : (K : Int) ≤ (c5 : Int) := by omega
    have hc5n : K ≤ c5 := by omega
    have hz5 : ((n5 : Int) == 0) = false := by simp; omega
    have hz6 : ¬ ((n5 : Int) = 0) := by omega
    have hz7 : ¬ (n5 = 0) := by omega
    obtain ⟨q1, q2⟩ := dec_cut F hok hsm hr K (by rw [← hlen]; exact hK2)
    have hv1 : dV ((encB F).take K) = ev0 := by rw [dV, if_neg (by rw [q2]; decide)]
    have D1 := fun W (hW : Tab W) (hb : Bs W W.heap.size A5 K ((encB F).take K)) => decode_any A5 K c5 ((encB F).take K) W hW hb hc5n HC5.out (by omega)
    rw [q1, q2, hv1] at D1
    obtain ⟨p1, p2, _⟩ := dec_enc F hok hsm hr ([1] ++ E)
    rw [if_neg (by simp)] at p2
    have hv2 : dV (encB F ++ ([1] ++ E)) = ev0 := by rw [dV, if_neg (by rw [p2]; decide)]
    have DX := fun W A1 c1 (hW : Tab W) (hb : Bs W W.heap.size A1 (n5 + 1 + q) (encB F ++ ([1] ++ E))) h1 h2 => decode_any A1 (n5 + 1 + q) c1 (encB F ++ ([1] ++ E)) W hW hb h1 h2 (by omega)
    rw [p1, p2, hv2, ← hlen, ← List.append_assoc] at DX
    have tk := hs5.take K (by omega)
    obtain ⟨L, hL⟩ : ∃ L, L = encB F := ⟨_, rfl⟩
    rw [← hL] at hs5 DX
    have HD1 := Lib.hid D1
    have HDX := Lib.hid DX
    have HL := Lib.hid (And.intro hL hlen)
    have TK := Lib.hid tk
    clear D1 DX hL hlen q1 q2 hv1 p1 p2 hv2 tk
    go_wp2_with fail
    refine (HD1.out w5 t5 TK.out).mono ?_
    rintro r w6 ⟨rfl, e6⟩
    have b6 := b5.trans (e6.mono b5.size)
    have t6 := t5.kept e6
    have s6 := (hs5.below e6).more e6.size
    clear e6 b5 t5 hs5 HD1 TK
    go_wp2_with (first
      | ((with_reducible show wpList _ _ _ (⟨some 11, _, _, _, _, _⟩ :: _) _ _); refine wp_new _ rfl 24 rfl _ y24 ?_; intro w7 g11 hB7 hf7; simp only [Act.put, List.setIfInBounds_toArray, List.set_cons_zero, List.set_cons_succ])
      | ((with_reducible show wpList _ _ _ (⟨none, .store 24 (.tmp 11) _, _, _, _, _⟩ :: _) _ _); refine wp_putAll _ rfl 24 (.tmp 11) (.tmp 46) rfl g11 24 _ (evc ev0) rfl rfl hB7 rfl z00 o00 ?_; intro w2 hX8 hU8; simp only [Act.put]))
    have G2 : Below w.heap.size w w2 := (b6.trans (hf7.below.mono b6.size)).trans (hU8.below (by have := hf7.is; have := b6.size; omega))
    have T2 : Tab w2 := ht.kept G2
    have hL2 : Bs w2 w2.heap.size A5 n5 L := ((s6.below hf7.below).below (hU8.below (by have := hf7.is; omega))).more (by have := hf7.size; have := hU8.size; have := hf7.is; omega)
    have hE2 := (hE.below G2).more G2.size
    clear hX8 hU8 hB7 hf7 b6 t6 s6 hE
    refine wp_region_held_drew (S := Kept w2) (by kernel_rfl) (Kept.refl w2).drew (fun hS => ?_)
    revert hS
    generalize w2.drew = X0
    intro hS
    refine wpAnyH_take (i := 1) (oi := ⟨some 51, _, _, _, _, _⟩) (v := ?va1) rfl (by kernel_rfl) (by kernel_rfl) (by kernel_rfl) (fun _ _ _ h => h) (Or.inl ⟨by rfl, ?ya1⟩) hS ?ra1
    case ya1 => intro W hW; go_simp; first | done | with_reducible rfl
    simp only [Act.put, List.setIfInBounds_toArray, List.set_cons_zero, List.set_cons_succ]
    refine wpAnyH_take (i := 5) (oi := ⟨some 55, _, _, _, _, _⟩) (v := ?va5) rfl (by kernel_rfl) (by kernel_rfl) (by kernel_rfl) (fun _ _ _ h => h) (Or.inl ⟨by rfl, ?ya5⟩) hS ?ra5
    case ya5 => intro W hW; go_simp; first | done | with_reducible rfl
    simp only [Act.put, List.setIfInBounds_toArray, List.set_cons_zero, List.set_cons_succ]
    refine wpAnyH_take (i := 6) (oi := ⟨some 56, _, _, _, _, _⟩) (v := ?va6) rfl (by kernel_rfl) (by kernel_rfl) (by kernel_rfl) (fun _ _ _ h => h) (Or.inl ⟨by rfl, ?ya6⟩) hS ?ra6
    case ya6 => intro W hW; go_simp; first | done | with_reducible rfl
    simp only [Act.put, List.setIfInBounds_toArray, List.set_cons_zero, List.set_cons_succ]
    refine wpAnyH_take (i := 7) (oi := ⟨some 57, _, _, _, _, _⟩) (v := ?va7) rfl (by kernel_rfl) (by kernel_rfl) (by kernel_rfl) (fun _ _ _ h => h) (Or.inl ⟨by rfl, ?ya7⟩) hS ?ra7
    case ya7 => intro W hW; go_simp; first | done | with_reducible rfl
    simp only [Act.put, List.setIfInBounds_toArray, List.set_cons_zero, List.set_cons_succ]
    refine wpAnyH_take (i := 8) (oi := ⟨some 58, _, _, _, _, _⟩) (v := ?va8) rfl (by kernel_rfl) (by kernel_rfl) (by kernel_rfl) (fun _ _ _ h => h) (Or.inl ⟨by rfl, ?ya8⟩) hS ?ra8
    case ya8 => intro W hW; go_simp; first | done | with_reducible rfl
    simp only [Act.put, List.setIfInBounds_toArray, List.set_cons_zero, List.set_cons_succ]
    refine wpAnyH_take (i := 9) (oi := ⟨some 59, _, _, _, _, _⟩) (v := ?va9) rfl (by kernel_rfl) (by kernel_rfl) (by kernel_rfl) (fun _ _ _ h => h) (Or.inl ⟨by rfl, ?ya9⟩) hS ?ra9
    case ya9 => intro W hW; go_simp; first | done | with_reducible rfl
    simp only [Act.put, List.setIfInBounds_toArray, List.set_cons_zero, List.set_cons_succ]
    refine wpAnyH_ready (rs := [0, 3, 16]) (by kernel_rfl) (by simp) ?_
    refine (AllReadyH.cons (o := ⟨some 50, _, _, _, _, _⟩) rfl (fun K hK => ?_) (AllReadyH.cons (o := ⟨some 53, _, _, _, _, _⟩) rfl (fun K hK => ?_) (AllReadyH.cons (o := ⟨some 14, _, _, _, _, _⟩) rfl (fun K hK => ?_) AllReadyH.nil)))
    · go_simp
      have k1 : Kept w2 (X0.alloc (.cells #[] 5)) := Kept.alloc hS _
      have o1 := own_empty X0 w2.heap.size (Below.size hS)
      refine hK.out _ _ k1 (fun _ => ?_)
      clear hK K
      try simp only [Act.put, List.setIfInBounds_toArray, List.set_cons_zero, List.set_cons_succ]
      generalize hX1 : (X0.alloc (.cells #[] 5)) = X1 at k1 o1 ⊢
      have z1 : Hid (X1.heap.size = X0.heap.size + 1) := by show _ = _; rw [← hX1]; simp
      clear hX1
      refine wpAnyH_ready (rs := [2, 3, 16]) (by kernel_rfl) (by simp) ?_
      refine (AllReadyH.cons (o := ⟨some 52, _, _, _, _, _⟩) rfl (fun K hK => ?_) (AllReadyH.cons (o := ⟨some 53, _, _, _, _, _⟩) rfl (fun K hK => ?_) (AllReadyH.cons (o := ⟨some 14, _, _, _, _, _⟩) rfl (fun K hK => ?_) AllReadyH.nil)))
      · refine step_appG _ rfl (.tmp 50) (.tmp 51) rfl w2.heap.size (.slice (some ⟨X0.heap.size, 0, none⟩) 0 0) (0) ([]) rfl o1 _ A5 (n5) c5 (L) rfl (hL2.below k1) (by omega) (Below.size k1) (n5) (L) (by omega) (by simp) ?_
        intro A2 c2 X2 hc2 hb2 ho2 hbel2 hw2 hbut2
        have k2 : Kept w2 X2 := Kept.base k1 hbel2
        have s2 := hbel2.size
        refine hK.out _ _ k2 (fun _ => ?_)
        clear hK K
        try simp only [Act.put, List.setIfInBounds_toArray, List.set_cons_zero, List.set_cons_succ]
        refine wpAnyH_ready (rs := [3, 16]) (by kernel_rfl) (by simp) ?_
        refine (AllReadyH.cons (o := ⟨some 53, _, _, _, _, _⟩) rfl (fun K hK => ?_) (AllReadyH.cons (o := ⟨some 14, _, _, _, _, _⟩) rfl (fun K hK => ?_) AllReadyH.nil))
        · go_simp
          have k3 : Kept w2 (X2.alloc (.cells #[.int .u8 1] 5)) := Kept.alloc k2 _
          have o3 := Own.alloc ho2 (.cells #[.int .u8 1] 5)
          have h3 : Bs (X2.alloc (.cells #[.int .u8 1] 5)) (X2.alloc (.cells #[.int .u8 1] 5)).heap.size (some ⟨X2.heap.size, 0, none⟩) 1 [1] := (Bs.one' X2 1 1 rfl).more (by simp)
          refine hK.out _ _ k3 (fun _ => ?_)
          clear hK K
          try simp only [Act.put, List.setIfInBounds_toArray, List.set_cons_zero, List.set_cons_succ]
          generalize hX3 : (X2.alloc (.cells #[.int .u8 1] 5)) = X3 at k3 o3 h3 ⊢
          have z3 : Hid (X3.heap.size = X2.heap.size + 1) := by show _ = _; rw [← hX3]; simp
          clear hX3
          refine wpAnyH_ready (rs := [4, 16]) (by kernel_rfl) (by simp) ?_
          refine (AllReadyH.cons (o := ⟨some 54, _, _, _, _, _⟩) rfl (fun K hK => ?_) (AllReadyH.cons (o := ⟨some 14, _, _, _, _, _⟩) rfl (fun K hK => ?_) AllReadyH.nil))
          · refine step_appG _ rfl (.tmp 52) (.tmp 53) rfl w2.heap.size (.slice A2 (n5) c2) (n5) (L) rfl o3 _ (some ⟨X2.heap.size, 0, none⟩) (1) 1 ([1]) rfl h3 (by omega) (Below.size k3) (n5 + 1) (L ++ [1]) (by omega) (by simp) ?_
            intro A4 c4 X4 hc4 hb4 ho4 hbel4 hw4 hbut4
            have k4 : Kept w2 X4 := Kept.base k3 hbel4
            have s4 := hbel4.size
            refine hK.out _ _ k4 (fun _ => ?_)
            clear hK K
            try simp only [Act.put, List.setIfInBounds_toArray, List.set_cons_zero, List.set_cons_succ]
            refine wpAnyH_ready (rs := [10, 16]) (by kernel_rfl) (by simp) ?_
            refine (AllReadyH.cons (o := ⟨some 60, _, _, _, _, _⟩) rfl (fun K hK => ?_) (AllReadyH.cons (o := ⟨some 14, _, _, _, _, _⟩) rfl (fun K hK => ?_) AllReadyH.nil))
            · refine step_appG _ rfl (.tmp 54) (.tmp 59) rfl w2.heap.size (.slice A4 (n5 + 1) c4) (n5 + 1) (L ++ [1]) rfl ho4 _ A' (q) c' (E) rfl (hE2.below k4) (by omega) (Below.size k4) (n5 + 1 + q) (L ++ [1] ++ E) (by omega) (by simp) ?_
              intro A5 c5 X5 hc5 hb5 ho5 hbel5 hw5 hbut5
              have k5 : Kept w2 X5 := Kept.base k4 hbel5
              have s5 := hbel5.size
              refine hK.out _ _ k5 (fun _ => ?_)
              clear hK K
              try simp only [Act.put, List.setIfInBounds_toArray, List.set_cons_zero, List.set_cons_succ]
              refine wpAnyH_ready (rs := [11, 16]) (by kernel_rfl) (by simp) ?_
              refine (AllReadyH.cons (o := ⟨some 61, _, _, _, _, _⟩) rfl (fun K hK => ?_) (AllReadyH.cons (o := ⟨some 14, _, _, _, _, _⟩) rfl (fun K hK => ?_) AllReadyH.nil))
              · go_simp
                refine (HDX.out X5 A5 c5 (T2.kept k5) (Own.view ho5).2 (Own.view ho5).1 (Own.cap ho5)).mono ?_
                rintro e X6 ⟨rfl, e6⟩
                have k6 : Kept w2 X6 := Kept.step k5 e6
                refine hK.out _ _ k6 (fun _ => ?_)
                clear hK K
                try simp only [Act.put, List.setIfInBounds_toArray, List.set_cons_zero, List.set_cons_succ]
                refine wpAnyH_take (i := 12) (oi := ⟨some 49, _, _, _, _, _⟩) (v := ?vM112) rfl (by kernel_rfl) (by kernel_rfl) (by kernel_rfl) (fun _ _ _ h => h) (Or.inl ⟨by rfl, ?yM112⟩) k6 ?rM112
                case yM112 => intro W hW; go_simp; first | done | with_reducible rfl
                simp only [Act.put, List.setIfInBounds_toArray, List.set_cons_zero, List.set_cons_succ]
                refine wpAnyH_take (i := 13) (oi := ⟨some 62, _, _, _, _, _⟩) (v := ?vM113) rfl (by kernel_rfl) (by kernel_rfl) (by kernel_rfl) (fun _ _ _ h => h) (Or.inl ⟨by rfl, ?yM113⟩) k6 ?rM113
                case yM113 => intro W hW; go_simp; first | done | with_reducible rfl
                simp only [Act.put, List.setIfInBounds_toArray, List.set_cons_zero, List.set_cons_succ]
                refine wpAnyH_take (i := 14) (oi := ⟨some 63, _, _, _, _, _⟩) (v := ?vM114) rfl (by kernel_rfl) (by kernel_rfl) (by kernel_rfl) (fun _ _ _ h => h) (Or.inl ⟨by rfl, ?yM114⟩) k6 ?rM114
                case yM114 => intro W hW; go_simp; first | done | with_reducible rfl
                simp only [Act.put, List.setIfInBounds_toArray, List.set_cons_zero, List.set_cons_succ]
                refine wpAnyH_take (i := 15) (oi := ⟨some 64, _, _, _, _, _⟩) (v := ?vM115) rfl (by kernel_rfl) (by kernel_rfl) (by kernel_rfl) (fun _ _ _ h => h) (Or.inl ⟨by rfl, ?yM115⟩) k6 ?rM115
                case yM115 => intro W hW; go_simp; first | done | with_reducible rfl
                simp only [Act.put, List.setIfInBounds_toArray, List.set_cons_zero, List.set_cons_succ]
                refine wpAnyH_ready (rs := [16]) (by kernel_rfl) (by simp) ?_
                refine (AllReadyH.cons (o := ⟨some 14, _, _, _, _, _⟩) rfl (fun K hK => ?_) AllReadyH.nil)
                go_simp
                have k7 : Kept w2 (X6.alloc (.cells #[.int .i64 0, .int .u64 0, .int .u64 0, .string ⟨#[]⟩, .string ⟨#[]⟩, .string ⟨#[]⟩, .string ⟨#[]⟩, .int .i64 0, .int .i64 0, .int .i64 0] 24)) := Kept.alloc k6 _
                have g7 : Blk (X6.alloc (.cells #[.int .i64 0, .int .u64 0, .int .u64 0, .string ⟨#[]⟩, .string ⟨#[]⟩, .string ⟨#[]⟩, .string ⟨#[]⟩, .int .i64 0, .int .i64 0, .int .i64 0] 24)) X6.heap.size 24 (evc ev0) := Blk.new X6 24 (evc ev0)
                have q7 : w2.heap.size ≤ X6.heap.size := Below.size k6
                refine hK.out _ _ k7 (fun _ => ?_)
                clear hK K
                try simp only [Act.put, List.setIfInBounds_toArray, List.set_cons_zero, List.set_cons_succ]
                generalize hX7 : (X6.alloc (.cells #[.int .i64 0, .int .u64 0, .int .u64 0, .string ⟨#[]⟩, .string ⟨#[]⟩, .string ⟨#[]⟩, .string ⟨#[]⟩, .int .i64 0, .int .i64 0, .int .i64 0] 24)) = X7 at k7 g7 ⊢
                have z7 : Hid (X7.heap.size = X6.heap.size + 1) := by show _ = _; rw [← hX7]; simp
                clear hX7
                refine wpAnyH_ready (rs := [17]) (by kernel_rfl) (by simp) ?_
                refine (AllReadyH.cons (o := ⟨none, _, _, _, _, _⟩) rfl (fun K hK => ?_) AllReadyH.nil)
                rw [if_pos (by rfl)]
                refine wp_store_mid 24 (.tmp 14) (.tmp 62) rfl (X6.heap.size) 0 (evc ev0).toArray rfl rfl (by have h1 := Blk.there g7 (o := 0) (n := (evc ev0).length) (by rw [(rfl : (evc ev0).length = (evc ev0).length)]; omega); simpa using h1) (by simpa using z00) (all_oneCell_toArray o00) ?_
                have u8 := Upd.setCells (X6.heap.size) (evc ev0) 0 X7
                have k8 : Kept w2 (X7.setCells (X6.heap.size) 0 (evc ev0)) := Below.trans k7 (u8.below q7)
                refine hK.out _ _ k8 (fun _ => ?_)
                clear hK K
                try simp only [Act.put]
                revert k8
                generalize (X7.setCells (X6.heap.size) 0 (evc ev0)) = X8
                intro k8
                refine wpAnyH_take (i := 18) (oi := ⟨some 15, _, _, _, _, _⟩) (v := ?vL2b18) rfl (by kernel_rfl) (by kernel_rfl) (by kernel_rfl) (fun _ _ _ h => h) (Or.inl ⟨by rfl, ?yL2b18⟩) k8 ?rL2b18
                case yL2b18 => intro W hW; go_simp; first | done | with_reducible rfl
                simp only [Act.put, List.setIfInBounds_toArray, List.set_cons_zero, List.set_cons_succ]
                refine wpAnyH_take (i := 19) (oi := ⟨some 16, _, _, _, _, _⟩) (v := ?vL2b19) rfl (by kernel_rfl) (by kernel_rfl) (by kernel_rfl) (fun _ _ _ h => h) (Or.inl ⟨by rfl, ?yL2b19⟩) k8 ?rL2b19
                case yL2b19 => intro W hW; go_simp; first | done | with_reducible rfl
                simp only [Act.put, List.setIfInBounds_toArray, List.set_cons_zero, List.set_cons_succ]
                refine wpAnyH_done (by kernel_rfl) ?_ _
                have G9 : Below w.heap.size w X8 := G2.trans (Below.mono k8 G2.size)
                go_wp2_with fail
                go_ret
                exact ⟨rfl, G9⟩
              · go_simp
                have k9 : Kept w2 (X5.alloc (.cells #[.int .i64 0, .int .u64 0, .int .u64 0, .string ⟨#[]⟩, .string ⟨#[]⟩, .string ⟨#[]⟩, .string ⟨#[]⟩, .int .i64 0, .int .i64 0, .int .i64 0] 24)) := Kept.alloc k5 _
                have o9 := Own.alloc ho5 (.cells #[.int .i64 0, .int .u64 0, .int .u64 0, .string ⟨#[]⟩, .string ⟨#[]⟩, .string ⟨#[]⟩, .string ⟨#[]⟩, .int .i64 0, .int .i64 0, .int .i64 0] 24)
                have g9 : Blk (X5.alloc (.cells #[.int .i64 0, .int .u64 0, .int .u64 0, .string ⟨#[]⟩, .string ⟨#[]⟩, .string ⟨#[]⟩, .string ⟨#[]⟩, .int .i64 0, .int .i64 0, .int .i64 0] 24)) X5.heap.size 24 (evc ev0) := Blk.new X5 24 (evc ev0)
                have q9 : w2.heap.size ≤ X5.heap.size := Below.size k5
                refine hK.out _ _ k9 (fun _ => ?_)
                clear hK K
                try simp only [Act.put, List.setIfInBounds_toArray, List.set_cons_zero, List.set_cons_succ]
                generalize hX9 : (X5.alloc (.cells #[.int .i64 0, .int .u64 0, .int .u64 0, .string ⟨#[]⟩, .string ⟨#[]⟩, .string ⟨#[]⟩, .string ⟨#[]⟩, .int .i64 0, .int .i64 0, .int .i64 0] 24)) = X9 at k9 o9 g9 ⊢
                have z9 : Hid (X9.heap.size = X5.heap.size + 1) := by show _ = _; rw [← hX9]; simp
                clear hX9
                refine wpAnyH_ready (rs := [11]) (by kernel_rfl) (by simp) ?_
                refine (AllReadyH.cons (o := ⟨some 61, _, _, _, _, _⟩) rfl (fun K hK => ?_) AllReadyH.nil)
                go_simp
                refine (HDX.out X9 A5 c5 (T2.kept k9) (Own.view o9).2 (Own.view o9).1 (Own.cap o9)).mono ?_
                rintro e X10 ⟨rfl, e10⟩
                have k10 : Kept w2 X10 := Kept.step k9 e10
                have g10 := Blk.kept g9 e10
                refine hK.out _ _ k10 (fun _ => ?_)
                clear hK K
                try simp only [Act.put, List.setIfInBounds_toArray, List.set_cons_zero, List.set_cons_succ]
                refine wpAnyH_take (i := 12) (oi := ⟨some 49, _, _, _, _, _⟩) (v := ?vM312) rfl (by kernel_rfl) (by kernel_rfl) (by kernel_rfl) (fun _ _ _ h => h) (Or.inl ⟨by rfl, ?yM312⟩) k10 ?rM312
                case yM312 => intro W hW; go_simp; first | done | with_reducible rfl
                simp only [Act.put, List.setIfInBounds_toArray, List.set_cons_zero, List.set_cons_succ]
                refine wpAnyH_take (i := 13) (oi := ⟨some 62, _, _, _, _, _⟩) (v := ?vM313) rfl (by kernel_rfl) (by kernel_rfl) (by kernel_rfl) (fun _ _ _ h => h) (Or.inl ⟨by rfl, ?yM313⟩) k10 ?rM313
                case yM313 => intro W hW; go_simp; first | done | with_reducible rfl
                simp only [Act.put, List.setIfInBounds_toArray, List.set_cons_zero, List.set_cons_succ]
                refine wpAnyH_take (i := 14) (oi := ⟨some 63, _, _, _, _, _⟩) (v := ?vM314) rfl (by kernel_rfl) (by kernel_rfl) (by kernel_rfl) (fun _ _ _ h => h) (Or.inl ⟨by rfl, ?yM314⟩) k10 ?rM314
                case yM314 => intro W hW; go_simp; first | done | with_reducible rfl
                simp only [Act.put, List.setIfInBounds_toArray, List.set_cons_zero, List.set_cons_succ]
                refine wpAnyH_take (i := 15) (oi := ⟨some 64, _, _, _, _, _⟩) (v := ?vM315) rfl (by kernel_rfl) (by kernel_rfl) (by kernel_rfl) (fun _ _ _ h => h) (Or.inl ⟨by rfl, ?yM315⟩) k10 ?rM315
                case yM315 => intro W hW; go_simp; first | done | with_reducible rfl
                simp only [Act.put, List.setIfInBounds_toArray, List.set_cons_zero, List.set_cons_succ]
                refine wpAnyH_ready (rs := [17]) (by kernel_rfl) (by simp) ?_
                refine (AllReadyH.cons (o := ⟨none, _, _, _, _, _⟩) rfl (fun K hK => ?_) AllReadyH.nil)
                rw [if_pos (by rfl)]
                refine wp_store_mid 24 (.tmp 14) (.tmp 62) rfl (X5.heap.size) 0 (evc ev0).toArray rfl rfl (by have h1 := Blk.there g10 (o := 0) (n := (evc ev0).length) (by rw [(rfl : (evc ev0).length = (evc ev0).length)]; omega); simpa using h1) (by simpa using z00) (all_oneCell_toArray o00) ?_
                have u11 := Upd.setCells (X5.heap.size) (evc ev0) 0 X10
                have k11 : Kept w2 (X10.setCells (X5.heap.size) 0 (evc ev0)) := Below.trans k10 (u11.below q9)
                refine hK.out _ _ k11 (fun _ => ?_)
                clear hK K
                try simp only [Act.put]
                revert k11
                generalize (X10.setCells (X5.heap.size) 0 (evc ev0)) = X11
                intro k11
                refine wpAnyH_take (i := 18) (oi := ⟨some 15, _, _, _, _, _⟩) (v := ?vL4b18) rfl (by kernel_rfl) (by kernel_rfl) (by kernel_rfl) (fun _ _ _ h => h) (Or.inl ⟨by rfl, ?yL4b18⟩) k11 ?rL4b18
                case yL4b18 => intro W hW; go_simp; first | done | with_reducible rfl
                simp only [Act.put, List.setIfInBounds_toArray, List.set_cons_zero, List.set_cons_succ]
                refine wpAnyH_take (i := 19) (oi := ⟨some 16, _, _, _, _, _⟩) (v := ?vL4b19) rfl (by kernel_rfl) (by kernel_rfl) (by kernel_rfl) (fun _ _ _ h => h) (Or.inl ⟨by rfl, ?yL4b19⟩) k11 ?rL4b19
                case yL4b19 => intro W hW; go_simp; first | done | with_reducible rfl
                simp only [Act.put, List.setIfInBounds_toArray, List.set_cons_zero, List.set_cons_succ]
                refine wpAnyH_done (by kernel_rfl) ?_ _
                have G9 : Below w.heap.size w X11 := G2.trans (Below.mono k11 G2.size)
                go_wp2_with fail
                go_ret
                exact ⟨rfl, G9⟩
            · go_simp
              have k12 : Kept w2 (X4.alloc (.cells #[.int .i64 0, .int .u64 0, .int .u64 0, .string ⟨#[]⟩, .string ⟨#[]⟩, .string ⟨#[]⟩, .string ⟨#[]⟩, .int .i64 0, .int .i64 0, .int .i64 0] 24)) := Kept.alloc k4 _
              have o12 := Own.alloc ho4 (.cells #[.int .i64 0, .int .u64 0, .int .u64 0, .string ⟨#[]⟩, .string ⟨#[]⟩, .string ⟨#[]⟩, .string ⟨#[]⟩, .int .i64 0, .int .i64 0, .int .i64 0] 24)
              have g12 : Blk (X4.alloc (.cells #[.int .i64 0, .int .u64 0, .int .u64 0, .string ⟨#[]⟩, .string ⟨#[]⟩, .string ⟨#[]⟩, .string ⟨#[]⟩, .int .i64 0, .int .i64 0, .int .i64 0] 24)) X4.heap.size 24 (evc ev0) := Blk.new X4 24 (evc ev0)
              have q12 : w2.heap.size ≤ X4.heap.size := Below.size k4
              refine hK.out _ _ k12 (fun _ => ?_)
              clear hK K
              try simp only [Act.put, List.setIfInBounds_toArray, List.set_cons_zero, List.set_cons_succ]
              generalize hX12 : (X4.alloc (.cells #[.int .i64 0, .int .u64 0, .int .u64 0, .string ⟨#[]⟩, .string ⟨#[]⟩, .string ⟨#[]⟩, .string ⟨#[]⟩, .int .i64 0, .int .i64 0, .int .i64 0] 24)) = X12 at k12 o12 g12 ⊢
              have z12 : Hid (X12.heap.size = X4.heap.size + 1) := by show _ = _; rw [← hX12]; simp
              clear hX12
              refine wpAnyH_ready (rs := [10]) (by kernel_rfl) (by simp) ?_
              refine (AllReadyH.cons (o := ⟨some 60, _, _, _, _, _⟩) rfl (fun K hK => ?_) AllReadyH.nil)
              refine step_appG _ rfl (.tmp 54) (.tmp 59) rfl w2.heap.size (.slice A4 (n5 + 1) c4) (n5 + 1) (L ++ [1]) rfl o12 _ A' (q) c' (E) rfl (hE2.below k12) (by omega) (Below.size k12) (n5 + 1 + q) (L ++ [1] ++ E) (by omega) (by simp) ?_
              intro A13 c13 X13 hc13 hb13 ho13 hbel13 hw13 hbut13
              have k13 : Kept w2 X13 := Kept.base k12 hbel13
              have s13 := hbel13.size
              have g13 : Blk X13 X4.heap.size 24 (evc ev0) := Blk.wch g12 (hw13 (X4.heap.size + 1)) (by decide) (by omega)
              refine hK.out _ _ k13 (fun _ => ?_)
              clear hK K
              try simp only [Act.put, List.setIfInBounds_toArray, List.set_cons_zero, List.set_cons_succ]
              refine wpAnyH_ready (rs := [11]) (by kernel_rfl) (by simp) ?_
              refine (AllReadyH.cons (o := ⟨some 61, _, _, _, _, _⟩) rfl (fun K hK => ?_) AllReadyH.nil)
              go_simp
              refine (HDX.out X13 A13 c13 (T2.kept k13) (Own.view ho13).2 (Own.view ho13).1 (Own.cap ho13)).mono ?_
              rintro e X14 ⟨rfl, e14⟩
              have k14 : Kept w2 X14 := Kept.step k13 e14
              have g14 := Blk.kept g13 e14
              refine hK.out _ _ k14 (fun _ => ?_)
              clear hK K
              try simp only [Act.put, List.setIfInBounds_toArray, List.set_cons_zero, List.set_cons_succ]
              refine wpAnyH_take (i := 12) (oi := ⟨some 49, _, _, _, _, _⟩) (v := ?vM512) rfl (by kernel_rfl) (by kernel_rfl) (by kernel_rfl) (fun _ _ _ h => h) (Or.inl ⟨by rfl, ?yM512⟩) k14 ?rM512
              case yM512 => intro W hW; go_simp; first | done | with_reducible rfl
              simp only [Act.put, List.setIfInBounds_toArray, List.set_cons_zero, List.set_cons_succ]
              refine wpAnyH_take (i := 13) (oi := ⟨some 62, _, _, _, _, _⟩) (v := ?vM513) rfl (by kernel_rfl) (by kernel_rfl) (by kernel_rfl) (fun _ _ _ h => h) (Or.inl ⟨by rfl, ?yM513⟩) k14 ?rM513
              case yM513 => intro W hW; go_simp; first | done | with_reducible rfl
              simp only [Act.put, List.setIfInBounds_toArray, List.set_cons_zero, List.set_cons_succ]
              refine wpAnyH_take (i := 14) (oi := ⟨some 63, _, _, _, _, _⟩) (v := ?vM514) rfl (by kernel_rfl) (by kernel_rfl) (by kernel_rfl) (fun _ _ _ h => h) (Or.inl ⟨by rfl, ?yM514⟩) k14 ?rM514
              case yM514 => intro W hW; go_simp; first | done | with_reducible rfl
              simp only [Act.put, List.setIfInBounds_toArray, List.set_cons_zero, List.set_cons_succ]
              refine wpAnyH_take (i := 15) (oi := ⟨some 64, _, _, _, _, _⟩) (v := ?vM515) rfl (by kernel_rfl) (by kernel_rfl) (by kernel_rfl) (fun _ _ _ h => h) (Or.inl ⟨by rfl, ?yM515⟩) k14 ?rM515
              case yM515 => intro W hW; go_simp; first | done | with_reducible rfl
              simp only [Act.put, List.setIfInBounds_toArray, List.set_cons_zero, List.set_cons_succ]
              refine wpAnyH_ready (rs := [17]) (by kernel_rfl) (by simp) ?_
              refine (AllReadyH.cons (o := ⟨none, _, _, _, _, _⟩) rfl (fun K hK => ?_) AllReadyH.nil)
              rw [if_pos (by rfl)]
              refine wp_store_mid 24 (.tmp 14) (.tmp 62) rfl (X4.heap.size) 0 (evc ev0).toArray rfl rfl (by have h1 := Blk.there g14 (o := 0) (n := (evc ev0).length) (by rw [(rfl : (evc ev0).length = (evc ev0).length)]; omega); simpa using h1) (by simpa using z00) (all_oneCell_toArray o00) ?_
              have u15 := Upd.setCells (X4.heap.size) (evc ev0) 0 X14
              have k15 : Kept w2 (X14.setCells (X4.heap.size) 0 (evc ev0)) := Below.trans k14 (u15.below q12)
              refine hK.out _ _ k15 (fun _ => ?_)
              clear hK K
              try simp only [Act.put]
              revert k15
              generalize (X14.setCells (X4.heap.size) 0 (evc ev0)) = X15
              intro k15
              refine wpAnyH_take (i := 18) (oi := ⟨some 15, _, _, _, _, _⟩) (v := ?vL6b18) rfl (by kernel_rfl) (by kernel_rfl) (by kernel_rfl) (fun _ _ _ h => h) (Or.inl ⟨by rfl, ?yL6b18⟩) k15 ?rL6b18
              case yL6b18 => intro W hW; go_simp; first | done | with_reducible rfl
              simp only [Act.put, List.setIfInBounds_toArray, List.set_cons_zero, List.set_cons_succ]
              refine wpAnyH_take (i := 19) (oi := ⟨some 16, _, _, _, _, _⟩) (v := ?vL6b19) rfl (by kernel_rfl) (by kernel_rfl) (by kernel_rfl) (fun _ _ _ h => h) (Or.inl ⟨by rfl, ?yL6b19⟩) k15 ?rL6b19
              case yL6b19 => intro W hW; go_simp; first | done | with_reducible rfl
              simp only [Act.put, List.setIfInBounds_toArray, List.set_cons_zero, List.set_cons_succ]
              refine wpAnyH_done (by kernel_rfl) ?_ _
              have G9 : Below w.heap.size w X15 := G2.trans (Below.mono k15 G2.size)
              go_wp2_with fail
              go_ret
              exact ⟨rfl, G9⟩
          · go_simp
            have k16 : Kept w2 (X3.alloc (.cells #[.int .i64 0, .int .u64 0, .int .u64 0, .string ⟨#[]⟩, .string ⟨#[]⟩, .string ⟨#[]⟩, .string ⟨#[]⟩, .int .i64 0, .int .i64 0, .int .i64 0] 24)) := Kept.alloc k3 _
            have o16 := Own.alloc o3 (.cells #[.int .i64 0, .int .u64 0, .int .u64 0, .string ⟨#[]⟩, .string ⟨#[]⟩, .string ⟨#[]⟩, .string ⟨#[]⟩, .int .i64 0, .int .i64 0, .int .i64 0] 24)
            have h16 := (Bs.alloc h3 (Nat.le_refl _) (.cells #[.int .i64 0, .int .u64 0, .int .u64 0, .string ⟨#[]⟩, .string ⟨#[]⟩, .string ⟨#[]⟩, .string ⟨#[]⟩, .int .i64 0, .int .i64 0, .int .i64 0] 24)).more (B' := (X3.alloc (.cells #[.int .i64 0, .int .u64 0, .int .u64 0, .string ⟨#[]⟩, .string ⟨#[]⟩, .string ⟨#[]⟩, .string ⟨#[]⟩, .int .i64 0, .int .i64 0, .int .i64 0] 24)).heap.size) (by simp)
            have g16 : Blk (X3.alloc (.cells #[.int .i64 0, .int .u64 0, .int .u64 0, .string ⟨#[]⟩, .string ⟨#[]⟩, .string ⟨#[]⟩, .string ⟨#[]⟩, .int .i64 0, .int .i64 0, .int .i64 0] 24)) X3.heap.size 24 (evc ev0) := Blk.new X3 24 (evc ev0)
            have q16 : w2.heap.size ≤ X3.heap.size := Below.size k3
            refine hK.out _ _ k16 (fun _ => ?_)
            clear hK K
            try simp only [Act.put, List.setIfInBounds_toArray, List.set_cons_zero, List.set_cons_succ]
            generalize hX16 : (X3.alloc (.cells #[.int .i64 0, .int .u64 0, .int .u64 0, .string ⟨#[]⟩, .string ⟨#[]⟩, .string ⟨#[]⟩, .string ⟨#[]⟩, .int .i64 0, .int .i64 0, .int .i64 0] 24)) = X16 at k16 o16 h16 g16 ⊢
            have z16 : Hid (X16.heap.size = X3.heap.size + 1) := by show _ = _; rw [← hX16]; simp
            clear hX16
            refine wpAnyH_ready (rs := [4]) (by kernel_rfl) (by simp) ?_
            refine (AllReadyH.cons (o := ⟨some 54, _, _, _, _, _⟩) rfl (fun K hK => ?_) AllReadyH.nil)
            refine step_appG _ rfl (.tmp 52) (.tmp 53) rfl w2.heap.size (.slice A2 (n5) c2) (n5) (L) rfl o16 _ (some ⟨X2.heap.size, 0, none⟩) (1) 1 ([1]) rfl h16 (by omega) (Below.size k16) (n5 + 1) (L ++ [1]) (by omega) (by simp) ?_
            intro A17 c17 X17 hc17 hb17 ho17 hbel17 hw17 hbut17
            have k17 : Kept w2 X17 := Kept.base k16 hbel17
            have s17 := hbel17.size
            have g17 : Blk X17 X3.heap.size 24 (evc ev0) := Blk.wch g16 (hw17 (X3.heap.size + 1)) (by decide) (by omega)
            refine hK.out _ _ k17 (fun _ => ?_)
            clear hK K
            try simp only [Act.put, List.setIfInBounds_toArray, List.set_cons_zero, List.set_cons_succ]
            refine wpAnyH_ready (rs := [10]) (by kernel_rfl) (by simp) ?_
            refine (AllReadyH.cons (o := ⟨some 60, _, _, _, _, _⟩) rfl (fun K hK => ?_) AllReadyH.nil)
            refine step_appG _ rfl (.tmp 54) (.tmp 59) rfl w2.heap.size (.slice A17 (n5 + 1) c17) (n5 + 1) (L ++ [1]) rfl ho17 _ A' (q) c' (E) rfl (hE2.below k17) (by omega) (Below.size k17) (n5 + 1 + q) (L ++ [1] ++ E) (by omega) (by simp) ?_
            intro A18 c18 X18 hc18 hb18 ho18 hbel18 hw18 hbut18
            have k18 : Kept w2 X18 := Kept.base k17 hbel18
            have s18 := hbel18.size
            have g18 : Blk X18 X3.heap.size 24 (evc ev0) := Blk.wch g17 (hw18 (X3.heap.size + 1)) (by decide) (by omega)
            refine hK.out _ _ k18 (fun _ => ?_)
            clear hK K
            try simp only [Act.put, List.setIfInBounds_toArray, List.set_cons_zero, List.set_cons_succ]
            refine wpAnyH_ready (rs := [11]) (by kernel_rfl) (by simp) ?_
            refine (AllReadyH.cons (o := ⟨some 61, _, _, _, _, _⟩) rfl (fun K hK => ?_) AllReadyH.nil)
            go_simp
            refine (HDX.out X18 A18 c18 (T2.kept k18) (Own.view ho18).2 (Own.view ho18).1 (Own.cap ho18)).mono ?_
            rintro e X19 ⟨rfl, e19⟩
            have k19 : Kept w2 X19 := Kept.step k18 e19
            have g19 := Blk.kept g18 e19
            refine hK.out _ _ k19 (fun _ => ?_)
            clear hK K
            try simp only [Act.put, List.setIfInBounds_toArray, List.set_cons_zero, List.set_cons_succ]
            refine wpAnyH_take (i := 12) (oi := ⟨some 49, _, _, _, _, _⟩) (v := ?vM712) rfl (by kernel_rfl) (by kernel_rfl) (by kernel_rfl) (fun _ _ _ h => h) (Or.inl ⟨by rfl, ?yM712⟩) k19 ?rM712
            case yM712 => intro W hW; go_simp; first | done | with_reducible rfl
            simp only [Act.put, List.setIfInBounds_toArray, List.set_cons_zero, List.set_cons_succ]
            refine wpAnyH_take (i := 13) (oi := ⟨some 62, _, _, _, _, _⟩) (v := ?vM713) rfl (by kernel_rfl) (by kernel_rfl) (by kernel_rfl) (fun _ _ _ h => h) (Or.inl ⟨by rfl, ?yM713⟩) k19 ?rM713
            case yM713 => intro W hW; go_simp; first | done | with_reducible rfl
            simp only [Act.put, List.setIfInBounds_toArray, List.set_cons_zero, List.set_cons_succ]
            refine wpAnyH_take (i := 14) (oi := ⟨some 63, _, _, _, _, _⟩) (v := ?vM714) rfl (by kernel_rfl) (by kernel_rfl) (by kernel_rfl) (fun _ _ _ h => h) (Or.inl ⟨by rfl, ?yM714⟩) k19 ?rM714
            case yM714 => intro W hW; go_simp; first | done | with_reducible rfl
            simp only [Act.put, List.setIfInBounds_toArray, List.set_cons_zero, List.set_cons_succ]
            refine wpAnyH_take (i := 15) (oi := ⟨some 64, _, _, _, _, _⟩) (v := ?vM715) rfl (by kernel_rfl) (by kernel_rfl) (by kernel_rfl) (fun _ _ _ h => h) (Or.inl ⟨by rfl, ?yM715⟩) k19 ?rM715
            case yM715 => intro W hW; go_simp; first | done | with_reducible rfl
            simp only [Act.put, List.setIfInBounds_toArray, List.set_cons_zero, List.set_cons_succ]
            refine wpAnyH_ready (rs := [17]) (by kernel_rfl) (by simp) ?_
            refine (AllReadyH.cons (o := ⟨none, _, _, _, _, _⟩) rfl (fun K hK => ?_) AllReadyH.nil)
            rw [if_pos (by rfl)]
            refine wp_store_mid 24 (.tmp 14) (.tmp 62) rfl (X3.heap.size) 0 (evc ev0).toArray rfl rfl (by have h1 := Blk.there g19 (o := 0) (n := (evc ev0).length) (by rw [(rfl : (evc ev0).length = (evc ev0).length)]; omega); simpa using h1) (by simpa using z00) (all_oneCell_toArray o00) ?_
            have u20 := Upd.setCells (X3.heap.size) (evc ev0) 0 X19
            have k20 : Kept w2 (X19.setCells (X3.heap.size) 0 (evc ev0)) := Below.trans k19 (u20.below q16)
            refine hK.out _ _ k20 (fun _ => ?_)
            clear hK K
            try simp only [Act.put]
            revert k20
            generalize (X19.setCells (X3.heap.size) 0 (evc ev0)) = X20
            intro k20
            refine wpAnyH_take (i := 18) (oi := ⟨some 15, _, _, _, _, _⟩) (v := ?vL8b18) rfl (by kernel_rfl) (by kernel_rfl) (by kernel_rfl) (fun _ _ _ h => h) (Or.inl ⟨by rfl, ?yL8b18⟩) k20 ?rL8b18
            case yL8b18 => intro W hW; go_simp; first | done | with_reducible rfl
            simp only [Act.put, List.setIfInBounds_toArray, List.set_cons_zero, List.set_cons_succ]
            refine wpAnyH_take (i := 19) (oi := ⟨some 16, _, _, _, _, _⟩) (v := ?vL8b19) rfl (by kernel_rfl) (by kernel_rfl) (by kernel_rfl) (fun _ _ _ h => h) (Or.inl ⟨by rfl, ?yL8b19⟩) k20 ?rL8b19
            case yL8b19 => intro W hW; go_simp; first | done | with_reducible rfl
            simp only [Act.put, List.setIfInBounds_toArray, List.set_cons_zero, List.set_cons_succ]
            refine wpAnyH_done (by kernel_rfl) ?_ _
            have G9 : Below w.heap.size w X20 := G2.trans (Below.mono k20 G2.size)
            go_wp2_with fail
            go_ret
            exact ⟨rfl, G9⟩
        · go_simp
          have k21 : Kept w2 (X2.alloc (.cells #[.int .i64 0, .int .u64 0, .int .u64 0, .string ⟨#[]⟩, .string ⟨#[]⟩, .string ⟨#[]⟩, .string ⟨#[]⟩, .int .i64 0, .int .i64 0, .int .i64 0] 24)) := Kept.alloc k2 _
          have o21 := Own.alloc ho2 (.cells #[.int .i64 0, .int .u64 0, .int .u64 0, .string ⟨#[]⟩, .string ⟨#[]⟩, .string ⟨#[]⟩, .string ⟨#[]⟩, .int .i64 0, .int .i64 0, .int .i64 0] 24)
          have g21 : Blk (X2.alloc (.cells #[.int .i64 0, .int .u64 0, .int .u64 0, .string ⟨#[]⟩, .string ⟨#[]⟩, .string ⟨#[]⟩, .string ⟨#[]⟩, .int .i64 0, .int .i64 0, .int .i64 0] 24)) X2.heap.size 24 (evc ev0) := Blk.new X2 24 (evc ev0)
          have q21 : w2.heap.size ≤ X2.heap.size := Below.size k2
          refine hK.out _ _ k21 (fun _ => ?_)
          clear hK K
          try simp only [Act.put, List.setIfInBounds_toArray, List.set_cons_zero, List.set_cons_succ]
          generalize hX21 : (X2.alloc (.cells #[.int .i64 0, .int .u64 0, .int .u64 0, .string ⟨#[]⟩, .string ⟨#[]⟩, .string ⟨#[]⟩, .string ⟨#[]⟩, .int .i64 0, .int .i64 0, .int .i64 0] 24)) = X21 at k21 o21 g21 ⊢
          have z21 : Hid (X21.heap.size = X2.heap.size + 1) := by show _ = _; rw [← hX21]; simp
          clear hX21
          refine wpAnyH_ready (rs := [3]) (by kernel_rfl) (by simp) ?_
          refine (AllReadyH.cons (o := ⟨some 53, _, _, _, _, _⟩) rfl (fun K hK => ?_) AllReadyH.nil)
          go_simp
          have k22 : Kept w2 (X21.alloc (.cells #[.int .u8 1] 5)) := Kept.alloc k21 _
          have o22 := Own.alloc o21 (.cells #[.int .u8 1] 5)
          have g22 := Blk.alloc g21 (.cells #[.int .u8 1] 5)
          have h22 : Bs (X21.alloc (.cells #[.int .u8 1] 5)) (X21.alloc (.cells #[.int .u8 1] 5)).heap.size (some ⟨X21.heap.size, 0, none⟩) 1 [1] := (Bs.one' X21 1 1 rfl).more (by simp)
          refine hK.out _ _ k22 (fun _ => ?_)
          clear hK K
          try simp only [Act.put, List.setIfInBounds_toArray, List.set_cons_zero, List.set_cons_succ]
          generalize hX22 : (X21.alloc (.cells #[.int .u8 1] 5)) = X22 at k22 o22 h22 g22 ⊢
          have z22 : Hid (X22.heap.size = X21.heap.size + 1) := by show _ = _; rw [← hX22]; simp
          clear hX22
          refine wpAnyH_ready (rs := [4]) (by kernel_rfl) (by simp) ?_
          refine (AllReadyH.cons (o := ⟨some 54, _, _, _, _, _⟩) rfl (fun K hK => ?_) AllReadyH.nil)
          refine step_appG _ rfl (.tmp 52) (.tmp 53) rfl w2.heap.size (.slice A2 (n5) c2) (n5) (L) rfl o22 _ (some ⟨X21.heap.size, 0, none⟩) (1) 1 ([1]) rfl h22 (by omega) (Below.size k22) (n5 + 1) (L ++ [1]) (by omega) (by simp) ?_
          intro A23 c23 X23 hc23 hb23 ho23 hbel23 hw23 hbut23
          have k23 : Kept w2 X23 := Kept.base k22 hbel23
          have s23 := hbel23.size
          have g23 : Blk X23 X2.heap.size 24 (evc ev0) := Blk.wch g22 (hw23 (X2.heap.size + 1)) (by decide) (by omega)
          refine hK.out _ _ k23 (fun _ => ?_)
          clear hK K
          try simp only [Act.put, List.setIfInBounds_toArray, List.set_cons_zero, List.set_cons_succ]
          refine wpAnyH_ready (rs := [10]) (by kernel_rfl) (by simp) ?_
          refine (AllReadyH.cons (o := ⟨some 60, _, _, _, _, _⟩) rfl (fun K hK => ?_) AllReadyH.nil)
          refine step_appG _ rfl (.tmp 54) (.tmp 59) rfl w2.heap.size (.slice A23 (n5 + 1) c23) (n5 + 1) (L ++ [1]) rfl ho23 _ A' (q) c' (E) rfl (hE2.below k23) (by omega) (Below.size k23) (n5 + 1 + q) (L ++ [1] ++ E) (by omega) (by simp) ?_
          intro A24 c24 X24 hc24 hb24 ho24 hbel24 hw24 hbut24
          have k24 : Kept w2 X24 := Kept.base k23 hbel24
          have s24 := hbel24.size
          have g24 : Blk X24 X2.heap.size 24 (evc ev0) := Blk.wch g23 (hw24 (X2.heap.size + 1)) (by decide) (by omega)
          refine hK.out _ _ k24 (fun _ => ?_)
          clear hK K
          try simp only [Act.put, List.setIfInBounds_toArray, List.set_cons_zero, List.set_cons_succ]
          refine wpAnyH_ready (rs := [11]) (by kernel_rfl) (by simp) ?_
          refine (AllReadyH.cons (o := ⟨some 61, _, _, _, _, _⟩) rfl (fun K hK => ?_) AllReadyH.nil)
          go_simp
          refine (HDX.out X24 A24 c24 (T2.kept k24) (Own.view ho24).2 (Own.view ho24).1 (Own.cap ho24)).mono ?_
          rintro e X25 ⟨rfl, e25⟩
          have k25 : Kept w2 X25 := Kept.step k24 e25
          have g25 := Blk.kept g24 e25
          refine hK.out _ _ k25 (fun _ => ?_)
          clear hK K
          try simp only [Act.put, List.setIfInBounds_toArray, List.set_cons_zero, List.set_cons_succ]
          refine wpAnyH_take (i := 12) (oi := ⟨some 49, _, _, _, _, _⟩) (v := ?vM912) rfl (by kernel_rfl) (by kernel_rfl) (by kernel_rfl) (fun _ _ _ h => h) (Or.inl ⟨by rfl, ?yM912⟩) k25 ?rM912
          case yM912 => intro W hW; go_simp; first | done | with_reducible rfl
          simp only [Act.put, List.setIfInBounds_toArray, List.set_cons_zero, List.set_cons_succ]
          refine wpAnyH_take (i := 13) (oi := ⟨some 62, _, _, _, _, _⟩) (v := ?vM913) rfl (by kernel_rfl) (by kernel_rfl) (by kernel_rfl) (fun _ _ _ h => h) (Or.inl ⟨by rfl, ?yM913⟩) k25 ?rM913
          case yM913 => intro W hW; go_simp; first | done | with_reducible rfl
          simp only [Act.put, List.setIfInBounds_toArray, List.set_cons_zero, List.set_cons_succ]
          refine wpAnyH_take (i := 14) (oi := ⟨some 63, _, _, _, _, _⟩) (v := ?vM914) rfl (by kernel_rfl) (by kernel_rfl) (by kernel_rfl) (fun _ _ _ h => h) (Or.inl ⟨by rfl, ?yM914⟩) k25 ?rM914
          case yM914 => intro W hW; go_simp; first | done | with_reducible rfl
          simp only [Act.put, List.setIfInBounds_toArray, List.set_cons_zero, List.set_cons_succ]
          refine wpAnyH_take (i := 15) (oi := ⟨some 64, _, _, _, _, _⟩) (v := ?vM915) rfl (by kernel_rfl) (by kernel_rfl) (by kernel_rfl) (fun _ _ _ h => h) (Or.inl ⟨by rfl, ?yM915⟩) k25 ?rM915
          case yM915 => intro W hW; go_simp; first | done | with_reducible rfl
          simp only [Act.put, List.setIfInBounds_toArray, List.set_cons_zero, List.set_cons_succ]
          refine wpAnyH_ready (rs := [17]) (by kernel_rfl) (by simp) ?_
          refine (AllReadyH.cons (o := ⟨none, _, _, _, _, _⟩) rfl (fun K hK => ?_) AllReadyH.nil)
          rw [if_pos (by rfl)]
          refine wp_store_mid 24 (.tmp 14) (.tmp 62) rfl (X2.heap.size) 0 (evc ev0).toArray rfl rfl (by have h1 := Blk.there g25 (o := 0) (n := (evc ev0).length) (by rw [(rfl : (evc ev0).length = (evc ev0).length)]; omega); simpa using h1) (by simpa using z00) (all_oneCell_toArray o00) ?_
          have u26 := Upd.setCells (X2.heap.size) (evc ev0) 0 X25
          have k26 : Kept w2 (X25.setCells (X2.heap.size) 0 (evc ev0)) := Below.trans k25 (u26.below q21)
          refine hK.out _ _ k26 (fun _ => ?_)
          clear hK K
          try simp only [Act.put]
          revert k26
          generalize (X25.setCells (X2.heap.size) 0 (evc ev0)) = X26
          intro k26
          refine wpAnyH_take (i := 18) (oi := ⟨some 15, _, _, _, _, _⟩) (v := ?vL10b18) rfl (by kernel_rfl) (by kernel_rfl) (by kernel_rfl) (fun _ _ _ h => h) (Or.inl ⟨by rfl, ?yL10b18⟩) k26 ?rL10b18
          case yL10b18 => intro W hW; go_simp; first | done | with_reducible rfl
          simp only [Act.put, List.setIfInBounds_toArray, List.set_cons_zero, List.set_cons_succ]
          refine wpAnyH_take (i := 19) (oi := ⟨some 16, _, _, _, _, _⟩) (v := ?vL10b19) rfl (by kernel_rfl) (by kernel_rfl) (by kernel_rfl) (fun _ _ _ h => h) (Or.inl ⟨by rfl, ?yL10b19⟩) k26 ?rL10b19
          case yL10b19 => intro W hW; go_simp; first | done | with_reducible rfl
          simp only [Act.put, List.setIfInBounds_toArray, List.set_cons_zero, List.set_cons_succ]
          refine wpAnyH_done (by kernel_rfl) ?_ _
          have G9 : Below w.heap.size w X26 := G2.trans (Below.mono k26 G2.size)
          go_wp2_with fail
          go_ret
          exact ⟨rfl, G9⟩
      · go_simp
        have k27 : Kept w2 (X1.alloc (.cells #[.int .u8 1] 5)) := Kept.alloc k1 _
        have o27 := Own.alloc o1 (.cells #[.int .u8 1] 5)
        have h27 : Bs (X1.alloc (.cells #[.int .u8 1] 5)) (X1.alloc (.cells #[.int .u8 1] 5)).heap.size (some ⟨X1.heap.size, 0, none⟩) 1 [1] := (Bs.one' X1 1 1 rfl).more (by simp)
        refine hK.out _ _ k27 (fun _ => ?_)
        clear hK K
        try simp only [Act.put, List.setIfInBounds_toArray, List.set_cons_zero, List.set_cons_succ]
        generalize hX27 : (X1.alloc (.cells #[.int .u8 1] 5)) = X27 at k27 o27 h27 ⊢
        have z27 : Hid (X27.heap.size = X1.heap.size + 1) := by show _ = _; rw [← hX27]; simp
        clear hX27
        refine wpAnyH_ready (rs := [2, 16]) (by kernel_rfl) (by simp) ?_
        refine (AllReadyH.cons (o := ⟨some 52, _, _, _, _, _⟩) rfl (fun K hK => ?_) (AllReadyH.cons (o := ⟨some 14, _, _, _, _, _⟩) rfl (fun K hK => ?_) AllReadyH.nil))
        · refine step_appG _ rfl (.tmp 50) (.tmp 51) rfl w2.heap.size (.slice (some ⟨X0.heap.size, 0, none⟩) 0 0) (0) ([]) rfl o27 _ A5 (n5) c5 (L) rfl (hL2.below k27) (by omega) (Below.size k27) (n5) (L) (by omega) (by simp) ?_
          intro A28 c28 X28 hc28 hb28 ho28 hbel28 hw28 hbut28
          have k28 : Kept w2 X28 := Kept.base k27 hbel28
          have s28 := hbel28.size
          have h28 : Bs X28 X28.heap.size (some ⟨X1.heap.size, 0, none⟩) 1 [1] := (Bs.but h27 (by omega) hbut28 (by have := z1.out; have := z27.out; simp [Value.ownBlock]; omega)).more s28
          refine hK.out _ _ k28 (fun _ => ?_)
          clear hK K
          try simp only [Act.put, List.setIfInBounds_toArray, List.set_cons_zero, List.set_cons_succ]
          refine wpAnyH_ready (rs := [4, 16]) (by kernel_rfl) (by simp) ?_
          refine (AllReadyH.cons (o := ⟨some 54, _, _, _, _, _⟩) rfl (fun K hK => ?_) (AllReadyH.cons (o := ⟨some 14, _, _, _, _, _⟩) rfl (fun K hK => ?_) AllReadyH.nil))
          · refine step_appG _ rfl (.tmp 52) (.tmp 53) rfl w2.heap.size (.slice A28 (n5) c28) (n5) (L) rfl ho28 _ (some ⟨X1.heap.size, 0, none⟩) (1) 1 ([1]) rfl h28 (by omega) (Below.size k28) (n5 + 1) (L ++ [1]) (by omega) (by simp) ?_
            intro A29 c29 X29 hc29 hb29 ho29 hbel29 hw29 hbut29
            have k29 : Kept w2 X29 := Kept.base k28 hbel29
            have s29 := hbel29.size
            refine hK.out _ _ k29 (fun _ => ?_)
            clear hK K
            try simp only [Act.put, List.setIfInBounds_toArray, List.set_cons_zero, List.set_cons_succ]
            refine wpAnyH_ready (rs := [10, 16]) (by kernel_rfl) (by simp) ?_
            refine (AllReadyH.cons (o := ⟨some 60, _, _, _, _, _⟩) rfl (fun K hK => ?_) (AllReadyH.cons (o := ⟨some 14, _, _, _, _, _⟩) rfl (fun K hK => ?_) AllReadyH.nil))
            · refine step_appG _ rfl (.tmp 54) (.tmp 59) rfl w2.heap.size (.slice A29 (n5 + 1) c29) (n5 + 1) (L ++ [1]) rfl ho29 _ A' (q) c' (E) rfl (hE2.below k29) (by omega) (Below.size k29) (n5 + 1 + q) (L ++ [1] ++ E) (by omega) (by simp) ?_
              intro A30 c30 X30 hc30 hb30 ho30 hbel30 hw30 hbut30
              have k30 : Kept w2 X30 := Kept.base k29 hbel30
              have s30 := hbel30.size
              refine hK.out _ _ k30 (fun _ => ?_)
              clear hK K
              try simp only [Act.put, List.setIfInBounds_toArray, List.set_cons_zero, List.set_cons_succ]
              refine wpAnyH_ready (rs := [11, 16]) (by kernel_rfl) (by simp) ?_
              refine (AllReadyH.cons (o := ⟨some 61, _, _, _, _, _⟩) rfl (fun K hK => ?_) (AllReadyH.cons (o := ⟨some 14, _, _, _, _, _⟩) rfl (fun K hK => ?_) AllReadyH.nil))
              · go_simp
                refine (HDX.out X30 A30 c30 (T2.kept k30) (Own.view ho30).2 (Own.view ho30).1 (Own.cap ho30)).mono ?_
                rintro e X31 ⟨rfl, e31⟩
                have k31 : Kept w2 X31 := Kept.step k30 e31
                refine hK.out _ _ k31 (fun _ => ?_)
                clear hK K
                try simp only [Act.put, List.setIfInBounds_toArray, List.set_cons_zero, List.set_cons_succ]
                refine wpAnyH_take (i := 12) (oi := ⟨some 49, _, _, _, _, _⟩) (v := ?vM1112) rfl (by kernel_rfl) (by kernel_rfl) (by kernel_rfl) (fun _ _ _ h => h) (Or.inl ⟨by rfl, ?yM1112⟩) k31 ?rM1112
                case yM1112 => intro W hW; go_simp; first | done | with_reducible rfl
                simp only [Act.put, List.setIfInBounds_toArray, List.set_cons_zero, List.set_cons_succ]
                refine wpAnyH_take (i := 13) (oi := ⟨some 62, _, _, _, _, _⟩) (v := ?vM1113) rfl (by kernel_rfl) (by kernel_rfl) (by kernel_rfl) (fun _ _ _ h => h) (Or.inl ⟨by rfl, ?yM1113⟩) k31 ?rM1113
                case yM1113 => intro W hW; go_simp; first | done | with_reducible rfl
                simp only [Act.put, List.setIfInBounds_toArray, List.set_cons_zero, List.set_cons_succ]
                refine wpAnyH_take (i := 14) (oi := ⟨some 63, _, _, _, _, _⟩) (v := ?vM1114) rfl (by kernel_rfl) (by kernel_rfl) (by kernel_rfl) (fun _ _ _ h => h) (Or.inl ⟨by rfl, ?yM1114⟩) k31 ?rM1114
                case yM1114 => intro W hW; go_simp; first | done | with_reducible rfl
                simp only [Act.put, List.setIfInBounds_toArray, List.set_cons_zero, List.set_cons_succ]
                refine wpAnyH_take (i := 15) (oi := ⟨some 64, _, _, _, _, _⟩) (v := ?vM1115) rfl (by kernel_rfl) (by kernel_rfl) (by kernel_rfl) (fun _ _ _ h => h) (Or.inl ⟨by rfl, ?yM1115⟩) k31 ?rM1115
                case yM1115 => intro W hW; go_simp; first | done | with_reducible rfl
                simp only [Act.put, List.setIfInBounds_toArray, List.set_cons_zero, List.set_cons_succ]
                refine wpAnyH_ready (rs := [16]) (by kernel_rfl) (by simp) ?_
                refine (AllReadyH.cons (o := ⟨some 14, _, _, _, _, _⟩) rfl (fun K hK => ?_) AllReadyH.nil)
                go_simp
                have k32 : Kept w2 (X31.alloc (.cells #[.int .i64 0, .int .u64 0, .int .u64 0, .string ⟨#[]⟩, .string ⟨#[]⟩, .string ⟨#[]⟩, .string ⟨#[]⟩, .int .i64 0, .int .i64 0, .int .i64 0] 24)) := Kept.alloc k31 _
                have g32 : Blk (X31.alloc (.cells #[.int .i64 0, .int .u64 0, .int .u64 0, .string ⟨#[]⟩, .string ⟨#[]⟩, .string ⟨#[]⟩, .string ⟨#[]⟩, .int .i64 0, .int .i64 0, .int .i64 0] 24)) X31.heap.size 24 (evc ev0) := Blk.new X31 24 (evc ev0)
                have q32 : w2.heap.size ≤ X31.heap.size := Below.size k31
                refine hK.out _ _ k32 (fun _ => ?_)
                clear hK K
                try simp only [Act.put, List.setIfInBounds_toArray, List.set_cons_zero, List.set_cons_succ]
                generalize hX32 : (X31.alloc (.cells #[.int .i64 0, .int .u64 0, .int .u64 0, .string ⟨#[]⟩, .string ⟨#[]⟩, .string ⟨#[]⟩, .string ⟨#[]⟩, .int .i64 0, .int .i64 0, .int .i64 0] 24)) = X32 at k32 g32 ⊢
                have z32 : Hid (X32.heap.size = X31.heap.size + 1) := by show _ = _; rw [← hX32]; simp
                clear hX32
                refine wpAnyH_ready (rs := [17]) (by kernel_rfl) (by simp) ?_
                refine (AllReadyH.cons (o := ⟨none, _, _, _, _, _⟩) rfl (fun K hK => ?_) AllReadyH.nil)
                rw [if_pos (by rfl)]
                refine wp_store_mid 24 (.tmp 14) (.tmp 62) rfl (X31.heap.size) 0 (evc ev0).toArray rfl rfl (by have h1 := Blk.there g32 (o := 0) (n := (evc ev0).length) (by rw [(rfl : (evc ev0).length = (evc ev0).length)]; omega); simpa using h1) (by simpa using z00) (all_oneCell_toArray o00) ?_
                have u33 := Upd.setCells (X31.heap.size) (evc ev0) 0 X32
                have k33 : Kept w2 (X32.setCells (X31.heap.size) 0 (evc ev0)) := Below.trans k32 (u33.below q32)
                refine hK.out _ _ k33 (fun _ => ?_)
                clear hK K
                try simp only [Act.put]
                revert k33
                generalize (X32.setCells (X31.heap.size) 0 (evc ev0)) = X33
                intro k33
                refine wpAnyH_take (i := 18) (oi := ⟨some 15, _, _, _, _, _⟩) (v := ?vL12b18) rfl (by kernel_rfl) (by kernel_rfl) (by kernel_rfl) (fun _ _ _ h => h) (Or.inl ⟨by rfl, ?yL12b18⟩) k33 ?rL12b18
                case yL12b18 => intro W hW; go_simp; first | done | with_reducible rfl
                simp only [Act.put, List.setIfInBounds_toArray, List.set_cons_zero, List.set_cons_succ]
                refine wpAnyH_take (i := 19) (oi := ⟨some 16, _, _, _, _, _⟩) (v := ?vL12b19) rfl (by kernel_rfl) (by kernel_rfl) (by kernel_rfl) (fun _ _ _ h => h) (Or.inl ⟨by rfl, ?yL12b19⟩) k33 ?rL12b19
                case yL12b19 => intro W hW; go_simp; first | done | with_reducible rfl
                simp only [Act.put, List.setIfInBounds_toArray, List.set_cons_zero, List.set_cons_succ]
                refine wpAnyH_done (by kernel_rfl) ?_ _
                have G9 : Below w.heap.size w X33 := G2.trans (Below.mono k33 G2.size)
                go_wp2_with fail
                go_ret
                exact ⟨rfl, G9⟩
              · go_simp
                have k34 : Kept w2 (X30.alloc (.cells #[.int .i64 0, .int .u64 0, .int .u64 0, .string ⟨#[]⟩, .string ⟨#[]⟩, .string ⟨#[]⟩, .string ⟨#[]⟩, .int .i64 0, .int .i64 0, .int .i64 0] 24)) := Kept.alloc k30 _
                have o34 := Own.alloc ho30 (.cells #[.int .i64 0, .int .u64 0, .int .u64 0, .string ⟨#[]⟩, .string ⟨#[]⟩, .string ⟨#[]⟩, .string ⟨#[]⟩, .int .i64 0, .int .i64 0, .int .i64 0] 24)
                have g34 : Blk (X30.alloc (.cells #[.int .i64 0, .int .u64 0, .int .u64 0, .string ⟨#[]⟩, .string ⟨#[]⟩, .string ⟨#[]⟩, .string ⟨#[]⟩, .int .i64 0, .int .i64 0, .int .i64 0] 24)) X30.heap.size 24 (evc ev0) := Blk.new X30 24 (evc ev0)
                have q34 : w2.heap.size ≤ X30.heap.size := Below.size k30
                refine hK.out _ _ k34 (fun _ => ?_)
                clear hK K
                try simp only [Act.put, List.setIfInBounds_toArray, List.set_cons_zero, List.set_cons_succ]
                generalize hX34 : (X30.alloc (.cells #[.int .i64 0, .int .u64 0, .int .u64 0, .string ⟨#[]⟩, .string ⟨#[]⟩, .string ⟨#[]⟩, .string ⟨#[]⟩, .int .i64 0, .int .i64 0, .int .i64 0] 24)) = X34 at k34 o34 g34 ⊢
                have z34 : Hid (X34.heap.size = X30.heap.size + 1) := by show _ = _; rw [← hX34]; simp
                clear hX34
                refine wpAnyH_ready (rs := [11]) (by kernel_rfl) (by simp) ?_
                refine (AllReadyH.cons (o := ⟨some 61, _, _, _, _, _⟩) rfl (fun K hK => ?_) AllReadyH.nil)
                go_simp
                refine (HDX.out X34 A30 c30 (T2.kept k34) (Own.view o34).2 (Own.view o34).1 (Own.cap o34)).mono ?_
                rintro e X35 ⟨rfl, e35⟩
                have k35 : Kept w2 X35 := Kept.step k34 e35
                have g35 := Blk.kept g34 e35
                refine hK.out _ _ k35 (fun _ => ?_)
                clear hK K
                try simp only [Act.put, List.setIfInBounds_toArray, List.set_cons_zero, List.set_cons_succ]
                refine wpAnyH_take (i := 12) (oi := ⟨some 49, _, _, _, _, _⟩) (v := ?vM1312) rfl (by kernel_rfl) (by kernel_rfl) (by kernel_rfl) (fun _ _ _ h => h) (Or.inl ⟨by rfl, ?yM1312⟩) k35 ?rM1312
                case yM1312 => intro W hW; go_simp; first | done | with_reducible rfl
                simp only [Act.put, List.setIfInBounds_toArray, List.set_cons_zero, List.set_cons_succ]
                refine wpAnyH_take (i := 13) (oi := ⟨some 62, _, _, _, _, _⟩) (v := ?vM1313) rfl (by kernel_rfl) (by kernel_rfl) (by kernel_rfl) (fun _ _ _ h => h) (Or.inl ⟨by rfl, ?yM1313⟩) k35 ?rM1313
                case yM1313 => intro W hW; go_simp; first | done | with_reducible rfl
                simp only [Act.put, List.setIfInBounds_toArray, List.set_cons_zero, List.set_cons_succ]
                refine wpAnyH_take (i := 14) (oi := ⟨some 63, _, _, _, _, _⟩) (v := ?vM1314) rfl (by kernel_rfl) (by kernel_rfl) (by kernel_rfl) (fun _ _ _ h => h) (Or.inl ⟨by rfl, ?yM1314⟩) k35 ?rM1314
                case yM1314 => intro W hW; go_simp; first | done | with_reducible rfl
                simp only [Act.put, List.setIfInBounds_toArray, List.set_cons_zero, List.set_cons_succ]
                refine wpAnyH_take (i := 15) (oi := ⟨some 64, _, _, _, _, _⟩) (v := ?vM1315) rfl (by kernel_rfl) (by kernel_rfl) (by kernel_rfl) (fun _ _ _ h => h) (Or.inl ⟨by rfl, ?yM1315⟩) k35 ?rM1315
                case yM1315 => intro W hW; go_simp; first | done | with_reducible rfl
                simp only [Act.put, List.setIfInBounds_toArray, List.set_cons_zero, List.set_cons_succ]
                refine wpAnyH_ready (rs := [17]) (by kernel_rfl) (by simp) ?_
                refine (AllReadyH.cons (o := ⟨none, _, _, _, _, _⟩) rfl (fun K hK => ?_) AllReadyH.nil)
                rw [if_pos (by rfl)]
                refine wp_store_mid 24 (.tmp 14) (.tmp 62) rfl (X30.heap.size) 0 (evc ev0).toArray rfl rfl (by have h1 := Blk.there g35 (o := 0) (n := (evc ev0).length) (by rw [(rfl : (evc ev0).length = (evc ev0).length)]; omega); simpa using h1) (by simpa using z00) (all_oneCell_toArray o00) ?_
                have u36 := Upd.setCells (X30.heap.size) (evc ev0) 0 X35
                have k36 : Kept w2 (X35.setCells (X30.heap.size) 0 (evc ev0)) := Below.trans k35 (u36.below q34)
                refine hK.out _ _ k36 (fun _ => ?_)
                clear hK K
                try simp only [Act.put]
                revert k36
                generalize (X35.setCells (X30.heap.size) 0 (evc ev0)) = X36
                intro k36
                refine wpAnyH_take (i := 18) (oi := ⟨some 15, _, _, _, _, _⟩) (v := ?vL14b18) rfl (by kernel_rfl) (by kernel_rfl) (by kernel_rfl) (fun _ _ _ h => h) (Or.inl ⟨by rfl, ?yL14b18⟩) k36 ?rL14b18
                case yL14b18 => intro W hW; go_simp; first | done | with_reducible rfl
                simp only [Act.put, List.setIfInBounds_toArray, List.set_cons_zero, List.set_cons_succ]
                refine wpAnyH_take (i := 19) (oi := ⟨some 16, _, _, _, _, _⟩) (v := ?vL14b19) rfl (by kernel_rfl) (by kernel_rfl) (by kernel_rfl) (fun _ _ _ h => h) (Or.inl ⟨by rfl, ?yL14b19⟩) k36 ?rL14b19
                case yL14b19 => intro W hW; go_simp; first | done | with_reducible rfl
                simp only [Act.put, List.setIfInBounds_toArray, List.set_cons_zero, List.set_cons_succ]
                refine wpAnyH_done (by kernel_rfl) ?_ _
                have G9 : Below w.heap.size w X36 := G2.trans (Below.mono k36 G2.size)
                go_wp2_with fail
                go_ret
                exact ⟨rfl, G9⟩
            · go_simp
              have k37 : Kept w2 (X29.alloc (.cells #[.int .i64 0, .int .u64 0, .int .u64 0, .string ⟨#[]⟩, .string ⟨#[]⟩, .string ⟨#[]⟩, .string ⟨#[]⟩, .int .i64 0, .int .i64 0, .int .i64 0] 24)) := Kept.alloc k29 _
              have o37 := Own.alloc ho29 (.cells #[.int .i64 0, .int .u64 0, .int .u64 0, .string ⟨#[]⟩, .string ⟨#[]⟩, .string ⟨#[]⟩, .string ⟨#[]⟩, .int .i64 0, .int .i64 0, .int .i64 0] 24)
              have g37 : Blk (X29.alloc (.cells #[.int .i64 0, .int .u64 0, .int .u64 0, .string ⟨#[]⟩, .string ⟨#[]⟩, .string ⟨#[]⟩, .string ⟨#[]⟩, .int .i64 0, .int .i64 0, .int .i64 0] 24)) X29.heap.size 24 (evc ev0) := Blk.new X29 24 (evc ev0)
              have q37 : w2.heap.size ≤ X29.heap.size := Below.size k29
              refine hK.out _ _ k37 (fun _ => ?_)
              clear hK K
              try simp only [Act.put, List.setIfInBounds_toArray, List.set_cons_zero, List.set_cons_succ]
              generalize hX37 : (X29.alloc (.cells #[.int .i64 0, .int .u64 0, .int .u64 0, .string ⟨#[]⟩, .string ⟨#[]⟩, .string ⟨#[]⟩, .string ⟨#[]⟩, .int .i64 0, .int .i64 0, .int .i64 0] 24)) = X37 at k37 o37 g37 ⊢
              have z37 : Hid (X37.heap.size = X29.heap.size + 1) := by show _ = _; rw [← hX37]; simp
              clear hX37
              refine wpAnyH_ready (rs := [10]) (by kernel_rfl) (by simp) ?_
              refine (AllReadyH.cons (o := ⟨some 60, _, _, _, _, _⟩) rfl (fun K hK => ?_) AllReadyH.nil)
              refine step_appG _ rfl (.tmp 54) (.tmp 59) rfl w2.heap.size (.slice A29 (n5 + 1) c29) (n5 + 1) (L ++ [1]) rfl o37 _ A' (q) c' (E) rfl (hE2.below k37) (by omega) (Below.size k37) (n5 + 1 + q) (L ++ [1] ++ E) (by omega) (by simp) ?_
              intro A38 c38 X38 hc38 hb38 ho38 hbel38 hw38 hbut38
              have k38 : Kept w2 X38 := Kept.base k37 hbel38
              have s38 := hbel38.size
              have g38 : Blk X38 X29.heap.size 24 (evc ev0) := Blk.wch g37 (hw38 (X29.heap.size + 1)) (by decide) (by omega)
              refine hK.out _ _ k38 (fun _ => ?_)
              clear hK K
              try simp only [Act.put, List.setIfInBounds_toArray, List.set_cons_zero, List.set_cons_succ]
              refine wpAnyH_ready (rs := [11]) (by kernel_rfl) (by simp) ?_
              refine (AllReadyH.cons (o := ⟨some 61, _, _, _, _, _⟩) rfl (fun K hK => ?_) AllReadyH.nil)
              go_simp
              refine (HDX.out X38 A38 c38 (T2.kept k38) (Own.view ho38).2 (Own.view ho38).1 (Own.cap ho38)).mono ?_
              rintro e X39 ⟨rfl, e39⟩
              have k39 : Kept w2 X39 := Kept.step k38 e39
              have g39 := Blk.kept g38 e39
              refine hK.out _ _ k39 (fun _ => ?_)
              clear hK K
              try simp only [Act.put, List.setIfInBounds_toArray, List.set_cons_zero, List.set_cons_succ]
              refine wpAnyH_take (i := 12) (oi := ⟨some 49, _, _, _, _, _⟩) (v := ?vM1512) rfl (by kernel_rfl) (by kernel_rfl) (by kernel_rfl) (fun _ _ _ h => h) (Or.inl ⟨by rfl, ?yM1512⟩) k39 ?rM1512
              case yM1512 => intro W hW; go_simp; first | done | with_reducible rfl
              simp only [Act.put, List.setIfInBounds_toArray, List.set_cons_zero, List.set_cons_succ]
              refine wpAnyH_take (i := 13) (oi := ⟨some 62, _, _, _, _, _⟩) (v := ?vM1513) rfl (by kernel_rfl) (by kernel_rfl) (by kernel_rfl) (fun _ _ _ h => h) (Or.inl ⟨by rfl, ?yM1513⟩) k39 ?rM1513
              case yM1513 => intro W hW; go_simp; first | done | with_reducible rfl
              simp only [Act.put, List.setIfInBounds_toArray, List.set_cons_zero, List.set_cons_succ]
              refine wpAnyH_take (i := 14) (oi := ⟨some 63, _, _, _, _, _⟩) (v := ?vM1514) rfl (by kernel_rfl) (by kernel_rfl) (by kernel_rfl) (fun _ _ _ h => h) (Or.inl ⟨by rfl, ?yM1514⟩) k39 ?rM1514
              case yM1514 => intro W hW; go_simp; first | done | with_reducible rfl
              simp only [Act.put, List.setIfInBounds_toArray, List.set_cons_zero, List.set_cons_succ]
              refine wpAnyH_take (i := 15) (oi := ⟨some 64, _, _, _, _, _⟩) (v := ?vM1515) rfl (by kernel_rfl) (by kernel_rfl) (by kernel_rfl) (fun _ _ _ h => h) (Or.inl ⟨by rfl, ?yM1515⟩) k39 ?rM1515
              case yM1515 => intro W hW; go_simp; first | done | with_reducible rfl
              simp only [Act.put, List.setIfInBounds_toArray, List.set_cons_zero, List.set_cons_succ]
              refine wpAnyH_ready (rs := [17]) (by kernel_rfl) (by simp) ?_
              refine (AllReadyH.cons (o := ⟨none, _, _, _, _, _⟩) rfl (fun K hK => ?_) AllReadyH.nil)
              rw [if_pos (by rfl)]
              refine wp_store_mid 24 (.tmp 14) (.tmp 62) rfl (X29.heap.size) 0 (evc ev0).toArray rfl rfl (by have h1 := Blk.there g39 (o := 0) (n := (evc ev0).length) (by rw [(rfl : (evc ev0).length = (evc ev0).length)]; omega); simpa using h1) (by simpa using z00) (all_oneCell_toArray o00) ?_
              have u40 := Upd.setCells (X29.heap.size) (evc ev0) 0 X39
              have k40 : Kept w2 (X39.setCells (X29.heap.size) 0 (evc ev0)) := Below.trans k39 (u40.below q37)
              refine hK.out _ _ k40 (fun _ => ?_)
              clear hK K
              try simp only [Act.put]
              revert k40
              generalize (X39.setCells (X29.heap.size) 0 (evc ev0)) = X40
              intro k40
              refine wpAnyH_take (i := 18) (oi := ⟨some 15, _, _, _, _, _⟩) (v := ?vL16b18) rfl (by kernel_rfl) (by kernel_rfl) (by kernel_rfl) (fun _ _ _ h => h) (Or.inl ⟨by rfl, ?yL16b18⟩) k40 ?rL16b18
              case yL16b18 => intro W hW; go_simp; first | done | with_reducible rfl
              simp only [Act.put, List.setIfInBounds_toArray, List.set_cons_zero, List.set_cons_succ]
              refine wpAnyH_take (i := 19) (oi := ⟨some 16, _, _, _, _, _⟩) (v := ?vL16b19) rfl (by kernel_rfl) (by kernel_rfl) (by kernel_rfl) (fun _ _ _ h => h) (Or.inl ⟨by rfl, ?yL16b19⟩) k40 ?rL16b19
              case yL16b19 => intro W hW; go_simp; first | done | with_reducible rfl
              simp only [Act.put, List.setIfInBounds_toArray, List.set_cons_zero, List.set_cons_succ]
              refine wpAnyH_done (by kernel_rfl) ?_ _
              have G9 : Below w.heap.size w X40 := G2.trans (Below.mono k40 G2.size)
              go_wp2_with fail
              go_ret
              exact ⟨rfl, G9⟩
          · go_simp
            have k41 : Kept w2 (X28.alloc (.cells #[.int .i64 0, .int .u64 0, .int .u64 0, .string ⟨#[]⟩, .string ⟨#[]⟩, .string ⟨#[]⟩, .string ⟨#[]⟩, .int .i64 0, .int .i64 0, .int .i64 0] 24)) := Kept.alloc k28 _
            have o41 := Own.alloc ho28 (.cells #[.int .i64 0, .int .u64 0, .int .u64 0, .string ⟨#[]⟩, .string ⟨#[]⟩, .string ⟨#[]⟩, .string ⟨#[]⟩, .int .i64 0, .int .i64 0, .int .i64 0] 24)
            have h41 := (Bs.alloc h28 (Nat.le_refl _) (.cells #[.int .i64 0, .int .u64 0, .int .u64 0, .string ⟨#[]⟩, .string ⟨#[]⟩, .string ⟨#[]⟩, .string ⟨#[]⟩, .int .i64 0, .int .i64 0, .int .i64 0] 24)).more (B' := (X28.alloc (.cells #[.int .i64 0, .int .u64 0, .int .u64 0, .string ⟨#[]⟩, .string ⟨#[]⟩, .string ⟨#[]⟩, .string ⟨#[]⟩, .int .i64 0, .int .i64 0, .int .i64 0] 24)).heap.size) (by simp)
            have g41 : Blk (X28.alloc (.cells #[.int .i64 0, .int .u64 0, .int .u64 0, .string ⟨#[]⟩, .string ⟨#[]⟩, .string ⟨#[]⟩, .string ⟨#[]⟩, .int .i64 0, .int .i64 0, .int .i64 0] 24)) X28.heap.size 24 (evc ev0) := Blk.new X28 24 (evc ev0)
            have q41 : w2.heap.size ≤ X28.heap.size := Below.size k28
            refine hK.out _ _ k41 (fun _ => ?_)
            clear hK K
            try simp only [Act.put, List.setIfInBounds_toArray, List.set_cons_zero, List.set_cons_succ]
            generalize hX41 : (X28.alloc (.cells #[.int .i64 0, .int .u64 0, .int .u64 0, .string ⟨#[]⟩, .string ⟨#[]⟩, .string ⟨#[]⟩, .string ⟨#[]⟩, .int .i64 0, .int .i64 0, .int .i64 0] 24)) = X41 at k41 o41 h41 g41 ⊢
            have z41 : Hid (X41.heap.size = X28.heap.size + 1) := by show _ = _; rw [← hX41]; simp
            clear hX41
            refine wpAnyH_ready (rs := [4]) (by kernel_rfl) (by simp) ?_
            refine (AllReadyH.cons (o := ⟨some 54, _, _, _, _, _⟩) rfl (fun K hK => ?_) AllReadyH.nil)
            refine step_appG _ rfl (.tmp 52) (.tmp 53) rfl w2.heap.size (.slice A28 (n5) c28) (n5) (L) rfl o41 _ (some ⟨X1.heap.size, 0, none⟩) (1) 1 ([1]) rfl h41 (by omega) (Below.size k41) (n5 + 1) (L ++ [1]) (by omega) (by simp) ?_
            intro A42 c42 X42 hc42 hb42 ho42 hbel42 hw42 hbut42
            have k42 : Kept w2 X42 := Kept.base k41 hbel42
            have s42 := hbel42.size
            have g42 : Blk X42 X28.heap.size 24 (evc ev0) := Blk.wch g41 (hw42 (X28.heap.size + 1)) (by decide) (by omega)
            refine hK.out _ _ k42 (fun _ => ?_)
            clear hK K
            try simp only [Act.put, List.setIfInBounds_toArray, List.set_cons_zero, List.set_cons_succ]
            refine wpAnyH_ready (rs := [10]) (by kernel_rfl) (by simp) ?_
            refine (AllReadyH.cons (o := ⟨some 60, _, _, _, _, _⟩) rfl (fun K hK => ?_) AllReadyH.nil)
            refine step_appG _ rfl (.tmp 54) (.tmp 59) rfl w2.heap.size (.slice A42 (n5 + 1) c42) (n5 + 1) (L ++ [1]) rfl ho42 _ A' (q) c' (E) rfl (hE2.below k42) (by omega) (Below.size k42) (n5 + 1 + q) (L ++ [1] ++ E) (by omega) (by simp) ?_
            intro A43 c43 X43 hc43 hb43 ho43 hbel43 hw43 hbut43
            have k43 : Kept w2 X43 := Kept.base k42 hbel43
            have s43 := hbel43.size
            have g43 : Blk X43 X28.heap.size 24 (evc ev0) := Blk.wch g42 (hw43 (X28.heap.size + 1)) (by decide) (by omega)
            refine hK.out _ _ k43 (fun _ => ?_)
            clear hK K
            try simp only [Act.put, List.setIfInBounds_toArray, List.set_cons_zero, List.set_cons_succ]
            refine wpAnyH_ready (rs := [11]) (by kernel_rfl) (by simp) ?_
            refine (AllReadyH.cons (o := ⟨some 61, _, _, _, _, _⟩) rfl (fun K hK => ?_) AllReadyH.nil)
            go_simp
            refine (HDX.out X43 A43 c43 (T2.kept k43) (Own.view ho43).2 (Own.view ho43).1 (Own.cap ho43)).mono ?_
            rintro e X44 ⟨rfl, e44⟩
            have k44 : Kept w2 X44 := Kept.step k43 e44
            have g44 := Blk.kept g43 e44
            refine hK.out _ _ k44 (fun _ => ?_)
            clear hK K
            try simp only [Act.put, List.setIfInBounds_toArray, List.set_cons_zero, List.set_cons_succ]
            refine wpAnyH_take (i := 12) (oi := ⟨some 49, _, _, _, _, _⟩) (v := ?vM1712) rfl (by kernel_rfl) (by kernel_rfl) (by kernel_rfl) (fun _ _ _ h => h) (Or.inl ⟨by rfl, ?yM1712⟩) k44 ?rM1712
            case yM1712 => intro W hW; go_simp; first | done | with_reducible rfl
            simp only [Act.put, List.setIfInBounds_toArray, List.set_cons_zero, List.set_cons_succ]
            refine wpAnyH_take (i := 13) (oi := ⟨some 62, _, _, _, _, _⟩) (v := ?vM1713) rfl (by kernel_rfl) (by kernel_rfl) (by kernel_rfl) (fun _ _ _ h => h) (Or.inl ⟨by rfl, ?yM1713⟩) k44 ?rM1713
            case yM1713 => intro W hW; go_simp; first | done | with_reducible rfl
            simp only [Act.put, List.setIfInBounds_toArray, List.set_cons_zero, List.set_cons_succ]
            refine wpAnyH_take (i := 14) (oi := ⟨some 63, _, _, _, _, _⟩) (v := ?vM1714) rfl (by kernel_rfl) (by kernel_rfl) (by kernel_rfl) (fun _ _ _ h => h) (Or.inl ⟨by rfl, ?yM1714⟩) k44 ?rM1714
            case yM1714 => intro W hW; go_simp; first | done | with_reducible rfl
            simp only [Act.put, List.setIfInBounds_toArray, List.set_cons_zero, List.set_cons_succ]
            refine wpAnyH_take (i := 15) (oi := ⟨some 64, _, _, _, _, _⟩) (v := ?vM1715) rfl (by kernel_rfl) (by kernel_rfl) (by kernel_rfl) (fun _ _ _ h => h) (Or.inl ⟨by rfl, ?yM1715⟩) k44 ?rM1715
            case yM1715 => intro W hW; go_simp; first | done | with_reducible rfl
            simp only [Act.put, List.setIfInBounds_toArray, List.set_cons_zero, List.set_cons_succ]
            refine wpAnyH_ready (rs := [17]) (by kernel_rfl) (by simp) ?_
            refine (AllReadyH.cons (o := ⟨none, _, _, _, _, _⟩) rfl (fun K hK => ?_) AllReadyH.nil)
            rw [if_pos (by rfl)]
            refine wp_store_mid 24 (.tmp 14) (.tmp 62) rfl (X28.heap.size) 0 (evc ev0).toArray rfl rfl (by have h1 := Blk.there g44 (o := 0) (n := (evc ev0).length) (by rw [(rfl : (evc ev0).length = (evc ev0).length)]; omega); simpa using h1) (by simpa using z00) (all_oneCell_toArray o00) ?_
            have u45 := Upd.setCells (X28.heap.size) (evc ev0) 0 X44
            have k45 : Kept w2 (X44.setCells (X28.heap.size) 0 (evc ev0)) := Below.trans k44 (u45.below q41)
            refine hK.out _ _ k45 (fun _ => ?_)
            clear hK K
            try simp only [Act.put]
            revert k45
            generalize (X44.setCells (X28.heap.size) 0 (evc ev0)) = X45
            intro k45
            refine wpAnyH_take (i := 18) (oi := ⟨some 15, _, _, _, _, _⟩) (v := ?vL18b18) rfl (by kernel_rfl) (by kernel_rfl) (by kernel_rfl) (fun _ _ _ h => h) (Or.inl ⟨by rfl, ?yL18b18⟩) k45 ?rL18b18
            case yL18b18 => intro W hW; go_simp; first | done | with_reducible rfl
            simp only [Act.put, List.setIfInBounds_toArray, List.set_cons_zero, List.set_cons_succ]
            refine wpAnyH_take (i := 19) (oi := ⟨some 16, _, _, _, _, _⟩) (v := ?vL18b19) rfl (by kernel_rfl) (by kernel_rfl) (by kernel_rfl) (fun _ _ _ h => h) (Or.inl ⟨by rfl, ?yL18b19⟩) k45 ?rL18b19
            case yL18b19 => intro W hW; go_simp; first | done | with_reducible rfl
            simp only [Act.put, List.setIfInBounds_toArray, List.set_cons_zero, List.set_cons_succ]
            refine wpAnyH_done (by kernel_rfl) ?_ _
            have G9 : Below w.heap.size w X45 := G2.trans (Below.mono k45 G2.size)
            go_wp2_with fail
            go_ret
            exact ⟨rfl, G9⟩
        · go_simp
          have k46 : Kept w2 (X27.alloc (.cells #[.int .i64 0, .int .u64 0, .int .u64 0, .string ⟨#[]⟩, .string ⟨#[]⟩, .string ⟨#[]⟩, .string ⟨#[]⟩, .int .i64 0, .int .i64 0, .int .i64 0] 24)) := Kept.alloc k27 _
          have o46 := Own.alloc o27 (.cells #[.int .i64 0, .int .u64 0, .int .u64 0, .string ⟨#[]⟩, .string ⟨#[]⟩, .string ⟨#[]⟩, .string ⟨#[]⟩, .int .i64 0, .int .i64 0, .int .i64 0] 24)
          have h46 := (Bs.alloc h27 (Nat.le_refl _) (.cells #[.int .i64 0, .int .u64 0, .int .u64 0, .string ⟨#[]⟩, .string ⟨#[]⟩, .string ⟨#[]⟩, .string ⟨#[]⟩, .int .i64 0, .int .i64 0, .int .i64 0] 24)).more (B' := (X27.alloc (.cells #[.int .i64 0, .int .u64 0, .int .u64 0, .string ⟨#[]⟩, .string ⟨#[]⟩, .string ⟨#[]⟩, .string ⟨#[]⟩, .int .i64 0, .int .i64 0, .int .i64 0] 24)).heap.size) (by simp)
          have g46 : Blk (X27.alloc (.cells #[.int .i64 0, .int .u64 0, .int .u64 0, .string ⟨#[]⟩, .string ⟨#[]⟩, .string ⟨#[]⟩, .string ⟨#[]⟩, .int .i64 0, .int .i64 0, .int .i64 0] 24)) X27.heap.size 24 (evc ev0) := Blk.new X27 24 (evc ev0)
          have q46 : w2.heap.size ≤ X27.heap.size := Below.size k27
          refine hK.out _ _ k46 (fun _ => ?_)
          clear hK K
          try simp only [Act.put, List.setIfInBounds_toArray, List.set_cons_zero, List.set_cons_succ]
          generalize hX46 : (X27.alloc (.cells #[.int .i64 0, .int .u64 0, .int .u64 0, .string ⟨#[]⟩, .string ⟨#[]⟩, .string ⟨#[]⟩, .string ⟨#[]⟩, .int .i64 0, .int .i64 0, .int .i64 0] 24)) = X46 at k46 o46 h46 g46 ⊢
          have z46 : Hid (X46.heap.size = X27.heap.size + 1) := by show _ = _; rw [← hX46]; simp
          clear hX46
          refine wpAnyH_ready (rs := [2]) (by kernel_rfl) (by simp) ?_
          refine (AllReadyH.cons (o := ⟨some 52, _, _, _, _, _⟩) rfl (fun K hK => ?_) AllReadyH.nil)
          refine step_appG _ rfl (.tmp 50) (.tmp 51) rfl w2.heap.size (.slice (some ⟨X0.heap.size, 0, none⟩) 0 0) (0) ([]) rfl o46 _ A5 (n5) c5 (L) rfl (hL2.below k46) (by omega) (Below.size k46) (n5) (L) (by omega) (by simp) ?_
          intro A47 c47 X47 hc47 hb47 ho47 hbel47 hw47 hbut47
          have k47 : Kept w2 X47 := Kept.base k46 hbel47
          have s47 := hbel47.size
          have h47 : Bs X47 X47.heap.size (some ⟨X1.heap.size, 0, none⟩) 1 [1] := (Bs.but h46 (by omega) hbut47 (by have := z1.out; have := z27.out; have := z46.out; simp [Value.ownBlock]; omega)).more s47
          have g47 : Blk X47 X27.heap.size 24 (evc ev0) := Blk.wch g46 (hw47 (X27.heap.size + 1)) (by decide) (by omega)
          refine hK.out _ _ k47 (fun _ => ?_)
          clear hK K
          try simp only [Act.put, List.setIfInBounds_toArray, List.set_cons_zero, List.set_cons_succ]
          refine wpAnyH_ready (rs := [4]) (by kernel_rfl) (by simp) ?_
          refine (AllReadyH.cons (o := ⟨some 54, _, _, _, _, _⟩) rfl (fun K hK => ?_) AllReadyH.nil)
          refine step_appG _ rfl (.tmp 52) (.tmp 53) rfl w2.heap.size (.slice A47 (n5) c47) (n5) (L) rfl ho47 _ (some ⟨X1.heap.size, 0, none⟩) (1) 1 ([1]) rfl h47 (by omega) (Below.size k47) (n5 + 1) (L ++ [1]) (by omega) (by simp) ?_
          intro A48 c48 X48 hc48 hb48 ho48 hbel48 hw48 hbut48
          have k48 : Kept w2 X48 := Kept.base k47 hbel48
          have s48 := hbel48.size
          have g48 : Blk X48 X27.heap.size 24 (evc ev0) := Blk.wch g47 (hw48 (X27.heap.size + 1)) (by decide) (by omega)
          refine hK.out _ _ k48 (fun _ => ?_)
          clear hK K
          try simp only [Act.put, List.setIfInBounds_toArray, List.set_cons_zero, List.set_cons_succ]
          refine wpAnyH_ready (rs := [10]) (by kernel_rfl) (by simp) ?_
          refine (AllReadyH.cons (o := ⟨some 60, _, _, _, _, _⟩) rfl (fun K hK => ?_) AllReadyH.nil)
          refine step_appG _ rfl (.tmp 54) (.tmp 59) rfl w2.heap.size (.slice A48 (n5 + 1) c48) (n5 + 1) (L ++ [1]) rfl ho48 _ A' (q) c' (E) rfl (hE2.below k48) (by omega) (Below.size k48) (n5 + 1 + q) (L ++ [1] ++ E) (by omega) (by simp) ?_
          intro A49 c49 X49 hc49 hb49 ho49 hbel49 hw49 hbut49
          have k49 : Kept w2 X49 := Kept.base k48 hbel49
          have s49 := hbel49.size
          have g49 : Blk X49 X27.heap.size 24 (evc ev0) := Blk.wch g48 (hw49 (X27.heap.size + 1)) (by decide) (by omega)
          refine hK.out _ _ k49 (fun _ => ?_)
          clear hK K
          try simp only [Act.put, List.setIfInBounds_toArray, List.set_cons_zero, List.set_cons_succ]
          refine wpAnyH_ready (rs := [11]) (by kernel_rfl) (by simp) ?_
          refine (AllReadyH.cons (o := ⟨some 61, _, _, _, _, _⟩) rfl (fun K hK => ?_) AllReadyH.nil)
          go_simp
          refine (HDX.out X49 A49 c49 (T2.kept k49) (Own.view ho49).2 (Own.view ho49).1 (Own.cap ho49)).mono ?_
          rintro e X50 ⟨rfl, e50⟩
          have k50 : Kept w2 X50 := Kept.step k49 e50
          have g50 := Blk.kept g49 e50
          refine hK.out _ _ k50 (fun _ => ?_)
          clear hK K
          try simp only [Act.put, List.setIfInBounds_toArray, List.set_cons_zero, List.set_cons_succ]
          refine wpAnyH_take (i := 12) (oi := ⟨some 49, _, _, _, _, _⟩) (v := ?vM1912) rfl (by kernel_rfl) (by kernel_rfl) (by kernel_rfl) (fun _ _ _ h => h) (Or.inl ⟨by rfl, ?yM1912⟩) k50 ?rM1912
          case yM1912 => intro W hW; go_simp; first | done | with_reducible rfl
          simp only [Act.put, List.setIfInBounds_toArray, List.set_cons_zero, List.set_cons_succ]
          refine wpAnyH_take (i := 13) (oi := ⟨some 62, _, _, _, _, _⟩) (v := ?vM1913) rfl (by kernel_rfl) (by kernel_rfl) (by kernel_rfl) (fun _ _ _ h => h) (Or.inl ⟨by rfl, ?yM1913⟩) k50 ?rM1913
          case yM1913 => intro W hW; go_simp; first | done | with_reducible rfl
          simp only [Act.put, List.setIfInBounds_toArray, List.set_cons_zero, List.set_cons_succ]
          refine wpAnyH_take (i := 14) (oi := ⟨some 63, _, _, _, _, _⟩) (v := ?vM1914) rfl (by kernel_rfl) (by kernel_rfl) (by kernel_rfl) (fun _ _ _ h => h) (Or.inl ⟨by rfl, ?yM1914⟩) k50 ?rM1914
          case yM1914 => intro W hW; go_simp; first | done | with_reducible rfl
          simp only [Act.put, List.setIfInBounds_toArray, List.set_cons_zero, List.set_cons_succ]
          refine wpAnyH_take (i := 15) (oi := ⟨some 64, _, _, _, _, _⟩) (v := ?vM1915) rfl (by kernel_rfl) (by kernel_rfl) (by kernel_rfl) (fun _ _ _ h => h) (Or.inl ⟨by rfl, ?yM1915⟩) k50 ?rM1915
          case yM1915 => intro W hW; go_simp; first | done | with_reducible rfl
          simp only [Act.put, List.setIfInBounds_toArray, List.set_cons_zero, List.set_cons_succ]
          refine wpAnyH_ready (rs := [17]) (by kernel_rfl) (by simp) ?_
          refine (AllReadyH.cons (o := ⟨none, _, _, _, _, _⟩) rfl (fun K hK => ?_) AllReadyH.nil)
          rw [if_pos (by rfl)]
          refine wp_store_mid 24 (.tmp 14) (.tmp 62) rfl (X27.heap.size) 0 (evc ev0).toArray rfl rfl (by have h1 := Blk.there g50 (o := 0) (n := (evc ev0).length) (by rw [(rfl : (evc ev0).length = (evc ev0).length)]; omega); simpa using h1) (by simpa using z00) (all_oneCell_toArray o00) ?_
          have u51 := Upd.setCells (X27.heap.size) (evc ev0) 0 X50
          have k51 : Kept w2 (X50.setCells (X27.heap.size) 0 (evc ev0)) := Below.trans k50 (u51.below q46)
          refine hK.out _ _ k51 (fun _ => ?_)
          clear hK K
          try simp only [Act.put]
          revert k51
          generalize (X50.setCells (X27.heap.size) 0 (evc ev0)) = X51
          intro k51
          refine wpAnyH_take (i := 18) (oi := ⟨some 15, _, _, _, _, _⟩) (v := ?vL20b18) rfl (by kernel_rfl) (by kernel_rfl) (by kernel_rfl) (fun _ _ _ h => h) (Or.inl ⟨by rfl, ?yL20b18⟩) k51 ?rL20b18
          case yL20b18 => intro W hW; go_simp; first | done | with_reducible rfl
          simp only [Act.put, List.setIfInBounds_toArray, List.set_cons_zero, List.set_cons_succ]
          refine wpAnyH_take (i := 19) (oi := ⟨some 16, _, _, _, _, _⟩) (v := ?vL20b19) rfl (by kernel_rfl) (by kernel_rfl) (by kernel_rfl) (fun _ _ _ h => h) (Or.inl ⟨by rfl, ?yL20b19⟩) k51 ?rL20b19
          case yL20b19 => intro W hW; go_simp; first | done | with_reducible rfl
          simp only [Act.put, List.setIfInBounds_toArray, List.set_cons_zero, List.set_cons_succ]
          refine wpAnyH_done (by kernel_rfl) ?_ _
          have G9 : Below w.heap.size w X51 := G2.trans (Below.mono k51 G2.size)
          go_wp2_with fail
          go_ret
          exact ⟨rfl, G9⟩
      · go_simp
        have k52 : Kept w2 (X1.alloc (.cells #[.int .i64 0, .int .u64 0, .int .u64 0, .string ⟨#[]⟩, .string ⟨#[]⟩, .string ⟨#[]⟩, .string ⟨#[]⟩, .int .i64 0, .int .i64 0, .int .i64 0] 24)) := Kept.alloc k1 _
        have o52 := Own.alloc o1 (.cells #[.int .i64 0, .int .u64 0, .int .u64 0, .string ⟨#[]⟩, .string ⟨#[]⟩, .string ⟨#[]⟩, .string ⟨#[]⟩, .int .i64 0, .int .i64 0, .int .i64 0] 24)
        have g52 : Blk (X1.alloc (.cells #[.int .i64 0, .int .u64 0, .int .u64 0, .string ⟨#[]⟩, .string ⟨#[]⟩, .string ⟨#[]⟩, .string ⟨#[]⟩, .int .i64 0, .int .i64 0, .int .i64 0] 24)) X1.heap.size 24 (evc ev0) := Blk.new X1 24 (evc ev0)
        have q52 : w2.heap.size ≤ X1.heap.size := Below.size k1
        refine hK.out _ _ k52 (fun _ => ?_)
        clear hK K
        try simp only [Act.put, List.setIfInBounds_toArray, List.set_cons_zero, List.set_cons_succ]
        generalize hX52 : (X1.alloc (.cells #[.int .i64 0, .int .u64 0, .int .u64 0, .string ⟨#[]⟩, .string ⟨#[]⟩, .string ⟨#[]⟩, .string ⟨#[]⟩, .int .i64 0, .int .i64 0, .int .i64 0] 24)) = X52 at k52 o52 g52 ⊢
        have z52 : Hid (X52.heap.size = X1.heap.size + 1) := by show _ = _; rw [← hX52]; simp
        clear hX52
        refine wpAnyH_ready (rs := [2, 3]) (by kernel_rfl) (by simp) ?_
        refine (AllReadyH.cons (o := ⟨some 52, _, _, _, _, _⟩) rfl (fun K hK => ?_) (AllReadyH.cons (o := ⟨some 53, _, _, _, _, _⟩) rfl (fun K hK => ?_) AllReadyH.nil))
        · refine step_appG _ rfl (.tmp 50) (.tmp 51) rfl w2.heap.size (.slice (some ⟨X0.heap.size, 0, none⟩) 0 0) (0) ([]) rfl o52 _ A5 (n5) c5 (L) rfl (hL2.below k52) (by omega) (Below.size k52) (n5) (L) (by omega) (by simp) ?_
          intro A53 c53 X53 hc53 hb53 ho53 hbel53 hw53 hbut53
          have k53 : Kept w2 X53 := Kept.base k52 hbel53
          have s53 := hbel53.size
          have g53 : Blk X53 X1.heap.size 24 (evc ev0) := Blk.wch g52 (hw53 (X1.heap.size + 1)) (by decide) (by omega)
          refine hK.out _ _ k53 (fun _ => ?_)
          clear hK K
          try simp only [Act.put, List.setIfInBounds_toArray, List.set_cons_zero, List.set_cons_succ]
          refine wpAnyH_ready (rs := [3]) (by kernel_rfl) (by simp) ?_
          refine (AllReadyH.cons (o := ⟨some 53, _, _, _, _, _⟩) rfl (fun K hK => ?_) AllReadyH.nil)
          go_simp
          have k54 : Kept w2 (X53.alloc (.cells #[.int .u8 1] 5)) := Kept.alloc k53 _
          have o54 := Own.alloc ho53 (.cells #[.int .u8 1] 5)
          have g54 := Blk.alloc g53 (.cells #[.int .u8 1] 5)
          have h54 : Bs (X53.alloc (.cells #[.int .u8 1] 5)) (X53.alloc (.cells #[.int .u8 1] 5)).heap.size (some ⟨X53.heap.size, 0, none⟩) 1 [1] := (Bs.one' X53 1 1 rfl).more (by simp)
          refine hK.out _ _ k54 (fun _ => ?_)
          clear hK K
          try simp only [Act.put, List.setIfInBounds_toArray, List.set_cons_zero, List.set_cons_succ]
          generalize hX54 : (X53.alloc (.cells #[.int .u8 1] 5)) = X54 at k54 o54 h54 g54 ⊢
          have z54 : Hid (X54.heap.size = X53.heap.size + 1) := by show _ = _; rw [← hX54]; simp
          clear hX54
          refine wpAnyH_ready (rs := [4]) (by kernel_rfl) (by simp) ?_
          refine (AllReadyH.cons (o := ⟨some 54, _, _, _, _, _⟩) rfl (fun K hK => ?_) AllReadyH.nil)
          refine step_appG _ rfl (.tmp 52) (.tmp 53) rfl w2.heap.size (.slice A53 (n5) c53) (n5) (L) rfl o54 _ (some ⟨X53.heap.size, 0, none⟩) (1) 1 ([1]) rfl h54 (by omega) (Below.size k54) (n5 + 1) (L ++ [1]) (by omega) (by simp) ?_
          intro A55 c55 X55 hc55 hb55 ho55 hbel55 hw55 hbut55
          have k55 : Kept w2 X55 := Kept.base k54 hbel55
          have s55 := hbel55.size
          have g55 : Blk X55 X1.heap.size 24 (evc ev0) := Blk.wch g54 (hw55 (X1.heap.size + 1)) (by decide) (by omega)
          refine hK.out _ _ k55 (fun _ => ?_)
          clear hK K
          try simp only [Act.put, List.setIfInBounds_toArray, List.set_cons_zero, List.set_cons_succ]
          refine wpAnyH_ready (rs := [10]) (by kernel_rfl) (by simp) ?_
          refine (AllReadyH.cons (o := ⟨some 60, _, _, _, _, _⟩) rfl (fun K hK => ?_) AllReadyH.nil)
          refine step_appG _ rfl (.tmp 54) (.tmp 59) rfl w2.heap.size (.slice A55 (n5 + 1) c55) (n5 + 1) (L ++ [1]) rfl ho55 _ A' (q) c' (E) rfl (hE2.below k55) (by omega) (Below.size k55) (n5 + 1 + q) (L ++ [1] ++ E) (by omega) (by simp) ?_
          intro A56 c56 X56 hc56 hb56 ho56 hbel56 hw56 hbut56
          have k56 : Kept w2 X56 := Kept.base k55 hbel56
          have s56 := hbel56.size
          have g56 : Blk X56 X1.heap.size 24 (evc ev0) := Blk.wch g55 (hw56 (X1.heap.size + 1)) (by decide) (by omega)
          refine hK.out _ _ k56 (fun _ => ?_)
          clear hK K
          try simp only [Act.put, List.setIfInBounds_toArray, List.set_cons_zero, List.set_cons_succ]
          refine wpAnyH_ready (rs := [11]) (by kernel_rfl) (by simp) ?_
          refine (AllReadyH.cons (o := ⟨some 61, _, _, _, _, _⟩) rfl (fun K hK => ?_) AllReadyH.nil)
          go_simp
          refine (HDX.out X56 A56 c56 (T2.kept k56) (Own.view ho56).2 (Own.view ho56).1 (Own.cap ho56)).mono ?_
          rintro e X57 ⟨rfl, e57⟩
          have k57 : Kept w2 X57 := Kept.step k56 e57
          have g57 := Blk.kept g56 e57
          refine hK.out _ _ k57 (fun _ => ?_)
          clear hK K
          try simp only [Act.put, List.setIfInBounds_toArray, List.set_cons_zero, List.set_cons_succ]
          refine wpAnyH_take (i := 12) (oi := ⟨some 49, _, _, _, _, _⟩) (v := ?vM2112) rfl (by kernel_rfl) (by kernel_rfl) (by kernel_rfl) (fun _ _ _ h => h) (Or.inl ⟨by rfl, ?yM2112⟩) k57 ?rM2112
          case yM2112 => intro W hW; go_simp; first | done | with_reducible rfl
          simp only [Act.put, List.setIfInBounds_toArray, List.set_cons_zero, List.set_cons_succ]
          refine wpAnyH_take (i := 13) (oi := ⟨some 62, _, _, _, _, _⟩) (v := ?vM2113) rfl (by kernel_rfl) (by kernel_rfl) (by kernel_rfl) (fun _ _ _ h => h) (Or.inl ⟨by rfl, ?yM2113⟩) k57 ?rM2113
          case yM2113 => intro W hW; go_simp; first | done | with_reducible rfl
          simp only [Act.put, List.setIfInBounds_toArray, List.set_cons_zero, List.set_cons_succ]
          refine wpAnyH_take (i := 14) (oi := ⟨some 63, _, _, _, _, _⟩) (v := ?vM2114) rfl (by kernel_rfl) (by kernel_rfl) (by kernel_rfl) (fun _ _ _ h => h) (Or.inl ⟨by rfl, ?yM2114⟩) k57 ?rM2114
          case yM2114 => intro W hW; go_simp; first | done | with_reducible rfl
          simp only [Act.put, List.setIfInBounds_toArray, List.set_cons_zero, List.set_cons_succ]
          refine wpAnyH_take (i := 15) (oi := ⟨some 64, _, _, _, _, _⟩) (v := ?vM2115) rfl (by kernel_rfl) (by kernel_rfl) (by kernel_rfl) (fun _ _ _ h => h) (Or.inl ⟨by rfl, ?yM2115⟩) k57 ?rM2115
          case yM2115 => intro W hW; go_simp; first | done | with_reducible rfl
          simp only [Act.put, List.setIfInBounds_toArray, List.set_cons_zero, List.set_cons_succ]
          refine wpAnyH_ready (rs := [17]) (by kernel_rfl) (by simp) ?_
          refine (AllReadyH.cons (o := ⟨none, _, _, _, _, _⟩) rfl (fun K hK => ?_) AllReadyH.nil)
          rw [if_pos (by rfl)]
          refine wp_store_mid 24 (.tmp 14) (.tmp 62) rfl (X1.heap.size) 0 (evc ev0).toArray rfl rfl (by have h1 := Blk.there g57 (o := 0) (n := (evc ev0).length) (by rw [(rfl : (evc ev0).length = (evc ev0).length)]; omega); simpa using h1) (by simpa using z00) (all_oneCell_toArray o00) ?_
          have u58 := Upd.setCells (X1.heap.size) (evc ev0) 0 X57
          have k58 : Kept w2 (X57.setCells (X1.heap.size) 0 (evc ev0)) := Below.trans k57 (u58.below q52)
          refine hK.out _ _ k58 (fun _ => ?_)
          clear hK K
          try simp only [Act.put]
          revert k58
          generalize (X57.setCells (X1.heap.size) 0 (evc ev0)) = X58
          intro k58
          refine wpAnyH_take (i := 18) (oi := ⟨some 15, _, _, _, _, _⟩) (v := ?vL22b18) rfl (by kernel_rfl) (by kernel_rfl) (by kernel_rfl) (fun _ _ _ h => h) (Or.inl ⟨by rfl, ?yL22b18⟩) k58 ?rL22b18
          case yL22b18 => intro W hW; go_simp; first | done | with_reducible rfl
          simp only [Act.put, List.setIfInBounds_toArray, List.set_cons_zero, List.set_cons_succ]
          refine wpAnyH_take (i := 19) (oi := ⟨some 16, _, _, _, _, _⟩) (v := ?vL22b19) rfl (by kernel_rfl) (by kernel_rfl) (by kernel_rfl) (fun _ _ _ h => h) (Or.inl ⟨by rfl, ?yL22b19⟩) k58 ?rL22b19
          case yL22b19 => intro W hW; go_simp; first | done | with_reducible rfl
          simp only [Act.put, List.setIfInBounds_toArray, List.set_cons_zero, List.set_cons_succ]
          refine wpAnyH_done (by kernel_rfl) ?_ _
          have G9 : Below w.heap.size w X58 := G2.trans (Below.mono k58 G2.size)
          go_wp2_with fail
          go_ret
          exact ⟨rfl, G9⟩
        · go_simp
          have k59 : Kept w2 (X52.alloc (.cells #[.int .u8 1] 5)) := Kept.alloc k52 _
          have o59 := Own.alloc o52 (.cells #[.int .u8 1] 5)
          have g59 := Blk.alloc g52 (.cells #[.int .u8 1] 5)
          have h59 : Bs (X52.alloc (.cells #[.int .u8 1] 5)) (X52.alloc (.cells #[.int .u8 1] 5)).heap.size (some ⟨X52.heap.size, 0, none⟩) 1 [1] := (Bs.one' X52 1 1 rfl).more (by simp)
          refine hK.out _ _ k59 (fun _ => ?_)
          clear hK K
          try simp only [Act.put, List.setIfInBounds_toArray, List.set_cons_zero, List.set_cons_succ]
          generalize hX59 : (X52.alloc (.cells #[.int .u8 1] 5)) = X59 at k59 o59 h59 g59 ⊢
          have z59 : Hid (X59.heap.size = X52.heap.size + 1) := by show _ = _; rw [← hX59]; simp
          clear hX59
          refine wpAnyH_ready (rs := [2]) (by kernel_rfl) (by simp) ?_
          refine (AllReadyH.cons (o := ⟨some 52, _, _, _, _, _⟩) rfl (fun K hK => ?_) AllReadyH.nil)
          refine step_appG _ rfl (.tmp 50) (.tmp 51) rfl w2.heap.size (.slice (some ⟨X0.heap.size, 0, none⟩) 0 0) (0) ([]) rfl o59 _ A5 (n5) c5 (L) rfl (hL2.below k59) (by omega) (Below.size k59) (n5) (L) (by omega) (by simp) ?_
          intro A60 c60 X60 hc60 hb60 ho60 hbel60 hw60 hbut60
          have k60 : Kept w2 X60 := Kept.base k59 hbel60
          have s60 := hbel60.size
          have h60 : Bs X60 X60.heap.size (some ⟨X52.heap.size, 0, none⟩) 1 [1] := (Bs.but h59 (by omega) hbut60 (by have := z1.out; have := z52.out; have := z59.out; simp [Value.ownBlock]; omega)).more s60
          have g60 : Blk X60 X1.heap.size 24 (evc ev0) := Blk.wch g59 (hw60 (X1.heap.size + 1)) (by decide) (by omega)
          refine hK.out _ _ k60 (fun _ => ?_)
          clear hK K
          try simp only [Act.put, List.setIfInBounds_toArray, List.set_cons_zero, List.set_cons_succ]
          refine wpAnyH_ready (rs := [4]) (by kernel_rfl) (by simp) ?_
          refine (AllReadyH.cons (o := ⟨some 54, _, _, _, _, _⟩) rfl (fun K hK => ?_) AllReadyH.nil)
          refine step_appG _ rfl (.tmp 52) (.tmp 53) rfl w2.heap.size (.slice A60 (n5) c60) (n5) (L) rfl ho60 _ (some ⟨X52.heap.size, 0, none⟩) (1) 1 ([1]) rfl h60 (by omega) (Below.size k60) (n5 + 1) (L ++ [1]) (by omega) (by simp) ?_
          intro A61 c61 X61 hc61 hb61 ho61 hbel61 hw61 hbut61
          have k61 : Kept w2 X61 := Kept.base k60 hbel61
          have s61 := hbel61.size
          have g61 : Blk X61 X1.heap.size 24 (evc ev0) := Blk.wch g60 (hw61 (X1.heap.size + 1)) (by decide) (by omega)
          refine hK.out _ _ k61 (fun _ => ?_)
          clear hK K
          try simp only [Act.put, List.setIfInBounds_toArray, List.set_cons_zero, List.set_cons_succ]
          refine wpAnyH_ready (rs := [10]) (by kernel_rfl) (by simp) ?_
          refine (AllReadyH.cons (o := ⟨some 60, _, _, _, _, _⟩) rfl (fun K hK => ?_) AllReadyH.nil)
          refine step_appG _ rfl (.tmp 54) (.tmp 59) rfl w2.heap.size (.slice A61 (n5 + 1) c61) (n5 + 1) (L ++ [1]) rfl ho61 _ A' (q) c' (E) rfl (hE2.below k61) (by omega) (Below.size k61) (n5 + 1 + q) (L ++ [1] ++ E) (by omega) (by simp) ?_
          intro A62 c62 X62 hc62 hb62 ho62 hbel62 hw62 hbut62
          have k62 : Kept w2 X62 := Kept.base k61 hbel62
          have s62 := hbel62.size
          have g62 : Blk X62 X1.heap.size 24 (evc ev0) := Blk.wch g61 (hw62 (X1.heap.size + 1)) (by decide) (by omega)
          refine hK.out _ _ k62 (fun _ => ?_)
          clear hK K
          try simp only [Act.put, List.setIfInBounds_toArray, List.set_cons_zero, List.set_cons_succ]
          refine wpAnyH_ready (rs := [11]) (by kernel_rfl) (by simp) ?_
          refine (AllReadyH.cons (o := ⟨some 61, _, _, _, _, _⟩) rfl (fun K hK => ?_) AllReadyH.nil)
          go_simp
          refine (HDX.out X62 A62 c62 (T2.kept k62) (Own.view ho62).2 (Own.view ho62).1 (Own.cap ho62)).mono ?_
          rintro e X63 ⟨rfl, e63⟩
          have k63 : Kept w2 X63 := Kept.step k62 e63
          have g63 := Blk.kept g62 e63
          refine hK.out _ _ k63 (fun _ => ?_)
          clear hK K
          try simp only [Act.put, List.setIfInBounds_toArray, List.set_cons_zero, List.set_cons_succ]
          refine wpAnyH_take (i := 12) (oi := ⟨some 49, _, _, _, _, _⟩) (v := ?vM2312) rfl (by kernel_rfl) (by kernel_rfl) (by kernel_rfl) (fun _ _ _ h => h) (Or.inl ⟨by rfl, ?yM2312⟩) k63 ?rM2312
          case yM2312 => intro W hW; go_simp; first | done | with_reducible rfl
          simp only [Act.put, List.setIfInBounds_toArray, List.set_cons_zero, List.set_cons_succ]
          refine wpAnyH_take (i := 13) (oi := ⟨some 62, _, _, _, _, _⟩) (v := ?vM2313) rfl (by kernel_rfl) (by kernel_rfl) (by kernel_rfl) (fun _ _ _ h => h) (Or.inl ⟨by rfl, ?yM2313⟩) k63 ?rM2313
          case yM2313 => intro W hW; go_simp; first | done | with_reducible rfl
          simp only [Act.put, List.setIfInBounds_toArray, List.set_cons_zero, List.set_cons_succ]
          refine wpAnyH_take (i := 14) (oi := ⟨some 63, _, _, _, _, _⟩) (v := ?vM2314) rfl (by kernel_rfl) (by kernel_rfl) (by kernel_rfl) (fun _ _ _ h => h) (Or.inl ⟨by rfl, ?yM2314⟩) k63 ?rM2314
          case yM2314 => intro W hW; go_simp; first | done | with_reducible rfl
          simp only [Act.put, List.setIfInBounds_toArray, List.set_cons_zero, List.set_cons_succ]
          refine wpAnyH_take (i := 15) (oi := ⟨some 64, _, _, _, _, _⟩) (v := ?vM2315) rfl (by kernel_rfl) (by kernel_rfl) (by kernel_rfl) (fun _ _ _ h => h) (Or.inl ⟨by rfl, ?yM2315⟩) k63 ?rM2315
          case yM2315 => intro W hW; go_simp; first | done | with_reducible rfl
          simp only [Act.put, List.setIfInBounds_toArray, List.set_cons_zero, List.set_cons_succ]
          refine wpAnyH_ready (rs := [17]) (by kernel_rfl) (by simp) ?_
          refine (AllReadyH.cons (o := ⟨none, _, _, _, _, _⟩) rfl (fun K hK => ?_) AllReadyH.nil)
          rw [if_pos (by rfl)]
          refine wp_store_mid 24 (.tmp 14) (.tmp 62) rfl (X1.heap.size) 0 (evc ev0).toArray rfl rfl (by have h1 := Blk.there g63 (o := 0) (n := (evc ev0).length) (by rw [(rfl : (evc ev0).length = (evc ev0).length)]; omega); simpa using h1) (by simpa using z00) (all_oneCell_toArray o00) ?_
          have u64 := Upd.setCells (X1.heap.size) (evc ev0) 0 X63
          have k64 : Kept w2 (X63.setCells (X1.heap.size) 0 (evc ev0)) := Below.trans k63 (u64.below q52)
          refine hK.out _ _ k64 (fun _ => ?_)
          clear hK K
          try simp only [Act.put]
          revert k64
          generalize (X63.setCells (X1.heap.size) 0 (evc ev0)) = X64
          intro k64
          refine wpAnyH_take (i := 18) (oi := ⟨some 15, _, _, _, _, _⟩) (v := ?vL24b18) rfl (by kernel_rfl) (by kernel_rfl) (by kernel_rfl) (fun _ _ _ h => h) (Or.inl ⟨by rfl, ?yL24b18⟩) k64 ?rL24b18
          case yL24b18 => intro W hW; go_simp; first | done | with_reducible rfl
          simp only [Act.put, List.setIfInBounds_toArray, List.set_cons_zero, List.set_cons_succ]
          refine wpAnyH_take (i := 19) (oi := ⟨some 16, _, _, _, _, _⟩) (v := ?vL24b19) rfl (by kernel_rfl) (by kernel_rfl) (by kernel_rfl) (fun _ _ _ h => h) (Or.inl ⟨by rfl, ?yL24b19⟩) k64 ?rL24b19
          case yL24b19 => intro W hW; go_simp; first | done | with_reducible rfl
          simp only [Act.put, List.setIfInBounds_toArray, List.set_cons_zero, List.set_cons_succ]
          refine wpAnyH_done (by kernel_rfl) ?_ _
          have G9 : Below w.heap.size w X64 := G2.trans (Below.mono k64 G2.size)
          go_wp2_with fail
          go_ret
          exact ⟨rfl, G9⟩
    · go_simp
      have k65 : Kept w2 (X0.alloc (.cells #[.int .u8 1] 5)) := Kept.alloc hS _
      have h65 : Bs (X0.alloc (.cells #[.int .u8 1] 5)) (X0.alloc (.cells #[.int .u8 1] 5)).heap.size (some ⟨X0.heap.size, 0, none⟩) 1 [1] := (Bs.one' X0 1 1 rfl).more (by simp)
      refine hK.out _ _ k65 (fun _ => ?_)
      clear hK K
      try simp only [Act.put, List.setIfInBounds_toArray, List.set_cons_zero, List.set_cons_succ]
      generalize hX65 : (X0.alloc (.cells #[.int .u8 1] 5)) = X65 at k65 h65 ⊢
      have z65 : Hid (X65.heap.size = X0.heap.size + 1) := by show _ = _; rw [← hX65]; simp
      clear hX65
      refine wpAnyH_ready (rs := [0, 16]) (by kernel_rfl) (by simp) ?_
      refine (AllReadyH.cons (o := ⟨some 50, _, _, _, _, _⟩) rfl (fun K hK => ?_) (AllReadyH.cons (o := ⟨some 14, _, _, _, _, _⟩) rfl (fun K hK => ?_) AllReadyH.nil))
      · go_simp
        have k66 : Kept w2 (X65.alloc (.cells #[] 5)) := Kept.alloc k65 _
        have h66 := (Bs.alloc h65 (Nat.le_refl _) (.cells #[] 5)).more (B' := (X65.alloc (.cells #[] 5)).heap.size) (by simp)
        have o66 := own_empty X65 w2.heap.size (Below.size k65)
        refine hK.out _ _ k66 (fun _ => ?_)
        clear hK K
        try simp only [Act.put, List.setIfInBounds_toArray, List.set_cons_zero, List.set_cons_succ]
        generalize hX66 : (X65.alloc (.cells #[] 5)) = X66 at k66 o66 h66 ⊢
        have z66 : Hid (X66.heap.size = X65.heap.size + 1) := by show _ = _; rw [← hX66]; simp
        clear hX66
        refine wpAnyH_ready (rs := [2, 16]) (by kernel_rfl) (by simp) ?_
        refine (AllReadyH.cons (o := ⟨some 52, _, _, _, _, _⟩) rfl (fun K hK => ?_) (AllReadyH.cons (o := ⟨some 14, _, _, _, _, _⟩) rfl (fun K hK => ?_) AllReadyH.nil))
        · refine step_appG _ rfl (.tmp 50) (.tmp 51) rfl w2.heap.size (.slice (some ⟨X65.heap.size, 0, none⟩) 0 0) (0) ([]) rfl o66 _ A5 (n5) c5 (L) rfl (hL2.below k66) (by omega) (Below.size k66) (n5) (L) (by omega) (by simp) ?_
          intro A67 c67 X67 hc67 hb67 ho67 hbel67 hw67 hbut67
          have k67 : Kept w2 X67 := Kept.base k66 hbel67
          have s67 := hbel67.size
          have h67 : Bs X67 X67.heap.size (some ⟨X0.heap.size, 0, none⟩) 1 [1] := (Bs.but h66 (by omega) hbut67 (by have := z65.out; have := z66.out; simp [Value.ownBlock]; omega)).more s67
          refine hK.out _ _ k67 (fun _ => ?_)
          clear hK K
          try simp only [Act.put, List.setIfInBounds_toArray, List.set_cons_zero, List.set_cons_succ]
          refine wpAnyH_ready (rs := [4, 16]) (by kernel_rfl) (by simp) ?_
          refine (AllReadyH.cons (o := ⟨some 54, _, _, _, _, _⟩) rfl (fun K hK => ?_) (AllReadyH.cons (o := ⟨some 14, _, _, _, _, _⟩) rfl (fun K hK => ?_) AllReadyH.nil))
          · refine step_appG _ rfl (.tmp 52) (.tmp 53) rfl w2.heap.size (.slice A67 (n5) c67) (n5) (L) rfl ho67 _ (some ⟨X0.heap.size, 0, none⟩) (1) 1 ([1]) rfl h67 (by omega) (Below.size k67) (n5 + 1) (L ++ [1]) (by omega) (by simp) ?_
            intro A68 c68 X68 hc68 hb68 ho68 hbel68 hw68 hbut68
            have k68 : Kept w2 X68 := Kept.base k67 hbel68
            have s68 := hbel68.size
            refine hK.out _ _ k68 (fun _ => ?_)
            clear hK K
            try simp only [Act.put, List.setIfInBounds_toArray, List.set_cons_zero, List.set_cons_succ]
            refine wpAnyH_ready (rs := [10, 16]) (by kernel_rfl) (by simp) ?_
            refine (AllReadyH.cons (o := ⟨some 60, _, _, _, _, _⟩) rfl (fun K hK => ?_) (AllReadyH.cons (o := ⟨some 14, _, _, _, _, _⟩) rfl (fun K hK => ?_) AllReadyH.nil))
            · refine step_appG _ rfl (.tmp 54) (.tmp 59) rfl w2.heap.size (.slice A68 (n5 + 1) c68) (n5 + 1) (L ++ [1]) rfl ho68 _ A' (q) c' (E) rfl (hE2.below k68) (by omega) (Below.size k68) (n5 + 1 + q) (L ++ [1] ++ E) (by omega) (by simp) ?_
              intro A69 c69 X69 hc69 hb69 ho69 hbel69 hw69 hbut69
              have k69 : Kept w2 X69 := Kept.base k68 hbel69
              have s69 := hbel69.size
              refine hK.out _ _ k69 (fun _ => ?_)
              clear hK K
              try simp only [Act.put, List.setIfInBounds_toArray, List.set_cons_zero, List.set_cons_succ]
              refine wpAnyH_ready (rs := [11, 16]) (by kernel_rfl) (by simp) ?_
              refine (AllReadyH.cons (o := ⟨some 61, _, _, _, _, _⟩) rfl (fun K hK => ?_) (AllReadyH.cons (o := ⟨some 14, _, _, _, _, _⟩) rfl (fun K hK => ?_) AllReadyH.nil))
              · go_simp
                refine (HDX.out X69 A69 c69 (T2.kept k69) (Own.view ho69).2 (Own.view ho69).1 (Own.cap ho69)).mono ?_
                rintro e X70 ⟨rfl, e70⟩
                have k70 : Kept w2 X70 := Kept.step k69 e70
                refine hK.out _ _ k70 (fun _ => ?_)
                clear hK K
                try simp only [Act.put, List.setIfInBounds_toArray, List.set_cons_zero, List.set_cons_succ]
                refine wpAnyH_take (i := 12) (oi := ⟨some 49, _, _, _, _, _⟩) (v := ?vM2512) rfl (by kernel_rfl) (by kernel_rfl) (by kernel_rfl) (fun _ _ _ h => h) (Or.inl ⟨by rfl, ?yM2512⟩) k70 ?rM2512
                case yM2512 => intro W hW; go_simp; first | done | with_reducible rfl
                simp only [Act.put, List.setIfInBounds_toArray, List.set_cons_zero, List.set_cons_succ]
                refine wpAnyH_take (i := 13) (oi := ⟨some 62, _, _, _, _, _⟩) (v := ?vM2513) rfl (by kernel_rfl) (by kernel_rfl) (by kernel_rfl) (fun _ _ _ h => h) (Or.inl ⟨by rfl, ?yM2513⟩) k70 ?rM2513
                case yM2513 => intro W hW; go_simp; first | done | with_reducible rfl
                simp only [Act.put, List.setIfInBounds_toArray, List.set_cons_zero, List.set_cons_succ]
                refine wpAnyH_take (i := 14) (oi := ⟨some 63, _, _, _, _, _⟩) (v := ?vM2514) rfl (by kernel_rfl) (by kernel_rfl) (by kernel_rfl) (fun _ _ _ h => h) (Or.inl ⟨by rfl, ?yM2514⟩) k70 ?rM2514
                case yM2514 => intro W hW; go_simp; first | done | with_reducible rfl
                simp only [Act.put, List.setIfInBounds_toArray, List.set_cons_zero, List.set_cons_succ]
                refine wpAnyH_take (i := 15) (oi := ⟨some 64, _, _, _, _, _⟩) (v := ?vM2515) rfl (by kernel_rfl) (by kernel_rfl) (by kernel_rfl) (fun _ _ _ h => h) (Or.inl ⟨by rfl, ?yM2515⟩) k70 ?rM2515
                case yM2515 => intro W hW; go_simp; first | done | with_reducible rfl
                simp only [Act.put, List.setIfInBounds_toArray, List.set_cons_zero, List.set_cons_succ]
                refine wpAnyH_ready (rs := [16]) (by kernel_rfl) (by simp) ?_
                refine (AllReadyH.cons (o := ⟨some 14, _, _, _, _, _⟩) rfl (fun K hK => ?_) AllReadyH.nil)
                go_simp
                have k71 : Kept w2 (X70.alloc (.cells #[.int .i64 0, .int .u64 0, .int .u64 0, .string ⟨#[]⟩, .string ⟨#[]⟩, .string ⟨#[]⟩, .string ⟨#[]⟩, .int .i64 0, .int .i64 0, .int .i64 0] 24)) := Kept.alloc k70 _
                have g71 : Blk (X70.alloc (.cells #[.int .i64 0, .int .u64 0, .int .u64 0, .string ⟨#[]⟩, .string ⟨#[]⟩, .string ⟨#[]⟩, .string ⟨#[]⟩, .int .i64 0, .int .i64 0, .int .i64 0] 24)) X70.heap.size 24 (evc ev0) := Blk.new X70 24 (evc ev0)
                have q71 : w2.heap.size ≤ X70.heap.size := Below.size k70
                refine hK.out _ _ k71 (fun _ => ?_)
                clear hK K
                try simp only [Act.put, List.setIfInBounds_toArray, List.set_cons_zero, List.set_cons_succ]
                generalize hX71 : (X70.alloc (.cells #[.int .i64 0, .int .u64 0, .int .u64 0, .string ⟨#[]⟩, .string ⟨#[]⟩, .string ⟨#[]⟩, .string ⟨#[]⟩, .int .i64 0, .int .i64 0, .int .i64 0] 24)) = X71 at k71 g71 ⊢
                have z71 : Hid (X71.heap.size = X70.heap.size + 1) := by show _ = _; rw [← hX71]; simp
                clear hX71
                refine wpAnyH_ready (rs := [17]) (by kernel_rfl) (by simp) ?_
                refine (AllReadyH.cons (o := ⟨none, _, _, _, _, _⟩) rfl (fun K hK => ?_) AllReadyH.nil)
                rw [if_pos (by rfl)]
                refine wp_store_mid 24 (.tmp 14) (.tmp 62) rfl (X70.heap.size) 0 (evc ev0).toArray rfl rfl (by have h1 := Blk.there g71 (o := 0) (n := (evc ev0).length) (by rw [(rfl : (evc ev0).length = (evc ev0).length)]; omega); simpa using h1) (by simpa using z00) (all_oneCell_toArray o00) ?_
                have u72 := Upd.setCells (X70.heap.size) (evc ev0) 0 X71
                have k72 : Kept w2 (X71.setCells (X70.heap.size) 0 (evc ev0)) := Below.trans k71 (u72.below q71)
                refine hK.out _ _ k72 (fun _ => ?_)
                clear hK K
                try simp only [Act.put]
                revert k72
                generalize (X71.setCells (X70.heap.size) 0 (evc ev0)) = X72
                intro k72
                refine wpAnyH_take (i := 18) (oi := ⟨some 15, _, _, _, _, _⟩) (v := ?vL26b18) rfl (by kernel_rfl) (by kernel_rfl) (by kernel_rfl) (fun _ _ _ h => h) (Or.inl ⟨by rfl, ?yL26b18⟩) k72 ?rL26b18
                case yL26b18 => intro W hW; go_simp; first | done | with_reducible rfl
                simp only [Act.put, List.setIfInBounds_toArray, List.set_cons_zero, List.set_cons_succ]
                refine wpAnyH_take (i := 19) (oi := ⟨some 16, _, _, _, _, _⟩) (v := ?vL26b19) rfl (by kernel_rfl) (by kernel_rfl) (by kernel_rfl) (fun _ _ _ h => h) (Or.inl ⟨by rfl, ?yL26b19⟩) k72 ?rL26b19
                case yL26b19 => intro W hW; go_simp; first | done | with_reducible rfl
                simp only [Act.put, List.setIfInBounds_toArray, List.set_cons_zero, List.set_cons_succ]
                refine wpAnyH_done (by kernel_rfl) ?_ _
                have G9 : Below w.heap.size w X72 := G2.trans (Below.mono k72 G2.size)
                go_wp2_with fail
                go_ret
                exact ⟨rfl, G9⟩
              · go_simp
                have k73 : Kept w2 (X69.alloc (.cells #[.int .i64 0, .int .u64 0, .int .u64 0, .string ⟨#[]⟩, .string ⟨#[]⟩, .string ⟨#[]⟩, .string ⟨#[]⟩, .int .i64 0, .int .i64 0, .int .i64 0] 24)) := Kept.alloc k69 _
                have o73 := Own.alloc ho69 (.cells #[.int .i64 0, .int .u64 0, .int .u64 0, .string ⟨#[]⟩, .string ⟨#[]⟩, .string ⟨#[]⟩, .string ⟨#[]⟩, .int .i64 0, .int .i64 0, .int .i64 0] 24)
                have g73 : Blk (X69.alloc (.cells #[.int .i64 0, .int .u64 0, .int .u64 0, .string ⟨#[]⟩, .string ⟨#[]⟩, .string ⟨#[]⟩, .string ⟨#[]⟩, .int .i64 0, .int .i64 0, .int .i64 0] 24)) X69.heap.size 24 (evc ev0) := Blk.new X69 24 (evc ev0)
                have q73 : w2.heap.size ≤ X69.heap.size := Below.size k69
                refine hK.out _ _ k73 (fun _ => ?_)
                clear hK K
                try simp only [Act.put, List.setIfInBounds_toArray, List.set_cons_zero, List.set_cons_succ]
                generalize hX73 : (X69.alloc (.cells #[.int .i64 0, .int .u64 0, .int .u64 0, .string ⟨#[]⟩, .string ⟨#[]⟩, .string ⟨#[]⟩, .string ⟨#[]⟩, .int .i64 0, .int .i64 0, .int .i64 0] 24)) = X73 at k73 o73 g73 ⊢
                have z73 : Hid (X73.heap.size = X69.heap.size + 1) := by show _ = _; rw [← hX73]; simp
                clear hX73
                refine wpAnyH_ready (rs := [11]) (by kernel_rfl) (by simp) ?_
                refine (AllReadyH.cons (o := ⟨some 61, _, _, _, _, _⟩) rfl (fun K hK => ?_) AllReadyH.nil)
                go_simp
                refine (HDX.out X73 A69 c69 (T2.kept k73) (Own.view o73).2 (Own.view o73).1 (Own.cap o73)).mono ?_
                rintro e X74 ⟨rfl, e74⟩
                have k74 : Kept w2 X74 := Kept.step k73 e74
                have g74 := Blk.kept g73 e74
                refine hK.out _ _ k74 (fun _ => ?_)
                clear hK K
                try simp only [Act.put, List.setIfInBounds_toArray, List.set_cons_zero, List.set_cons_succ]
                refine wpAnyH_take (i := 12) (oi := ⟨some 49, _, _, _, _, _⟩) (v := ?vM2712) rfl (by kernel_rfl) (by kernel_rfl) (by kernel_rfl) (fun _ _ _ h => h) (Or.inl ⟨by rfl, ?yM2712⟩) k74 ?rM2712
                case yM2712 => intro W hW; go_simp; first | done | with_reducible rfl
                simp only [Act.put, List.setIfInBounds_toArray, List.set_cons_zero, List.set_cons_succ]
                refine wpAnyH_take (i := 13) (oi := ⟨some 62, _, _, _, _, _⟩) (v := ?vM2713) rfl (by kernel_rfl) (by kernel_rfl) (by kernel_rfl) (fun _ _ _ h => h) (Or.inl ⟨by rfl, ?yM2713⟩) k74 ?rM2713
                case yM2713 => intro W hW; go_simp; first | done | with_reducible rfl
                simp only [Act.put, List.setIfInBounds_toArray, List.set_cons_zero, List.set_cons_succ]
                refine wpAnyH_take (i := 14) (oi := ⟨some 63, _, _, _, _, _⟩) (v := ?vM2714) rfl (by kernel_rfl) (by kernel_rfl) (by kernel_rfl) (fun _ _ _ h => h) (Or.inl ⟨by rfl, ?yM2714⟩) k74 ?rM2714
                case yM2714 => intro W hW; go_simp; first | done | with_reducible rfl
                simp only [Act.put, List.setIfInBounds_toArray, List.set_cons_zero, List.set_cons_succ]
                refine wpAnyH_take (i := 15) (oi := ⟨some 64, _, _, _, _, _⟩) (v := ?vM2715) rfl (by kernel_rfl) (by kernel_rfl) (by kernel_rfl) (fun _ _ _ h => h) (Or.inl ⟨by rfl, ?yM2715⟩) k74 ?rM2715
                case yM2715 => intro W hW; go_simp; first | done | with_reducible rfl
                simp only [Act.put, List.setIfInBounds_toArray, List.set_cons_zero, List.set_cons_succ]
                refine wpAnyH_ready (rs := [17]) (by kernel_rfl) (by simp) ?_
                refine (AllReadyH.cons (o := ⟨none, _, _, _, _, _⟩) rfl (fun K hK => ?_) AllReadyH.nil)
                rw [if_pos (by rfl)]
                refine wp_store_mid 24 (.tmp 14) (.tmp 62) rfl (X69.heap.size) 0 (evc ev0).toArray rfl rfl (by have h1 := Blk.there g74 (o := 0) (n := (evc ev0).length) (by rw [(rfl : (evc ev0).length = (evc ev0).length)]; omega); simpa using h1) (by simpa using z00) (all_oneCell_toArray o00) ?_
                have u75 := Upd.setCells (X69.heap.size) (evc ev0) 0 X74
                have k75 : Kept w2 (X74.setCells (X69.heap.size) 0 (evc ev0)) := Below.trans k74 (u75.below q73)
                refine hK.out _ _ k75 (fun _ => ?_)
                clear hK K
                try simp only [Act.put]
                revert k75
                generalize (X74.setCells (X69.heap.size) 0 (evc ev0)) = X75
                intro k75
                refine wpAnyH_take (i := 18) (oi := ⟨some 15, _, _, _, _, _⟩) (v := ?vL28b18) rfl (by kernel_rfl) (by kernel_rfl) (by kernel_rfl) (fun _ _ _ h => h) (Or.inl ⟨by rfl, ?yL28b18⟩) k75 ?rL28b18
                case yL28b18 => intro W hW; go_simp; first | done | with_reducible rfl
                simp only [Act.put, List.setIfInBounds_toArray, List.set_cons_zero, List.set_cons_succ]
                refine wpAnyH_take (i := 19) (oi := ⟨some 16, _, _, _, _, _⟩) (v := ?vL28b19) rfl (by kernel_rfl) (by kernel_rfl) (by kernel_rfl) (fun _ _ _ h => h) (Or.inl ⟨by rfl, ?yL28b19⟩) k75 ?rL28b19
                case yL28b19 => intro W hW; go_simp; first | done | with_reducible rfl
                simp only [Act.put, List.setIfInBounds_toArray, List.set_cons_zero, List.set_cons_succ]
                refine wpAnyH_done (by kernel_rfl) ?_ _
                have G9 : Below w.heap.size w X75 := G2.trans (Below.mono k75 G2.size)
                go_wp2_with fail
                go_ret
                exact ⟨rfl, G9⟩
            · go_simp
              have k76 : Kept w2 (X68.alloc (.cells #[.int .i64 0, .int .u64 0, .int .u64 0, .string ⟨#[]⟩, .string ⟨#[]⟩, .string ⟨#[]⟩, .string ⟨#[]⟩, .int .i64 0, .int .i64 0, .int .i64 0] 24)) := Kept.alloc k68 _
              have o76 := Own.alloc ho68 (.cells #[.int .i64 0, .int .u64 0, .int .u64 0, .string ⟨#[]⟩, .string ⟨#[]⟩, .string ⟨#[]⟩, .string ⟨#[]⟩, .int .i64 0, .int .i64 0, .int .i64 0] 24)
              have g76 : Blk (X68.alloc (.cells #[.int .i64 0, .int .u64 0, .int .u64 0, .string ⟨#[]⟩, .string ⟨#[]⟩, .string ⟨#[]⟩, .string ⟨#[]⟩, .int .i64 0, .int .i64 0, .int .i64 0] 24)) X68.heap.size 24 (evc ev0) := Blk.new X68 24 (evc ev0)
              have q76 : w2.heap.size ≤ X68.heap.size := Below.size k68
              refine hK.out _ _ k76 (fun _ => ?_)
              clear hK K
              try simp only [Act.put, List.setIfInBounds_toArray, List.set_cons_zero, List.set_cons_succ]
              generalize hX76 : (X68.alloc (.cells #[.int .i64 0, .int .u64 0, .int .u64 0, .string ⟨#[]⟩, .string ⟨#[]⟩, .string ⟨#[]⟩, .string ⟨#[]⟩, .int .i64 0, .int .i64 0, .int .i64 0] 24)) = X76 at k76 o76 g76 ⊢
              have z76 : Hid (X76.heap.size = X68.heap.size + 1) := by show _ = _; rw [← hX76]; simp
              clear hX76
              refine wpAnyH_ready (rs := [10]) (by kernel_rfl) (by simp) ?_
              refine (AllReadyH.cons (o := ⟨some 60, _, _, _, _, _⟩) rfl (fun K hK => ?_) AllReadyH.nil)
              refine step_appG _ rfl (.tmp 54) (.tmp 59) rfl w2.heap.size (.slice A68 (n5 + 1) c68) (n5 + 1) (L ++ [1]) rfl o76 _ A' (q) c' (E) rfl (hE2.below k76) (by omega) (Below.size k76) (n5 + 1 + q) (L ++ [1] ++ E) (by omega) (by simp) ?_
              intro A77 c77 X77 hc77 hb77 ho77 hbel77 hw77 hbut77
              have k77 : Kept w2 X77 := Kept.base k76 hbel77
              have s77 := hbel77.size
              have g77 : Blk X77 X68.heap.size 24 (evc ev0) := Blk.wch g76 (hw77 (X68.heap.size + 1)) (by decide) (by omega)
              refine hK.out _ _ k77 (fun _ => ?_)
              clear hK K
              try simp only [Act.put, List.setIfInBounds_toArray, List.set_cons_zero, List.set_cons_succ]
              refine wpAnyH_ready (rs := [11]) (by kernel_rfl) (by simp) ?_
              refine (AllReadyH.cons (o := ⟨some 61, _, _, _, _, _⟩) rfl (fun K hK => ?_) AllReadyH.nil)
              go_simp
              refine (HDX.out X77 A77 c77 (T2.kept k77) (Own.view ho77).2 (Own.view ho77).1 (Own.cap ho77)).mono ?_
              rintro e X78 ⟨rfl, e78⟩
              have k78 : Kept w2 X78 := Kept.step k77 e78
              have g78 := Blk.kept g77 e78
              refine hK.out _ _ k78 (fun _ => ?_)
              clear hK K
              try simp only [Act.put, List.setIfInBounds_toArray, List.set_cons_zero, List.set_cons_succ]
              refine wpAnyH_take (i := 12) (oi := ⟨some 49, _, _, _, _, _⟩) (v := ?vM2912) rfl (by kernel_rfl) (by kernel_rfl) (by kernel_rfl) (fun _ _ _ h => h) (Or.inl ⟨by rfl, ?yM2912⟩) k78 ?rM2912
              case yM2912 => intro W hW; go_simp; first | done | with_reducible rfl
              simp only [Act.put, List.setIfInBounds_toArray, List.set_cons_zero, List.set_cons_succ]
              refine wpAnyH_take (i := 13) (oi := ⟨some 62, _, _, _, _, _⟩) (v := ?vM2913) rfl (by kernel_rfl) (by kernel_rfl) (by kernel_rfl) (fun _ _ _ h => h) (Or.inl ⟨by rfl, ?yM2913⟩) k78 ?rM2913
              case yM2913 => intro W hW; go_simp; first | done | with_reducible rfl
              simp only [Act.put, List.setIfInBounds_toArray, List.set_cons_zero, List.set_cons_succ]
              refine wpAnyH_take (i := 14) (oi := ⟨some 63, _, _, _, _, _⟩) (v := ?vM2914) rfl (by kernel_rfl) (by kernel_rfl) (by kernel_rfl) (fun _ _ _ h => h) (Or.inl ⟨by rfl, ?yM2914⟩) k78 ?rM2914
              case yM2914 => intro W hW; go_simp; first | done | with_reducible rfl
              simp only [Act.put, List.setIfInBounds_toArray, List.set_cons_zero, List.set_cons_succ]
              refine wpAnyH_take (i := 15) (oi := ⟨some 64, _, _, _, _, _⟩) (v := ?vM2915) rfl (by kernel_rfl) (by kernel_rfl) (by kernel_rfl) (fun _ _ _ h => h) (Or.inl ⟨by rfl, ?yM2915⟩) k78 ?rM2915
              case yM2915 => intro W hW; go_simp; first | done | with_reducible rfl
              simp only [Act.put, List.setIfInBounds_toArray, List.set_cons_zero, List.set_cons_succ]
              refine wpAnyH_ready (rs := [17]) (by kernel_rfl) (by simp) ?_
              refine (AllReadyH.cons (o := ⟨none, _, _, _, _, _⟩) rfl (fun K hK => ?_) AllReadyH.nil)
              rw [if_pos (by rfl)]
              refine wp_store_mid 24 (.tmp 14) (.tmp 62) rfl (X68.heap.size) 0 (evc ev0).toArray rfl rfl (by have h1 := Blk.there g78 (o := 0) (n := (evc ev0).length) (by rw [(rfl : (evc ev0).length = (evc ev0).length)]; omega); simpa using h1) (by simpa using z00) (all_oneCell_toArray o00) ?_
              have u79 := Upd.setCells (X68.heap.size) (evc ev0) 0 X78
              have k79 : Kept w2 (X78.setCells (X68.heap.size) 0 (evc ev0)) := Below.trans k78 (u79.below q76)
              refine hK.out _ _ k79 (fun _ => ?_)
              clear hK K
              try simp only [Act.put]
              revert k79
              generalize (X78.setCells (X68.heap.size) 0 (evc ev0)) = X79
              intro k79
              refine wpAnyH_take (i := 18) (oi := ⟨some 15, _, _, _, _, _⟩) (v := ?vL30b18) rfl (by kernel_rfl) (by kernel_rfl) (by kernel_rfl) (fun _ _ _ h => h) (Or.inl ⟨by rfl, ?yL30b18⟩) k79 ?rL30b18
              case yL30b18 => intro W hW; go_simp; first | done | with_reducible rfl
              simp only [Act.put, List.setIfInBounds_toArray, List.set_cons_zero, List.set_cons_succ]
              refine wpAnyH_take (i := 19) (oi := ⟨some 16, _, _, _, _, _⟩) (v := ?vL30b19) rfl (by kernel_rfl) (by kernel_rfl) (by kernel_rfl) (fun _ _ _ h => h) (Or.inl ⟨by rfl, ?yL30b19⟩) k79 ?rL30b19
              case yL30b19 => intro W hW; go_simp; first | done | with_reducible rfl
              simp only [Act.put, List.setIfInBounds_toArray, List.set_cons_zero, List.set_cons_succ]
              refine wpAnyH_done (by kernel_rfl) ?_ _
              have G9 : Below w.heap.size w X79 := G2.trans (Below.mono k79 G2.size)
              go_wp2_with fail
              go_ret
              exact ⟨rfl, G9⟩
          · go_simp
            have k80 : Kept w2 (X67.alloc (.cells #[.int .i64 0, .int .u64 0, .int .u64 0, .string ⟨#[]⟩, .string ⟨#[]⟩, .string ⟨#[]⟩, .string ⟨#[]⟩, .int .i64 0, .int .i64 0, .int .i64 0] 24)) := Kept.alloc k67 _
            have o80 := Own.alloc ho67 (.cells #[.int .i64 0, .int .u64 0, .int .u64 0, .string ⟨#[]⟩, .string ⟨#[]⟩, .string ⟨#[]⟩, .string ⟨#[]⟩, .int .i64 0, .int .i64 0, .int .i64 0] 24)
            have h80 := (Bs.alloc h67 (Nat.le_refl _) (.cells #[.int .i64 0, .int .u64 0, .int .u64 0, .string ⟨#[]⟩, .string ⟨#[]⟩, .string ⟨#[]⟩, .string ⟨#[]⟩, .int .i64 0, .int .i64 0, .int .i64 0] 24)).more (B' := (X67.alloc (.cells #[.int .i64 0, .int .u64 0, .int .u64 0, .string ⟨#[]⟩, .string ⟨#[]⟩, .string ⟨#[]⟩, .string ⟨#[]⟩, .int .i64 0, .int .i64 0, .int .i64 0] 24)).heap.size) (by simp)
            have g80 : Blk (X67.alloc (.cells #[.int .i64 0, .int .u64 0, .int .u64 0, .string ⟨#[]⟩, .string ⟨#[]⟩, .string ⟨#[]⟩, .string ⟨#[]⟩, .int .i64 0, .int .i64 0, .int .i64 0] 24)) X67.heap.size 24 (evc ev0) := Blk.new X67 24 (evc ev0)
            have q80 : w2.heap.size ≤ X67.heap.size := Below.size k67
            refine hK.out _ _ k80 (fun _ => ?_)
            clear hK K
            try simp only [Act.put, List.setIfInBounds_toArray, List.set_cons_zero, List.set_cons_succ]
            generalize hX80 : (X67.alloc (.cells #[.int .i64 0, .int .u64 0, .int .u64 0, .string ⟨#[]⟩, .string ⟨#[]⟩, .string ⟨#[]⟩, .string ⟨#[]⟩, .int .i64 0, .int .i64 0, .int .i64 0] 24)) = X80 at k80 o80 h80 g80 ⊢
            have z80 : Hid (X80.heap.size = X67.heap.size + 1) := by show _ = _; rw [← hX80]; simp
            clear hX80
            refine wpAnyH_ready (rs := [4]) (by kernel_rfl) (by simp) ?_
            refine (AllReadyH.cons (o := ⟨some 54, _, _, _, _, _⟩) rfl (fun K hK => ?_) AllReadyH.nil)
            refine step_appG _ rfl (.tmp 52) (.tmp 53) rfl w2.heap.size (.slice A67 (n5) c67) (n5) (L) rfl o80 _ (some ⟨X0.heap.size, 0, none⟩) (1) 1 ([1]) rfl h80 (by omega) (Below.size k80) (n5 + 1) (L ++ [1]) (by omega) (by simp) ?_
            intro A81 c81 X81 hc81 hb81 ho81 hbel81 hw81 hbut81
            have k81 : Kept w2 X81 := Kept.base k80 hbel81
            have s81 := hbel81.size
            have g81 : Blk X81 X67.heap.size 24 (evc ev0) := Blk.wch g80 (hw81 (X67.heap.size + 1)) (by decide) (by omega)
            refine hK.out _ _ k81 (fun _ => ?_)
            clear hK K
            try simp only [Act.put, List.setIfInBounds_toArray, List.set_cons_zero, List.set_cons_succ]
            refine wpAnyH_ready (rs := [10]) (by kernel_rfl) (by simp) ?_
            refine (AllReadyH.cons (o := ⟨some 60, _, _, _, _, _⟩) rfl (fun K hK => ?_) AllReadyH.nil)
            refine step_appG _ rfl (.tmp 54) (.tmp 59) rfl w2.heap.size (.slice A81 (n5 + 1) c81) (n5 + 1) (L ++ [1]) rfl ho81 _ A' (q) c' (E) rfl (hE2.below k81) (by omega) (Below.size k81) (n5 + 1 + q) (L ++ [1] ++ E) (by omega) (by simp) ?_
            intro A82 c82 X82 hc82 hb82 ho82 hbel82 hw82 hbut82
            have k82 : Kept w2 X82 := Kept.base k81 hbel82
            have s82 := hbel82.size
            have g82 : Blk X82 X67.heap.size 24 (evc ev0) := Blk.wch g81 (hw82 (X67.heap.size + 1)) (by decide) (by omega)
            refine hK.out _ _ k82 (fun _ => ?_)
            clear hK K
            try simp only [Act.put, List.setIfInBounds_toArray, List.set_cons_zero, List.set_cons_succ]
            refine wpAnyH_ready (rs := [11]) (by kernel_rfl) (by simp) ?_
            refine (AllReadyH.cons (o := ⟨some 61, _, _, _, _, _⟩) rfl (fun K hK => ?_) AllReadyH.nil)
            go_simp
            refine (HDX.out X82 A82 c82 (T2.kept k82) (Own.view ho82).2 (Own.view ho82).1 (Own.cap ho82)).mono ?_
            rintro e X83 ⟨rfl, e83⟩
            have k83 : Kept w2 X83 := Kept.step k82 e83
            have g83 := Blk.kept g82 e83
            refine hK.out _ _ k83 (fun _ => ?_)
            clear hK K
            try simp only [Act.put, List.setIfInBounds_toArray, List.set_cons_zero, List.set_cons_succ]
            refine wpAnyH_take (i := 12) (oi := ⟨some 49, _, _, _, _, _⟩) (v := ?vM3112) rfl (by kernel_rfl) (by kernel_rfl) (by kernel_rfl) (fun _ _ _ h => h) (Or.inl ⟨by rfl, ?yM3112⟩) k83 ?rM3112
            case yM3112 => intro W hW; go_simp; first | done | with_reducible rfl
            simp only [Act.put, List.setIfInBounds_toArray, List.set_cons_zero, List.set_cons_succ]
            refine wpAnyH_take (i := 13) (oi := ⟨some 62, _, _, _, _, _⟩) (v := ?vM3113) rfl (by kernel_rfl) (by kernel_rfl) (by kernel_rfl) (fun _ _ _ h => h) (Or.inl ⟨by rfl, ?yM3113⟩) k83 ?rM3113
            case yM3113 => intro W hW; go_simp; first | done | with_reducible rfl
            simp only [Act.put, List.setIfInBounds_toArray, List.set_cons_zero, List.set_cons_succ]
            refine wpAnyH_take (i := 14) (oi := ⟨some 63, _, _, _, _, _⟩) (v := ?vM3114) rfl (by kernel_rfl) (by kernel_rfl) (by kernel_rfl) (fun _ _ _ h => h) (Or.inl ⟨by rfl, ?yM3114⟩) k83 ?rM3114
            case yM3114 => intro W hW; go_simp; first | done | with_reducible rfl
            simp only [Act.put, List.setIfInBounds_toArray, List.set_cons_zero, List.set_cons_succ]
            refine wpAnyH_take (i := 15) (oi := ⟨some 64, _, _, _, _, _⟩) (v := ?vM3115) rfl (by kernel_rfl) (by kernel_rfl) (by kernel_rfl) (fun _ _ _ h => h) (Or.inl ⟨by rfl, ?yM3115⟩) k83 ?rM3115
            case yM3115 => intro W hW; go_simp; first | done | with_reducible rfl
            simp only [Act.put, List.setIfInBounds_toArray, List.set_cons_zero, List.set_cons_succ]
            refine wpAnyH_ready (rs := [17]) (by kernel_rfl) (by simp) ?_
            refine (AllReadyH.cons (o := ⟨none, _, _, _, _, _⟩) rfl (fun K hK => ?_) AllReadyH.nil)
            rw [if_pos (by rfl)]
            refine wp_store_mid 24 (.tmp 14) (.tmp 62) rfl (X67.heap.size) 0 (evc ev0).toArray rfl rfl (by have h1 := Blk.there g83 (o := 0) (n := (evc ev0).length) (by rw [(rfl : (evc ev0).length = (evc ev0).length)]; omega); simpa using h1) (by simpa using z00) (all_oneCell_toArray o00) ?_
            have u84 := Upd.setCells (X67.heap.size) (evc ev0) 0 X83
            have k84 : Kept w2 (X83.setCells (X67.heap.size) 0 (evc ev0)) := Below.trans k83 (u84.below q80)
            refine hK.out _ _ k84 (fun _ => ?_)
            clear hK K
            try simp only [Act.put]
            revert k84
            generalize (X83.setCells (X67.heap.size) 0 (evc ev0)) = X84
            intro k84
            refine wpAnyH_take (i := 18) (oi := ⟨some 15, _, _, _, _, _⟩) (v := ?vL32b18) rfl (by kernel_rfl) (by kernel_rfl) (by kernel_rfl) (fun _ _ _ h => h) (Or.inl ⟨by rfl, ?yL32b18⟩) k84 ?rL32b18
            case yL32b18 => intro W hW; go_simp; first | done | with_reducible rfl
            simp only [Act.put, List.setIfInBounds_toArray, List.set_cons_zero, List.set_cons_succ]
            refine wpAnyH_take (i := 19) (oi := ⟨some 16, _, _, _, _, _⟩) (v := ?vL32b19) rfl (by kernel_rfl) (by kernel_rfl) (by kernel_rfl) (fun _ _ _ h => h) (Or.inl ⟨by rfl, ?yL32b19⟩) k84 ?rL32b19
            case yL32b19 => intro W hW; go_simp; first | done | with_reducible rfl
            simp only [Act.put, List.setIfInBounds_toArray, List.set_cons_zero, List.set_cons_succ]
            refine wpAnyH_done (by kernel_rfl) ?_ _
            have G9 : Below w.heap.size w X84 := G2.trans (Below.mono k84 G2.size)
            go_wp2_with fail
            go_ret
            exact ⟨rfl, G9⟩
        · go_simp
          have k85 : Kept w2 (X66.alloc (.cells #[.int .i64 0, .int .u64 0, .int .u64 0, .string ⟨#[]⟩, .string ⟨#[]⟩, .string ⟨#[]⟩, .string ⟨#[]⟩, .int .i64 0, .int .i64 0, .int .i64 0] 24)) := Kept.alloc k66 _
          have o85 := Own.alloc o66 (.cells #[.int .i64 0, .int .u64 0, .int .u64 0, .string ⟨#[]⟩, .string ⟨#[]⟩, .string ⟨#[]⟩, .string ⟨#[]⟩, .int .i64 0, .int .i64 0, .int .i64 0] 24)
          have h85 := (Bs.alloc h66 (Nat.le_refl _) (.cells #[.int .i64 0, .int .u64 0, .int .u64 0, .string ⟨#[]⟩, .string ⟨#[]⟩, .string ⟨#[]⟩, .string ⟨#[]⟩, .int .i64 0, .int .i64 0, .int .i64 0] 24)).more (B' := (X66.alloc (.cells #[.int .i64 0, .int .u64 0, .int .u64 0, .string ⟨#[]⟩, .string ⟨#[]⟩, .string ⟨#[]⟩, .string ⟨#[]⟩, .int .i64 0, .int .i64 0, .int .i64 0] 24)).heap.size) (by simp)
          have g85 : Blk (X66.alloc (.cells #[.int .i64 0, .int .u64 0, .int .u64 0, .string ⟨#[]⟩, .string ⟨#[]⟩, .string ⟨#[]⟩, .string ⟨#[]⟩, .int .i64 0, .int .i64 0, .int .i64 0] 24)) X66.heap.size 24 (evc ev0) := Blk.new X66 24 (evc ev0)
          have q85 : w2.heap.size ≤ X66.heap.size := Below.size k66
          refine hK.out _ _ k85 (fun _ => ?_)
          clear hK K
          try simp only [Act.put, List.setIfInBounds_toArray, List.set_cons_zero, List.set_cons_succ]
          generalize hX85 : (X66.alloc (.cells #[.int .i64 0, .int .u64 0, .int .u64 0, .string ⟨#[]⟩, .string ⟨#[]⟩, .string ⟨#[]⟩, .string ⟨#[]⟩, .int .i64 0, .int .i64 0, .int .i64 0] 24)) = X85 at k85 o85 h85 g85 ⊢
          have z85 : Hid (X85.heap.size = X66.heap.size + 1) := by show _ = _; rw [← hX85]; simp
          clear hX85
          refine wpAnyH_ready (rs := [2]) (by kernel_rfl) (by simp) ?_
          refine (AllReadyH.cons (o := ⟨some 52, _, _, _, _, _⟩) rfl (fun K hK => ?_) AllReadyH.nil)
          refine step_appG _ rfl (.tmp 50) (.tmp 51) rfl w2.heap.size (.slice (some ⟨X65.heap.size, 0, none⟩) 0 0) (0) ([]) rfl o85 _ A5 (n5) c5 (L) rfl (hL2.below k85) (by omega) (Below.size k85) (n5) (L) (by omega) (by simp) ?_
          intro A86 c86 X86 hc86 hb86 ho86 hbel86 hw86 hbut86
          have k86 : Kept w2 X86 := Kept.base k85 hbel86
          have s86 := hbel86.size
          have h86 : Bs X86 X86.heap.size (some ⟨X0.heap.size, 0, none⟩) 1 [1] := (Bs.but h85 (by omega) hbut86 (by have := z65.out; have := z66.out; have := z85.out; simp [Value.ownBlock]; omega)).more s86
          have g86 : Blk X86 X66.heap.size 24 (evc ev0) := Blk.wch g85 (hw86 (X66.heap.size + 1)) (by decide) (by omega)
          refine hK.out _ _ k86 (fun _ => ?_)
          clear hK K
          try simp only [Act.put, List.setIfInBounds_toArray, List.set_cons_zero, List.set_cons_succ]
          refine wpAnyH_ready (rs := [4]) (by kernel_rfl) (by simp) ?_
          refine (AllReadyH.cons (o := ⟨some 54, _, _, _, _, _⟩) rfl (fun K hK => ?_) AllReadyH.nil)
          refine step_appG _ rfl (.tmp 52) (.tmp 53) rfl w2.heap.size (.slice A86 (n5) c86) (n5) (L) rfl ho86 _ (some ⟨X0.heap.size, 0, none⟩) (1) 1 ([1]) rfl h86 (by omega) (Below.size k86) (n5 + 1) (L ++ [1]) (by omega) (by simp) ?_
          intro A87 c87 X87 hc87 hb87 ho87 hbel87 hw87 hbut87
          have k87 : Kept w2 X87 := Kept.base k86 hbel87
          have s87 := hbel87.size
          have g87 : Blk X87 X66.heap.size 24 (evc ev0) := Blk.wch g86 (hw87 (X66.heap.size + 1)) (by decide) (by omega)
          refine hK.out _ _ k87 (fun _ => ?_)
          clear hK K
          try simp only [Act.put, List.setIfInBounds_toArray, List.set_cons_zero, List.set_cons_succ]
          refine wpAnyH_ready (rs := [10]) (by kernel_rfl) (by simp) ?_
          refine (AllReadyH.cons (o := ⟨some 60, _, _, _, _, _⟩) rfl (fun K hK => ?_) AllReadyH.nil)
          refine step_appG _ rfl (.tmp 54) (.tmp 59) rfl w2.heap.size (.slice A87 (n5 + 1) c87) (n5 + 1) (L ++ [1]) rfl ho87 _ A' (q) c' (E) rfl (hE2.below k87) (by omega) (Below.size k87) (n5 + 1 + q) (L ++ [1] ++ E) (by omega) (by simp) ?_
          intro A88 c88 X88 hc88 hb88 ho88 hbel88 hw88 hbut88
          have k88 : Kept w2 X88 := Kept.base k87 hbel88
          have s88 := hbel88.size
          have g88 : Blk X88 X66.heap.size 24 (evc ev0) := Blk.wch g87 (hw88 (X66.heap.size + 1)) (by decide) (by omega)
          refine hK.out _ _ k88 (fun _ => ?_)
          clear hK K
          try simp only [Act.put, List.setIfInBounds_toArray, List.set_cons_zero, List.set_cons_succ]
          refine wpAnyH_ready (rs := [11]) (by kernel_rfl) (by simp) ?_
          refine (AllReadyH.cons (o := ⟨some 61, _, _, _, _, _⟩) rfl (fun K hK => ?_) AllReadyH.nil)
          go_simp
          refine (HDX.out X88 A88 c88 (T2.kept k88) (Own.view ho88).2 (Own.view ho88).1 (Own.cap ho88)).mono ?_
          rintro e X89 ⟨rfl, e89⟩
          have k89 : Kept w2 X89 := Kept.step k88 e89
          have g89 := Blk.kept g88 e89
          refine hK.out _ _ k89 (fun _ => ?_)
          clear hK K
          try simp only [Act.put, List.setIfInBounds_toArray, List.set_cons_zero, List.set_cons_succ]
          refine wpAnyH_take (i := 12) (oi := ⟨some 49, _, _, _, _, _⟩) (v := ?vM3312) rfl (by kernel_rfl) (by kernel_rfl) (by kernel_rfl) (fun _ _ _ h => h) (Or.inl ⟨by rfl, ?yM3312⟩) k89 ?rM3312
          case yM3312 => intro W hW; go_simp; first | done | with_reducible rfl
          simp only [Act.put, List.setIfInBounds_toArray, List.set_cons_zero, List.set_cons_succ]
          refine wpAnyH_take (i := 13) (oi := ⟨some 62, _, _, _, _, _⟩) (v := ?vM3313) rfl (by kernel_rfl) (by kernel_rfl) (by kernel_rfl) (fun _ _ _ h => h) (Or.inl ⟨by rfl, ?yM3313⟩) k89 ?rM3313
          case yM3313 => intro W hW; go_simp; first | done | with_reducible rfl
          simp only [Act.put, List.setIfInBounds_toArray, List.set_cons_zero, List.set_cons_succ]
          refine wpAnyH_take (i := 14) (oi := ⟨some 63, _, _, _, _, _⟩) (v := ?vM3314) rfl (by kernel_rfl) (by kernel_rfl) (by kernel_rfl) (fun _ _ _ h => h) (Or.inl ⟨by rfl, ?yM3314⟩) k89 ?rM3314
          case yM3314 => intro W hW; go_simp; first | done | with_reducible rfl
          simp only [Act.put, List.setIfInBounds_toArray, List.set_cons_zero, List.set_cons_succ]
          refine wpAnyH_take (i := 15) (oi := ⟨some 64, _, _, _, _, _⟩) (v := ?vM3315) rfl (by kernel_rfl) (by kernel_rfl) (by kernel_rfl) (fun _ _ _ h => h) (Or.inl ⟨by rfl, ?yM3315⟩) k89 ?rM3315
          case yM3315 => intro W hW; go_simp; first | done | with_reducible rfl
          simp only [Act.put, List.setIfInBounds_toArray, List.set_cons_zero, List.set_cons_succ]
          refine wpAnyH_ready (rs := [17]) (by kernel_rfl) (by simp) ?_
          refine (AllReadyH.cons (o := ⟨none, _, _, _, _, _⟩) rfl (fun K hK => ?_) AllReadyH.nil)
          rw [if_pos (by rfl)]
          refine wp_store_mid 24 (.tmp 14) (.tmp 62) rfl (X66.heap.size) 0 (evc ev0).toArray rfl rfl (by have h1 := Blk.there g89 (o := 0) (n := (evc ev0).length) (by rw [(rfl : (evc ev0).length = (evc ev0).length)]; omega); simpa using h1) (by simpa using z00) (all_oneCell_toArray o00) ?_
          have u90 := Upd.setCells (X66.heap.size) (evc ev0) 0 X89
          have k90 : Kept w2 (X89.setCells (X66.heap.size) 0 (evc ev0)) := Below.trans k89 (u90.below q85)
          refine hK.out _ _ k90 (fun _ => ?_)
          clear hK K
          try simp only [Act.put]
          revert k90
          generalize (X89.setCells (X66.heap.size) 0 (evc ev0)) = X90
          intro k90
          refine wpAnyH_take (i := 18) (oi := ⟨some 15, _, _, _, _, _⟩) (v := ?vL34b18) rfl (by kernel_rfl) (by kernel_rfl) (by kernel_rfl) (fun _ _ _ h => h) (Or.inl ⟨by rfl, ?yL34b18⟩) k90 ?rL34b18
          case yL34b18 => intro W hW; go_simp; first | done | with_reducible rfl
          simp only [Act.put, List.setIfInBounds_toArray, List.set_cons_zero, List.set_cons_succ]
          refine wpAnyH_take (i := 19) (oi := ⟨some 16, _, _, _, _, _⟩) (v := ?vL34b19) rfl (by kernel_rfl) (by kernel_rfl) (by kernel_rfl) (fun _ _ _ h => h) (Or.inl ⟨by rfl, ?yL34b19⟩) k90 ?rL34b19
          case yL34b19 => intro W hW; go_simp; first | done | with_reducible rfl
          simp only [Act.put, List.setIfInBounds_toArray, List.set_cons_zero, List.set_cons_succ]
          refine wpAnyH_done (by kernel_rfl) ?_ _
          have G9 : Below w.heap.size w X90 := G2.trans (Below.mono k90 G2.size)
          go_wp2_with fail
          go_ret
          exact ⟨rfl, G9⟩
      · go_simp
        have k91 : Kept w2 (X65.alloc (.cells #[.int .i64 0, .int .u64 0, .int .u64 0, .string ⟨#[]⟩, .string ⟨#[]⟩, .string ⟨#[]⟩, .string ⟨#[]⟩, .int .i64 0, .int .i64 0, .int .i64 0] 24)) := Kept.alloc k65 _
        have h91 := (Bs.alloc h65 (Nat.le_refl _) (.cells #[.int .i64 0, .int .u64 0, .int .u64 0, .string ⟨#[]⟩, .string ⟨#[]⟩, .string ⟨#[]⟩, .string ⟨#[]⟩, .int .i64 0, .int .i64 0, .int .i64 0] 24)).more (B' := (X65.alloc (.cells #[.int .i64 0, .int .u64 0, .int .u64 0, .string ⟨#[]⟩, .string ⟨#[]⟩, .string ⟨#[]⟩, .string ⟨#[]⟩, .int .i64 0, .int .i64 0, .int .i64 0] 24)).heap.size) (by simp)
        have g91 : Blk (X65.alloc (.cells #[.int .i64 0, .int .u64 0, .int .u64 0, .string ⟨#[]⟩, .string ⟨#[]⟩, .string ⟨#[]⟩, .string ⟨#[]⟩, .int .i64 0, .int .i64 0, .int .i64 0] 24)) X65.heap.size 24 (evc ev0) := Blk.new X65 24 (evc ev0)
        have q91 : w2.heap.size ≤ X65.heap.size := Below.size k65
        refine hK.out _ _ k91 (fun _ => ?_)
        clear hK K
        try simp only [Act.put, List.setIfInBounds_toArray, List.set_cons_zero, List.set_cons_succ]
        generalize hX91 : (X65.alloc (.cells #[.int .i64 0, .int .u64 0, .int .u64 0, .string ⟨#[]⟩, .string ⟨#[]⟩, .string ⟨#[]⟩, .string ⟨#[]⟩, .int .i64 0, .int .i64 0, .int .i64 0] 24)) = X91 at k91 h91 g91 ⊢
        have z91 : Hid (X91.heap.size = X65.heap.size + 1) := by show _ = _; rw [← hX91]; simp
        clear hX91
        refine wpAnyH_ready (rs := [0]) (by kernel_rfl) (by simp) ?_
        refine (AllReadyH.cons (o := ⟨some 50, _, _, _, _, _⟩) rfl (fun K hK => ?_) AllReadyH.nil)
        go_simp
        have k92 : Kept w2 (X91.alloc (.cells #[] 5)) := Kept.alloc k91 _
        have h92 := (Bs.alloc h91 (Nat.le_refl _) (.cells #[] 5)).more (B' := (X91.alloc (.cells #[] 5)).heap.size) (by simp)
        have g92 := Blk.alloc g91 (.cells #[] 5)
        have o92 := own_empty X91 w2.heap.size (Below.size k91)
        refine hK.out _ _ k92 (fun _ => ?_)
        clear hK K
        try simp only [Act.put, List.setIfInBounds_toArray, List.set_cons_zero, List.set_cons_succ]
        generalize hX92 : (X91.alloc (.cells #[] 5)) = X92 at k92 o92 h92 g92 ⊢
        have z92 : Hid (X92.heap.size = X91.heap.size + 1) := by show _ = _; rw [← hX92]; simp
        clear hX92
        refine wpAnyH_ready (rs := [2]) (by kernel_rfl) (by simp) ?_
        refine (AllReadyH.cons (o := ⟨some 52, _, _, _, _, _⟩) rfl (fun K hK => ?_) AllReadyH.nil)
        refine step_appG _ rfl (.tmp 50) (.tmp 51) rfl w2.heap.size (.slice (some ⟨X91.heap.size, 0, none⟩) 0 0) (0) ([]) rfl o92 _ A5 (n5) c5 (L) rfl (hL2.below k92) (by omega) (Below.size k92) (n5) (L) (by omega) (by simp) ?_
        intro A93 c93 X93 hc93 hb93 ho93 hbel93 hw93 hbut93
        have k93 : Kept w2 X93 := Kept.base k92 hbel93
        have s93 := hbel93.size
        have h93 : Bs X93 X93.heap.size (some ⟨X0.heap.size, 0, none⟩) 1 [1] := (Bs.but h92 (by omega) hbut93 (by have := z65.out; have := z91.out; have := z92.out; simp [Value.ownBlock]; omega)).more s93
        have g93 : Blk X93 X65.heap.size 24 (evc ev0) := Blk.wch g92 (hw93 (X65.heap.size + 1)) (by decide) (by omega)
        refine hK.out _ _ k93 (fun _ => ?_)
        clear hK K
        try simp only [Act.put, List.setIfInBounds_toArray, List.set_cons_zero, List.set_cons_succ]
        refine wpAnyH_ready (rs := [4]) (by kernel_rfl) (by simp) ?_
        refine (AllReadyH.cons (o := ⟨some 54, _, _, _, _, _⟩) rfl (fun K hK => ?_) AllReadyH.nil)
        refine step_appG _ rfl (.tmp 52) (.tmp 53) rfl w2.heap.size (.slice A93 (n5) c93) (n5) (L) rfl ho93 _ (some ⟨X0.heap.size, 0, none⟩) (1) 1 ([1]) rfl h93 (by omega) (Below.size k93) (n5 + 1) (L ++ [1]) (by omega) (by simp) ?_
        intro A94 c94 X94 hc94 hb94 ho94 hbel94 hw94 hbut94
        have k94 : Kept w2 X94 := Kept.base k93 hbel94
        have s94 := hbel94.size
        have g94 : Blk X94 X65.heap.size 24 (evc ev0) := Blk.wch g93 (hw94 (X65.heap.size + 1)) (by decide) (by omega)
        refine hK.out _ _ k94 (fun _ => ?_)
        clear hK K
        try simp only [Act.put, List.setIfInBounds_toArray, List.set_cons_zero, List.set_cons_succ]
        refine wpAnyH_ready (rs := [10]) (by kernel_rfl) (by simp) ?_
        refine (AllReadyH.cons (o := ⟨some 60, _, _, _, _, _⟩) rfl (fun K hK => ?_) AllReadyH.nil)
        refine step_appG _ rfl (.tmp 54) (.tmp 59) rfl w2.heap.size (.slice A94 (n5 + 1) c94) (n5 + 1) (L ++ [1]) rfl ho94 _ A' (q) c' (E) rfl (hE2.below k94) (by omega) (Below.size k94) (n5 + 1 + q) (L ++ [1] ++ E) (by omega) (by simp) ?_
        intro A95 c95 X95 hc95 hb95 ho95 hbel95 hw95 hbut95
        have k95 : Kept w2 X95 := Kept.base k94 hbel95
        have s95 := hbel95.size
        have g95 : Blk X95 X65.heap.size 24 (evc ev0) := Blk.wch g94 (hw95 (X65.heap.size + 1)) (by decide) (by omega)
        refine hK.out _ _ k95 (fun _ => ?_)
        clear hK K
        try simp only [Act.put, List.setIfInBounds_toArray, List.set_cons_zero, List.set_cons_succ]
        refine wpAnyH_ready (rs := [11]) (by kernel_rfl) (by simp) ?_
        refine (AllReadyH.cons (o := ⟨some 61, _, _, _, _, _⟩) rfl (fun K hK => ?_) AllReadyH.nil)
        go_simp
        refine (HDX.out X95 A95 c95 (T2.kept k95) (Own.view ho95).2 (Own.view ho95).1 (Own.cap ho95)).mono ?_
        rintro e X96 ⟨rfl, e96⟩
        have k96 : Kept w2 X96 := Kept.step k95 e96
        have g96 := Blk.kept g95 e96
        refine hK.out _ _ k96 (fun _ => ?_)
        clear hK K
        try simp only [Act.put, List.setIfInBounds_toArray, List.set_cons_zero, List.set_cons_succ]
        refine wpAnyH_take (i := 12) (oi := ⟨some 49, _, _, _, _, _⟩) (v := ?vM3512) rfl (by kernel_rfl) (by kernel_rfl) (by kernel_rfl) (fun _ _ _ h => h) (Or.inl ⟨by rfl, ?yM3512⟩) k96 ?rM3512
        case yM3512 => intro W hW; go_simp; first | done | with_reducible rfl
        simp only [Act.put, List.setIfInBounds_toArray, List.set_cons_zero, List.set_cons_succ]
        refine wpAnyH_take (i := 13) (oi := ⟨some 62, _, _, _, _, _⟩) (v := ?vM3513) rfl (by kernel_rfl) (by kernel_rfl) (by kernel_rfl) (fun _ _ _ h => h) (Or.inl ⟨by rfl, ?yM3513⟩) k96 ?rM3513
        case yM3513 => intro W hW; go_simp; first | done | with_reducible rfl
        simp only [Act.put, List.setIfInBounds_toArray, List.set_cons_zero, List.set_cons_succ]
        refine wpAnyH_take (i := 14) (oi := ⟨some 63, _, _, _, _, _⟩) (v := ?vM3514) rfl (by kernel_rfl) (by kernel_rfl) (by kernel_rfl) (fun _ _ _ h => h) (Or.inl ⟨by rfl, ?yM3514⟩) k96 ?rM3514
        case yM3514 => intro W hW; go_simp; first | done | with_reducible rfl
        simp only [Act.put, List.setIfInBounds_toArray, List.set_cons_zero, List.set_cons_succ]
        refine wpAnyH_take (i := 15) (oi := ⟨some 64, _, _, _, _, _⟩) (v := ?vM3515) rfl (by kernel_rfl) (by kernel_rfl) (by kernel_rfl) (fun _ _ _ h => h) (Or.inl ⟨by rfl, ?yM3515⟩) k96 ?rM3515
        case yM3515 => intro W hW; go_simp; first | done | with_reducible rfl
        simp only [Act.put, List.setIfInBounds_toArray, List.set_cons_zero, List.set_cons_succ]
        refine wpAnyH_ready (rs := [17]) (by kernel_rfl) (by simp) ?_
        refine (AllReadyH.cons (o := ⟨none, _, _, _, _, _⟩) rfl (fun K hK => ?_) AllReadyH.nil)
        rw [if_pos (by rfl)]
        refine wp_store_mid 24 (.tmp 14) (.tmp 62) rfl (X65.heap.size) 0 (evc ev0).toArray rfl rfl (by have h1 := Blk.there g96 (o := 0) (n := (evc ev0).length) (by rw [(rfl : (evc ev0).length = (evc ev0).length)]; omega); simpa using h1) (by simpa using z00) (all_oneCell_toArray o00) ?_
        have u97 := Upd.setCells (X65.heap.size) (evc ev0) 0 X96
        have k97 : Kept w2 (X96.setCells (X65.heap.size) 0 (evc ev0)) := Below.trans k96 (u97.below q91)
        refine hK.out _ _ k97 (fun _ => ?_)
        clear hK K
        try simp only [Act.put]
        revert k97
        generalize (X96.setCells (X65.heap.size) 0 (evc ev0)) = X97
        intro k97
        refine wpAnyH_take (i := 18) (oi := ⟨some 15, _, _, _, _, _⟩) (v := ?vL36b18) rfl (by kernel_rfl) (by kernel_rfl) (by kernel_rfl) (fun _ _ _ h => h) (Or.inl ⟨by rfl, ?yL36b18⟩) k97 ?rL36b18
        case yL36b18 => intro W hW; go_simp; first | done | with_reducible rfl
        simp only [Act.put, List.setIfInBounds_toArray, List.set_cons_zero, List.set_cons_succ]
        refine wpAnyH_take (i := 19) (oi := ⟨some 16, _, _, _, _, _⟩) (v := ?vL36b19) rfl (by kernel_rfl) (by kernel_rfl) (by kernel_rfl) (fun _ _ _ h => h) (Or.inl ⟨by rfl, ?yL36b19⟩) k97 ?rL36b19
        case yL36b19 => intro W hW; go_simp; first | done | with_reducible rfl
        simp only [Act.put, List.setIfInBounds_toArray, List.set_cons_zero, List.set_cons_succ]
        refine wpAnyH_done (by kernel_rfl) ?_ _
        have G9 : Below w.heap.size w X97 := G2.trans (Below.mono k97 G2.size)
        go_wp2_with fail
        go_ret
        exact ⟨rfl, G9⟩
    · go_simp
      have k98 : Kept w2 (X0.alloc (.cells #[.int .i64 0, .int .u64 0, .int .u64 0, .string ⟨#[]⟩, .string ⟨#[]⟩, .string ⟨#[]⟩, .string ⟨#[]⟩, .int .i64 0, .int .i64 0, .int .i64 0] 24)) := Kept.alloc hS _
      have g98 : Blk (X0.alloc (.cells #[.int .i64 0, .int .u64 0, .int .u64 0, .string ⟨#[]⟩, .string ⟨#[]⟩, .string ⟨#[]⟩, .string ⟨#[]⟩, .int .i64 0, .int .i64 0, .int .i64 0] 24)) X0.heap.size 24 (evc ev0) := Blk.new X0 24 (evc ev0)
      have q98 : w2.heap.size ≤ X0.heap.size := Below.size hS
      refine hK.out _ _ k98 (fun _ => ?_)
      clear hK K
      try simp only [Act.put, List.setIfInBounds_toArray, List.set_cons_zero, List.set_cons_succ]
      generalize hX98 : (X0.alloc (.cells #[.int .i64 0, .int .u64 0, .int .u64 0, .string ⟨#[]⟩, .string ⟨#[]⟩, .string ⟨#[]⟩, .string ⟨#[]⟩, .int .i64 0, .int .i64 0, .int .i64 0] 24)) = X98 at k98 g98 ⊢
      have z98 : Hid (X98.heap.size = X0.heap.size + 1) := by show _ = _; rw [← hX98]; simp
      clear hX98
      refine wpAnyH_ready (rs := [0, 3]) (by kernel_rfl) (by simp) ?_
      refine (AllReadyH.cons (o := ⟨some 50, _, _, _, _, _⟩) rfl (fun K hK => ?_) (AllReadyH.cons (o := ⟨some 53, _, _, _, _, _⟩) rfl (fun K hK => ?_) AllReadyH.nil))
      · go_simp
        have k99 : Kept w2 (X98.alloc (.cells #[] 5)) := Kept.alloc k98 _
        have g99 := Blk.alloc g98 (.cells #[] 5)
        have o99 := own_empty X98 w2.heap.size (Below.size k98)
        refine hK.out _ _ k99 (fun _ => ?_)
        clear hK K
        try simp only [Act.put, List.setIfInBounds_toArray, List.set_cons_zero, List.set_cons_succ]
        generalize hX99 : (X98.alloc (.cells #[] 5)) = X99 at k99 o99 g99 ⊢
        have z99 : Hid (X99.heap.size = X98.heap.size + 1) := by show _ = _; rw [← hX99]; simp
        clear hX99
        refine wpAnyH_ready (rs := [2, 3]) (by kernel_rfl) (by simp) ?_
        refine (AllReadyH.cons (o := ⟨some 52, _, _, _, _, _⟩) rfl (fun K hK => ?_) (AllReadyH.cons (o := ⟨some 53, _, _, _, _, _⟩) rfl (fun K hK => ?_) AllReadyH.nil))
        · refine step_appG _ rfl (.tmp 50) (.tmp 51) rfl w2.heap.size (.slice (some ⟨X98.heap.size, 0, none⟩) 0 0) (0) ([]) rfl o99 _ A5 (n5) c5 (L) rfl (hL2.below k99) (by omega) (Below.size k99) (n5) (L) (by omega) (by simp) ?_
          intro A100 c100 X100 hc100 hb100 ho100 hbel100 hw100 hbut100
          have k100 : Kept w2 X100 := Kept.base k99 hbel100
          have s100 := hbel100.size
          have g100 : Blk X100 X0.heap.size 24 (evc ev0) := Blk.wch g99 (hw100 (X0.heap.size + 1)) (by decide) (by omega)
          refine hK.out _ _ k100 (fun _ => ?_)
          clear hK K
          try simp only [Act.put, List.setIfInBounds_toArray, List.set_cons_zero, List.set_cons_succ]
          refine wpAnyH_ready (rs := [3]) (by kernel_rfl) (by simp) ?_
          refine (AllReadyH.cons (o := ⟨some 53, _, _, _, _, _⟩) rfl (fun K hK => ?_) AllReadyH.nil)
          go_simp
          have k101 : Kept w2 (X100.alloc (.cells #[.int .u8 1] 5)) := Kept.alloc k100 _
          have o101 := Own.alloc ho100 (.cells #[.int .u8 1] 5)
          have g101 := Blk.alloc g100 (.cells #[.int .u8 1] 5)
          have h101 : Bs (X100.alloc (.cells #[.int .u8 1] 5)) (X100.alloc (.cells #[.int .u8 1] 5)).heap.size (some ⟨X100.heap.size, 0, none⟩) 1 [1] := (Bs.one' X100 1 1 rfl).more (by simp)
          refine hK.out _ _ k101 (fun _ => ?_)
          clear hK K
          try simp only [Act.put, List.setIfInBounds_toArray, List.set_cons_zero, List.set_cons_succ]
          generalize hX101 : (X100.alloc (.cells #[.int .u8 1] 5)) = X101 at k101 o101 h101 g101 ⊢
          have z101 : Hid (X101.heap.size = X100.heap.size + 1) := by show _ = _; rw [← hX101]; simp
          clear hX101
          refine wpAnyH_ready (rs := [4]) (by kernel_rfl) (by simp) ?_
          refine (AllReadyH.cons (o := ⟨some 54, _, _, _, _, _⟩) rfl (fun K hK => ?_) AllReadyH.nil)
          refine step_appG _ rfl (.tmp 52) (.tmp 53) rfl w2.heap.size (.slice A100 (n5) c100) (n5) (L) rfl o101 _ (some ⟨X100.heap.size, 0, none⟩) (1) 1 ([1]) rfl h101 (by omega) (Below.size k101) (n5 + 1) (L ++ [1]) (by omega) (by simp) ?_
          intro A102 c102 X102 hc102 hb102 ho102 hbel102 hw102 hbut102
          have k102 : Kept w2 X102 := Kept.base k101 hbel102
          have s102 := hbel102.size
          have g102 : Blk X102 X0.heap.size 24 (evc ev0) := Blk.wch g101 (hw102 (X0.heap.size + 1)) (by decide) (by omega)
          refine hK.out _ _ k102 (fun _ => ?_)
          clear hK K
          try simp only [Act.put, List.setIfInBounds_toArray, List.set_cons_zero, List.set_cons_succ]
          refine wpAnyH_ready (rs := [10]) (by kernel_rfl) (by simp) ?_
          refine (AllReadyH.cons (o := ⟨some 60, _, _, _, _, _⟩) rfl (fun K hK => ?_) AllReadyH.nil)
          refine step_appG _ rfl (.tmp 54) (.tmp 59) rfl w2.heap.size (.slice A102 (n5 + 1) c102) (n5 + 1) (L ++ [1]) rfl ho102 _ A' (q) c' (E) rfl (hE2.below k102) (by omega) (Below.size k102) (n5 + 1 + q) (L ++ [1] ++ E) (by omega) (by simp) ?_
          intro A103 c103 X103 hc103 hb103 ho103 hbel103 hw103 hbut103
          have k103 : Kept w2 X103 := Kept.base k102 hbel103
          have s103 := hbel103.size
          have g103 : Blk X103 X0.heap.size 24 (evc ev0) := Blk.wch g102 (hw103 (X0.heap.size + 1)) (by decide) (by omega)
          refine hK.out _ _ k103 (fun _ => ?_)
          clear hK K
          try simp only [Act.put, List.setIfInBounds_toArray, List.set_cons_zero, List.set_cons_succ]
          refine wpAnyH_ready (rs := [11]) (by kernel_rfl) (by simp) ?_
          refine (AllReadyH.cons (o := ⟨some 61, _, _, _, _, _⟩) rfl (fun K hK => ?_) AllReadyH.nil)
          go_simp
          refine (HDX.out X103 A103 c103 (T2.kept k103) (Own.view ho103).2 (Own.view ho103).1 (Own.cap ho103)).mono ?_
          rintro e X104 ⟨rfl, e104⟩
          have k104 : Kept w2 X104 := Kept.step k103 e104
          have g104 := Blk.kept g103 e104
          refine hK.out _ _ k104 (fun _ => ?_)
          clear hK K
          try simp only [Act.put, List.setIfInBounds_toArray, List.set_cons_zero, List.set_cons_succ]
          refine wpAnyH_take (i := 12) (oi := ⟨some 49, _, _, _, _, _⟩) (v := ?vM3712) rfl (by kernel_rfl) (by kernel_rfl) (by kernel_rfl) (fun _ _ _ h => h) (Or.inl ⟨by rfl, ?yM3712⟩) k104 ?rM3712
          case yM3712 => intro W hW; go_simp; first | done | with_reducible rfl
          simp only [Act.put, List.setIfInBounds_toArray, List.set_cons_zero, List.set_cons_succ]
          refine wpAnyH_take (i := 13) (oi := ⟨some 62, _, _, _, _, _⟩) (v := ?vM3713) rfl (by kernel_rfl) (by kernel_rfl) (by kernel_rfl) (fun _ _ _ h => h) (Or.inl ⟨by rfl, ?yM3713⟩) k104 ?rM3713
          case yM3713 => intro W hW; go_simp; first | done | with_reducible rfl
          simp only [Act.put, List.setIfInBounds_toArray, List.set_cons_zero, List.set_cons_succ]
          refine wpAnyH_take (i := 14) (oi := ⟨some 63, _, _, _, _, _⟩) (v := ?vM3714) rfl (by kernel_rfl) (by kernel_rfl) (by kernel_rfl) (fun _ _ _ h => h) (Or.inl ⟨by rfl, ?yM3714⟩) k104 ?rM3714
          case yM3714 => intro W hW; go_simp; first | done | with_reducible rfl
          simp only [Act.put, List.setIfInBounds_toArray, List.set_cons_zero, List.set_cons_succ]
          refine wpAnyH_take (i := 15) (oi := ⟨some 64, _, _, _, _, _⟩) (v := ?vM3715) rfl (by kernel_rfl) (by kernel_rfl) (by kernel_rfl) (fun _ _ _ h => h) (Or.inl ⟨by rfl, ?yM3715⟩) k104 ?rM3715
          case yM3715 => intro W hW; go_simp; first | done | with_reducible rfl
          simp only [Act.put, List.setIfInBounds_toArray, List.set_cons_zero, List.set_cons_succ]
          refine wpAnyH_ready (rs := [17]) (by kernel_rfl) (by simp) ?_
          refine (AllReadyH.cons (o := ⟨none, _, _, _, _, _⟩) rfl (fun K hK => ?_) AllReadyH.nil)
          rw [if_pos (by rfl)]
          refine wp_store_mid 24 (.tmp 14) (.tmp 62) rfl (X0.heap.size) 0 (evc ev0).toArray rfl rfl (by have h1 := Blk.there g104 (o := 0) (n := (evc ev0).length) (by rw [(rfl : (evc ev0).length = (evc ev0).length)]; omega); simpa using h1) (by simpa using z00) (all_oneCell_toArray o00) ?_
          have u105 := Upd.setCells (X0.heap.size) (evc ev0) 0 X104
          have k105 : Kept w2 (X104.setCells (X0.heap.size) 0 (evc ev0)) := Below.trans k104 (u105.below q98)
          refine hK.out _ _ k105 (fun _ => ?_)
          clear hK K
          try simp only [Act.put]
          revert k105
          generalize (X104.setCells (X0.heap.size) 0 (evc ev0)) = X105
          intro k105
          refine wpAnyH_take (i := 18) (oi := ⟨some 15, _, _, _, _, _⟩) (v := ?vL38b18) rfl (by kernel_rfl) (by kernel_rfl) (by kernel_rfl) (fun _ _ _ h => h) (Or.inl ⟨by rfl, ?yL38b18⟩) k105 ?rL38b18
          case yL38b18 => intro W hW; go_simp; first | done | with_reducible rfl
          simp only [Act.put, List.setIfInBounds_toArray, List.set_cons_zero, List.set_cons_succ]
          refine wpAnyH_take (i := 19) (oi := ⟨some 16, _, _, _, _, _⟩) (v := ?vL38b19) rfl (by kernel_rfl) (by kernel_rfl) (by kernel_rfl) (fun _ _ _ h => h) (Or.inl ⟨by rfl, ?yL38b19⟩) k105 ?rL38b19
          case yL38b19 => intro W hW; go_simp; first | done | with_reducible rfl
          simp only [Act.put, List.setIfInBounds_toArray, List.set_cons_zero, List.set_cons_succ]
          refine wpAnyH_done (by kernel_rfl) ?_ _
          have G9 : Below w.heap.size w X105 := G2.trans (Below.mono k105 G2.size)
          go_wp2_with fail
          go_ret
          exact ⟨rfl, G9⟩
        · go_simp
          have k106 : Kept w2 (X99.alloc (.cells #[.int .u8 1] 5)) := Kept.alloc k99 _
          have o106 := Own.alloc o99 (.cells #[.int .u8 1] 5)
          have g106 := Blk.alloc g99 (.cells #[.int .u8 1] 5)
          have h106 : Bs (X99.alloc (.cells #[.int .u8 1] 5)) (X99.alloc (.cells #[.int .u8 1] 5)).heap.size (some ⟨X99.heap.size, 0, none⟩) 1 [1] := (Bs.one' X99 1 1 rfl).more (by simp)
          refine hK.out _ _ k106 (fun _ => ?_)
          clear hK K
          try simp only [Act.put, List.setIfInBounds_toArray, List.set_cons_zero, List.set_cons_succ]
          generalize hX106 : (X99.alloc (.cells #[.int .u8 1] 5)) = X106 at k106 o106 h106 g106 ⊢
          have z106 : Hid (X106.heap.size = X99.heap.size + 1) := by show _ = _; rw [← hX106]; simp
          clear hX106
          refine wpAnyH_ready (rs := [2]) (by kernel_rfl) (by simp) ?_
          refine (AllReadyH.cons (o := ⟨some 52, _, _, _, _, _⟩) rfl (fun K hK => ?_) AllReadyH.nil)
          refine step_appG _ rfl (.tmp 50) (.tmp 51) rfl w2.heap.size (.slice (some ⟨X98.heap.size, 0, none⟩) 0 0) (0) ([]) rfl o106 _ A5 (n5) c5 (L) rfl (hL2.below k106) (by omega) (Below.size k106) (n5) (L) (by omega) (by simp) ?_
          intro A107 c107 X107 hc107 hb107 ho107 hbel107 hw107 hbut107
          have k107 : Kept w2 X107 := Kept.base k106 hbel107
          have s107 := hbel107.size
          have h107 : Bs X107 X107.heap.size (some ⟨X99.heap.size, 0, none⟩) 1 [1] := (Bs.but h106 (by omega) hbut107 (by have := z98.out; have := z99.out; have := z106.out; simp [Value.ownBlock]; omega)).more s107
          have g107 : Blk X107 X0.heap.size 24 (evc ev0) := Blk.wch g106 (hw107 (X0.heap.size + 1)) (by decide) (by omega)
          refine hK.out _ _ k107 (fun _ => ?_)
          clear hK K
          try simp only [Act.put, List.setIfInBounds_toArray, List.set_cons_zero, List.set_cons_succ]
          refine wpAnyH_ready (rs := [4]) (by kernel_rfl) (by simp) ?_
          refine (AllReadyH.cons (o := ⟨some 54, _, _, _, _, _⟩) rfl (fun K hK => ?_) AllReadyH.nil)
          refine step_appG _ rfl (.tmp 52) (.tmp 53) rfl w2.heap.size (.slice A107 (n5) c107) (n5) (L) rfl ho107 _ (some ⟨X99.heap.size, 0, none⟩) (1) 1 ([1]) rfl h107 (by omega) (Below.size k107) (n5 + 1) (L ++ [1]) (by omega) (by simp) ?_
          intro A108 c108 X108 hc108 hb108 ho108 hbel108 hw108 hbut108
          have k108 : Kept w2 X108 := Kept.base k107 hbel108
          have s108 := hbel108.size
          have g108 : Blk X108 X0.heap.size 24 (evc ev0) := Blk.wch g107 (hw108 (X0.heap.size + 1)) (by decide) (by omega)
          refine hK.out _ _ k108 (fun _ => ?_)
          clear hK K
          try simp only [Act.put, List.setIfInBounds_toArray, List.set_cons_zero, List.set_cons_succ]
          refine wpAnyH_ready (rs := [10]) (by kernel_rfl) (by simp) ?_
          refine (AllReadyH.cons (o := ⟨some 60, _, _, _, _, _⟩) rfl (fun K hK => ?_) AllReadyH.nil)
          refine step_appG _ rfl (.tmp 54) (.tmp 59) rfl w2.heap.size (.slice A108 (n5 + 1) c108) (n5 + 1) (L ++ [1]) rfl ho108 _ A' (q) c' (E) rfl (hE2.below k108) (by omega) (Below.size k108) (n5 + 1 + q) (L ++ [1] ++ E) (by omega) (by simp) ?_
          intro A109 c109 X109 hc109 hb109 ho109 hbel109 hw109 hbut109
          have k109 : Kept w2 X109 := Kept.base k108 hbel109
          have s109 := hbel109.size
          have g109 : Blk X109 X0.heap.size 24 (evc ev0) := Blk.wch g108 (hw109 (X0.heap.size + 1)) (by decide) (by omega)
          refine hK.out _ _ k109 (fun _ => ?_)
          clear hK K
          try simp only [Act.put, List.setIfInBounds_toArray, List.set_cons_zero, List.set_cons_succ]
          refine wpAnyH_ready (rs := [11]) (by kernel_rfl) (by simp) ?_
          refine (AllReadyH.cons (o := ⟨some 61, _, _, _, _, _⟩) rfl (fun K hK => ?_) AllReadyH.nil)
          go_simp
          refine (HDX.out X109 A109 c109 (T2.kept k109) (Own.view ho109).2 (Own.view ho109).1 (Own.cap ho109)).mono ?_
          rintro e X110 ⟨rfl, e110⟩
          have k110 : Kept w2 X110 := Kept.step k109 e110
          have g110 := Blk.kept g109 e110
          refine hK.out _ _ k110 (fun _ => ?_)
          clear hK K
          try simp only [Act.put, List.setIfInBounds_toArray, List.set_cons_zero, List.set_cons_succ]
          refine wpAnyH_take (i := 12) (oi := ⟨some 49, _, _, _, _, _⟩) (v := ?vM3912) rfl (by kernel_rfl) (by kernel_rfl) (by kernel_rfl) (fun _ _ _ h => h) (Or.inl ⟨by rfl, ?yM3912⟩) k110 ?rM3912
          case yM3912 => intro W hW; go_simp; first | done | with_reducible rfl
          simp only [Act.put, List.setIfInBounds_toArray, List.set_cons_zero, List.set_cons_succ]
          refine wpAnyH_take (i := 13) (oi := ⟨some 62, _, _, _, _, _⟩) (v := ?vM3913) rfl (by kernel_rfl) (by kernel_rfl) (by kernel_rfl) (fun _ _ _ h => h) (Or.inl ⟨by rfl, ?yM3913⟩) k110 ?rM3913
          case yM3913 => intro W hW; go_simp; first | done | with_reducible rfl
          simp only [Act.put, List.setIfInBounds_toArray, List.set_cons_zero, List.set_cons_succ]
          refine wpAnyH_take (i := 14) (oi := ⟨some 63, _, _, _, _, _⟩) (v := ?vM3914) rfl (by kernel_rfl) (by kernel_rfl) (by kernel_rfl) (fun _ _ _ h => h) (Or.inl ⟨by rfl, ?yM3914⟩) k110 ?rM3914
          case yM3914 => intro W hW; go_simp; first | done | with_reducible rfl
          simp only [Act.put, List.setIfInBounds_toArray, List.set_cons_zero, List.set_cons_succ]
          refine wpAnyH_take (i := 15) (oi := ⟨some 64, _, _, _, _, _⟩) (v := ?vM3915) rfl (by kernel_rfl) (by kernel_rfl) (by kernel_rfl) (fun _ _ _ h => h) (Or.inl ⟨by rfl, ?yM3915⟩) k110 ?rM3915
          case yM3915 => intro W hW; go_simp; first | done | with_reducible rfl
          simp only [Act.put, List.setIfInBounds_toArray, List.set_cons_zero, List.set_cons_succ]
          refine wpAnyH_ready (rs := [17]) (by kernel_rfl) (by simp) ?_
          refine (AllReadyH.cons (o := ⟨none, _, _, _, _, _⟩) rfl (fun K hK => ?_) AllReadyH.nil)
          rw [if_pos (by rfl)]
          refine wp_store_mid 24 (.tmp 14) (.tmp 62) rfl (X0.heap.size) 0 (evc ev0).toArray rfl rfl (by have h1 := Blk.there g110 (o := 0) (n := (evc ev0).length) (by rw [(rfl : (evc ev0).length = (evc ev0).length)]; omega); simpa using h1) (by simpa using z00) (all_oneCell_toArray o00) ?_
          have u111 := Upd.setCells (X0.heap.size) (evc ev0) 0 X110
          have k111 : Kept w2 (X110.setCells (X0.heap.size) 0 (evc ev0)) := Below.trans k110 (u111.below q98)
          refine hK.out _ _ k111 (fun _ => ?_)
          clear hK K
          try simp only [Act.put]
          revert k111
          generalize (X110.setCells (X0.heap.size) 0 (evc ev0)) = X111
          intro k111
          refine wpAnyH_take (i := 18) (oi := ⟨some 15, _, _, _, _, _⟩) (v := ?vL40b18) rfl (by kernel_rfl) (by kernel_rfl) (by kernel_rfl) (fun _ _ _ h => h) (Or.inl ⟨by rfl, ?yL40b18⟩) k111 ?rL40b18
          case yL40b18 => intro W hW; go_simp; first | done | with_reducible rfl
          simp only [Act.put, List.setIfInBounds_toArray, List.set_cons_zero, List.set_cons_succ]
          refine wpAnyH_take (i := 19) (oi := ⟨some 16, _, _, _, _, _⟩) (v := ?vL40b19) rfl (by kernel_rfl) (by kernel_rfl) (by kernel_rfl) (fun _ _ _ h => h) (Or.inl ⟨by rfl, ?yL40b19⟩) k111 ?rL40b19
          case yL40b19 => intro W hW; go_simp; first | done | with_reducible rfl
          simp only [Act.put, List.setIfInBounds_toArray, List.set_cons_zero, List.set_cons_succ]
          refine wpAnyH_done (by kernel_rfl) ?_ _
          have G9 : Below w.heap.size w X111 := G2.trans (Below.mono k111 G2.size)
          go_wp2_with fail
          go_ret
          exact ⟨rfl, G9⟩
      · go_simp
        have k112 : Kept w2 (X98.alloc (.cells #[.int .u8 1] 5)) := Kept.alloc k98 _
        have g112 := Blk.alloc g98 (.cells #[.int .u8 1] 5)
        have h112 : Bs (X98.alloc (.cells #[.int .u8 1] 5)) (X98.alloc (.cells #[.int .u8 1] 5)).heap.size (some ⟨X98.heap.size, 0, none⟩) 1 [1] := (Bs.one' X98 1 1 rfl).more (by simp)
        refine hK.out _ _ k112 (fun _ => ?_)
        clear hK K
        try simp only [Act.put, List.setIfInBounds_toArray, List.set_cons_zero, List.set_cons_succ]
        generalize hX112 : (X98.alloc (.cells #[.int .u8 1] 5)) = X112 at k112 h112 g112 ⊢
        have z112 : Hid (X112.heap.size = X98.heap.size + 1) := by show _ = _; rw [← hX112]; simp
        clear hX112
        refine wpAnyH_ready (rs := [0]) (by kernel_rfl) (by simp) ?_
        refine (AllReadyH.cons (o := ⟨some 50, _, _, _, _, _⟩) rfl (fun K hK => ?_) AllReadyH.nil)
        go_simp
        have k113 : Kept w2 (X112.alloc (.cells #[] 5)) := Kept.alloc k112 _
        have h113 := (Bs.alloc h112 (Nat.le_refl _) (.cells #[] 5)).more (B' := (X112.alloc (.cells #[] 5)).heap.size) (by simp)
        have g113 := Blk.alloc g112 (.cells #[] 5)
        have o113 := own_empty X112 w2.heap.size (Below.size k112)
        refine hK.out _ _ k113 (fun _ => ?_)
        clear hK K
        try simp only [Act.put, List.setIfInBounds_toArray, List.set_cons_zero, List.set_cons_succ]
        generalize hX113 : (X112.alloc (.cells #[] 5)) = X113 at k113 o113 h113 g113 ⊢
        have z113 : Hid (X113.heap.size = X112.heap.size + 1) := by show _ = _; rw [← hX113]; simp
        clear hX113
        refine wpAnyH_ready (rs := [2]) (by kernel_rfl) (by simp) ?_
        refine (AllReadyH.cons (o := ⟨some 52, _, _, _, _, _⟩) rfl (fun K hK => ?_) AllReadyH.nil)
        refine step_appG _ rfl (.tmp 50) (.tmp 51) rfl w2.heap.size (.slice (some ⟨X112.heap.size, 0, none⟩) 0 0) (0) ([]) rfl o113 _ A5 (n5) c5 (L) rfl (hL2.below k113) (by omega) (Below.size k113) (n5) (L) (by omega) (by simp) ?_
        intro A114 c114 X114 hc114 hb114 ho114 hbel114 hw114 hbut114
        have k114 : Kept w2 X114 := Kept.base k113 hbel114
        have s114 := hbel114.size
        have h114 : Bs X114 X114.heap.size (some ⟨X98.heap.size, 0, none⟩) 1 [1] := (Bs.but h113 (by omega) hbut114 (by have := z98.out; have := z112.out; have := z113.out; simp [Value.ownBlock]; omega)).more s114
        have g114 : Blk X114 X0.heap.size 24 (evc ev0) := Blk.wch g113 (hw114 (X0.heap.size + 1)) (by decide) (by omega)
        refine hK.out _ _ k114 (fun _ => ?_)
        clear hK K
        try simp only [Act.put, List.setIfInBounds_toArray, List.set_cons_zero, List.set_cons_succ]
        refine wpAnyH_ready (rs := [4]) (by kernel_rfl) (by simp) ?_
        refine (AllReadyH.cons (o := ⟨some 54, _, _, _, _, _⟩) rfl (fun K hK => ?_) AllReadyH.nil)
        refine step_appG _ rfl (.tmp 52) (.tmp 53) rfl w2.heap.size (.slice A114 (n5) c114) (n5) (L) rfl ho114 _ (some ⟨X98.heap.size, 0, none⟩) (1) 1 ([1]) rfl h114 (by omega) (Below.size k114) (n5 + 1) (L ++ [1]) (by omega) (by simp) ?_
        intro A115 c115 X115 hc115 hb115 ho115 hbel115 hw115 hbut115
        have k115 : Kept w2 X115 := Kept.base k114 hbel115
        have s115 := hbel115.size
        have g115 : Blk X115 X0.heap.size 24 (evc ev0) := Blk.wch g114 (hw115 (X0.heap.size + 1)) (by decide) (by omega)
        refine hK.out _ _ k115 (fun _ => ?_)
        clear hK K
        try simp only [Act.put, List.setIfInBounds_toArray, List.set_cons_zero, List.set_cons_succ]
        refine wpAnyH_ready (rs := [10]) (by kernel_rfl) (by simp) ?_
        refine (AllReadyH.cons (o := ⟨some 60, _, _, _, _, _⟩) rfl (fun K hK => ?_) AllReadyH.nil)
        refine step_appG _ rfl (.tmp 54) (.tmp 59) rfl w2.heap.size (.slice A115 (n5 + 1) c115) (n5 + 1) (L ++ [1]) rfl ho115 _ A' (q) c' (E) rfl (hE2.below k115) (by omega) (Below.size k115) (n5 + 1 + q) (L ++ [1] ++ E) (by omega) (by simp) ?_
        intro A116 c116 X116 hc116 hb116 ho116 hbel116 hw116 hbut116
        have k116 : Kept w2 X116 := Kept.base k115 hbel116
        have s116 := hbel116.size
        have g116 : Blk X116 X0.heap.size 24 (evc ev0) := Blk.wch g115 (hw116 (X0.heap.size + 1)) (by decide) (by omega)
        refine hK.out _ _ k116 (fun _ => ?_)
        clear hK K
        try simp only [Act.put, List.setIfInBounds_toArray, List.set_cons_zero, List.set_cons_succ]
        refine wpAnyH_ready (rs := [11]) (by kernel_rfl) (by simp) ?_
        refine (AllReadyH.cons (o := ⟨some 61, _, _, _, _, _⟩) rfl (fun K hK => ?_) AllReadyH.nil)
        go_simp
        refine (HDX.out X116 A116 c116 (T2.kept k116) (Own.view ho116).2 (Own.view ho116).1 (Own.cap ho116)).mono ?_
        rintro e X117 ⟨rfl, e117⟩
        have k117 : Kept w2 X117 := Kept.step k116 e117
        have g117 := Blk.kept g116 e117
        refine hK.out _ _ k117 (fun _ => ?_)
        clear hK K
        try simp only [Act.put, List.setIfInBounds_toArray, List.set_cons_zero, List.set_cons_succ]
        refine wpAnyH_take (i := 12) (oi := ⟨some 49, _, _, _, _, _⟩) (v := ?vM4112) rfl (by kernel_rfl) (by kernel_rfl) (by kernel_rfl) (fun _ _ _ h => h) (Or.inl ⟨by rfl, ?yM4112⟩) k117 ?rM4112
        case yM4112 => intro W hW; go_simp; first | done | with_reducible rfl
        simp only [Act.put, List.setIfInBounds_toArray, List.set_cons_zero, List.set_cons_succ]
        refine wpAnyH_take (i := 13) (oi := ⟨some 62, _, _, _, _, _⟩) (v := ?vM4113) rfl (by kernel_rfl) (by kernel_rfl) (by kernel_rfl) (fun _ _ _ h => h) (Or.inl ⟨by rfl, ?yM4113⟩) k117 ?rM4113
        case yM4113 => intro W hW; go_simp; first | done | with_reducible rfl
        simp only [Act.put, List.setIfInBounds_toArray, List.set_cons_zero, List.set_cons_succ]
        refine wpAnyH_take (i := 14) (oi := ⟨some 63, _, _, _, _, _⟩) (v := ?vM4114) rfl (by kernel_rfl) (by kernel_rfl) (by kernel_rfl) (fun _ _ _ h => h) (Or.inl ⟨by rfl, ?yM4114⟩) k117 ?rM4114
        case yM4114 => intro W hW; go_simp; first | done | with_reducible rfl
        simp only [Act.put, List.setIfInBounds_toArray, List.set_cons_zero, List.set_cons_succ]
        refine wpAnyH_take (i := 15) (oi := ⟨some 64, _, _, _, _, _⟩) (v := ?vM4115) rfl (by kernel_rfl) (by kernel_rfl) (by kernel_rfl) (fun _ _ _ h => h) (Or.inl ⟨by rfl, ?yM4115⟩) k117 ?rM4115
        case yM4115 => intro W hW; go_simp; first | done | with_reducible rfl
        simp only [Act.put, List.setIfInBounds_toArray, List.set_cons_zero, List.set_cons_succ]
        refine wpAnyH_ready (rs := [17]) (by kernel_rfl) (by simp) ?_
        refine (AllReadyH.cons (o := ⟨none, _, _, _, _, _⟩) rfl (fun K hK => ?_) AllReadyH.nil)
        rw [if_pos (by rfl)]
        refine wp_store_mid 24 (.tmp 14) (.tmp 62) rfl (X0.heap.size) 0 (evc ev0).toArray rfl rfl (by have h1 := Blk.there g117 (o := 0) (n := (evc ev0).length) (by rw [(rfl : (evc ev0).length = (evc ev0).length)]; omega); simpa using h1) (by simpa using z00) (all_oneCell_toArray o00) ?_
        have u118 := Upd.setCells (X0.heap.size) (evc ev0) 0 X117
        have k118 : Kept w2 (X117.setCells (X0.heap.size) 0 (evc ev0)) := Below.trans k117 (u118.below q98)
        refine hK.out _ _ k118 (fun _ => ?_)
        clear hK K
        try simp only [Act.put]
        revert k118
        generalize (X117.setCells (X0.heap.size) 0 (evc ev0)) = X118
        intro k118
        refine wpAnyH_take (i := 18) (oi := ⟨some 15, _, _, _, _, _⟩) (v := ?vL42b18) rfl (by kernel_rfl) (by kernel_rfl) (by kernel_rfl) (fun _ _ _ h => h) (Or.inl ⟨by rfl, ?yL42b18⟩) k118 ?rL42b18
        case yL42b18 => intro W hW; go_simp; first | done | with_reducible rfl
        simp only [Act.put, List.setIfInBounds_toArray, List.set_cons_zero, List.set_cons_succ]
        refine wpAnyH_take (i := 19) (oi := ⟨some 16, _, _, _, _, _⟩) (v := ?vL42b19) rfl (by kernel_rfl) (by kernel_rfl) (by kernel_rfl) (fun _ _ _ h => h) (Or.inl ⟨by rfl, ?yL42b19⟩) k118 ?rL42b19
        case yL42b19 => intro W hW; go_simp; first | done | with_reducible rfl
        simp only [Act.put, List.setIfInBounds_toArray, List.set_cons_zero, List.set_cons_succ]
        refine wpAnyH_done (by kernel_rfl) ?_ _
        have G9 : Below w.heap.size w X118 := G2.trans (Below.mono k118 G2.size)
        go_wp2_with fail
        go_ret
        exact ⟨rfl, G9⟩
  · rw [(encF_wrong hr).2]
    go_wp2_with fail
    go_ret
    exact ⟨rfl, b5⟩
end Go.Proofs.YtjgcodnabgkjoaaDoor
