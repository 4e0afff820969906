/-
  The walk of transeptlaw05.EventBack: true, for every event and all bytes; nothing that was there turns. Condition: the table of kinds holds what the program's text lays.
-/
import Derived.Test.YtjgcodnabgkjoaaDoorEq
namespace Go.Proofs.YtjgcodnabgkjoaaDoor
open Go.RowKit

theorem encB_len {e : Ev} (he : EvOk e) (hs : Small e) (hr : rightE e = true) : (encB e).length ≤ 20000 := by
  have h1 := txW_len (right_texts hr he) (hav e.kind.toNat).texts
  have h2 := nmW_len (hav e.kind.toNat).bl e.ns 3
  have h3 : (hav e.kind.toNat).texts * 4106 ≤ 4 * 4106 := Nat.mul_le_mul_right _ (hav_ok _).1
  have h4 := leb_len10 hs.1
  have h5 := leb_len10 hs.2
  simp only [encB, List.length_append, List.length_singleton]
  omega
theorem Own.cap {w : World} {base n c : Nat} {A : Option Addr} {l : List UInt8} (h : Own w base (.slice A n c) n l) : c ≤ 9223372036854775807 := by
  rcases h.2 with ⟨e, _⟩ | ⟨g, cap, cur, e, _, _, _, hm, _⟩
  · injection e with _ _ e3
    omega
  · injection e with _ _ e3
    unfold maxLen at hm
    omega
theorem dA_le (l : List UInt8) : dA l ≤ l.length := by
  by_cases h0 : dE l = 0
  · exact Nat.le_of_eq (dec_fwd l h0).1
  · by_cases h2 : dE l = 2
    · exact Nat.le_of_eq ((dec_err l).1 h2)
    · exact Nat.le_of_lt ((dec_err l).2 h0 h2).1
theorem cutE_small {e : Ev} (h : Small e) : Small (cutE e) := h
theorem cutE_texts (e : Ev) : ∀ t ∈ (cutE e).ts, t.length ≤ 5000 := by
  intro t ht
  simp only [cutE, List.mem_map] at ht
  obtain ⟨s, _, rfl⟩ := ht
  simp
  omega
theorem encF_right {e : Ev} (h : rightE e = true) : encF e = encB e ∧ encE e = 0 := ⟨by rw [encF, if_pos h], by rw [encE, if_pos h]⟩
theorem encF_wrong {e : Ev} (h : ¬ rightE e = true) : encF e = [] ∧ encE e = 1 := ⟨by rw [encF, if_neg h], by rw [encE, if_neg h]⟩
theorem dec_of_enc {e : Ev} (he : EvOk e) (hs : Small e) (hr : rightE e = true) : dA (encB e) = (encB e).length ∧ dE (encB e) = 0 ∧ dV (encB e) = e := by
  have h := dec_enc e he hs hr []
  rw [List.append_nil] at h
  exact ⟨h.1, by rw [h.2.1, if_pos rfl], h.2.2 rfl⟩
theorem dV_texts (l : List UInt8) (_h : l.length ≤ 1000000) : ∀ t ∈ (dV l).ts, t.length ≤ 1000000 := by
  by_cases h0 : dE l = 0
  · obtain ⟨_, _, hr, _⟩ := dec_fwd l h0
    intro t ht
    have := right_texts hr (dV_ok l) t ht
    omega
  · intro t ht
    rw [dV, if_neg h0] at ht
    simp only [ev0, List.mem_cons, List.not_mem_nil, or_false] at ht
    rcases ht with rfl | rfl | rfl | rfl <;> simp

set_option maxHeartbeats 8000000 in
set_option maxRecDepth 100000 in
theorem back_walk (e : Ev) (he : EvOk e) (hs : Small e) (hsz : ∀ t ∈ e.ts, t.length ≤ 9223372036854775807) (A : Option Addr) (n c : Nat) (l : List UInt8) (w : World) (ht : Tab w) (h : Bs w w.heap.size A n l) (hc : n ≤ c) (hcm : c ≤ 9223372036854775807) :
    Calls Tryd.prog 5 #[.agg (evc e).toArray, .slice A n c] w fun r w' => r = .returned (.bool true) ∧ Below w.heap.size w w' := by
  have CU := fun W => cut_any e he hsz W
  have hok := cutE_ok he
  have hsm := cutE_small hs
  have EN := fun W (hW : Tab W) => encode_any (cutE e) hok (fun t h => by have := cutE_texts e t h; omega) hsm.1 hsm.2 W hW
  have z24 := size24' he
  have zF := size24' hok
  have hlF : (evc (cutE e)).length = (evc e).length := by rw [evc_length hok, evc_length he]
  have y24 := zero24
  have oF := evc_one (cutE e)
  obtain ⟨m, hm⟩ : ∃ m : Nat, m = min n 6000 := ⟨_, rfl⟩
  have km : min (n : Int) 6000 = (m : Int) := by omega
  have jm : (m : Int) ≤ (c : Int) := by omega
  have jm' : m ≤ c := by omega
  have hm6 : m ≤ 6000 := by omega
  have hb := h.take m (by omega)
  obtain ⟨L, hL⟩ : ∃ L, L = l.take m := ⟨_, rfl⟩
  rw [← hL] at hb
  have hLm := hb.1
  have DL := fun W (hW : Tab W) (hB : Bs W W.heap.size A m L) => decode_any A m c L W hW hB jm' hcm (by omega)
  have vok := dV_ok L
  have zV := size24' vok
  have hlV : (evc (dV L)).length = (evc ev0).length := by rw [evc_length vok, evc_length ev0_ok]
  have oV := evc_one (dV L)
  have dle := dA_le L
  rw [hLm] at dle
  obtain ⟨F, hF⟩ : ∃ F, F = cutE e := ⟨_, rfl⟩
  rw [← hF] at CU EN zF hlF oF hok hsm
  have HCU := Lib.hid CU
  have HEN := Lib.hid EN
  have HDL := Lib.hid DL
  have HM := Lib.hid (And.intro hm hL)
  clear CU EN DL hm hL hF h hs he hsz
  have hlF0 : (evc F).length = (evc ev0).length := by rw [evc_length hok, evc_length ev0_ok]
  by_cases hr : rightE F = true
  · go_enter Tryd.func5, Tryd.ntmps5
    go_wp2_with (first
      | ((with_reducible show wpList _ _ _ (⟨some 2, _, _, _, _, _⟩ :: _) _ _); refine wp_box _ rfl 24 (.tmp 0) rfl (evc e) rfl ?_; intro w1 g2 hB1 hf1; simp only [Act.put, List.setIfInBounds_toArray, List.set_cons_zero, List.set_cons_succ]))
    have t1 := ht.kept hf1.below
    refine (shown_any w1 t1).mono ?_
    rintro r w2 ⟨rfl, e2⟩
    have B2 := hB1.kept e2
    have b2 := hf1.below.trans (e2.mono hf1.below.size)
    have hg2 : w.heap.size ≤ g2 := Nat.le_of_eq hf1.is.symm
    have t2 := t1.kept e2
    clear hB1 hf1 e2 t1
    go_wp2_with (first
      | ((with_reducible show wpList _ _ _ (⟨some 17, _, _, _, _, _⟩ :: _) _ _); refine wp_getG _ (by rfl) 24 (.tmp 2) rfl g2 0 (evc e) _ rfl B2.whole Tryd.underlying24 rfl z24 ?_; simp only [Act.put, List.setIfInBounds_toArray, List.set_cons_zero, List.set_cons_succ]))
    refine (HCU.out w2).mono ?_
    rintro r w3 ⟨rfl, e3⟩
    have B3 := B2.kept e3
    have b3 := b2.trans (e3.mono b2.size)
    have t3 := t2.kept e3
    clear B2 e3 b2 t2 HCU
    go_wp2_with (first
      | ((with_reducible show wpList _ _ _ (⟨none, .store 24 (.tmp 2) _, _, _, _, _⟩ :: _) _ _); refine wp_putAll _ rfl 24 (.tmp 2) (.tmp 18) rfl g2 24 _ (evc F) rfl rfl B3 hlF zF oF ?_; intro w4 hX4 hU4; simp only [Act.put])
      | ((with_reducible show wpList _ _ _ (⟨some 25, _, _, _, _, _⟩ :: _) _ _); refine wp_getG _ (by rfl) 24 (.tmp 2) rfl g2 0 (evc F) _ rfl hX4.whole Tryd.underlying24 rfl zF ?_; simp only [Act.put, List.setIfInBounds_toArray, List.set_cons_zero, List.set_cons_succ]))
    have t4 : Tab w4 := t3.below (hU4.below (B := 1) (by have := t3.1; have := ht.1; omega)) (by omega)
    have b4 := b3.trans (hU4.below hg2)
    clear B3 hU4 t3 b3
    refine (HEN.out w4 t4).mono ?_
    rintro r w5 ⟨A5, n5, c5, rfl, hc5, hs5, ho5, e5⟩
    have B5 := hX4.kept e5
    have b5 := b4.trans (e5.mono b4.size)
    have t5 := t4.kept e5
    have HC5 := Lib.hid (Own.cap ho5)
    clear hX4 e5 t4 b4 HEN ho5
    rw [(encF_right hr).1] at hs5
    rw [(encF_right hr).2]
    have hlen : n5 = (encB F).length := hs5.1.symm
    have hn5 : n5 ≤ 20000 := by rw [hlen]; exact encB_len hok hsm hr
    obtain ⟨q1, q2, q3⟩ := dec_of_enc hok hsm hr
    rw [← hlen] at q1
    have DE := decode_any A5 n5 c5 (encB F) w5 t5 hs5 hc5
    rw [q1, q2, q3] at DE
    have HDE := Lib.hid DE
    have HQ := Lib.hid hlen
    clear DE q1 q2 q3 hlen
    go_wp2_with fail
    refine (HDE.out HC5.out (by omega)).mono ?_
    rintro r w6 ⟨rfl, e6⟩
    have B6 := B5.kept e6
    have b6 := b5.trans (e6.mono b5.size)
    have t6 := t5.kept e6
    clear B5 e6 b5 t5 hs5 HDE
    have eFF : evEq F F = true := evEq_self F
    go_wp2_with (first
      | ((with_reducible show wpList _ _ _ (⟨some 8, _, _, _, _, _⟩ :: _) _ _); refine wp_new _ rfl 24 rfl _ y24 ?_; intro w7 g8 hB7 hf7; simp only [Act.put, List.setIfInBounds_toArray, List.set_cons_zero, List.set_cons_succ])
      | ((with_reducible show wpList _ _ _ (⟨none, .store 24 (.tmp 8) _, _, _, _, _⟩ :: _) _ _); refine wp_putAll _ rfl 24 (.tmp 8) (.tmp 34) rfl g8 24 _ (evc F) rfl rfl hB7 hlF0 zF oF ?_; intro w8 hX8 hU8; have B8 := (hf7.blk B6).upd hU8 (by have := hf7.is; have := B6.lt; omega); simp only [Act.put])
      | ((with_reducible show wpList _ _ _ (⟨some 37, _, _, _, _, _⟩ :: _) _ _); refine wp_getG _ (by rfl) 24 (.tmp 8) rfl g8 0 (evc F) _ rfl hX8.whole Tryd.underlying24 rfl zF ?_; simp only [Act.put, List.setIfInBounds_toArray, List.set_cons_zero, List.set_cons_succ])
      | ((with_reducible show wpList _ _ _ (⟨some 38, _, _, _, _, _⟩ :: _) _ _); refine wp_getG _ (by rfl) 24 (.tmp 2) rfl g2 0 (evc F) _ rfl B8.whole Tryd.underlying24 rfl zF ?_; simp only [Act.put, List.setIfInBounds_toArray, List.set_cons_zero, List.set_cons_succ])
      | ((with_reducible show wpList _ _ _ (⟨some 39, _, _, _, _, _⟩ :: _) _ _); refine wp_neE _ (by rfl) (.tmp 37) (.tmp 38) rfl F F hok hok rfl rfl true eFF ?_; simp only [Act.put, List.setIfInBounds_toArray, List.set_cons_zero, List.set_cons_succ]))
    have b9 : Below w.heap.size w w8 := (b6.trans (hf7.below.mono b6.size)).trans (hU8.below (by have := hf7.is; have := b6.size; omega))
    have t9 : Tab w8 := (t6.kept hf7.below).below (hU8.below (B := 1) (by have := hf7.is; have := t6.1; omega)) (by omega)
    clear B6 b6 t6 hB7 hf7 hU8 hX8 B8
    have s9 := (hb.below b9).more b9.size
    refine (HDL.out w8 t9 s9).mono ?_
    rintro r w10 ⟨rfl, e10⟩
    have b10 := b9.trans (e10.mono b9.size)
    have t10 := t9.kept e10
    have s10 := (s9.below e10).more e10.size
    clear s9 e10 b9 t9 HDL
    by_cases hd : dE L = 0
    · rw [hd]
      obtain ⟨p1, p2, p3, p4⟩ := dec_fwd L hd
      have EV := fun W (hW : Tab W) => encode_any (dV L) vok (dV_texts L (by omega)) p2.1 p2.2 W hW
      have RV := fun W (hW : Tab W) => right_any (dV L) vok (dV_texts L (by omega)) W hW
      rw [p3] at RV
      rw [p1, hLm]
      have HEV := Lib.hid EV
      have HRV := Lib.hid RV
      have HP := Lib.hid (And.intro p3 p4)
      clear EV RV p1 p2 p3 p4 hd
      go_wp2_with (first
        | ((with_reducible show wpList _ _ _ (⟨some 11, _, _, _, _, _⟩ :: _) _ _); refine wp_new _ rfl 24 rfl _ y24 ?_; intro w11 g11 hB11 hf11; simp only [Act.put, List.setIfInBounds_toArray, List.set_cons_zero, List.set_cons_succ])
        | ((with_reducible show wpList _ _ _ (⟨none, .store 24 (.tmp 11) _, _, _, _, _⟩ :: _) _ _); refine wp_putAll _ rfl 24 (.tmp 11) (.tmp 53) rfl g11 24 _ (evc (dV L)) rfl rfl hB11 hlV zV oV ?_; intro w12 hX12 hU12; simp only [Act.put])
        | ((with_reducible show wpList _ _ _ (⟨some 75, _, _, _, _, _⟩ :: _) _ _); refine wp_getG _ (by rfl) 24 (.tmp 11) rfl g11 0 (evc (dV L)) _ rfl hX12.whole Tryd.underlying24 rfl zV ?_; simp only [Act.put, List.setIfInBounds_toArray, List.set_cons_zero, List.set_cons_succ]))
      have b12 : Below w.heap.size w w12 := (b10.trans (hf11.below.mono b10.size)).trans (hU12.below (by have := hf11.is; have := b10.size; omega))
      have t12 : Tab w12 := (t10.kept hf11.below).below (hU12.below (B := 1) (by have := hf11.is; have := t10.1; omega)) (by omega)
      have s12 : Bs w12 w12.heap.size A m L := ((s10.below hf11.below).below (hU12.below (by have := hf11.is; omega))).more (by have := hf11.size; have := hU12.size; have := hf11.is; omega)
      clear b10 t10 s10 hB11 hf11 hU12
      refine (HEV.out w12 t12).mono ?_
      rintro r w13 ⟨A13, n13, c13, rfl, hc13, hs13, ho13, e13⟩
      rw [(encF_right HP.out.1).1, HP.out.2] at hs13
      rw [(encF_right HP.out.1).2]
      have X13 := hX12.kept e13
      have b13 := b12.trans (e13.mono b12.size)
      have t13 := t12.kept e13
      have s13 := (s12.below e13).more e13.size
      clear b12 t12 s12 hX12 e13 ho13 HEV
      go_wp2_with (first
        | ((with_reducible show wpList _ _ _ (⟨some 86, _, _, _, _, _⟩ :: _) _ _); refine wp_strG _ (by rfl) (.tmp 85) rfl _ A13 n13 c13 L rfl hs13 ?_; simp only [Act.put, List.setIfInBounds_toArray, List.set_cons_zero, List.set_cons_succ])
        | ((with_reducible show wpList _ _ _ (⟨some 88, _, _, _, _, _⟩ :: _) _ _); refine wp_strG _ (by rfl) (.tmp 87) rfl _ A m c L rfl s13 ?_; simp only [Act.put, List.setIfInBounds_toArray, List.set_cons_zero, List.set_cons_succ])
        | ((with_reducible show wpList _ _ _ (⟨some 98, _, _, _, _, _⟩ :: _) _ _); refine wp_getG _ (by rfl) 24 (.tmp 11) rfl g11 0 (evc (dV L)) _ rfl X13.whole Tryd.underlying24 rfl zV ?_; simp only [Act.put, List.setIfInBounds_toArray, List.set_cons_zero, List.set_cons_succ]))
      refine (HRV.out w13 t13).mono ?_
      rintro r w14 ⟨rfl, e14⟩
      go_wp2_with fail
      go_ret
      exact ⟨rfl, b13.trans (e14.mono b13.size)⟩
    · have hv : dV L = ev0 := by rw [dV, if_neg hd]
      have hne : ((dE L : Int) != 0) = true := by simp; omega
      have eZ : evEq (dV L) ev0 = true := by rw [hv]; exact evEq_self ev0
      clear hv
      generalize dE L = dEL at *
      generalize dA L = dAL at *
      go_wp2_with (first
        | ((with_reducible show wpList _ _ _ (⟨some 11, _, _, _, _, _⟩ :: _) _ _); refine wp_new _ rfl 24 rfl _ y24 ?_; intro w11 g11 hB11 hf11; simp only [Act.put, List.setIfInBounds_toArray, List.set_cons_zero, List.set_cons_succ])
        | ((with_reducible show wpList _ _ _ (⟨none, .store 24 (.tmp 11) _, _, _, _, _⟩ :: _) _ _); refine wp_putAll _ rfl 24 (.tmp 11) (.tmp 53) rfl g11 24 _ (evc (dV L)) rfl rfl hB11 hlV zV oV ?_; intro w12 hX12 hU12; simp only [Act.put])
        | ((with_reducible show wpList _ _ _ (⟨some 60, _, _, _, _, _⟩ :: _) _ _); refine wp_getG _ (by rfl) 24 (.tmp 11) rfl g11 0 (evc (dV L)) _ rfl hX12.whole Tryd.underlying24 rfl zV ?_; simp only [Act.put, List.setIfInBounds_toArray, List.set_cons_zero, List.set_cons_succ])
        | ((with_reducible show wpList _ _ _ (⟨some 61, _, _, _, _, _⟩ :: _) _ _); refine wp_zeroG _ (by rfl) rfl ?_; simp only [Act.put, List.setIfInBounds_toArray, List.set_cons_zero, List.set_cons_succ])
        | ((with_reducible show wpList _ _ _ (⟨some 62, _, _, _, _, _⟩ :: _) _ _); refine wp_eqE _ (by rfl) (.tmp 60) (.tmp 61) rfl (dV L) ev0 vok ev0_ok rfl rfl true eZ ?_; simp only [Act.put, List.setIfInBounds_toArray, List.set_cons_zero, List.set_cons_succ]))
      have b12 : Below w.heap.size w w12 := (b10.trans (hf11.below.mono b10.size)).trans (hU12.below (by have := hf11.is; have := b10.size; omega))
      go_ret
      exact ⟨rfl, b12⟩
  · go_enter Tryd.func5, Tryd.ntmps5
    go_wp2_with (first
      | ((with_reducible show wpList _ _ _ (⟨some 2, _, _, _, _, _⟩ :: _) _ _); refine wp_box _ rfl 24 (.tmp 0) rfl (evc e) rfl ?_; intro w1 g2 hB1 hf1; simp only [Act.put, List.setIfInBounds_toArray, List.set_cons_zero, List.set_cons_succ]))
    have t1 := ht.kept hf1.below
    refine (shown_any w1 t1).mono ?_
    rintro r w2 ⟨rfl, e2⟩
    have B2 := hB1.kept e2
    have b2 := hf1.below.trans (e2.mono hf1.below.size)
    have hg2 : w.heap.size ≤ g2 := Nat.le_of_eq hf1.is.symm
    have t2 := t1.kept e2
    clear hB1 hf1 e2 t1
    go_wp2_with (first
      | ((with_reducible show wpList _ _ _ (⟨some 17, _, _, _, _, _⟩ :: _) _ _); refine wp_getG _ (by rfl) 24 (.tmp 2) rfl g2 0 (evc e) _ rfl B2.whole Tryd.underlying24 rfl z24 ?_; simp only [Act.put, List.setIfInBounds_toArray, List.set_cons_zero, List.set_cons_succ]))
    refine (HCU.out w2).mono ?_
    rintro r w3 ⟨rfl, e3⟩
    have B3 := B2.kept e3
    have b3 := b2.trans (e3.mono b2.size)
    have t3 := t2.kept e3
    clear B2 e3 b2 t2 HCU
    go_wp2_with (first
      | ((with_reducible show wpList _ _ _ (⟨none, .store 24 (.tmp 2) _, _, _, _, _⟩ :: _) _ _); refine wp_putAll _ rfl 24 (.tmp 2) (.tmp 18) rfl g2 24 _ (evc F) rfl rfl B3 hlF zF oF ?_; intro w4 hX4 hU4; simp only [Act.put])
      | ((with_reducible show wpList _ _ _ (⟨some 25, _, _, _, _, _⟩ :: _) _ _); refine wp_getG _ (by rfl) 24 (.tmp 2) rfl g2 0 (evc F) _ rfl hX4.whole Tryd.underlying24 rfl zF ?_; simp only [Act.put, List.setIfInBounds_toArray, List.set_cons_zero, List.set_cons_succ]))
    have t4 : Tab w4 := t3.below (hU4.below (B := 1) (by have := t3.1; have := ht.1; omega)) (by omega)
    have b4 := b3.trans (hU4.below hg2)
    clear B3 hU4 t3 b3
    refine (HEN.out w4 t4).mono ?_
    rintro r w5 ⟨A5, n5, c5, rfl, hc5, hs5, ho5, e5⟩
    have B5 := hX4.kept e5
    have b5 := b4.trans (e5.mono b4.size)
    have t5 := t4.kept e5
    have HC5 := Lib.hid (Own.cap ho5)
    clear hX4 e5 t4 b4 HEN ho5
    rw [(encF_wrong hr).2]
    have b9 := b5
    have t9 := t5
    clear B5 b5 t5 hs5
    go_wp2_with fail
    have s9 := (hb.below b9).more b9.size
    refine (HDL.out w5 t9 s9).mono ?_
    rintro r w10 ⟨rfl, e10⟩
    have b10 := b9.trans (e10.mono b9.size)
    have t10 := t9.kept e10
    have s10 := (s9.below e10).more e10.size
    clear s9 e10 b9 t9 HDL
    by_cases hd : dE L = 0
    · rw [hd]
      obtain ⟨p1, p2, p3, p4⟩ := dec_fwd L hd
      have EV := fun W (hW : Tab W) => encode_any (dV L) vok (dV_texts L (by omega)) p2.1 p2.2 W hW
      have RV := fun W (hW : Tab W) => right_any (dV L) vok (dV_texts L (by omega)) W hW
      rw [p3] at RV
      rw [p1, hLm]
      have HEV := Lib.hid EV
      have HRV := Lib.hid RV
      have HP := Lib.hid (And.intro p3 p4)
      clear EV RV p1 p2 p3 p4 hd
      go_wp2_with (first
        | ((with_reducible show wpList _ _ _ (⟨some 11, _, _, _, _, _⟩ :: _) _ _); refine wp_new _ rfl 24 rfl _ y24 ?_; intro w11 g11 hB11 hf11; simp only [Act.put, List.setIfInBounds_toArray, List.set_cons_zero, List.set_cons_succ])
        | ((with_reducible show wpList _ _ _ (⟨none, .store 24 (.tmp 11) _, _, _, _, _⟩ :: _) _ _); refine wp_putAll _ rfl 24 (.tmp 11) (.tmp 53) rfl g11 24 _ (evc (dV L)) rfl rfl hB11 hlV zV oV ?_; intro w12 hX12 hU12; simp only [Act.put])
        | ((with_reducible show wpList _ _ _ (⟨some 75, _, _, _, _, _⟩ :: _) _ _); refine wp_getG _ (by rfl) 24 (.tmp 11) rfl g11 0 (evc (dV L)) _ rfl hX12.whole Tryd.underlying24 rfl zV ?_; simp only [Act.put, List.setIfInBounds_toArray, List.set_cons_zero, List.set_cons_succ]))
      have b12 : Below w.heap.size w w12 := (b10.trans (hf11.below.mono b10.size)).trans (hU12.below (by have := hf11.is; have := b10.size; omega))
      have t12 : Tab w12 := (t10.kept hf11.below).below (hU12.below (B := 1) (by have := hf11.is; have := t10.1; omega)) (by omega)
      have s12 : Bs w12 w12.heap.size A m L := ((s10.below hf11.below).below (hU12.below (by have := hf11.is; omega))).more (by have := hf11.size; have := hU12.size; have := hf11.is; omega)
      clear b10 t10 s10 hB11 hf11 hU12
      refine (HEV.out w12 t12).mono ?_
      rintro r w13 ⟨A13, n13, c13, rfl, hc13, hs13, ho13, e13⟩
      rw [(encF_right HP.out.1).1, HP.out.2] at hs13
      rw [(encF_right HP.out.1).2]
      have X13 := hX12.kept e13
      have b13 := b12.trans (e13.mono b12.size)
      have t13 := t12.kept e13
      have s13 := (s12.below e13).more e13.size
      clear b12 t12 s12 hX12 e13 ho13 HEV
      go_wp2_with (first
        | ((with_reducible show wpList _ _ _ (⟨some 86, _, _, _, _, _⟩ :: _) _ _); refine wp_strG _ (by rfl) (.tmp 85) rfl _ A13 n13 c13 L rfl hs13 ?_; simp only [Act.put, List.setIfInBounds_toArray, List.set_cons_zero, List.set_cons_succ])
        | ((with_reducible show wpList _ _ _ (⟨some 88, _, _, _, _, _⟩ :: _) _ _); refine wp_strG _ (by rfl) (.tmp 87) rfl _ A m c L rfl s13 ?_; simp only [Act.put, List.setIfInBounds_toArray, List.set_cons_zero, List.set_cons_succ])
        | ((with_reducible show wpList _ _ _ (⟨some 98, _, _, _, _, _⟩ :: _) _ _); refine wp_getG _ (by rfl) 24 (.tmp 11) rfl g11 0 (evc (dV L)) _ rfl X13.whole Tryd.underlying24 rfl zV ?_; simp only [Act.put, List.setIfInBounds_toArray, List.set_cons_zero, List.set_cons_succ]))
      refine (HRV.out w13 t13).mono ?_
      rintro r w14 ⟨rfl, e14⟩
      go_wp2_with fail
      go_ret
      exact ⟨rfl, b13.trans (e14.mono b13.size)⟩
    · have hv : dV L = ev0 := by rw [dV, if_neg hd]
      have hne : ((dE L : Int) != 0) = true := by simp; omega
      have eZ : evEq (dV L) ev0 = true := by rw [hv]; exact evEq_self ev0
      clear hv
      generalize dE L = dEL at *
      generalize dA L = dAL at *
      go_wp2_with (first
        | ((with_reducible show wpList _ _ _ (⟨some 11, _, _, _, _, _⟩ :: _) _ _); refine wp_new _ rfl 24 rfl _ y24 ?_; intro w11 g11 hB11 hf11; simp only [Act.put, List.setIfInBounds_toArray, List.set_cons_zero, List.set_cons_succ])
        | ((with_reducible show wpList _ _ _ (⟨none, .store 24 (.tmp 11) _, _, _, _, _⟩ :: _) _ _); refine wp_putAll _ rfl 24 (.tmp 11) (.tmp 53) rfl g11 24 _ (evc (dV L)) rfl rfl hB11 hlV zV oV ?_; intro w12 hX12 hU12; simp only [Act.put])
        | ((with_reducible show wpList _ _ _ (⟨some 60, _, _, _, _, _⟩ :: _) _ _); refine wp_getG _ (by rfl) 24 (.tmp 11) rfl g11 0 (evc (dV L)) _ rfl hX12.whole Tryd.underlying24 rfl zV ?_; simp only [Act.put, List.setIfInBounds_toArray, List.set_cons_zero, List.set_cons_succ])
        | ((with_reducible show wpList _ _ _ (⟨some 61, _, _, _, _, _⟩ :: _) _ _); refine wp_zeroG _ (by rfl) rfl ?_; simp only [Act.put, List.setIfInBounds_toArray, List.set_cons_zero, List.set_cons_succ])
        | ((with_reducible show wpList _ _ _ (⟨some 62, _, _, _, _, _⟩ :: _) _ _); refine wp_eqE _ (by rfl) (.tmp 60) (.tmp 61) rfl (dV L) ev0 vok ev0_ok rfl rfl true eZ ?_; simp only [Act.put, List.setIfInBounds_toArray, List.set_cons_zero, List.set_cons_succ]))
      have b12 : Below w.heap.size w w12 := (b10.trans (hf11.below.mono b10.size)).trans (hU12.below (by have := hf11.is; have := b10.size; omega))
      go_ret
      exact ⟨rfl, b12⟩
end Go.Proofs.YtjgcodnabgkjoaaDoor
