/-
  SafeLists walked. Condition: texts of at most 140737488351232 bytes.
-/
import Derived.Test.YtonchnmcklgpoaaGreatDoorZd
import Derived.OrdersHeld
import Derived.BigQuiet
namespace Go.Proofs.YtonchnmcklgpoaaGreatDoor
open Go.RowKit
set_option linter.unusedVariables false

/-- append of headers inside a region that draws its order. -/
theorem step_appF {ops : Array Oper} {o : Oper} {a : Act} {K : Act → World → Prop} {Q : Exit → Act → World → Prop} {E : Prop} (w : World) (hgd : o.guard = none) (s x : Operand) (S T : TypeId)
    (ho : o.op = .call { callee := .builtin .append, args := #[s, x], argTypes := #[S, S] })
    (hS : Tryz.prog.underlying S = some (.slice T)) (hT : (Tryz.prog.info? T).map (fun i => (i.zero, i.size, i.bytes)) = some (some (.agg #[.string ⟨#[]⟩, .string ⟨#[]⟩]), 2, 32))
    (base : Nat) (v : Value) (n : Nat) (fs : List (List UInt8 × List UInt8)) (hs : a.eval s = v) (hown : OwnF T w base v n fs)
    (B : Nat) (A : Option Addr) (m c : Nat) (gs : List (List UInt8 × List UInt8)) (hx : a.eval x = .slice A m c) (hr : Fs w B A m gs) (hsz : n + m ≤ 1000000000) (hbase : base ≤ w.heap.size)
    (N : Nat) (hN : n + m = N)
    (h : ∀ A' c' w', N ≤ c' → c' ≤ maxLen → OwnF T w' base (.slice A' N c') N (fs ++ gs) → Below base w w' → K (a.put o.dst (.slice A' N c')) w') :
    if Region.wanted o (yielded ops a.tmps) = true then Oper.wp Tryz.prog o a w K Q else E := by
  have hw : Region.wanted o (yielded ops a.tmps) = true := by simp [Region.wanted, hgd]
  rw [if_pos hw]
  subst hN
  obtain ⟨v', w', hrun, h2, h3, h5⟩ := run_appF S T hS hT w base o.type v n fs hown B A m c gs hr hsz hbase
  obtain ⟨A', c', rfl, hc, hm, _⟩ := h2.form
  unfold Oper.wp execOp
  simp only [ho, resolve, invoke, builtin, Sem.run_bind, Sem.run_pure, Result.andThen_ok, List.map_toArray, List.map_cons, List.map_nil, hs, hx, hrun]
  exact h A' c' w' hc hm h2 h3
set_option maxHeartbeats 4000000 in
set_option maxRecDepth 100000 in
theorem lists_any (A0 : Option Addr) (n c : Nat) (fs : List (List UInt8 × List UInt8)) (w : World) (hc : n ≤ c) (hc2 : c ≤ 9223372036854775807) (hf : Fs w w.heap.size A0 n fs) (hN : ∀ f ∈ fs, f.1.length ≤ 140737488351232 ∧ f.2.length ≤ 140737488351232) : Calls Tryz.prog 4 #[.slice A0 n c] w fun e w' => e = .returned (.bool true) ∧ Below w.heap.size w w' := by
  have HSh : Hid (∀ w', Calls Tryz.prog 5 #[] w' fun e w2 => e = .returned (.bool true) ∧ Below w'.heap.size w' w2) := fun w' => shown_any w'
  obtain ⟨L, hL⟩ : ∃ L, L = fs.take 100 := ⟨_, rfl⟩
  obtain ⟨S, hS⟩ : ∃ k, k = L.length := ⟨_, rfl⟩
  have hk2 : S = (fs.take 100).length := by rw [hS, hL]
  have hkn : S ≤ n := by rw [hk2, List.length_take, hf.1]; omega
  have hmin : min (n : Int) 100 = (S : Int) := by rw [hk2, List.length_take, hf.1]; omega
  have hk1 : S ≤ 100 := by rw [hk2, List.length_take]; omega
  have HF : Hid (Fs w w.heap.size A0 S L) := by
    have h := hf.take S hkn
    rw [hk2, List.length_take, ← List.take_take, List.take_length] at h
    rw [hk2, List.length_take, hL]
    exact h
  have hNL : ∀ f ∈ L, f.1.length ≤ 9223372036854775807 ∧ f.2.length ≤ 9223372036854775807 := fun f hm => by
    have h := hN f (by rw [hL] at hm; exact List.mem_of_mem_take hm)
    exact ⟨Nat.le_trans h.1 (by decide), Nat.le_trans h.2 (by decide)⟩
  have hkc : (S : Int) ≤ (c : Int) := by omega
  have HE : Hid (L.take S = L) := by show _ = _; rw [hS, List.take_length]
  have HT : Hid (∀ (k : Nat) f, L[k]? = some f → L.take k ++ [f] = L.take (k + 1)) := fun k f h => (take_snoc L k f h).symm
  obtain ⟨na, hna⟩ : ∃ na, na = (uns L).length := ⟨_, rfl⟩
  have hna1 : na ≤ 100 := by
    have h1 : (uns L).length ≤ L.length := by
      by_cases h : 1024 < sz L
      · rw [uns, if_pos h]; exact nms_len _
      · rw [uns, if_neg h]; exact Nat.le_trans (nms_len _) (ask_len _)
    omega
  have HU1 : Hid (∀ A c w', Fs w' w'.heap.size A S L → Calls Tryz.prog 17 #[.slice A S c] w' fun e w2 => ∃ A' c', e = .returned (.slice A' na c') ∧ na ≤ c' ∧ Tw w2 A' na (uns L) ∧ Below w'.heap.size w' w2) := fun A c w' h => by
    have h2 := unsafe_any L A c w' (by omega) (by rw [← hS]; exact h) hNL
    rw [← hS, ← hna] at h2
    exact h2.mono fun e w2 ⟨A', c', e1, ho, hb⟩ => ⟨A', c', e1, (Tw.of ho).2, (Tw.of ho).1, hb⟩
  have HU2 : Hid (∀ A c w', Fs w' w'.heap.size A S L → Calls Tryz.prog 18 #[.slice A S c] w' fun e w2 => ∃ A' c', e = .returned (.slice A' na c') ∧ na ≤ c' ∧ Tw w2 A' na (uns L) ∧ Below w'.heap.size w' w2) := fun A c w' h => by
    have h2 := runsafe_any L A c w' (by omega) (by rw [← hS]; exact h) hNL
    rw [← hS, ← hna] at h2
    exact h2.mono fun e w2 ⟨A', c', e1, ho, hb⟩ => ⟨A', c', e1, (Tw.of ho).2, (Tw.of ho).1, hb⟩
  have HSm : Hid (∀ A B c d w', Tw w' A na (uns L) → Tw w' B na (uns L) → na ≤ c → na ≤ d → Calls Tryz.prog 16 #[.slice A na c, .slice B na d] w' fun e w2 => e = .returned (.bool true) ∧ Below w'.heap.size w' w2) := fun A B c d w' h1 h2 h3 h4 => by
    have h := same_any (uns L) (uns L) A B c d w' h1.2 h2.2 (by omega) (by omega) (by omega)
    rw [decide_eq_true rfl, ← hna] at h
    exact h
  generalize uns L = UA at *
  clear hL hS hk2 hkn hf hna hN hNL
  go_enter Tryz.func4, Tryz.ntmps4
  go_wp2_with (first | (go_at_call 5; (with_reducible refine (HSh.out _).mono ?_); (rintro e w1 ⟨rfl, hb⟩); have HB1 := Lib.hid hb; clear hb HSh))
  go_loopw [5, 4] (fun i o wr => ∃ (k : Nat) (A1 : Option Addr) (c1 : Nat), k ≤ S ∧ i = .int .i64 (k : Int) ∧ o = .slice A1 k c1 ∧ OwnF 29 wr w.heap.size (.slice A1 k c1) k (L.take k) ∧ Kept w wr) (fun i _ _ => S - (intOf i).toNat)
  case atStart => exact ⟨0, _, _, by omega, rfl, rfl, ownF_nil _ _ _, HB1.out⟩
  case round =>
    obtain ⟨k, A1, c1, hk, rfl, rfl, hof, hkp⟩ := hrel
    have HO := Lib.hid hof
    have HKw := Lib.hid hkp
    have Hk9 : Hid (k ≤ 1000) := by show _ ≤ _; omega
    clear hof hkp
    by_cases hlt : k < S
    · have hkS : (k : Int) < (S : Int) := by omega
      obtain ⟨b, off, f, rfl, hb, hfk, h0, h1⟩ := HF.out.at_ hlt
      have HTk := Lib.hid (HT.out k f hfk)
      obtain ⟨p, q⟩ := f
      have HC0 := Lib.hid h0
      have HC1 := Lib.hid h1
      have hbl : Hid (b < w.heap.size) := hb
      clear hb hfk h0 h1
      go_wp2_with fail
      refine wp_region_held_drew (S := fun W => Kept w W) (by kernel_rfl) (HKw.out.drew) (fun hS => ?_)
      refine wpAnyH_take (i := 0) (oi := ⟨some 18, _, _, _, _, _⟩) (v := ?vb0) rfl (by kernel_rfl) (by kernel_rfl) (by kernel_rfl) (fun _ _ _ h => h) (Or.inl ⟨by rfl, ?yb0⟩) hS ?rb0
      case yb0 => intro W hW; go_simp; first | done | with_reducible rfl
      simp only [Act.put, List.setIfInBounds_toArray, List.set_cons_zero, List.set_cons_succ]
      refine wpAnyH_take (i := 1) (oi := ⟨some 19, _, _, _, _, _⟩) (v := ?vb1) rfl (by kernel_rfl) (by kernel_rfl) (by kernel_rfl) (fun _ _ _ h => h) (Or.inl ⟨by rfl, ?yb1⟩) hS ?rb1
      case yb1 => intro W hW; go_simp; first | done | with_reducible rfl
      simp only [Act.put, List.setIfInBounds_toArray, List.set_cons_zero, List.set_cons_succ]
      refine wpAnyH_take (i := 2) (oi := ⟨some 20, _, _, _, _, _⟩) (v := ?vb2) rfl (by kernel_rfl) (by kernel_rfl) (by kernel_rfl) (fun _ _ _ h => h) (Or.inl ⟨by rfl, ?yb2⟩) hS ?rb2
      case yb2 => intro W hW; go_simp; first | done | with_reducible rfl
      simp only [Act.put, List.setIfInBounds_toArray, List.set_cons_zero, List.set_cons_succ]
      refine wpAnyH_take (i := 3) (oi := ⟨some 21, _, _, _, _, _⟩) (v := ?vb3) rfl (by kernel_rfl) (by kernel_rfl) (by kernel_rfl) (fun _ _ _ h => h) (Or.inl ⟨by rfl, ?yb3⟩) hS ?rb3
      case yb3 => intro W hW; go_simp; first | done | with_reducible rfl
      simp only [Act.put, List.setIfInBounds_toArray, List.set_cons_zero, List.set_cons_succ]
      refine wpAnyH_take (i := 4) (oi := ⟨some 22, _, _, _, _, _⟩) (v := ?vb4) rfl (by kernel_rfl) (by kernel_rfl) (by kernel_rfl) (fun _ _ _ h => h) (Or.inl ⟨by rfl, ?yb4⟩) hS ?rb4
      case yb4 => intro W hW; go_simp; first | done | with_reducible rfl
      simp only [Act.put, List.setIfInBounds_toArray, List.set_cons_zero, List.set_cons_succ]
      refine wpAnyH_take (i := 5) (oi := ⟨some 23, _, _, _, _, _⟩) (v := ?vb5) rfl (by kernel_rfl) (by kernel_rfl) (by kernel_rfl) (fun _ _ _ h => h) (Or.inl ⟨by rfl, ?yb5⟩) hS ?rb5
      case yb5 => intro W hW; have d0 : W.cell? ⟨b, off + k * 2, none⟩ = some (.string (str p)) := (hW.cell (p := ⟨b, off + k * 2, none⟩) hbl.out).trans HC0.out; go_simp; first | done | with_reducible rfl
      simp only [Act.put, List.setIfInBounds_toArray, List.set_cons_zero, List.set_cons_succ]
      refine wpAnyH_take (i := 6) (oi := ⟨some 24, _, _, _, _, _⟩) (v := ?vb6) rfl (by kernel_rfl) (by kernel_rfl) (by kernel_rfl) (fun _ _ _ h => h) (Or.inl ⟨by rfl, ?yb6⟩) hS ?rb6
      case yb6 => intro W hW; go_simp; first | done | with_reducible rfl
      simp only [Act.put, List.setIfInBounds_toArray, List.set_cons_zero, List.set_cons_succ]
      refine wpAnyH_take (i := 7) (oi := ⟨some 25, _, _, _, _, _⟩) (v := ?vb7) rfl (by kernel_rfl) (by kernel_rfl) (by kernel_rfl) (fun _ _ _ h => h) (Or.inl ⟨by rfl, ?yb7⟩) hS ?rb7
      case yb7 => intro W hW; go_simp; first | done | with_reducible rfl
      simp only [Act.put, List.setIfInBounds_toArray, List.set_cons_zero, List.set_cons_succ]
      refine wpAnyH_take (i := 8) (oi := ⟨some 26, _, _, _, _, _⟩) (v := ?vb8) rfl (by kernel_rfl) (by kernel_rfl) (by kernel_rfl) (fun _ _ _ h => h) (Or.inl ⟨by rfl, ?yb8⟩) hS ?rb8
      case yb8 => intro W hW; go_simp; first | done | with_reducible rfl
      simp only [Act.put, List.setIfInBounds_toArray, List.set_cons_zero, List.set_cons_succ]
      refine wpAnyH_take (i := 9) (oi := ⟨some 27, _, _, _, _, _⟩) (v := ?vb9) rfl (by kernel_rfl) (by kernel_rfl) (by kernel_rfl) (fun _ _ _ h => h) (Or.inl ⟨by rfl, ?yb9⟩) hS ?rb9
      case yb9 => intro W hW; go_simp; first | done | with_reducible rfl
      simp only [Act.put, List.setIfInBounds_toArray, List.set_cons_zero, List.set_cons_succ]
      refine wpAnyH_take (i := 10) (oi := ⟨some 28, _, _, _, _, _⟩) (v := ?vb10) rfl (by kernel_rfl) (by kernel_rfl) (by kernel_rfl) (fun _ _ _ h => h) (Or.inl ⟨by rfl, ?yb10⟩) hS ?rb10
      case yb10 => intro W hW; have d1 : W.cell? ⟨b, off + k * 2 + 1, none⟩ = some (.string (str q)) := (hW.cell (p := ⟨b, off + k * 2 + 1, none⟩) hbl.out).trans HC1.out; go_simp; first | done | with_reducible rfl
      simp only [Act.put, List.setIfInBounds_toArray, List.set_cons_zero, List.set_cons_succ]
      refine wpAnyH_take (i := 11) (oi := ⟨some 29, _, _, _, _, _⟩) (v := ?vb11) rfl (by kernel_rfl) (by kernel_rfl) (by kernel_rfl) (fun _ _ _ h => h) (Or.inl ⟨by rfl, ?yb11⟩) hS ?rb11
      case yb11 => intro W hW; go_simp; first | done | with_reducible rfl
      simp only [Act.put, List.setIfInBounds_toArray, List.set_cons_zero, List.set_cons_succ]
      refine wpAnyH_ready (rs := [12]) (by kernel_rfl) (by simp) ?_
      refine (AllReadyH.cons (o := ⟨some 30, _, _, _, _, _⟩) rfl (fun K hK => ?_) AllReadyH.nil)
      go_simp
      refine hK.out _ _ (hS.alloc _) (fun hSn => ?_)
      clear hK K hS
      have hS := hSn
      clear hSn
      try simp only [Act.put, List.setIfInBounds_toArray, List.set_cons_zero, List.set_cons_succ]
      refine wpAnyH_ready (rs := [13]) (by kernel_rfl) (by simp) ?_
      refine (AllReadyH.cons (o := ⟨some 31, _, _, _, _, _⟩) rfl (fun K hK => ?_) AllReadyH.nil)
      refine step_appF _ rfl _ _ 26 29 rfl Tryz.underlying26 rd_info w.heap.size _ k (L.take k) rfl ((OwnF.kept HO.out (Below.refl _ _).drew).alloc _) (wr.drew.heap.size + 1) _ 1 1 [(p, q)] rfl (Fs.one _ _ _ _ _ rfl) (by have := Hk9.out; omega) (Nat.le_trans HKw.out.size (by simp)) (k + 1) rfl ?_
      intro A7 c7 w7 hc7 hcm7 hown7 hb7
      refine hK.out _ _ (hS.base hb7) (fun hSn => ?_)
      clear hK K hS
      have hS := hSn
      clear hSn
      try simp only [Act.put, List.setIfInBounds_toArray, List.set_cons_zero, List.set_cons_succ]
      have HO7 := Lib.hid hown7
      have HKw7 := Lib.hid (((HKw.out.drew).alloc _).base hb7)
      clear hc7 hcm7 hown7 hb7
      refine wpAnyH_take (i := 14) (oi := ⟨some 4, _, _, _, _, _⟩) (v := ?vb14) rfl (by kernel_rfl) (by kernel_rfl) (by kernel_rfl) (fun _ _ _ h => h) (Or.inl ⟨by rfl, ?yb14⟩) hS ?rb14
      case yb14 => intro W hW; go_simp; first | done | with_reducible rfl
      simp only [Act.put, List.setIfInBounds_toArray, List.set_cons_zero, List.set_cons_succ]
      refine wpAnyH_done (by kernel_rfl) ?_ _
      go_wp2_with fail
      go_roundw
      case rel => exact ⟨k + 1, A7, c7, by omega, by go_num, rfl, by rw [← HTk.out]; exact HO7.out, HKw7.out⟩
      case measure => simp [intOf]; omega
    · have hkS : ¬ (k : Int) < (S : Int) := by omega
      have hke : k = S := by omega
      have ho := HO.out
      rw [hke, HE.out] at ho
      obtain ⟨A8, c8, he8, _, _, hfs8⟩ := ho.form
      cases he8
      have HF8 := Lib.hid hfs8
      have HFw : Hid (Fs wr wr.heap.size A0 S L) := (HF.out.below HKw.out).more HKw.out.size
      subst hke
      clear ho hfs8
      go_wp2_with (first
          | (go_at_call 17; (with_reducible refine (HU1.out _ _ _ HFw.out).mono ?_); (rintro e w3 ⟨Aa, ca, rfl, hca, hta, hb⟩); have HTa := Lib.hid hta; have HK3 := Lib.hid (HKw.out.step hb); have HF83 := Lib.hid (HF8.out.kept hb); have Hca := Lib.hid hca; clear hb hta hca HU1 HF8 HFw)
          | (go_at_call 18; (with_reducible refine (HU2.out _ _ _ HF83.out).mono ?_); (rintro e w4 ⟨Ab, cb, rfl, hcb, htb, hb⟩); have HTb := Lib.hid htb; have HTa4 := Lib.hid (HTa.out.kept hb); have HK4 := Lib.hid (HK3.out.step hb); have Hcb := Lib.hid hcb; clear hb htb hcb HU2 HF83)
          | (go_at_call 16; (with_reducible refine (HSm.out _ _ _ _ _ HTa4.out HTb.out Hca.out Hcb.out).mono ?_); (rintro e w5 ⟨rfl, hb⟩); have HK5 := Lib.hid (HK4.out.step hb); clear hb))
      go_ret
      exact ⟨rfl, HK5.out⟩
end Go.Proofs.YtonchnmcklgpoaaGreatDoor
