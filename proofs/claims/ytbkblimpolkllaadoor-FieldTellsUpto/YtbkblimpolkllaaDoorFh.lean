/-
  The laws' helpers few and of. No condition but sizes.
-/
import Derived.Test.YtbkblimpolkllaaDoorFf
import Derived.Test.YtbkblimpolkllaaDoorFn
import Derived.OrdersHeld
import Derived.BigQuiet
namespace Go.Proofs.YtbkblimpolkllaaDoor
open Go.RowKit
set_option linter.unusedVariables false

/-- append of headers inside a region that draws its order. -/
theorem step_appF {ops : Array Oper} {o : Oper} {a : Act} {K : Act → World → Prop} {Q : Exit → Act → World → Prop} {E : Prop} (w : World) (hgd : o.guard = none) (s x : Operand) (S T : TypeId)
    (ho : o.op = .call { callee := .builtin .append, args := #[s, x], argTypes := #[S, S] })
    (hS : Tryd.prog.underlying S = some (.slice T)) (hT : (Tryd.prog.info? T).map (fun i => (i.zero, i.size, i.bytes)) = some (some (.agg #[.string ⟨#[]⟩, .string ⟨#[]⟩]), 2, 32))
    (base : Nat) (v : Value) (n : Nat) (fs : List (List UInt8 × List UInt8)) (hs : a.eval s = v) (hown : OwnF T w base v n fs)
    (B : Nat) (A : Option Addr) (m c : Nat) (gs : List (List UInt8 × List UInt8)) (hx : a.eval x = .slice A m c) (hr : Fs w B A m gs) (hsz : n + m ≤ 1000000000) (hbase : base ≤ w.heap.size)
    (N : Nat) (hN : n + m = N)
    (h : ∀ A' c' w', N ≤ c' → c' ≤ maxLen → OwnF T w' base (.slice A' N c') N (fs ++ gs) → Below base w w' → K (a.put o.dst (.slice A' N c')) w') :
    if Region.wanted o (yielded ops a.tmps) = true then Oper.wp Tryd.prog o a w K Q else E := by
  have hw : Region.wanted o (yielded ops a.tmps) = true := by simp [Region.wanted, hgd]
  rw [if_pos hw]
  subst hN
  obtain ⟨v', w', hrun, h2, h3, h5⟩ := run_appF S T hS hT w base o.type v n fs hown B A m c gs hr hsz hbase
  obtain ⟨A', c', rfl, hc, hm, _⟩ := h2.form
  unfold Oper.wp execOp
  simp only [ho, resolve, invoke, builtin, Sem.run_bind, Sem.run_pure, Result.andThen_ok, List.map_toArray, List.map_cons, List.map_nil, hs, hx, hrun]
  exact h A' c' w' hc hm h2 h3
set_option maxHeartbeats 4000000 in
set_option maxRecDepth 100000 in
theorem few_any (fs : List (List UInt8 × List UInt8)) (A : Option Addr) (n c : Nat) (w : World) (hc : n ≤ c) (hc2 : c ≤ 9223372036854775807) (hf : Fs w w.heap.size A n fs) : Calls Tryd.prog 6 #[.slice A n c] w fun e w' => ∃ A' c', e = .returned (.slice A' (fs.take 100).length c') ∧ (fs.take 100).length ≤ c' ∧ c' ≤ 9223372036854775807 ∧ Fs w' w'.heap.size A' (fs.take 100).length (fs.take 100) ∧ Below w.heap.size w w' := by
  obtain ⟨k, hk⟩ : ∃ k, k = (fs.take 100).length := ⟨_, rfl⟩
  have hkn : k ≤ n := by rw [hk, List.length_take, hf.1]; omega
  have hmin : min (n : Int) 100 = (k : Int) := by rw [hk, List.length_take, hf.1]; omega
  have hk1 : k ≤ 100 := by rw [hk, List.length_take]; omega
  have HFk : Hid (Fs w w.heap.size A k (fs.take 100)) := by
    have h := hf.take k hkn
    rw [hk, List.length_take, ← List.take_take, List.take_length] at h
    rw [hk, List.length_take]
    exact h
  rw [← hk]
  have hkn2 : (k : Int) ≤ (c : Int) := by omega
  clear hk hf
  go_enter Tryd.func6, Tryd.ntmps6
  go_wp2_with ((with_reducible show wpList _ _ _ (⟨some 9, .call _, _, _, _, _⟩ :: _) _ _); refine wp_appF _ rfl _ _ 22 42 rfl Tryd.underlying22 fd_info w.heap.size _ 0 [] rfl (ownF_made 42 w w.heap.size (Nat.le_refl _)) w.heap.size A k c (fs.take 100) rfl (HFk.out.below ((Below.refl _ w).alloc (Nat.le_refl _) _)) (by omega) (by simp) k (Nat.zero_add _) ?_; intro A7 c7 w7 hc7 hcm7 hown7 hb7 hgr7; simp only [Act.put, List.setIfInBounds_toArray, List.set_cons_zero, List.set_cons_succ])
  go_ret
  obtain ⟨A8, c8, he, _, _, hfs⟩ := hown7.form
  cases he
  exact ⟨A7, c7, rfl, hc7, hcm7, hfs, ((Below.refl _ w).alloc (Nat.le_refl _) _).trans hb7⟩
set_option maxHeartbeats 4000000 in
set_option maxRecDepth 100000 in
theorem of_any (fs : List (List UInt8 × List UInt8)) (A : Option Addr) (c : Nat) (w : World) (hn : fs.length ≤ 1000) (hf : Fs w w.heap.size A fs.length fs) : Calls Tryd.prog 7 #[.slice A fs.length c] w fun e w' => ∃ A' c', e = .returned (.slice A' fs.length c') ∧ OwnF 47 w' w.heap.size (.slice A' fs.length c') fs.length fs ∧ Below w.heap.size w w' := by
  have HF := Lib.hid hf
  have HE : Hid (fs.take fs.length = fs) := List.take_length
  obtain ⟨S, hS⟩ : ∃ S, S = fs.length := ⟨_, rfl⟩
  rw [← hS] at hn HF HE ⊢
  have HT : Hid (∀ (k : Nat) f, fs[k]? = some f → fs.take k ++ [f] = fs.take (k + 1)) := fun k f h => (take_snoc fs k f h).symm
  clear hf hS
  go_enter Tryd.func7, Tryd.ntmps7
  go_wp2_with fail
  go_loopw [4, 3] (fun i o wr => ∃ (k : Nat) (A1 : Option Addr) (c1 : Nat), k ≤ S ∧ i = .int .i64 (k : Int) ∧ o = .slice A1 k c1 ∧ OwnF 47 wr w.heap.size (.slice A1 k c1) k (fs.take k) ∧ Kept w wr) (fun i _ _ => S - (intOf i).toNat)
  case atStart => exact ⟨0, _, _, by omega, rfl, rfl, ownF_nil _ _ _, Kept.refl w⟩
  case round =>
    obtain ⟨k, A1, c1, hk, rfl, rfl, hof, hkp⟩ := hrel
    have HO := Lib.hid hof
    have HKw := Lib.hid hkp
    have Hk9 : Hid (k ≤ 1000) := by show _ ≤ _; omega
    clear hof hkp
    by_cases hlt : k < S
    · have hkS : (k : Int) < (S : Int) := by omega
      obtain ⟨b, off, f, rfl, hb, hfk, h0, h1⟩ := HF.out.at_ hlt
      have HTk := Lib.hid (HT.out k f hfk)
      obtain ⟨p, q⟩ := f
      have HC0 := Lib.hid h0
      have HC1 := Lib.hid h1
      have hbl : Hid (b < w.heap.size) := hb
      clear hb hfk h0 h1
      go_wp2_with fail
      refine wp_region_held_drew (S := fun W => Kept w W) (by kernel_rfl) (HKw.out.drew) (fun hS => ?_)
      refine wpAnyH_take (i := 0) (oi := ⟨some 11, _, _, _, _, _⟩) (v := ?vb0) rfl (by kernel_rfl) (by kernel_rfl) (by kernel_rfl) (fun _ _ _ h => h) (Or.inl ⟨by rfl, ?yb0⟩) hS ?rb0
      case yb0 => intro W hW; go_simp; first | done | with_reducible rfl
      simp only [Act.put, List.setIfInBounds_toArray, List.set_cons_zero, List.set_cons_succ]
      refine wpAnyH_take (i := 1) (oi := ⟨some 12, _, _, _, _, _⟩) (v := ?vb1) rfl (by kernel_rfl) (by kernel_rfl) (by kernel_rfl) (fun _ _ _ h => h) (Or.inl ⟨by rfl, ?yb1⟩) hS ?rb1
      case yb1 => intro W hW; go_simp; first | done | with_reducible rfl
      simp only [Act.put, List.setIfInBounds_toArray, List.set_cons_zero, List.set_cons_succ]
      refine wpAnyH_take (i := 2) (oi := ⟨some 13, _, _, _, _, _⟩) (v := ?vb2) rfl (by kernel_rfl) (by kernel_rfl) (by kernel_rfl) (fun _ _ _ h => h) (Or.inl ⟨by rfl, ?yb2⟩) hS ?rb2
      case yb2 => intro W hW; go_simp; first | done | with_reducible rfl
      simp only [Act.put, List.setIfInBounds_toArray, List.set_cons_zero, List.set_cons_succ]
      refine wpAnyH_take (i := 3) (oi := ⟨some 14, _, _, _, _, _⟩) (v := ?vb3) rfl (by kernel_rfl) (by kernel_rfl) (by kernel_rfl) (fun _ _ _ h => h) (Or.inl ⟨by rfl, ?yb3⟩) hS ?rb3
      case yb3 => intro W hW; go_simp; first | done | with_reducible rfl
      simp only [Act.put, List.setIfInBounds_toArray, List.set_cons_zero, List.set_cons_succ]
      refine wpAnyH_take (i := 4) (oi := ⟨some 15, _, _, _, _, _⟩) (v := ?vb4) rfl (by kernel_rfl) (by kernel_rfl) (by kernel_rfl) (fun _ _ _ h => h) (Or.inl ⟨by rfl, ?yb4⟩) hS ?rb4
      case yb4 => intro W hW; go_simp; first | done | with_reducible rfl
      simp only [Act.put, List.setIfInBounds_toArray, List.set_cons_zero, List.set_cons_succ]
      refine wpAnyH_take (i := 5) (oi := ⟨some 16, _, _, _, _, _⟩) (v := ?vb5) rfl (by kernel_rfl) (by kernel_rfl) (by kernel_rfl) (fun _ _ _ h => h) (Or.inl ⟨by rfl, ?yb5⟩) hS ?rb5
      case yb5 => intro W hW; have d0 : W.cell? ⟨b, off + k * 2, none⟩ = some (.string (str p)) := (hW.cell (p := ⟨b, off + k * 2, none⟩) hbl.out).trans HC0.out; go_simp; first | done | with_reducible rfl
      simp only [Act.put, List.setIfInBounds_toArray, List.set_cons_zero, List.set_cons_succ]
      refine wpAnyH_take (i := 6) (oi := ⟨some 17, _, _, _, _, _⟩) (v := ?vb6) rfl (by kernel_rfl) (by kernel_rfl) (by kernel_rfl) (fun _ _ _ h => h) (Or.inl ⟨by rfl, ?yb6⟩) hS ?rb6
      case yb6 => intro W hW; go_simp; first | done | with_reducible rfl
      simp only [Act.put, List.setIfInBounds_toArray, List.set_cons_zero, List.set_cons_succ]
      refine wpAnyH_take (i := 7) (oi := ⟨some 18, _, _, _, _, _⟩) (v := ?vb7) rfl (by kernel_rfl) (by kernel_rfl) (by kernel_rfl) (fun _ _ _ h => h) (Or.inl ⟨by rfl, ?yb7⟩) hS ?rb7
      case yb7 => intro W hW; go_simp; first | done | with_reducible rfl
      simp only [Act.put, List.setIfInBounds_toArray, List.set_cons_zero, List.set_cons_succ]
      refine wpAnyH_take (i := 8) (oi := ⟨some 19, _, _, _, _, _⟩) (v := ?vb8) rfl (by kernel_rfl) (by kernel_rfl) (by kernel_rfl) (fun _ _ _ h => h) (Or.inl ⟨by rfl, ?yb8⟩) hS ?rb8
      case yb8 => intro W hW; go_simp; first | done | with_reducible rfl
      simp only [Act.put, List.setIfInBounds_toArray, List.set_cons_zero, List.set_cons_succ]
      refine wpAnyH_take (i := 9) (oi := ⟨some 20, _, _, _, _, _⟩) (v := ?vb9) rfl (by kernel_rfl) (by kernel_rfl) (by kernel_rfl) (fun _ _ _ h => h) (Or.inl ⟨by rfl, ?yb9⟩) hS ?rb9
      case yb9 => intro W hW; go_simp; first | done | with_reducible rfl
      simp only [Act.put, List.setIfInBounds_toArray, List.set_cons_zero, List.set_cons_succ]
      refine wpAnyH_take (i := 10) (oi := ⟨some 21, _, _, _, _, _⟩) (v := ?vb10) rfl (by kernel_rfl) (by kernel_rfl) (by kernel_rfl) (fun _ _ _ h => h) (Or.inl ⟨by rfl, ?yb10⟩) hS ?rb10
      case yb10 => intro W hW; have d1 : W.cell? ⟨b, off + k * 2 + 1, none⟩ = some (.string (str q)) := (hW.cell (p := ⟨b, off + k * 2 + 1, none⟩) hbl.out).trans HC1.out; go_simp; first | done | with_reducible rfl
      simp only [Act.put, List.setIfInBounds_toArray, List.set_cons_zero, List.set_cons_succ]
      refine wpAnyH_take (i := 11) (oi := ⟨some 22, _, _, _, _, _⟩) (v := ?vb11) rfl (by kernel_rfl) (by kernel_rfl) (by kernel_rfl) (fun _ _ _ h => h) (Or.inl ⟨by rfl, ?yb11⟩) hS ?rb11
      case yb11 => intro W hW; go_simp; first | done | with_reducible rfl
      simp only [Act.put, List.setIfInBounds_toArray, List.set_cons_zero, List.set_cons_succ]
      refine wpAnyH_ready (rs := [12]) (by kernel_rfl) (by simp) ?_
      refine (AllReadyH.cons (o := ⟨some 23, _, _, _, _, _⟩) rfl (fun K hK => ?_) AllReadyH.nil)
      go_simp
      refine hK.out _ _ (hS.alloc _) (fun hSn => ?_)
      clear hK K hS
      have hS := hSn
      clear hSn
      try simp only [Act.put, List.setIfInBounds_toArray, List.set_cons_zero, List.set_cons_succ]
      refine wpAnyH_ready (rs := [13]) (by kernel_rfl) (by simp) ?_
      refine (AllReadyH.cons (o := ⟨some 24, _, _, _, _, _⟩) rfl (fun K hK => ?_) AllReadyH.nil)
      refine step_appF _ rfl _ _ 25 47 rfl Tryd.underlying25 rd_info w.heap.size _ k (fs.take k) rfl ((OwnF.kept HO.out (Below.refl _ _).drew).alloc _) (wr.drew.heap.size + 1) _ 1 1 [(p, q)] rfl (Fs.one _ _ _ _ _ rfl) (by have := Hk9.out; omega) (Nat.le_trans HKw.out.size (by simp)) (k + 1) rfl ?_
      intro A7 c7 w7 hc7 hcm7 hown7 hb7
      refine hK.out _ _ (hS.base hb7) (fun hSn => ?_)
      clear hK K hS
      have hS := hSn
      clear hSn
      try simp only [Act.put, List.setIfInBounds_toArray, List.set_cons_zero, List.set_cons_succ]
      have HO7 := Lib.hid hown7
      have HKw7 := Lib.hid (((HKw.out.drew).alloc _).base hb7)
      clear hc7 hcm7 hown7 hb7
      refine wpAnyH_take (i := 14) (oi := ⟨some 3, _, _, _, _, _⟩) (v := ?vb14) rfl (by kernel_rfl) (by kernel_rfl) (by kernel_rfl) (fun _ _ _ h => h) (Or.inl ⟨by rfl, ?yb14⟩) hS ?rb14
      case yb14 => intro W hW; go_simp; first | done | with_reducible rfl
      simp only [Act.put, List.setIfInBounds_toArray, List.set_cons_zero, List.set_cons_succ]
      refine wpAnyH_done (by kernel_rfl) ?_ _
      go_wp2_with fail
      go_roundw
      case rel => exact ⟨k + 1, A7, c7, by omega, by go_num, rfl, by rw [← HTk.out]; exact HO7.out, HKw7.out⟩
      case measure => simp [intOf]; omega
    · have hkS : ¬ (k : Int) < (S : Int) := by omega
      have hke : Hid (k = S) := by show _ = _; omega
      go_wp2_with fail
      go_ret
      have ho := HO.out
      rw [hke.out, HE.out] at ho
      exact ⟨A1, c1, by rw [hke.out]; rfl, ho, HKw.out⟩
end Go.Proofs.YtbkblimpolkllaaDoor
