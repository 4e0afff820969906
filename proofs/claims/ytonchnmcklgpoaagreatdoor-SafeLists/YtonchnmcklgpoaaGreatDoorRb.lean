/-
  What transeptref10.With answers. No condition but sizes.
-/
import Derived.Test.YtonchnmcklgpoaaGreatDoorFf
import Derived.OrdersHeld
import Derived.BigQuiet
namespace Go.Proofs.YtonchnmcklgpoaaGreatDoor
open Go.RowKit
set_option linter.unusedVariables false

theorem ins_at (s : List UInt8) : ∀ (L : List (List UInt8)) (k : Nat), k ≤ L.length → (∀ j x, j < k → L[j]? = some x → x < s) → (∀ x, L[k]? = some x → ¬ x < s) → ins L s = if L[k]? = some s then L else L.take k ++ [s] ++ L.drop k
  | [], k, hk, _, _ => by
    have : k = 0 := by simpa using hk
    subst this
    simp [ins]
  | x :: r, 0, _, _, h2 => by
    have h3 := h2 x rfl
    simp only [ins, if_neg h3, List.getElem?_cons_zero, Option.some.injEq]
    split <;> simp
  | x :: r, k + 1, hk, h1, h2 => by
    have h3 := h1 0 x (by omega) rfl
    have ih := ins_at s r k (by simpa using hk) (fun j y hj hy => h1 (j + 1) y (by omega) (by simpa using hy)) (fun y hy => h2 y (by simpa using hy))
    simp only [ins, if_pos h3, ih, List.getElem?_cons_succ]
    split <;> simp
/-- The slice '.slice A n c' holds the texts K, in a block below B. -/
def Tvs (w : World) (B : Nat) (A : Option Addr) (n : Nat) (K : List (List UInt8)) : Prop :=
  K.length = n ∧ (0 < n → ∃ g off, A = some ⟨g, off, none⟩ ∧ g < B ∧ ∀ j p, K[j]? = some p → w.cell? ⟨g, off + j, none⟩ = some (vstr p))
theorem Tvs.below {w w' : World} {B n : Nat} {A : Option Addr} {K : List (List UInt8)} (h : Tvs w B A n K) (hb : Below B w w') : Tvs w' B A n K :=
  ⟨h.1, fun hn => by
    obtain ⟨g, off, e, hlt, hc⟩ := h.2 hn
    exact ⟨g, off, e, hlt, fun j p hj => (hb.cell (p := ⟨g, _, none⟩) hlt).trans (hc j p hj)⟩⟩
theorem Tvs.of_own {w : World} {base n c : Nat} {A : Option Addr} {L : List (List UInt8)} (h : OwnT w base (.slice A n c) n L) : Tvs w w.heap.size A n L ∧ n ≤ c ∧ c ≤ 9223372036854775807 := by
  obtain ⟨A2, c2, he, hc, hm, hf⟩ := h.form
  cases he
  refine ⟨⟨h.len, fun hn => ?_⟩, hc, hm⟩
  obtain ⟨g, rfl, _, hg, hcell⟩ := hf (by omega)
  exact ⟨g, 0, rfl, hg, fun j p hj => by rw [Nat.zero_add]; exact hcell j p hj⟩
theorem Tvs.take {w : World} {B n : Nat} {A : Option Addr} {K : List (List UInt8)} (h : Tvs w B A n K) (k : Nat) (hk : k ≤ n) : Tvs w B A k (K.take k) := by
  refine ⟨by rw [List.length_take, h.1]; omega, fun hn => ?_⟩
  obtain ⟨g, off, e, hg, hc⟩ := h.2 (by omega)
  refine ⟨g, off, e, hg, fun j p hj => hc j p ?_⟩
  rw [List.getElem?_take] at hj
  split at hj
  · exact hj
  · cases hj
theorem Tvs.cut {w : World} {B n : Nat} {A : Option Addr} {K : List (List UInt8)} (h : Tvs w B A n K) {k cap : Nat} (hk : k ≤ n) (hc : n ≤ cap) : Tvs w B (if cap = k then A else A.map (·.add k)) (n - k) (K.drop k) := by
  refine ⟨by rw [List.length_drop, h.1], fun hn => ?_⟩
  obtain ⟨b, off, rfl, hb, hcell⟩ := h.2 (by omega)
  rw [if_neg (by omega)]
  refine ⟨b, off + k, by simp [Addr.add_lit], hb, fun j p hj => ?_⟩
  rw [Nat.add_assoc]
  exact hcell _ p (by rw [← hj, List.getElem?_drop])
theorem run_appV (w : World) (base : Nat) (ty : TypeId) (v : Value) (n : Nat) (L : List (List UInt8)) (hown : OwnT w base v n L) (B : Nat) (A : Option Addr) (m c : Nat) (K : List (List UInt8)) (hr : Tvs w B A m K) (hs : n + m ≤ 1000000000) (hbase : base ≤ w.heap.size) :
    ∃ v' w', (Builtin.append_ #[31, 31] ty #[v, .slice A m c]).run Tryz.prog w = .ok v' w' ∧ OwnT w' base v' (n + m) (L ++ K) ∧ Below base w w' ∧ w.grownBy w' v.ownBlock := by
  obtain ⟨i, hi, hz, h1, h2⟩ := info_parts text_info
  by_cases hm : m = 0
  · subst hm
    have hg : K = [] := List.eq_nil_of_length_eq_zero hr.1
    subst hg
    refine ⟨v, w, ?_, by simpa using hown, Below.refl _ _, ⟨rfl, rfl, rfl, Nat.le_refl _, fun _ _ _ => rfl⟩⟩
    rcases hown.2 with ⟨rfl, rfl⟩ | ⟨g, cap, cur, rfl, _, _, hnc, _⟩
    · cases A <;> simp [Builtin.append_, run_underlying Tryz.underlying31, sizeOf, typeInfo, hi, Builtin.lenOf, Builtin.firstCells, loadCells, loadCellsFrom]
    · cases A <;> simp [Builtin.append_, run_underlying Tryz.underlying31, sizeOf, typeInfo, hi, Builtin.lenOf, Builtin.firstCells, hnc, storeCells, loadCells, loadCellsFrom]
  · obtain ⟨g, off, rfl, _, hc⟩ := hr.2 (by omega)
    obtain ⟨v', w', h3, h4, h5, _, h6⟩ := run_appT w base ty v n L hown g off m c K hr.1 hc hs hbase
    exact ⟨v', w', h3, h4, h5, h6⟩
theorem step_appV {ops : Array Oper} {o : Oper} {a : Act} {K' : Act → World → Prop} {Q : Exit → Act → World → Prop} {E : Prop} (w : World) (hgd : o.guard = none) (s x : Operand)
    (ho : o.op = .call { callee := .builtin .append, args := #[s, x], argTypes := #[31, 31] })
    (base : Nat) (v : Value) (n : Nat) (L : List (List UInt8)) (hs : a.eval s = v) (hown : OwnT w base v n L)
    (B : Nat) (A : Option Addr) (m c : Nat) (K : List (List UInt8)) (hx : a.eval x = .slice A m c) (hr : Tvs w B A m K) (hsz : n + m ≤ 1000000000) (hbase : base ≤ w.heap.size) (N : Nat) (hN : n + m = N)
    (h : ∀ A' c' w', OwnT w' base (.slice A' N c') N (L ++ K) → Below base w w' → w.grownBy w' v.ownBlock → K' (a.put o.dst (.slice A' N c')) w') :
    if Region.wanted o (yielded ops a.tmps) = true then Oper.wp Tryz.prog o a w K' Q else E := by
  have hw : Region.wanted o (yielded ops a.tmps) = true := by simp [Region.wanted, hgd]
  rw [if_pos hw]
  subst hN
  obtain ⟨v', w', hrun, h2, h3, h4⟩ := run_appV w base o.type v n L hown B A m c K hr hsz hbase
  obtain ⟨A', c', rfl, hc, _, _⟩ := h2.form
  unfold Oper.wp execOp
  simp only [ho, resolve, invoke, builtin, Sem.run_bind, Sem.run_pure, Result.andThen_ok, List.map_toArray, List.map_cons, List.map_nil, hs, hx, hrun]
  exact h A' c' w' h2 h3 h4
theorem lit_cell (w : World) (s : List UInt8) : (w.alloc (.cells #[.string (str s)] 9)).cell? ⟨w.heap.size, 0, none⟩ = some (vstr s) := by simp [vstr]
theorem Tvs.one (w : World) (p : List UInt8) (g B : Nat) (hB : g < B) (h : w.cell? ⟨g, 0, none⟩ = some (vstr p)) : Tvs w B (some ⟨g, 0, none⟩) 1 [p] := by
  refine ⟨rfl, fun _ => ⟨g, 0, rfl, hB, fun j q hj => ?_⟩⟩
  match j, hj with
  | 0, hj =>
    cases hj
    exact h
set_option maxHeartbeats 4000000 in
set_option maxRecDepth 100000 in
theorem with_any (L : List (List UInt8)) (s : List UInt8) (n c base : Nat) (A : Option Addr) (w : World) (hown : OwnT w base (.slice A n c) n L) (hn : n ≤ 1000) (hbase : base ≤ w.heap.size) : Calls Tryz.prog 33 #[.slice A n c, .string (str s)] w fun e w' => ∃ A' c', e = .returned (.slice A' (ins L s).length c') ∧ OwnT w' base (.slice A' (ins L s).length c') (ins L s).length (ins L s) ∧ Below w.heap.size w w' := by
  have HO := Lib.hid hown
  obtain ⟨hT, hnc, hcm⟩ := Tvs.of_own hown
  have HT := Lib.hid hT
  have hnl := hown.len
  have HRow : Hid (∀ k, k < n → ∃ g x, A = some ⟨g, 0, none⟩ ∧ L[k]? = some x ∧ w.cell? ⟨g, k, none⟩ = some (.string (str x))) := fun k hk => by
    obtain ⟨A2, c2, he, hc, _, hf⟩ := hown.form
    cases he
    obtain ⟨g, rfl, _, _, hcell⟩ := hf (by omega)
    have hkl : k < L.length := by omega
    exact ⟨g, L[k], rfl, List.getElem?_eq_getElem hkl, hcell k _ (List.getElem?_eq_getElem hkl)⟩
  have HIns : Hid (∀ k, k ≤ n → (∀ j x, j < k → L[j]? = some x → x < s) → (∀ x, L[k]? = some x → ¬ x < s) → ins L s = if L[k]? = some s then L else L.take k ++ [s] ++ L.drop k) := fun k hk h1 h2 => ins_at s L k (by omega) h1 h2
  have HEnd : Hid (L[n]? = none) := by show _ = _; rw [List.getElem?_eq_none (by omega)]
  have HKw : Hid (Kept w w) := Kept.refl w
  have Hnl := Lib.hid hnl
  have Hb := Lib.hid hbase
  clear hown hT hnl hbase
  go_enter Tryz.func33, Tryz.ntmps33
  go_wp2_with fail
  go_loop [5] (fun i => ∃ k : Nat, k ≤ n ∧ i = .int .i64 (k : Int) ∧ ∀ j x, j < k → L[j]? = some x → x < s) (fun i => n - (intOf i).toNat)
  case atStart => exact ⟨0, by omega, rfl, fun j x h => absurd h (by omega)⟩
  case round =>
    obtain ⟨k, hk, rfl, hls⟩ := hrel
    have HLs := Lib.hid hls
    clear hls
    have hkc : (k : Int) ≤ (c : Int) := by omega
    have hkn : (k : Int) ≤ (n : Int) := by omega
    by_cases hlt : k < n
    · have hkS : (k : Int) < (n : Int) := by omega
      obtain ⟨g, x, rfl, hx, d0⟩ := HRow.out k hlt
      by_cases hxs : x < s
      · have hl : Op.bytesLess (str x).toList (str s).toList = true := by rw [toList_str, toList_str, Go.Proofs.bytesLess_eq]; exact decide_eq_true hxs
        have HLn : Hid (∀ j y, j < k + 1 → L[j]? = some y → y < s) := fun j y hj hy => by
          rcases Nat.lt_succ_iff_lt_or_eq.1 hj with h | rfl
          · exact HLs.out j y h hy
          · rw [hx] at hy; cases hy; exact hxs
        clear hx hxs
        go_wp2_with fail
        go_round
        case rel => exact ⟨k + 1, by omega, by go_num, HLn.out⟩
        case measure => simp [intOf]; omega
      · have hl : Op.bytesLess (str x).toList (str s).toList = false := by rw [toList_str, toList_str, Go.Proofs.bytesLess_eq]; exact decide_eq_false hxs
        have hI := HIns.out k (by omega) HLs.out (fun y hy => by rw [hx] at hy; cases hy; exact hxs)
        rw [hx] at hI
        by_cases he : x = s
        · have hq : ((str x).toList == (str s).toList) = true := by rw [he]; simp
          have HI : Hid (ins L s = L) := by show _ = _; rw [hI, if_pos (by rw [he])]
          clear hx hxs hI he
          go_wp2_with fail
          go_ret
          rw [HI.out, Hnl.out]
          exact ⟨_, _, rfl, HO.out, Below.refl _ _⟩
        · have hq : ((str x).toList == (str s).toList) = false := by rw [toList_str, toList_str]; simp [he]
          have HI : Hid (ins L s = L.take k ++ [s] ++ L.drop k) := by show _ = _; rw [hI, if_neg (fun e => he (Option.some.inj e))]
          clear hx hxs hI he
          have HTk : Hid (Tvs w w.heap.size (some ⟨g, 0, none⟩) k (L.take k)) := HT.out.take k (by omega)
          have HCut : Hid (Tvs w w.heap.size (if c = k then some ⟨g, 0, none⟩ else some ⟨g, k, none⟩) (n - k) (L.drop k)) := by
            have h := HT.out.cut (k := k) (cap := c) (by omega) hnc
            simp only [Option.map_some, Addr.add_lit, Nat.zero_add] at h
            exact h
          go_wp2_with fail
          refine wp_region_held_drew (S := fun W => Kept w W) (by kernel_rfl) (HKw.out.drew) (fun hS => ?_)
          refine wpAnyH_take (i := 1) (oi := ⟨some 34, _, _, _, _, _⟩) (v := ?vx11) rfl (by kernel_rfl) (by kernel_rfl) (by kernel_rfl) (fun _ _ _ h => h) (Or.inl ⟨by rfl, ?yx11⟩) hS ?rx11
          case yx11 => intro W hW; go_simp; first | done | with_reducible rfl
          simp only [Act.put, List.setIfInBounds_toArray, List.set_cons_zero, List.set_cons_succ]
          refine wpAnyH_take (i := 2) (oi := ⟨some 35, _, _, _, _, _⟩) (v := ?vx12) rfl (by kernel_rfl) (by kernel_rfl) (by kernel_rfl) (fun _ _ _ h => h) (Or.inl ⟨by rfl, ?yx12⟩) hS ?rx12
          case yx12 => intro W hW; go_simp; first | done | with_reducible rfl
          simp only [Act.put, List.setIfInBounds_toArray, List.set_cons_zero, List.set_cons_succ]
          refine wpAnyH_take (i := 3) (oi := ⟨some 36, _, _, _, _, _⟩) (v := ?vx13) rfl (by kernel_rfl) (by kernel_rfl) (by kernel_rfl) (fun _ _ _ h => h) (Or.inl ⟨by rfl, ?yx13⟩) hS ?rx13
          case yx13 => intro W hW; go_simp; first | done | with_reducible rfl
          simp only [Act.put, List.setIfInBounds_toArray, List.set_cons_zero, List.set_cons_succ]
          refine wpAnyH_take (i := 5) (oi := ⟨some 38, _, _, _, _, _⟩) (v := ?vx15) rfl (by kernel_rfl) (by kernel_rfl) (by kernel_rfl) (fun _ _ _ h => h) (Or.inl ⟨by rfl, ?yx15⟩) hS ?rx15
          case yx15 => intro W hW; go_simp; first | done | with_reducible rfl
          simp only [Act.put, List.setIfInBounds_toArray, List.set_cons_zero, List.set_cons_succ]
          refine wpAnyH_take (i := 8) (oi := ⟨some 41, _, _, _, _, _⟩) (v := ?vx18) rfl (by kernel_rfl) (by kernel_rfl) (by kernel_rfl) (fun _ _ _ h => h) (Or.inl ⟨by rfl, ?yx18⟩) hS ?rx18
          case yx18 => intro W hW; go_simp; first | done | with_reducible rfl
          simp only [Act.put, List.setIfInBounds_toArray, List.set_cons_zero, List.set_cons_succ]
          refine wpAnyH_take (i := 9) (oi := ⟨some 42, _, _, _, _, _⟩) (v := ?vx19) rfl (by kernel_rfl) (by kernel_rfl) (by kernel_rfl) (fun _ _ _ h => h) (Or.inl ⟨by rfl, ?yx19⟩) hS ?rx19
          case yx19 => intro W hW; go_simp; first | done | with_reducible rfl
          simp only [Act.put, List.setIfInBounds_toArray, List.set_cons_zero, List.set_cons_succ]
          refine wpAnyH_take (i := 10) (oi := ⟨some 43, _, _, _, _, _⟩) (v := ?vx110) rfl (by kernel_rfl) (by kernel_rfl) (by kernel_rfl) (fun _ _ _ h => h) (Or.inl ⟨by rfl, ?yx110⟩) hS ?rx110
          case yx110 => intro W hW; go_simp; first | done | with_reducible rfl
          simp only [Act.put, List.setIfInBounds_toArray, List.set_cons_zero, List.set_cons_succ]
          refine wpAnyH_ready (rs := [0, 6]) (by kernel_rfl) (by simp) ?_
          refine AllReadyH.cons (o := ⟨some 33, _, _, _, _, _⟩) rfl (fun K hK => ?_) (AllReadyH.cons (o := ⟨some 39, _, _, _, _, _⟩) rfl (fun K hK => ?_) AllReadyH.nil)
          · go_simp
            refine hK.out _ _ (hS.alloc _) (fun hSn => ?_)
            clear hK K hS
            have hS := hSn
            clear hSn
            try simp only [Act.put, List.setIfInBounds_toArray, List.set_cons_zero, List.set_cons_succ]
            refine wpAnyH_ready (rs := [4, 6]) (by kernel_rfl) (by simp) ?_
            refine AllReadyH.cons (o := ⟨some 37, _, _, _, _, _⟩) rfl (fun K hK => ?_) (AllReadyH.cons (o := ⟨some 39, _, _, _, _, _⟩) rfl (fun K hK => ?_) AllReadyH.nil)
            · refine step_appV ((w.drew.alloc (.cells #[] 9))) rfl _ _ rfl w.heap.size (.slice (some ⟨w.heap.size, 0, none⟩) 0 0) 0 [] rfl (ownT_made w.drew w.heap.size (Nat.le_refl _)) w.heap.size _ k c (L.take k) rfl ((HTk.out).below hS) (by omega) hS.size k (Nat.zero_add _) ?_
              intro A4 c4 w4 hown4 hb4 hgr4
              have HO4 := Lib.hid hown4
              have HG4 := Lib.hid hgr4
              refine hK.out _ _ (hS.base hb4) (fun hSn => ?_)
              clear hK K hS
              have hS := hSn
              clear hSn
              try simp only [Act.put, List.setIfInBounds_toArray, List.set_cons_zero, List.set_cons_succ]
              clear hown4 hb4 hgr4
              refine wpAnyH_ready (rs := [6]) (by kernel_rfl) (by simp) ?_
              refine AllReadyH.cons (o := ⟨some 39, _, _, _, _, _⟩) rfl (fun K hK => ?_) AllReadyH.nil
              go_simp
              refine hK.out _ _ (hS.alloc _) (fun hSn => ?_)
              clear hK K hS
              have hS := hSn
              clear hSn
              try simp only [Act.put, List.setIfInBounds_toArray, List.set_cons_zero, List.set_cons_succ]
              refine wpAnyH_ready (rs := [7]) (by kernel_rfl) (by simp) ?_
              refine AllReadyH.cons (o := ⟨some 40, _, _, _, _, _⟩) rfl (fun K hK => ?_) AllReadyH.nil
              refine step_appV (w4.alloc (.cells #[.string (str s)] 9)) rfl _ _ rfl w.heap.size _ k (L.take k) rfl (HO4.out.alloc _) (w4.alloc (.cells #[.string (str s)] 9)).heap.size _ 1 1 [s] rfl (Tvs.one _ _ _ _ (by simp) (by simp [vstr])) (by omega) hS.size (k + 1) rfl ?_
              intro A7 c7 w7 hown7 hb7 hgr7
              have HO7 := Lib.hid hown7
              refine hK.out _ _ (hS.base hb7) (fun hSn => ?_)
              clear hK K hS
              have hS := hSn
              clear hSn
              try simp only [Act.put, List.setIfInBounds_toArray, List.set_cons_zero, List.set_cons_succ]
              clear hown7 hb7 hgr7
              refine wpAnyH_ready (rs := [11]) (by kernel_rfl) (by simp) ?_
              refine AllReadyH.cons (o := ⟨some 44, _, _, _, _, _⟩) rfl (fun K hK => ?_) AllReadyH.nil
              refine step_appV w7 rfl _ _ rfl w.heap.size _ (k + 1) (L.take k ++ [s]) rfl HO7.out w.heap.size _ (n - k) (c - k) (L.drop k) rfl (HCut.out.below hS) (by omega) hS.size (n + 1) (by omega) ?_
              intro A8 c8 w8 hown8 hb8 hgr8
              have HO8 := Lib.hid hown8
              refine hK.out _ _ (hS.base hb8) (fun hSn => ?_)
              clear hK K hS
              have hS := hSn
              clear hSn
              try simp only [Act.put, List.setIfInBounds_toArray, List.set_cons_zero, List.set_cons_succ]
              clear hown8 hb8 hgr8
              refine wpAnyH_take (i := 12) (oi := ⟨some 4, _, _, _, _, _⟩) (v := ?vx212) rfl (by kernel_rfl) (by kernel_rfl) (by kernel_rfl) (fun _ _ _ h => h) (Or.inl ⟨by rfl, ?yx212⟩) hS ?rx212
              case yx212 => intro W hW; go_simp; first | done | with_reducible rfl
              simp only [Act.put, List.setIfInBounds_toArray, List.set_cons_zero, List.set_cons_succ]
              refine wpAnyH_done (by kernel_rfl) ?_ _
              go_wp2_with fail
              all_goals
                go_ret
                have hl := HO8.out.len
                have ho := HO8.out
                rw [← HI.out] at hl ho
                rw [hl]
                exact ⟨A8, c8, rfl, ho.down Hb.out, hS⟩
            · go_simp
              refine hK.out _ _ (hS.alloc _) (fun hSn => ?_)
              clear hK K hS
              have hS := hSn
              clear hSn
              try simp only [Act.put, List.setIfInBounds_toArray, List.set_cons_zero, List.set_cons_succ]
              refine wpAnyH_ready (rs := [4]) (by kernel_rfl) (by simp) ?_
              refine AllReadyH.cons (o := ⟨some 37, _, _, _, _, _⟩) rfl (fun K hK => ?_) AllReadyH.nil
              refine step_appV (((w.drew.alloc (.cells #[] 9)).alloc (.cells #[.string (str s)] 9))) rfl _ _ rfl w.heap.size (.slice (some ⟨w.heap.size, 0, none⟩) 0 0) 0 [] rfl ((ownT_made w.drew w.heap.size (Nat.le_refl _)).alloc _) w.heap.size _ k c (L.take k) rfl ((HTk.out).below hS) (by omega) hS.size k (Nat.zero_add _) ?_
              intro A4 c4 w4 hown4 hb4 hgr4
              have HO4 := Lib.hid hown4
              have HG4 := Lib.hid hgr4
              refine hK.out _ _ (hS.base hb4) (fun hSn => ?_)
              clear hK K hS
              have hS := hSn
              clear hSn
              try simp only [Act.put, List.setIfInBounds_toArray, List.set_cons_zero, List.set_cons_succ]
              clear hown4 hb4 hgr4
              refine wpAnyH_ready (rs := [7]) (by kernel_rfl) (by simp) ?_
              refine AllReadyH.cons (o := ⟨some 40, _, _, _, _, _⟩) rfl (fun K hK => ?_) AllReadyH.nil
              refine step_appV (w4) rfl _ _ rfl w.heap.size _ k (L.take k) rfl (HO4.out) (w4).heap.size _ 1 1 [s] rfl (Tvs.one _ _ _ _ (by have := HG4.out.size; simp at this; omega) ((HG4.out.cell (a := ⟨w.heap.size + 1, 0, none⟩) (v := vstr s) (by rw [show w.heap.size + 1 = (w.drew.alloc (.cells #[] 9)).heap.size by simp]; exact lit_cell _ _) (by simp [Value.ownBlock])))) (by omega) hS.size (k + 1) rfl ?_
              intro A7 c7 w7 hown7 hb7 hgr7
              have HO7 := Lib.hid hown7
              refine hK.out _ _ (hS.base hb7) (fun hSn => ?_)
              clear hK K hS
              have hS := hSn
              clear hSn
              try simp only [Act.put, List.setIfInBounds_toArray, List.set_cons_zero, List.set_cons_succ]
              clear hown7 hb7 hgr7
              refine wpAnyH_ready (rs := [11]) (by kernel_rfl) (by simp) ?_
              refine AllReadyH.cons (o := ⟨some 44, _, _, _, _, _⟩) rfl (fun K hK => ?_) AllReadyH.nil
              refine step_appV w7 rfl _ _ rfl w.heap.size _ (k + 1) (L.take k ++ [s]) rfl HO7.out w.heap.size _ (n - k) (c - k) (L.drop k) rfl (HCut.out.below hS) (by omega) hS.size (n + 1) (by omega) ?_
              intro A8 c8 w8 hown8 hb8 hgr8
              have HO8 := Lib.hid hown8
              refine hK.out _ _ (hS.base hb8) (fun hSn => ?_)
              clear hK K hS
              have hS := hSn
              clear hSn
              try simp only [Act.put, List.setIfInBounds_toArray, List.set_cons_zero, List.set_cons_succ]
              clear hown8 hb8 hgr8
              refine wpAnyH_take (i := 12) (oi := ⟨some 4, _, _, _, _, _⟩) (v := ?vx312) rfl (by kernel_rfl) (by kernel_rfl) (by kernel_rfl) (fun _ _ _ h => h) (Or.inl ⟨by rfl, ?yx312⟩) hS ?rx312
              case yx312 => intro W hW; go_simp; first | done | with_reducible rfl
              simp only [Act.put, List.setIfInBounds_toArray, List.set_cons_zero, List.set_cons_succ]
              refine wpAnyH_done (by kernel_rfl) ?_ _
              go_wp2_with fail
              all_goals
                go_ret
                have hl := HO8.out.len
                have ho := HO8.out
                rw [← HI.out] at hl ho
                rw [hl]
                exact ⟨A8, c8, rfl, ho.down Hb.out, hS⟩
          · go_simp
            refine hK.out _ _ (hS.alloc _) (fun hSn => ?_)
            clear hK K hS
            have hS := hSn
            clear hSn
            try simp only [Act.put, List.setIfInBounds_toArray, List.set_cons_zero, List.set_cons_succ]
            refine wpAnyH_ready (rs := [0]) (by kernel_rfl) (by simp) ?_
            refine AllReadyH.cons (o := ⟨some 33, _, _, _, _, _⟩) rfl (fun K hK => ?_) AllReadyH.nil
            go_simp
            refine hK.out _ _ (hS.alloc _) (fun hSn => ?_)
            clear hK K hS
            have hS := hSn
            clear hSn
            try simp only [Act.put, List.setIfInBounds_toArray, List.set_cons_zero, List.set_cons_succ]
            refine wpAnyH_ready (rs := [4]) (by kernel_rfl) (by simp) ?_
            refine AllReadyH.cons (o := ⟨some 37, _, _, _, _, _⟩) rfl (fun K hK => ?_) AllReadyH.nil
            refine step_appV (((w.drew.alloc (.cells #[.string (str s)] 9)).alloc (.cells #[] 9))) rfl _ _ rfl w.heap.size (.slice (some ⟨w.heap.size + 1, 0, none⟩) 0 0) 0 [] rfl (by rw [show w.heap.size + 1 = ((w.drew.alloc (.cells #[.string (str s)] 9))).heap.size by simp]; exact ownT_made (w.drew.alloc (.cells #[.string (str s)] 9)) w.heap.size (by simp)) w.heap.size _ k c (L.take k) rfl ((HTk.out).below hS) (by omega) hS.size k (Nat.zero_add _) ?_
            intro A4 c4 w4 hown4 hb4 hgr4
            have HO4 := Lib.hid hown4
            have HG4 := Lib.hid hgr4
            refine hK.out _ _ (hS.base hb4) (fun hSn => ?_)
            clear hK K hS
            have hS := hSn
            clear hSn
            try simp only [Act.put, List.setIfInBounds_toArray, List.set_cons_zero, List.set_cons_succ]
            clear hown4 hb4 hgr4
            refine wpAnyH_ready (rs := [7]) (by kernel_rfl) (by simp) ?_
            refine AllReadyH.cons (o := ⟨some 40, _, _, _, _, _⟩) rfl (fun K hK => ?_) AllReadyH.nil
            refine step_appV (w4) rfl _ _ rfl w.heap.size _ k (L.take k) rfl (HO4.out) (w4).heap.size _ 1 1 [s] rfl (Tvs.one _ _ _ _ (by have := HG4.out.size; simp at this; omega) ((HG4.out.cell (a := ⟨w.heap.size, 0, none⟩) (v := vstr s) ((World.cell?_alloc_lt _ _ ⟨w.heap.size, 0, none⟩ (by simp)).trans (lit_cell w.drew s)) (by simp [Value.ownBlock])))) (by omega) hS.size (k + 1) rfl ?_
            intro A7 c7 w7 hown7 hb7 hgr7
            have HO7 := Lib.hid hown7
            refine hK.out _ _ (hS.base hb7) (fun hSn => ?_)
            clear hK K hS
            have hS := hSn
            clear hSn
            try simp only [Act.put, List.setIfInBounds_toArray, List.set_cons_zero, List.set_cons_succ]
            clear hown7 hb7 hgr7
            refine wpAnyH_ready (rs := [11]) (by kernel_rfl) (by simp) ?_
            refine AllReadyH.cons (o := ⟨some 44, _, _, _, _, _⟩) rfl (fun K hK => ?_) AllReadyH.nil
            refine step_appV w7 rfl _ _ rfl w.heap.size _ (k + 1) (L.take k ++ [s]) rfl HO7.out w.heap.size _ (n - k) (c - k) (L.drop k) rfl (HCut.out.below hS) (by omega) hS.size (n + 1) (by omega) ?_
            intro A8 c8 w8 hown8 hb8 hgr8
            have HO8 := Lib.hid hown8
            refine hK.out _ _ (hS.base hb8) (fun hSn => ?_)
            clear hK K hS
            have hS := hSn
            clear hSn
            try simp only [Act.put, List.setIfInBounds_toArray, List.set_cons_zero, List.set_cons_succ]
            clear hown8 hb8 hgr8
            refine wpAnyH_take (i := 12) (oi := ⟨some 4, _, _, _, _, _⟩) (v := ?vx412) rfl (by kernel_rfl) (by kernel_rfl) (by kernel_rfl) (fun _ _ _ h => h) (Or.inl ⟨by rfl, ?yx412⟩) hS ?rx412
            case yx412 => intro W hW; go_simp; first | done | with_reducible rfl
            simp only [Act.put, List.setIfInBounds_toArray, List.set_cons_zero, List.set_cons_succ]
            refine wpAnyH_done (by kernel_rfl) ?_ _
            go_wp2_with fail
            all_goals
              go_ret
              have hl := HO8.out.len
              have ho := HO8.out
              rw [← HI.out] at hl ho
              rw [hl]
              exact ⟨A8, c8, rfl, ho.down Hb.out, hS⟩
    · have hkS : ¬ (k : Int) < (n : Int) := by omega
      have hke : k = n := by omega
      have HI : Hid (ins L s = L.take k ++ [s] ++ L.drop k) := by
        have h1 := HEnd.out
        rw [← hke] at h1
        have hI := HIns.out k hk HLs.out (fun y hy => by rw [h1] at hy; cases hy)
        rw [h1, if_neg (fun e => by cases e)] at hI
        exact hI
      clear hke
      have HTk : Hid (Tvs w w.heap.size A k (L.take k)) := HT.out.take k (by omega)
      have HCut := Lib.hid (HT.out.cut (k := k) (cap := c) (by omega) hnc)
      go_wp2_with fail
      refine wp_region_held_drew (S := fun W => Kept w W) (by kernel_rfl) (HKw.out.drew) (fun hS => ?_)
      refine wpAnyH_take (i := 1) (oi := ⟨some 34, _, _, _, _, _⟩) (v := ?vx51) rfl (by kernel_rfl) (by kernel_rfl) (by kernel_rfl) (fun _ _ _ h => h) (Or.inl ⟨by rfl, ?yx51⟩) hS ?rx51
      case yx51 => intro W hW; go_simp; first | done | with_reducible rfl
      simp only [Act.put, List.setIfInBounds_toArray, List.set_cons_zero, List.set_cons_succ]
      refine wpAnyH_take (i := 2) (oi := ⟨some 35, _, _, _, _, _⟩) (v := ?vx52) rfl (by kernel_rfl) (by kernel_rfl) (by kernel_rfl) (fun _ _ _ h => h) (Or.inl ⟨by rfl, ?yx52⟩) hS ?rx52
      case yx52 => intro W hW; go_simp; first | done | with_reducible rfl
      simp only [Act.put, List.setIfInBounds_toArray, List.set_cons_zero, List.set_cons_succ]
      refine wpAnyH_take (i := 3) (oi := ⟨some 36, _, _, _, _, _⟩) (v := ?vx53) rfl (by kernel_rfl) (by kernel_rfl) (by kernel_rfl) (fun _ _ _ h => h) (Or.inl ⟨by rfl, ?yx53⟩) hS ?rx53
      case yx53 => intro W hW; go_simp; first | done | with_reducible rfl
      simp only [Act.put, List.setIfInBounds_toArray, List.set_cons_zero, List.set_cons_succ]
      refine wpAnyH_take (i := 5) (oi := ⟨some 38, _, _, _, _, _⟩) (v := ?vx55) rfl (by kernel_rfl) (by kernel_rfl) (by kernel_rfl) (fun _ _ _ h => h) (Or.inl ⟨by rfl, ?yx55⟩) hS ?rx55
      case yx55 => intro W hW; go_simp; first | done | with_reducible rfl
      simp only [Act.put, List.setIfInBounds_toArray, List.set_cons_zero, List.set_cons_succ]
      refine wpAnyH_take (i := 8) (oi := ⟨some 41, _, _, _, _, _⟩) (v := ?vx58) rfl (by kernel_rfl) (by kernel_rfl) (by kernel_rfl) (fun _ _ _ h => h) (Or.inl ⟨by rfl, ?yx58⟩) hS ?rx58
      case yx58 => intro W hW; go_simp; first | done | with_reducible rfl
      simp only [Act.put, List.setIfInBounds_toArray, List.set_cons_zero, List.set_cons_succ]
      refine wpAnyH_take (i := 9) (oi := ⟨some 42, _, _, _, _, _⟩) (v := ?vx59) rfl (by kernel_rfl) (by kernel_rfl) (by kernel_rfl) (fun _ _ _ h => h) (Or.inl ⟨by rfl, ?yx59⟩) hS ?rx59
      case yx59 => intro W hW; go_simp; first | done | with_reducible rfl
      simp only [Act.put, List.setIfInBounds_toArray, List.set_cons_zero, List.set_cons_succ]
      refine wpAnyH_take (i := 10) (oi := ⟨some 43, _, _, _, _, _⟩) (v := ?vx510) rfl (by kernel_rfl) (by kernel_rfl) (by kernel_rfl) (fun _ _ _ h => h) (Or.inl ⟨by rfl, ?yx510⟩) hS ?rx510
      case yx510 => intro W hW; go_simp; first | done | with_reducible rfl
      simp only [Act.put, List.setIfInBounds_toArray, List.set_cons_zero, List.set_cons_succ]
      refine wpAnyH_ready (rs := [0, 6]) (by kernel_rfl) (by simp) ?_
      refine AllReadyH.cons (o := ⟨some 33, _, _, _, _, _⟩) rfl (fun K hK => ?_) (AllReadyH.cons (o := ⟨some 39, _, _, _, _, _⟩) rfl (fun K hK => ?_) AllReadyH.nil)
      · go_simp
        refine hK.out _ _ (hS.alloc _) (fun hSn => ?_)
        clear hK K hS
        have hS := hSn
        clear hSn
        try simp only [Act.put, List.setIfInBounds_toArray, List.set_cons_zero, List.set_cons_succ]
        refine wpAnyH_ready (rs := [4, 6]) (by kernel_rfl) (by simp) ?_
        refine AllReadyH.cons (o := ⟨some 37, _, _, _, _, _⟩) rfl (fun K hK => ?_) (AllReadyH.cons (o := ⟨some 39, _, _, _, _, _⟩) rfl (fun K hK => ?_) AllReadyH.nil)
        · refine step_appV ((w.drew.alloc (.cells #[] 9))) rfl _ _ rfl w.heap.size (.slice (some ⟨w.heap.size, 0, none⟩) 0 0) 0 [] rfl (ownT_made w.drew w.heap.size (Nat.le_refl _)) w.heap.size _ k c (L.take k) rfl ((HTk.out).below hS) (by omega) hS.size k (Nat.zero_add _) ?_
          intro A4 c4 w4 hown4 hb4 hgr4
          have HO4 := Lib.hid hown4
          have HG4 := Lib.hid hgr4
          refine hK.out _ _ (hS.base hb4) (fun hSn => ?_)
          clear hK K hS
          have hS := hSn
          clear hSn
          try simp only [Act.put, List.setIfInBounds_toArray, List.set_cons_zero, List.set_cons_succ]
          clear hown4 hb4 hgr4
          refine wpAnyH_ready (rs := [6]) (by kernel_rfl) (by simp) ?_
          refine AllReadyH.cons (o := ⟨some 39, _, _, _, _, _⟩) rfl (fun K hK => ?_) AllReadyH.nil
          go_simp
          refine hK.out _ _ (hS.alloc _) (fun hSn => ?_)
          clear hK K hS
          have hS := hSn
          clear hSn
          try simp only [Act.put, List.setIfInBounds_toArray, List.set_cons_zero, List.set_cons_succ]
          refine wpAnyH_ready (rs := [7]) (by kernel_rfl) (by simp) ?_
          refine AllReadyH.cons (o := ⟨some 40, _, _, _, _, _⟩) rfl (fun K hK => ?_) AllReadyH.nil
          refine step_appV (w4.alloc (.cells #[.string (str s)] 9)) rfl _ _ rfl w.heap.size _ k (L.take k) rfl (HO4.out.alloc _) (w4.alloc (.cells #[.string (str s)] 9)).heap.size _ 1 1 [s] rfl (Tvs.one _ _ _ _ (by simp) (by simp [vstr])) (by omega) hS.size (k + 1) rfl ?_
          intro A7 c7 w7 hown7 hb7 hgr7
          have HO7 := Lib.hid hown7
          refine hK.out _ _ (hS.base hb7) (fun hSn => ?_)
          clear hK K hS
          have hS := hSn
          clear hSn
          try simp only [Act.put, List.setIfInBounds_toArray, List.set_cons_zero, List.set_cons_succ]
          clear hown7 hb7 hgr7
          refine wpAnyH_ready (rs := [11]) (by kernel_rfl) (by simp) ?_
          refine AllReadyH.cons (o := ⟨some 44, _, _, _, _, _⟩) rfl (fun K hK => ?_) AllReadyH.nil
          refine step_appV w7 rfl _ _ rfl w.heap.size _ (k + 1) (L.take k ++ [s]) rfl HO7.out w.heap.size _ (n - k) (c - k) (L.drop k) rfl (HCut.out.below hS) (by omega) hS.size (n + 1) (by omega) ?_
          intro A8 c8 w8 hown8 hb8 hgr8
          have HO8 := Lib.hid hown8
          refine hK.out _ _ (hS.base hb8) (fun hSn => ?_)
          clear hK K hS
          have hS := hSn
          clear hSn
          try simp only [Act.put, List.setIfInBounds_toArray, List.set_cons_zero, List.set_cons_succ]
          clear hown8 hb8 hgr8
          refine wpAnyH_take (i := 12) (oi := ⟨some 4, _, _, _, _, _⟩) (v := ?vx612) rfl (by kernel_rfl) (by kernel_rfl) (by kernel_rfl) (fun _ _ _ h => h) (Or.inl ⟨by rfl, ?yx612⟩) hS ?rx612
          case yx612 => intro W hW; go_simp; first | done | with_reducible rfl
          simp only [Act.put, List.setIfInBounds_toArray, List.set_cons_zero, List.set_cons_succ]
          refine wpAnyH_done (by kernel_rfl) ?_ _
          go_wp2_with fail
          all_goals
            go_ret
            have hl := HO8.out.len
            have ho := HO8.out
            rw [← HI.out] at hl ho
            rw [hl]
            exact ⟨A8, c8, rfl, ho.down Hb.out, hS⟩
        · go_simp
          refine hK.out _ _ (hS.alloc _) (fun hSn => ?_)
          clear hK K hS
          have hS := hSn
          clear hSn
          try simp only [Act.put, List.setIfInBounds_toArray, List.set_cons_zero, List.set_cons_succ]
          refine wpAnyH_ready (rs := [4]) (by kernel_rfl) (by simp) ?_
          refine AllReadyH.cons (o := ⟨some 37, _, _, _, _, _⟩) rfl (fun K hK => ?_) AllReadyH.nil
          refine step_appV (((w.drew.alloc (.cells #[] 9)).alloc (.cells #[.string (str s)] 9))) rfl _ _ rfl w.heap.size (.slice (some ⟨w.heap.size, 0, none⟩) 0 0) 0 [] rfl ((ownT_made w.drew w.heap.size (Nat.le_refl _)).alloc _) w.heap.size _ k c (L.take k) rfl ((HTk.out).below hS) (by omega) hS.size k (Nat.zero_add _) ?_
          intro A4 c4 w4 hown4 hb4 hgr4
          have HO4 := Lib.hid hown4
          have HG4 := Lib.hid hgr4
          refine hK.out _ _ (hS.base hb4) (fun hSn => ?_)
          clear hK K hS
          have hS := hSn
          clear hSn
          try simp only [Act.put, List.setIfInBounds_toArray, List.set_cons_zero, List.set_cons_succ]
          clear hown4 hb4 hgr4
          refine wpAnyH_ready (rs := [7]) (by kernel_rfl) (by simp) ?_
          refine AllReadyH.cons (o := ⟨some 40, _, _, _, _, _⟩) rfl (fun K hK => ?_) AllReadyH.nil
          refine step_appV (w4) rfl _ _ rfl w.heap.size _ k (L.take k) rfl (HO4.out) (w4).heap.size _ 1 1 [s] rfl (Tvs.one _ _ _ _ (by have := HG4.out.size; simp at this; omega) ((HG4.out.cell (a := ⟨w.heap.size + 1, 0, none⟩) (v := vstr s) (by rw [show w.heap.size + 1 = (w.drew.alloc (.cells #[] 9)).heap.size by simp]; exact lit_cell _ _) (by simp [Value.ownBlock])))) (by omega) hS.size (k + 1) rfl ?_
          intro A7 c7 w7 hown7 hb7 hgr7
          have HO7 := Lib.hid hown7
          refine hK.out _ _ (hS.base hb7) (fun hSn => ?_)
          clear hK K hS
          have hS := hSn
          clear hSn
          try simp only [Act.put, List.setIfInBounds_toArray, List.set_cons_zero, List.set_cons_succ]
          clear hown7 hb7 hgr7
          refine wpAnyH_ready (rs := [11]) (by kernel_rfl) (by simp) ?_
          refine AllReadyH.cons (o := ⟨some 44, _, _, _, _, _⟩) rfl (fun K hK => ?_) AllReadyH.nil
          refine step_appV w7 rfl _ _ rfl w.heap.size _ (k + 1) (L.take k ++ [s]) rfl HO7.out w.heap.size _ (n - k) (c - k) (L.drop k) rfl (HCut.out.below hS) (by omega) hS.size (n + 1) (by omega) ?_
          intro A8 c8 w8 hown8 hb8 hgr8
          have HO8 := Lib.hid hown8
          refine hK.out _ _ (hS.base hb8) (fun hSn => ?_)
          clear hK K hS
          have hS := hSn
          clear hSn
          try simp only [Act.put, List.setIfInBounds_toArray, List.set_cons_zero, List.set_cons_succ]
          clear hown8 hb8 hgr8
          refine wpAnyH_take (i := 12) (oi := ⟨some 4, _, _, _, _, _⟩) (v := ?vx712) rfl (by kernel_rfl) (by kernel_rfl) (by kernel_rfl) (fun _ _ _ h => h) (Or.inl ⟨by rfl, ?yx712⟩) hS ?rx712
          case yx712 => intro W hW; go_simp; first | done | with_reducible rfl
          simp only [Act.put, List.setIfInBounds_toArray, List.set_cons_zero, List.set_cons_succ]
          refine wpAnyH_done (by kernel_rfl) ?_ _
          go_wp2_with fail
          all_goals
            go_ret
            have hl := HO8.out.len
            have ho := HO8.out
            rw [← HI.out] at hl ho
            rw [hl]
            exact ⟨A8, c8, rfl, ho.down Hb.out, hS⟩
      · go_simp
        refine hK.out _ _ (hS.alloc _) (fun hSn => ?_)
        clear hK K hS
        have hS := hSn
        clear hSn
        try simp only [Act.put, List.setIfInBounds_toArray, List.set_cons_zero, List.set_cons_succ]
        refine wpAnyH_ready (rs := [0]) (by kernel_rfl) (by simp) ?_
        refine AllReadyH.cons (o := ⟨some 33, _, _, _, _, _⟩) rfl (fun K hK => ?_) AllReadyH.nil
        go_simp
        refine hK.out _ _ (hS.alloc _) (fun hSn => ?_)
        clear hK K hS
        have hS := hSn
        clear hSn
        try simp only [Act.put, List.setIfInBounds_toArray, List.set_cons_zero, List.set_cons_succ]
        refine wpAnyH_ready (rs := [4]) (by kernel_rfl) (by simp) ?_
        refine AllReadyH.cons (o := ⟨some 37, _, _, _, _, _⟩) rfl (fun K hK => ?_) AllReadyH.nil
        refine step_appV (((w.drew.alloc (.cells #[.string (str s)] 9)).alloc (.cells #[] 9))) rfl _ _ rfl w.heap.size (.slice (some ⟨w.heap.size + 1, 0, none⟩) 0 0) 0 [] rfl (by rw [show w.heap.size + 1 = ((w.drew.alloc (.cells #[.string (str s)] 9))).heap.size by simp]; exact ownT_made (w.drew.alloc (.cells #[.string (str s)] 9)) w.heap.size (by simp)) w.heap.size _ k c (L.take k) rfl ((HTk.out).below hS) (by omega) hS.size k (Nat.zero_add _) ?_
        intro A4 c4 w4 hown4 hb4 hgr4
        have HO4 := Lib.hid hown4
        have HG4 := Lib.hid hgr4
        refine hK.out _ _ (hS.base hb4) (fun hSn => ?_)
        clear hK K hS
        have hS := hSn
        clear hSn
        try simp only [Act.put, List.setIfInBounds_toArray, List.set_cons_zero, List.set_cons_succ]
        clear hown4 hb4 hgr4
        refine wpAnyH_ready (rs := [7]) (by kernel_rfl) (by simp) ?_
        refine AllReadyH.cons (o := ⟨some 40, _, _, _, _, _⟩) rfl (fun K hK => ?_) AllReadyH.nil
        refine step_appV (w4) rfl _ _ rfl w.heap.size _ k (L.take k) rfl (HO4.out) (w4).heap.size _ 1 1 [s] rfl (Tvs.one _ _ _ _ (by have := HG4.out.size; simp at this; omega) ((HG4.out.cell (a := ⟨w.heap.size, 0, none⟩) (v := vstr s) ((World.cell?_alloc_lt _ _ ⟨w.heap.size, 0, none⟩ (by simp)).trans (lit_cell w.drew s)) (by simp [Value.ownBlock])))) (by omega) hS.size (k + 1) rfl ?_
        intro A7 c7 w7 hown7 hb7 hgr7
        have HO7 := Lib.hid hown7
        refine hK.out _ _ (hS.base hb7) (fun hSn => ?_)
        clear hK K hS
        have hS := hSn
        clear hSn
        try simp only [Act.put, List.setIfInBounds_toArray, List.set_cons_zero, List.set_cons_succ]
        clear hown7 hb7 hgr7
        refine wpAnyH_ready (rs := [11]) (by kernel_rfl) (by simp) ?_
        refine AllReadyH.cons (o := ⟨some 44, _, _, _, _, _⟩) rfl (fun K hK => ?_) AllReadyH.nil
        refine step_appV w7 rfl _ _ rfl w.heap.size _ (k + 1) (L.take k ++ [s]) rfl HO7.out w.heap.size _ (n - k) (c - k) (L.drop k) rfl (HCut.out.below hS) (by omega) hS.size (n + 1) (by omega) ?_
        intro A8 c8 w8 hown8 hb8 hgr8
        have HO8 := Lib.hid hown8
        refine hK.out _ _ (hS.base hb8) (fun hSn => ?_)
        clear hK K hS
        have hS := hSn
        clear hSn
        try simp only [Act.put, List.setIfInBounds_toArray, List.set_cons_zero, List.set_cons_succ]
        clear hown8 hb8 hgr8
        refine wpAnyH_take (i := 12) (oi := ⟨some 4, _, _, _, _, _⟩) (v := ?vx812) rfl (by kernel_rfl) (by kernel_rfl) (by kernel_rfl) (fun _ _ _ h => h) (Or.inl ⟨by rfl, ?yx812⟩) hS ?rx812
        case yx812 => intro W hW; go_simp; first | done | with_reducible rfl
        simp only [Act.put, List.setIfInBounds_toArray, List.set_cons_zero, List.set_cons_succ]
        refine wpAnyH_done (by kernel_rfl) ?_ _
        go_wp2_with fail
        all_goals
          go_ret
          have hl := HO8.out.len
          have ho := HO8.out
          rw [← HI.out] at hl ho
          rw [hl]
          exact ⟨A8, c8, rfl, ho.down Hb.out, hS⟩
end Go.Proofs.YtonchnmcklgpoaaGreatDoor
