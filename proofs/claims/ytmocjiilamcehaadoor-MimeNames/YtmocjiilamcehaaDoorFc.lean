/-
  What field.values.text, field.Get and field.Only answer. No condition but sizes.
-/
import Derived.Test.YtmocjiilamcehaaDoorFb
import Derived.Test.YtmocjiilamcehaaDoorShelf
import Derived.OrdersHeld
namespace Go.Proofs.YtmocjiilamcehaaDoor
open Go.RowKit
set_option linter.unusedVariables false

theorem jn_str (L : List (List UInt8)) : Lib.join ((L.map str).map (·.data.toList)) [44, 32] = jn L := by
  have e : ((fun x : ByteArray => x.data.toList) ∘ str) = id := rfl
  rw [List.map_map, e, List.map_id]
  rfl
theorem join_any (L : List (List UInt8)) (n c base : Nat) (A : Option Addr) (w : World) (hown : OwnT w base (.slice A n c) n L) (hn : n ≤ 1000) (hl : (jn L).length ≤ 140737488355328) : Calls Tryd.prog 58 #[.slice A n c, .string ⟨#[44, 32]⟩] w fun e w' => e = .returned (.string (str (jn L))) ∧ Below w.heap.size w w' := by
  have hlen := hown.len
  rcases Nat.eq_zero_or_pos n with h0 | h0
  · subst h0
    have e : L = [] := List.eq_nil_of_length_eq_zero hlen
    subst e
    exact (Tryd.strings_Join_none A c _ w).mono fun e w' h => ⟨h.1, by rw [h.2]; exact Below.refl _ _⟩
  · obtain ⟨A', c', he, hc, hc2, hf⟩ := hown.form
    cases he
    obtain ⟨g, rfl, _, hg, hcell⟩ := hf (by omega)
    have h := Tryd.strings_Join g 0 c (L.map str) ⟨#[44, 32]⟩ w (fun j x hx => by
      rw [List.getElem?_map, Option.map_eq_some_iff] at hx
      obtain ⟨p, hp, rfl⟩ := hx
      rw [Nat.zero_add]
      exact hcell j p hp) hg (by rw [List.length_map]; omega) (by rw [List.length_map]; omega) (by rw [jn_str]; exact hl)
    rw [jn_str, List.length_map, hlen] at h
    exact h
set_option maxHeartbeats 4000000 in
set_option maxRecDepth 100000 in
theorem text_any (L : List (List UInt8)) (n c base : Nat) (A : Option Addr) (w : World) (hown : OwnT w base (.slice A n c) n L) (hn : n ≤ 1000) (hl : (jn L).length ≤ 140737488355328) : Calls Tryd.prog 47 #[.agg #[.slice A n c]] w fun e w' => e = .returned (.string (str (jn L))) ∧ Below w.heap.size w w' := by
  have HJ : Hid (∀ w', Below w.heap.size w w' → Calls Tryd.prog 58 #[.slice A n c, .string ⟨#[44, 32]⟩] w' fun e w2 => e = .returned (.string (str (jn L))) ∧ Below w'.heap.size w' w2) := fun w' hb => join_any L n c base A w' (hown.kept hb) hn hl
  clear hown hn hl
  go_enter Tryd.func47, Tryd.ntmps47
  go_wp2_with (first
    | ((with_reducible show wpList _ _ _ (⟨some 1, .box _ _, _, _, _, _⟩ :: _) _ _); refine wp_box _ rfl 68 _ rfl [.slice A n c] rfl ?_; intro w1 g1 HB1 hF1; simp only [Act.put, List.setIfInBounds_toArray, List.set_cons_zero, List.set_cons_succ]; have d0 := HB1.cell (i := 0) (v := .slice A n c) rfl; have HF1 := Lib.hid hF1.below; clear hF1)
    | (go_at_call 58; (with_reducible refine (HJ.out _ HF1.out).mono ?_); (rintro e w2 ⟨rfl, hb⟩)))
  go_ret
  exact ⟨rfl, HF1.out.trans (hb.mono HF1.out.size)⟩
set_option maxHeartbeats 4000000 in
set_option maxRecDepth 100000 in
theorem get_any (fs : List (List UInt8 × List UInt8)) (A : Option Addr) (c : Nat) (nm : List UInt8) (w : World) (hn : fs.length ≤ 1000) (hf : Fs w w.heap.size A fs.length fs) (hN : ∀ f ∈ fs, f.1.length ≤ 9223372036854775807 ∧ f.2.length ≤ 9223372036854775807) (hnm : nm.length ≤ 9223372036854775807) (hj : (jn (vals fs nm)).length ≤ 140737488355328) : Calls Tryd.prog 32 #[.slice A fs.length c, .string (str nm)] w fun e w' => e = .returned (.tuple #[.string (str (jn (vals fs nm))), .bool (decide (vals fs nm ≠ []))]) ∧ Below w.heap.size w w' := by
  have HFI : Hid (∀ w', w' = w → Calls Tryd.prog 46 #[.slice A fs.length c, .string (str nm)] w' fun e w2 => ∃ A' c', e = .returned (.agg #[.slice A' (vals fs nm).length c']) ∧ OwnT w2 w.heap.size (.slice A' (vals fs nm).length c') (vals fs nm).length (vals fs nm) ∧ Below w.heap.size w w2) := fun w' hw => by subst hw; exact find_any fs A c nm w' hn hf hN hnm
  have HLn : Hid ((vals fs nm).length ≤ 1000) := Nat.le_trans (vl_len _ _) hn
  have hb0 : decide (vals fs nm ≠ []) = decide (0 < (vals fs nm).length) := by
    rw [decide_eq_decide]
    cases vals fs nm <;> simp
  rw [hb0]
  obtain ⟨L, hL⟩ : ∃ L, L = vals fs nm := ⟨_, rfl⟩
  rw [← hL] at HFI HLn hj ⊢
  obtain ⟨n, hnn⟩ : ∃ n, n = L.length := ⟨_, rfl⟩
  rw [← hnn] at HFI HLn ⊢
  have Hj := Lib.hid hj
  clear hb0 hL hnn hn hf hN hnm hj
  go_enter Tryd.func32, Tryd.ntmps32
  go_wp2_with (first
    | (go_at_call 46; (with_reducible refine (HFI.out _ rfl).mono ?_); (rintro e w1 ⟨A1, c1, rfl, hown, hb1⟩); have HO := Lib.hid hown; have HB1 := Lib.hid hb1; clear hown hb1)
    | ((with_reducible show wpList _ _ _ (⟨some 6, .alloc _, _, _, _, _⟩ :: _) _ _); refine wp_new _ rfl 68 rfl [.slice none 0 0] (by kernel_rfl) ?_; intro w2 g6 HB6 hF6; simp only [Act.put, List.setIfInBounds_toArray, List.set_cons_zero, List.set_cons_succ])
    | ((with_reducible show wpList _ _ _ (⟨none, .store 68 _ _, _, _, _, _⟩ :: _) _ _); refine wp_putAll _ rfl 68 _ _ rfl g6 _ _ [.slice A1 n c1] rfl rfl HB6 rfl (by kernel_rfl) (by simp [Value.oneCell']) ?_; intro w3 HC6 hU6; simp only [Act.put]))
  have HK3 : Hid (Below w1.heap.size w1 w3) := hF6.below.trans (hU6.below (by rw [hF6.is]; exact Nat.le_refl _))
  have HT : Hid (∀ W, Kept w3 W → Calls Tryd.prog 47 #[.agg #[.slice A1 n c1]] W fun e w2 => e = .returned (.string (str (jn L))) ∧ Below W.heap.size W w2) := fun W hk => text_any L n c1 w.heap.size A1 W ((HO.out.kept HK3.out).kept hk) HLn.out Hj.out
  clear hF6 hU6 HB6 HFI
  refine wp_region_held_drew (S := fun W => Kept w3 W ∧ Blk W g6 68 [.slice A1 n c1]) (by kernel_rfl) (⟨(Kept.refl w3).drew, HC6.drew⟩) (fun hS => ?_)
  refine wpAnyH_take (i := 0) (oi := ⟨some 10, _, _, _, _, _⟩) (v := _) rfl (by kernel_rfl) (by kernel_rfl) (by kernel_rfl) (fun _ _ _ h => h) (yieldsIf_load_mid (by rfl) 68 _ rfl g6 0 rfl ([.slice A1 n c1]) _ (fun W hW => hW.2.whole) Tryd.underlying68 rfl (by kernel_rfl)) hS ?_
  simp only [Act.put, List.setIfInBounds_toArray, List.set_cons_zero, List.set_cons_succ]
  refine wpAnyH_take (i := 2) (oi := ⟨some 12, _, _, _, _, _⟩) (v := ?va2) rfl (by kernel_rfl) (by kernel_rfl) (by kernel_rfl) (fun _ _ _ h => h) (Or.inl ⟨by rfl, ?ya2⟩) hS ?ra2
  case ya2 => intro W hW; go_simp; first | done | with_reducible rfl
  simp only [Act.put, List.setIfInBounds_toArray, List.set_cons_zero, List.set_cons_succ]
  refine wpAnyH_take (i := 3) (oi := ⟨some 13, _, _, _, _, _⟩) (v := ?va3) rfl (by kernel_rfl) (by kernel_rfl) (by kernel_rfl) (fun _ _ _ h => h) (Or.inl ⟨by rfl, ?ya3⟩) hS ?ra3
  case ya3 => intro W hW; have d0 := hW.2.cell (i := 0) (v := .slice A1 n c1) rfl; go_simp; first | done | with_reducible rfl
  simp only [Act.put, List.setIfInBounds_toArray, List.set_cons_zero, List.set_cons_succ]
  refine wpAnyH_take (i := 4) (oi := ⟨some 14, _, _, _, _, _⟩) (v := ?va4) rfl (by kernel_rfl) (by kernel_rfl) (by kernel_rfl) (fun _ _ _ h => h) (Or.inl ⟨by rfl, ?ya4⟩) hS ?ra4
  case ya4 => intro W hW; go_simp; first | done | with_reducible rfl
  simp only [Act.put, List.setIfInBounds_toArray, List.set_cons_zero, List.set_cons_succ]
  refine wpAnyH_take (i := 5) (oi := ⟨some 15, _, _, _, _, _⟩) (v := ?va5) rfl (by kernel_rfl) (by kernel_rfl) (by kernel_rfl) (fun _ _ _ h => h) (Or.inl ⟨by rfl, ?ya5⟩) hS ?ra5
  case ya5 => intro W hW; go_simp; first | done | with_reducible rfl
  simp only [Act.put, List.setIfInBounds_toArray, List.set_cons_zero, List.set_cons_succ]
  refine wpAnyH_ready (rs := [1]) (by kernel_rfl) (by simp) ?_
  refine (AllReadyH.cons (o := ⟨some 11, _, _, _, _, _⟩) rfl (fun K hK => ?_) AllReadyH.nil)
  try go_simp
  (with_reducible refine (HT.out _ hS.1).mono ?_)
  rintro e wxa1 ⟨rfl, hb⟩
  have hT := And.intro (hS.1.step hb) (hS.2.kept hb)
  clear hS
  have hS := hT
  clear hT
  refine hK.out _ _ hS (fun _ => ?_)
  clear hK K
  try simp only [Act.put, List.setIfInBounds_toArray, List.set_cons_zero, List.set_cons_succ]
  refine wpAnyH_take (i := 6) (oi := ⟨some 4, _, _, _, _, _⟩) (v := ?va6) rfl (by kernel_rfl) (by kernel_rfl) (by kernel_rfl) (fun _ _ _ h => h) (Or.inl ⟨by rfl, ?ya6⟩) hS ?ra6
  case ya6 => intro W hW; go_simp; first | done | with_reducible rfl
  simp only [Act.put, List.setIfInBounds_toArray, List.set_cons_zero, List.set_cons_succ]
  refine wpAnyH_take (i := 7) (oi := ⟨some 5, _, _, _, _, _⟩) (v := ?va7) rfl (by kernel_rfl) (by kernel_rfl) (by kernel_rfl) (fun _ _ _ h => h) (Or.inl ⟨by rfl, ?ya7⟩) hS ?ra7
  case ya7 => intro W hW; go_simp; first | done | with_reducible rfl
  simp only [Act.put, List.setIfInBounds_toArray, List.set_cons_zero, List.set_cons_succ]
  refine wpAnyH_done (by kernel_rfl) ?_ _
  go_wp2_with fail
  go_ret2
  exact ⟨rfl, HB1.out.trans ((HK3.out.trans (hS.1.mono HK3.out.size)).mono HB1.out.size)⟩
/-- The one value, or nothing. -/
def onl : List (List UInt8) → List UInt8
  | [x] => x
  | _ => []
theorem onl_not (L : List (List UInt8)) (h : L.length ≠ 1) : onl L = [] := by
  match L, h with
  | [], _ => rfl
  | [x], h => exact absurd rfl h
  | _ :: _ :: _, _ => rfl
end Go.Proofs.YtmocjiilamcehaaDoor
