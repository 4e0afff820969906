/-
  What transeptlaw08.WeburlOnce answers: true; nothing that was there turns. Condition: the library's tables.
-/
import Derived.Test.YtcepigekibidfaaGreatDoorGr
import Derived.Test.YtcepigekibidfaaGreatDoorGk
namespace Go.Proofs.YtcepigekibidfaaGreatDoor
open Go.RowKit

set_option maxHeartbeats 8000000 in
set_option maxRecDepth 100000 in
theorem once_any (l : List UInt8) (w : World) (hl : l.length ≤ 9223372036854775807) (ht : Tb w) : Calls Tryz.prog 5 #[.string (str l)] w fun e w' => e = .returned (.bool true) ∧ Below w.heap.size w w' := by
  have HS : Hid (∀ w', Kept w w' → Calls Tryz.prog 13 #[] w' fun e w2 => e = .returned (.bool true) ∧ Below w'.heap.size w' w2) := fun w' hk => shown_any w' (ht.kp hk)
  have hsz := str_size l
  obtain ⟨m, hm, hm1, hm2⟩ : ∃ m : Nat, min (l.length : Int) 500 = (m : Int) ∧ m ≤ 500 ∧ m ≤ l.length := ⟨min l.length 500, by omega, by omega, by omega⟩
  have htk := str_take l m
  have hlt : (l.take m).length ≤ 500 := by rw [List.length_take]; omega
  have HP : Hid (∀ w', Kept w w' → Calls Tryz.prog 14 #[.string (str (l.take m))] w' fun e w2 => e = .returned (rU (prsU (l.take m))) ∧ Below w'.heap.size w' w2) := fun w' hk => url_any (l.take m) w' (by omega) (ht.kp hk)
  generalize l.take m = s at htk hlt HP
  obtain ⟨S, hS⟩ : ∃ S, S = l.length := ⟨_, rfl⟩
  rw [← hS] at hsz hl hm hm2
  clear hS
  cases ho : prsU s with
  | none =>
    rw [ho] at HP
    have HP : Hid (∀ w', Kept w w' → Calls Tryz.prog 14 #[.string (str s)] w' fun e w2 => e = .returned (.tuple #[.agg (uC zU.sch zU.host zU.port zU.path zU.q zU.f).toArray, .int .i64 7]) ∧ Below w'.heap.size w' w2) := HP
    clear ho hlt
    go_enter Tryz.func5, Tryz.ntmps5
    go_wp2_with (first
      | (go_at_call 13; (with_reducible refine (HS.out _ (Kept.refl w)).mono ?_); (rintro e w1 ⟨rfl, hb⟩; have k1 : Kept w w1 := hb; clear hb))
      | (go_at_call 14; (with_reducible refine (HP.out _ k1).mono ?_); (rintro e w2 ⟨rfl, hb⟩; have k2 := k1.step hb; clear hb))
      | ((with_reducible show wpList _ _ _ (⟨some 4, .alloc _, _, _, _, _⟩ :: _) _ _); refine wp_new _ rfl 24 rfl _ z24 ?_; intro w3 g1 B1 F1; simp only [Act.put, List.setIfInBounds_toArray, List.set_cons_zero, List.set_cons_succ])
      | ((with_reducible show wpList _ _ _ (⟨none, .store 24 (.tmp 4) (.tmp 17), _, _, _, _⟩ :: _) _ _); refine wp_putAll _ rfl 24 (.tmp 4) (.tmp 17) rfl g1 24 _ (uC zU.sch zU.host zU.port zU.path zU.q zU.f) rfl rfl B1 rfl n24 (uC_one _ _ _ _ _ _) ?_; intro w4 B4 U4; simp only [Act.put]; have k4 : Kept w w4 := (k2.step F1.below).base (U4.below (by rw [F1.is]; exact k2.size)))
      | ((with_reducible show wpList _ _ _ (⟨some 23, .load 24 (.tmp 4), _, _, _, _⟩ :: _) _ _); refine wp_getU _ (by rfl) (.tmp 4) rfl g1 zU rfl B4 ?_; simp only [Act.put, List.setIfInBounds_toArray, List.set_cons_zero, List.set_cons_succ])
      | ((with_reducible show wpList _ _ _ (⟨some 24, .build _ _, _, _, _, _⟩ :: _) _ _); refine wp_buildZ _ (by rfl) rfl ?_; simp only [Act.put, List.setIfInBounds_toArray, List.set_cons_zero, List.set_cons_succ])
      | ((with_reducible show wpList _ _ _ (⟨some 25, .binOp .eql 24 _ _ _, _, _, _, _⟩ :: _) _ _); refine wp_eqU _ (by rfl) (.tmp 23) (.tmp 24) rfl zU zU rfl rfl true ⟨fun _ => rfl, fun _ => rfl⟩ ?_; simp only [Act.put, List.setIfInBounds_toArray, List.set_cons_zero, List.set_cons_succ]))
    go_ret
    exact ⟨rfl, k4⟩
  | some u =>
    rw [ho] at HP
    have HP : Hid (∀ w', Kept w w' → Calls Tryz.prog 14 #[.string (str s)] w' fun e w2 => e = .returned (.tuple #[.agg (uC u.sch u.host u.port u.path u.q u.f).toArray, .int .i64 0]) ∧ Below w'.heap.size w' w2) := HP
    have hub := ub_of s u ho (by omega)
    have htl := txt_len s u ho hlt
    obtain ⟨hr, hch⟩ := once s u ho
    have HT : Hid (∀ w', Kept w w' → Calls Tryz.prog 17 #[uV u] w' fun e w2 => e = .returned (.string (str (txt u))) ∧ Below w'.heap.size w' w2) := fun w' hk => text_any u w' hub (ht.kp hk)
    have HR : Hid (∀ w', Kept w w' → Calls Tryz.prog 19 #[uV u] w' fun e w2 => e = .returned (.bool true) ∧ Below w'.heap.size w' w2) := fun w' hk => by
      have := right_any u w' hub htl (ht.kp hk)
      unfold rgt at this
      rw [decide_eq_true hr] at this
      exact this
    have hisb : isB (txt u) (txt u) = true := by
      unfold isB
      rw [hr]
      exact decide_eq_true rfl
    have HI : Hid (∀ w', Kept w w' → Calls Tryz.prog 25 #[.string (str (txt u)), .string (str (txt u))] w' fun e w2 => e = .returned (.bool true) ∧ Below w'.heap.size w' w2) := fun w' hk => by
      have := is_anyU (txt u) (txt u) w' htl (fun v hv => by rw [hr] at hv; cases hv; exact hub) (ht.kp hk)
      rw [hisb] at this
      exact this
    have hgb : Hid (∀ k, k < (txt u).length → ∀ h, ((str (txt u))[k]'h).toNat = ((txt u).getD k 0).toNat ∧ 32 ≤ ((txt u).getD k 0).toNat ∧ ((txt u).getD k 0).toNat ≤ 126) := fun k hk h => by
      have hin : (txt u).getD k 0 ∈ txt u := by
        rw [List.getD_eq_getElem?_getD, List.getElem?_eq_getElem hk]
        exact List.getElem_mem hk
      exact ⟨str_at _ k hk h, hch _ hin⟩
    have htz := str_size (txt u)
    generalize txt u = t at HT HI hgb htl htz
    obtain ⟨N, hN⟩ : ∃ N, N = t.length := ⟨_, rfl⟩
    rw [← hN] at hgb htl htz
    clear ho hlt hr hch hub hisb ht hN
    go_enter Tryz.func5, Tryz.ntmps5
    go_wp2_with (first
      | (go_at_call 13; (with_reducible refine (HS.out _ (Kept.refl w)).mono ?_); (rintro e w1 ⟨rfl, hb⟩; have k1 : Kept w w1 := hb; clear hb))
      | (go_at_call 14; (with_reducible refine (HP.out _ k1).mono ?_); (rintro e w2 ⟨rfl, hb⟩; have k2 := k1.step hb; clear hb))
      | ((with_reducible show wpList _ _ _ (⟨some 4, .alloc _, _, _, _, _⟩ :: _) _ _); refine wp_new _ rfl 24 rfl _ z24 ?_; intro w3 g1 B1 F1; simp only [Act.put, List.setIfInBounds_toArray, List.set_cons_zero, List.set_cons_succ])
      | ((with_reducible show wpList _ _ _ (⟨none, .store 24 (.tmp 4) (.tmp 17), _, _, _, _⟩ :: _) _ _); refine wp_putAll _ rfl 24 (.tmp 4) (.tmp 17) rfl g1 24 _ (uC u.sch u.host u.port u.path u.q u.f) rfl rfl B1 rfl n24 (uC_one _ _ _ _ _ _) ?_; intro w4 B4 U4; simp only [Act.put]; have k4 : Kept w w4 := (k2.step F1.below).base (U4.below (by rw [F1.is]; exact k2.size)))
      | ((with_reducible show wpList _ _ _ (⟨some 31, .load 24 (.tmp 4), _, _, _, _⟩ :: _) _ _); refine wp_getU _ (by rfl) (.tmp 4) rfl g1 u rfl B4 ?_; simp only [Act.put, List.setIfInBounds_toArray, List.set_cons_zero, List.set_cons_succ])
      | (go_at_call 17; (with_reducible refine (HT.out _ k4).mono ?_); (rintro e w5 ⟨rfl, hb⟩; have k5 := k4.step hb; have B5 := B4.kept hb; clear hb)))
    go_loop [7] (fun i => ∃ k : Nat, k ≤ N ∧ i = .int .i64 (k : Int)) (fun i => N - (intOf i).toNat)
    case atStart => exact ⟨0, by omega, rfl⟩
    case round =>
      obtain ⟨k, hk, rfl⟩ := hrel
      by_cases hlt : k < N
      · have hkS : (k : Int) < (N : Int) := by omega
        have HG := fun hh => (hgb.out k hlt hh).1
        have hh0 : k < (str t).size := by rw [htz]; exact hlt
        have hb := (hgb.out k hlt hh0).2
        obtain ⟨bm, hbm⟩ : ∃ bm, bm = (t.getD k 0).toNat := ⟨_, rfl⟩
        rw [← hbm] at HG hb
        clear hbm
        have h1 : ¬ (bm : Int) < 32 := by omega
        have h2 : ¬ (126 : Int) < (bm : Int) := by omega
        go_wp2_with fail
        go_round
        case rel => exact ⟨k + 1, by omega, by go_num⟩
        case measure => simp [intOf]; omega
      · have hkS : ¬ (k : Int) < (N : Int) := by omega
        go_wp2_with (first
          | ((with_reducible show wpList _ _ _ (⟨some 51, .load 24 (.tmp 4), _, _, _, _⟩ :: _) _ _); refine wp_getU _ (by rfl) (.tmp 4) rfl g1 u rfl B5 ?_; simp only [Act.put, List.setIfInBounds_toArray, List.set_cons_zero, List.set_cons_succ])
          | (go_at_call 19; (with_reducible refine (HR.out _ k5).mono ?_); (rintro e w6 ⟨rfl, hb⟩; have k6 := k5.step hb; clear hb))
          | (go_at_call 25; (with_reducible refine (HI.out _ k6).mono ?_); (rintro e w7 ⟨rfl, hb⟩; have k7 := k6.step hb; clear hb)))
        go_ret
        exact ⟨rfl, k7⟩
end Go.Proofs.YtcepigekibidfaaGreatDoor
