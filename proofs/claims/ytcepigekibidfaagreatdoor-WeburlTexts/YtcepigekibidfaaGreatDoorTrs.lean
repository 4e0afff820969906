/-
  What transeptref08.signed answers; nothing turns. Condition: texts of at most 100000000 bytes.
-/
import Derived.Test.YtcepigekibidfaaGreatDoorGk
import Derived.Test.YtcepigekibidfaaGreatDoorGe
namespace Go.Proofs.YtcepigekibidfaaGreatDoor
open Go.RowKit
set_option linter.unusedVariables false

set_option maxHeartbeats 1000000 in
set_option maxRecDepth 100000 in
theorem sg0 (l : List UInt8) (S : Nat) (n : Int) (w : World) (hsz : (str l).size = S) (hc : ((S : Int) == (S : Int)) = true) : Calls Tryz.prog 42 #[.string (str l), .int .i64 (S : Int), .int .i64 n] w fun e w' => e = .returned (.string (str [])) ∧ Below w.heap.size w w' := by
  go_enter Tryz.func42, Tryz.ntmps42
  go_wp2_with fail
  go_ret
  exact ⟨rfl, Below.refl _ _⟩
set_option maxHeartbeats 1000000 in
set_option maxRecDepth 100000 in
theorem sg1 (l t Y X Z : List UInt8) (S D E : Nat) (n : Int) (w : World) (hsz : (str l).size = S) (hS : S ≤ 100000000) (hD : D < S) (hE : (D : Int) + 1 = (E : Int)) (hE0 : IntKind.i64.wrap (E : Int) = (E : Int)) (hE1 : D ≤ E) (hE2 : E ≤ S) (hc : ((D : Int) == (S : Int)) = false) (ht : (str l).extract E S = str t) (hY : (str l).extract D E = str Y) (ha : str Y ++ str X = str Z) (hr : ¬ (9223372036854775807 : Nat) < (str Y).size + (str X).size) (H : Hid (∀ W, Calls Tryz.prog 43 #[.int .i64 n, .string (str t)] W fun e w' => e = .returned (.string (str X)) ∧ Below W.heap.size W w')) : Calls Tryz.prog 42 #[.string (str l), .int .i64 (D : Int), .int .i64 n] w fun e w' => e = .returned (.string (str Z)) ∧ Below w.heap.size w w' := by
  go_enter Tryz.func42, Tryz.ntmps42
  go_wp2_with fail
  refine wp_region_held_drew (S := fun W => Kept w W) (by kernel_rfl) (Kept.refl w).drew (fun hS0 => ?_)
  refine wpAnyH_take (i := 0) (oi := ⟨some 11, _, _, _, _, _⟩) (v := ?vc0) rfl (by kernel_rfl) (by kernel_rfl) (by kernel_rfl) (fun _ _ _ h => h) (Or.inl ⟨by rfl, ?yc0⟩) hS0 ?rc0
  case yc0 => intro W hW; go_simp; first | done | with_reducible rfl
  simp only [Act.put, List.setIfInBounds_toArray, List.set_cons_zero, List.set_cons_succ]
  refine wpAnyH_take (i := 1) (oi := ⟨some 12, _, _, _, _, _⟩) (v := ?vc1) rfl (by kernel_rfl) (by kernel_rfl) (by kernel_rfl) (fun _ _ _ h => h) (Or.inl ⟨by rfl, ?yc1⟩) hS0 ?rc1
  case yc1 => intro W hW; go_simp; first | done | with_reducible rfl
  simp only [Act.put, List.setIfInBounds_toArray, List.set_cons_zero, List.set_cons_succ]
  refine wpAnyH_take (i := 2) (oi := ⟨some 13, _, _, _, _, _⟩) (v := ?vc2) rfl (by kernel_rfl) (by kernel_rfl) (by kernel_rfl) (fun _ _ _ h => h) (Or.inl ⟨by rfl, ?yc2⟩) hS0 ?rc2
  case yc2 => intro W hW; go_simp; first | done | with_reducible rfl
  simp only [Act.put, List.setIfInBounds_toArray, List.set_cons_zero, List.set_cons_succ]
  refine wpAnyH_take (i := 3) (oi := ⟨some 14, _, _, _, _, _⟩) (v := ?vc3) rfl (by kernel_rfl) (by kernel_rfl) (by kernel_rfl) (fun _ _ _ h => h) (Or.inl ⟨by rfl, ?yc3⟩) hS0 ?rc3
  case yc3 => intro W hW; go_simp; first | done | with_reducible rfl
  simp only [Act.put, List.setIfInBounds_toArray, List.set_cons_zero, List.set_cons_succ]
  refine wpAnyH_take (i := 4) (oi := ⟨some 15, _, _, _, _, _⟩) (v := ?vc4) rfl (by kernel_rfl) (by kernel_rfl) (by kernel_rfl) (fun _ _ _ h => h) (Or.inl ⟨by rfl, ?yc4⟩) hS0 ?rc4
  case yc4 => intro W hW; go_simp; first | done | with_reducible rfl
  simp only [Act.put, List.setIfInBounds_toArray, List.set_cons_zero, List.set_cons_succ]
  refine wpAnyH_take (i := 5) (oi := ⟨some 16, _, _, _, _, _⟩) (v := ?vc5) rfl (by kernel_rfl) (by kernel_rfl) (by kernel_rfl) (fun _ _ _ h => h) (Or.inl ⟨by rfl, ?yc5⟩) hS0 ?rc5
  case yc5 => intro W hW; go_simp; first | done | with_reducible rfl
  simp only [Act.put, List.setIfInBounds_toArray, List.set_cons_zero, List.set_cons_succ]
  refine wpAnyH_take (i := 6) (oi := ⟨some 17, _, _, _, _, _⟩) (v := ?vc6) rfl (by kernel_rfl) (by kernel_rfl) (by kernel_rfl) (fun _ _ _ h => h) (Or.inl ⟨by rfl, ?yc6⟩) hS0 ?rc6
  case yc6 => intro W hW; go_simp; first | done | with_reducible rfl
  simp only [Act.put, List.setIfInBounds_toArray, List.set_cons_zero, List.set_cons_succ]
  refine wpAnyH_take (i := 7) (oi := ⟨some 18, _, _, _, _, _⟩) (v := ?vc7) rfl (by kernel_rfl) (by kernel_rfl) (by kernel_rfl) (fun _ _ _ h => h) (Or.inl ⟨by rfl, ?yc7⟩) hS0 ?rc7
  case yc7 => intro W hW; go_simp; first | done | with_reducible rfl
  simp only [Act.put, List.setIfInBounds_toArray, List.set_cons_zero, List.set_cons_succ]
  refine wpAnyH_take (i := 8) (oi := ⟨some 19, _, _, _, _, _⟩) (v := ?vc8) rfl (by kernel_rfl) (by kernel_rfl) (by kernel_rfl) (fun _ _ _ h => h) (Or.inl ⟨by rfl, ?yc8⟩) hS0 ?rc8
  case yc8 => intro W hW; go_simp; first | done | with_reducible rfl
  simp only [Act.put, List.setIfInBounds_toArray, List.set_cons_zero, List.set_cons_succ]
  refine wpAnyH_take (i := 9) (oi := ⟨some 20, _, _, _, _, _⟩) (v := ?vc9) rfl (by kernel_rfl) (by kernel_rfl) (by kernel_rfl) (fun _ _ _ h => h) (Or.inl ⟨by rfl, ?yc9⟩) hS0 ?rc9
  case yc9 => intro W hW; go_simp; first | done | with_reducible rfl
  simp only [Act.put, List.setIfInBounds_toArray, List.set_cons_zero, List.set_cons_succ]
  refine wpAnyH_ready (rs := [10]) (by kernel_rfl) (by simp) ?_
  refine (AllReadyH.cons (o := ⟨some 21, _, _, _, _, _⟩) rfl (fun K hK => ?_) AllReadyH.nil)
  try go_simp
  (with_reducible refine (H.out _).mono ?_)
  rintro e w1 ⟨rfl, hb⟩
  have hS1 := hS0.step hb
  clear hb
  refine hK.out _ _ hS1 (fun _ => ?_)
  clear hK K
  try simp only [Act.put, List.setIfInBounds_toArray, List.set_cons_zero, List.set_cons_succ]
  refine wpAnyH_take (i := 11) (oi := ⟨some 22, _, _, _, _, _⟩) (v := ?vc11) rfl (by kernel_rfl) (by kernel_rfl) (by kernel_rfl) (fun _ _ _ h => h) (Or.inl ⟨by rfl, ?yc11⟩) hS1 ?rc11
  case yc11 => intro W hW; go_simp; first | done | with_reducible rfl
  simp only [Act.put, List.setIfInBounds_toArray, List.set_cons_zero, List.set_cons_succ]
  refine wpAnyH_take (i := 12) (oi := ⟨some 6, _, _, _, _, _⟩) (v := ?vc12) rfl (by kernel_rfl) (by kernel_rfl) (by kernel_rfl) (fun _ _ _ h => h) (Or.inl ⟨by rfl, ?yc12⟩) hS1 ?rc12
  case yc12 => intro W hW; go_simp; first | done | with_reducible rfl
  simp only [Act.put, List.setIfInBounds_toArray, List.set_cons_zero, List.set_cons_succ]
  refine wpAnyH_done (by kernel_rfl) ?_ _
  go_wp2_with fail
  go_ret
  exact ⟨rfl, hS1⟩
theorem rsigned_any (l : List UInt8) (c : UInt8) (n : Int) (w : World) (hl : l.length ≤ 100000000) : Calls Tryz.prog 42 #[.string (str l), .int .i64 ((bef c l).length : Int), .int .i64 n] w fun e w' => e = .returned (.string (str (sgn c n l))) ∧ Below w.heap.size w w' := by
  have hsz := str_size l
  unfold sgn
  by_cases hm : c ∈ l
  · rw [if_pos (by simpa using hm)]
    have hba := bef_aft c l hm
    have hlen : l.length = (bef c l).length + ((aft c l).length + 1) := by
      have := congrArg List.length hba
      rw [List.length_append, List.length_cons] at this
      exact this
    have hel := enc_len (inS n) (aft c l)
    have hat : l.drop ((bef c l).length + 1) = aft c l := by
      generalize bef c l = B at hba
      generalize aft c l = A at hba
      subst hba
      rw [← List.drop_drop, List.drop_left]
      rfl
    have hg : l.getD (bef c l).length 0 = c := by
      generalize bef c l = B at hba
      generalize aft c l = A at hba
      subst hba
      simp [List.getD]
    have hY := str_one l (bef c l).length (by omega)
    rw [hg] at hY
    have ht := str_drop l ((bef c l).length + 1) l.length rfl (by omega)
    rw [hat] at ht
    exact sg1 l (aft c l) [c] (enc (inS n) (aft c l)) _ l.length _ ((bef c l).length + 1) n w hsz hl (by omega) (by omega) (by rw [IntKind.wrap_i64]; omega) (by omega) (by omega) (by rw [beq_eq_false_iff_ne]; omega) ht hY (str_add [c] _) (by rw [str_size, str_size]; have : [c].length = 1 := rfl; omega) (fun W => refEncode_any n _ W (by omega))
  · rw [if_neg (by simpa using hm), bef_none c l hm]
    exact sg0 l _ n w hsz (by simp)
end Go.Proofs.YtcepigekibidfaaGreatDoor
