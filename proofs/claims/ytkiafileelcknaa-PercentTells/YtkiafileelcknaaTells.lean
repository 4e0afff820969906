/-
  The walk of transeptlaw06.PercentTells: true, for every set and text; nothing that was there turns. No condition.
-/
import Derived.Test.YtkiafileelcknaaRefDec
namespace Go.Proofs.Ytkiafileelcknaa
open Go.RowKit

theorem wp_neS {ops : Array Oper} {rest : List Oper} {o : Oper} {a : Act} {Q : Exit → Act → World → Prop} (w : World) (hgd : Region.wanted o (yielded ops a.tmps) = true) (x y : Operand) (ho : o.op = .binOp .neq 9 x y 9) (l : List UInt8)
    (hx : a.eval x = .string (str l)) (hy : a.eval y = .string (str l))
    (h : wpList Try.prog ops Q rest (a.put o.dst (.bool false)) w) : wpList Try.prog ops Q (o :: rest) a w :=
  wpList_step fun K hK => by
    rw [if_pos hgd]
    have h1 : (binOp .neq 9 (.string (str l)) (.string (str l))).run Try.prog w = .ok (.bool false) w := by
      simp only [binOp, Op.stringOp]
      simp
    have h2 : (eqGuard .neq 9 x y (.string (str l)) (.string (str l))).run Try.prog w = .ok () w := by simp [eqGuard]
    unfold Oper.wp execOp
    simp only [ho, hx, hy, Sem.run_bind, h1, h2, Result.andThen_ok, Sem.run_pure]
    exact hK _ _ h

set_option maxHeartbeats 8000000 in
set_option maxRecDepth 100000 in
theorem tells_walk (n0 : Int) (S0 : List UInt8) (hS : S0.length ≤ 9223372036854775807) (w : World) :
    Calls Try.prog 3 #[.int .i64 n0, .string (str S0)] w fun e w' => e = .returned (.bool true) ∧ Below w.heap.size w w' := by
  obtain ⟨j, hj, hj1, hj2⟩ : ∃ j : Nat, min (S0.length : Int) 1000 = (j : Int) ∧ j ≤ S0.length ∧ j ≤ 1000 := ⟨min S0.length 1000, by omega, by omega, by omega⟩
  obtain ⟨l, hl⟩ : ∃ l, l = S0.take j := ⟨_, rfl⟩
  have hll : l.length = j := by rw [hl, List.length_take]; omega
  have hex : (str S0).extract 0 j = str l := by rw [hl]; exact str_take S0 j
  have hss := str_size S0
  have hsz : (str l).size = j := by rw [str_size, hll]
  have EN : Hid (∀ (n : Int) W, Calls Try.prog 13 #[.int .i64 n, .string (str l)] W fun e w' => e = .returned (.string (str (enc (inS n) l))) ∧ Below W.heap.size W w') := fun n W => encode_any n l W (by omega)
  have RN : Hid (∀ (n : Int) W, Calls Try.prog 14 #[.int .i64 n, .string (str l)] W fun e w' => e = .returned (.string (str (enc (inS n) l))) ∧ Below W.heap.size W w') := fun n W => refEncode_any n l W (by omega)
  obtain ⟨D, hD⟩ : ∃ D, D = dec l := ⟨_, rfl⟩
  have DN : Hid (∀ W, Calls Try.prog 15 #[.string (str l)] W fun e w' => e = .returned (.string (str D)) ∧ Below W.heap.size W w') := fun W => by rw [hD]; exact decode_any l W (by omega)
  have SN : Hid (∀ W, Calls Try.prog 16 #[.string (str l)] W fun e w' => e = .returned (.string (str D)) ∧ Below W.heap.size W w') := fun W => by rw [hD]; exact refDecode_any l W (by omega)
  have IN : Hid (∀ (n : Int) (c : Nat), c < 256 → ∃ P : Bool, (∀ W, Calls Try.prog 11 #[.int .i64 n, .int .u8 (c : Int)] W fun e w' => e = .returned (.bool P) ∧ Below W.heap.size W w') ∧ ∀ W, Calls Try.prog 12 #[.int .i64 n, .int .u8 (c : Int)] W fun e w' => e = .returned (.bool P) ∧ Below W.heap.size W w') := fun n c hc => by
    have e : vb (UInt8.ofNat c) = .int .u8 (c : Int) := by rw [vb, toNat_ofNat_lt _ hc]
    refine ⟨inS n (UInt8.ofNat c), fun W => ?_, fun W => ?_⟩
    · have h := in_any n (UInt8.ofNat c) W
      rw [e] at h
      exact h
    · have h := refIn_any n (UInt8.ofNat c) W
      rw [e] at h
      exact h
  clear hl hll hD
  go_enter Try.func3, Try.ntmps3
  go_wp2_with (first
    | (go_at_call 10; with_reducible refine (shown_any w).mono ?_; rintro e_ w1 ⟨rfl, b1⟩))
  go_loopw [6] (fun a wr => ∃ n : Nat, n ≤ 7 ∧ a = .int .i64 (n : Int) ∧ Kept w1 wr) (fun a _ => 7 - (intOf a).toNat)
  case atStart => exact ⟨0, by omega, rfl, Kept.refl _⟩
  case round =>
    obtain ⟨n, hn, rfl, hkp⟩ := hrel
    by_cases hlt : n < 7
    · have hni : (n : Int) < 7 := by omega
      go_wp2_with fail
      go_loopw [7] (fun a ws => ∃ c : Nat, c ≤ 256 ∧ a = .int .i64 (c : Int) ∧ Kept w1 ws) (fun a _ => 256 - (intOf a).toNat)
      case atStart => exact ⟨0, by omega, rfl, hkp⟩
      case round =>
        obtain ⟨c, hc, rfl, hkp2⟩ := hrel
        by_cases hlt2 : c < 256
        · have hci : (c : Int) < 256 := by omega
          obtain ⟨P, IP, RP⟩ := IN.out (n : Int) c hlt2
          have HIP := Lib.hid IP
          have HRP := Lib.hid RP
          have hwc : IntKind.u8.wrap (c : Int) = (c : Int) := by rw [IntKind.wrap_u8]; omega
          have hmc : (c : Int) % 256 = (c : Int) := by omega
          clear IP RP
          go_wp2_with (first | (go_at_call 11; (with_reducible refine (HIP.out _).mono ?_); rintro e_ w2 ⟨rfl, b2⟩) | (go_at_call 12; (with_reducible refine (HRP.out _).mono ?_); rintro e_ w3 ⟨rfl, b3⟩))
          go_roundw
          case rel => exact ⟨c + 1, by omega, by go_num, (hkp2.step b2).step b3⟩
          case measure => simp [intOf]; omega
        · have hci : ¬ (c : Int) < 256 := by omega
          have EN' := Lib.hid (EN.out (n : Int))
          have RN' := Lib.hid (RN.out (n : Int))
          obtain ⟨X, hX⟩ : ∃ X, X = enc (inS (n : Int)) l := ⟨_, rfl⟩
          rw [← hX] at EN' RN'
          clear hX
          go_wp2_with (first
            | (go_at_call 13; (with_reducible refine (EN'.out _).mono ?_); rintro e_ w2 ⟨rfl, b2⟩)
            | (go_at_call 14; (with_reducible refine (RN'.out _).mono ?_); rintro e_ w3 ⟨rfl, b3⟩)
            | ((with_reducible show wpList _ _ _ (⟨some 37, .binOp _ _ _ _ _, _, _, _, _⟩ :: _) _ _); refine wp_neS _ (by kernel_rfl) _ _ rfl X rfl rfl ?_; simp only [Act.put, List.setIfInBounds_toArray, List.set_cons_zero, List.set_cons_succ]))
          go_roundw
          case rel => exact ⟨n + 1, by omega, by go_num, (hkp2.step b2).step b3⟩
          case measure => simp [intOf]; omega
    · have hni : ¬ (n : Int) < 7 := by omega
      have EN' := Lib.hid (EN.out n0)
      have RN' := Lib.hid (RN.out n0)
      obtain ⟨X, hX⟩ : ∃ X, X = enc (inS n0) l := ⟨_, rfl⟩
      rw [← hX] at EN' RN'
      clear hX
      go_wp2_with (first
        | (go_at_call 13; (with_reducible refine (EN'.out _).mono ?_); rintro e_ w2 ⟨rfl, b2⟩)
        | (go_at_call 14; (with_reducible refine (RN'.out _).mono ?_); rintro e_ w3 ⟨rfl, b3⟩)
        | ((with_reducible show wpList _ _ _ (⟨some 46, .binOp _ _ _ _ _, _, _, _, _⟩ :: _) _ _); refine wp_eqS _ (by kernel_rfl) _ _ rfl X X rfl rfl true (by simp) ?_; simp only [Act.put, List.setIfInBounds_toArray, List.set_cons_zero, List.set_cons_succ])
        | (go_at_call 15; (with_reducible refine (DN.out _).mono ?_); rintro e_ w4 ⟨rfl, b4⟩)
        | (go_at_call 16; (with_reducible refine (SN.out _).mono ?_); rintro e_ w5 ⟨rfl, b5⟩)
        | ((with_reducible show wpList _ _ _ (⟨some 53, .binOp _ _ _ _ _, _, _, _, _⟩ :: _) _ _); refine wp_eqS _ (by kernel_rfl) _ _ rfl D D rfl rfl true (by simp) ?_; simp only [Act.put, List.setIfInBounds_toArray, List.set_cons_zero, List.set_cons_succ]))
      go_ret
      have c1 : Below w.heap.size w wr := b1.trans (hkp.mono b1.size)
      have c2 := c1.trans (b2.mono c1.size)
      have c3 := c2.trans (b3.mono c2.size)
      have c4 := c3.trans (b4.mono c3.size)
      exact ⟨rfl, c4.trans (b5.mono c4.size)⟩
end Go.Proofs.Ytkiafileelcknaa
