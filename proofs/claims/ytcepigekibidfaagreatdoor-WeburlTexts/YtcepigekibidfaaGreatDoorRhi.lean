/-
  What transeptref07.IPv4 answers; nothing that was there turns. Condition: texts of at most 100000000 bytes.
-/
import Derived.Test.YtcepigekibidfaaGreatDoorRhs
namespace Go.Proofs.YtcepigekibidfaaGreatDoor
open Go.RowKit

/-- Where the document's IPv4 stands ahead of part i. -/
structure I4 (P : List (List UInt8)) (N i A rm u : Nat) : Prop where
  len : P.length = N
  n4 : N ≤ 4
  lt : i < N
  hu : u = A * rm
  hb : (A + 1) * rm ≤ 4294967296
  hrm : rm = 256 ^ (4 - i)
  hj : jn 4 0 P = jn (4 - i) A (P.drop i)
section
variable {P : List (List UInt8)} {N i A rm u : Nat}
theorem I4.start (h : P.length = N) (h4 : N ≤ 4) (h1 : 1 ≤ N) : I4 P N 0 0 4294967296 0 := ⟨h, h4, by omega, rfl, by decide, by decide, rfl⟩
theorem I4.at_ (h : I4 P N i A rm u) : ∃ p, P[i]? = some p ∧ P.drop i = p :: P.drop (i + 1) := by
  have h1 : i < P.length := by rw [h.len]; exact h.lt
  exact ⟨P[i], List.getElem?_eq_getElem h1, List.drop_eq_getElem_cons h1⟩
theorem I4.no (h : I4 P N i A rm u) {p : List UInt8} (hp : P.drop i = p :: P.drop (i + 1)) (hn : rnum p = none) : jn 4 0 P = none := by
  rw [h.hj, hp]
  have e : num p = none := by rw [num_rnum, hn]; rfl
  cases P.drop (i + 1) <;> simp [jn, e]
theorem I4.last_bad (h : I4 P N i A rm u) {p : List UInt8} {n : Nat} (hp : P.drop i = p :: P.drop (i + 1)) (hn : rnum p = some n) (hl : ¬ i + 1 < N) (hbad : rm ≤ n) : jn 4 0 P = none := by
  have e : num p = some (min n 4294967296) := by rw [num_rnum, hn]; rfl
  have e2 : P.drop (i + 1) = [] := List.drop_eq_nil_of_le (by rw [h.len]; omega)
  have h3 : rm ≤ 4294967296 := by have h1 := h.hb; have h2 : 1 * rm ≤ (A + 1) * rm := Nat.mul_le_mul_right _ (by omega); omega
  rw [h.hj, hp, e2, jn, e]
  show (if min n 4294967296 < 256 ^ (4 - i) then _ else _) = _
  rw [← h.hrm, if_neg (by omega)]
theorem I4.last_ok (h : I4 P N i A rm u) {p : List UInt8} {n : Nat} (hp : P.drop i = p :: P.drop (i + 1)) (hn : rnum p = some n) (hl : ¬ i + 1 < N) (hok : n < rm) : jn 4 0 P = some (u + n) ∧ u + n < 4294967296 := by
  have e : num p = some (min n 4294967296) := by rw [num_rnum, hn]; rfl
  have e2 : P.drop (i + 1) = [] := List.drop_eq_nil_of_le (by rw [h.len]; omega)
  have h1 := h.hb
  rw [Nat.succ_mul, ← h.hu] at h1
  have e3 : min n 4294967296 = n := by omega
  refine ⟨?_, by omega⟩
  rw [h.hj, hp, e2, jn, e, e3]
  show (if n < 256 ^ (4 - i) then some (A * 256 ^ (4 - i) + n) else _) = _
  rw [← h.hrm, if_pos hok, ← h.hu]
theorem I4.mid_bad (h : I4 P N i A rm u) {p : List UInt8} {n : Nat} (hp : P.drop i = p :: P.drop (i + 1)) (hn : rnum p = some n) (hl : i + 1 < N) (hbad : 255 < n) : jn 4 0 P = none := by
  have e : num p = some (min n 4294967296) := by rw [num_rnum, hn]; rfl
  obtain ⟨q, r, e2⟩ : ∃ q r, P.drop (i + 1) = q :: r := ⟨_, _, List.drop_eq_getElem_cons (by rw [h.len]; exact hl)⟩
  rw [h.hj, hp, e2, jn, e]
  show (if min n 4294967296 < 256 then _ else _) = _
  rw [if_neg (by omega)]
theorem I4.mid_ok (h : I4 P N i A rm u) {p : List UInt8} {n : Nat} (hp : P.drop i = p :: P.drop (i + 1)) (hn : rnum p = some n) (hl : i + 1 < N) (hok : n ≤ 255) : ∃ r2 z, rm = r2 * 256 ∧ 256 ≤ rm ∧ r2 ≤ 16777216 ∧ n * r2 = z ∧ z ≤ 4294967296 ∧ u ≤ 4294967296 ∧ I4 P N (i + 1) (A * 256 + n) r2 (u + z) := by
  have e : num p = some (min n 4294967296) := by rw [num_rnum, hn]; rfl
  obtain ⟨q, r, e2⟩ : ∃ q r, P.drop (i + 1) = q :: r := ⟨_, _, List.drop_eq_getElem_cons (by rw [h.len]; exact hl)⟩
  have hi : 4 - i = (4 - (i + 1)) + 1 := by have := h.n4; omega
  have hr : rm = 256 ^ (4 - (i + 1)) * 256 := by rw [h.hrm, hi, Nat.pow_succ]
  have hpos : 1 ≤ 256 ^ (4 - (i + 1)) := Nat.one_le_pow _ _ (by decide)
  have hb := h.hb
  obtain ⟨r2, hr2⟩ : ∃ r2, r2 = 256 ^ (4 - (i + 1)) := ⟨_, rfl⟩
  rw [← hr2] at hr hpos
  have hu : u = A * (r2 * 256) := by rw [h.hu, hr]
  rw [hr] at hb
  have h1 : (A + 1) * (r2 * 256) = (A * 256 + 256) * r2 := by rw [Nat.mul_comm r2 256, ← Nat.mul_assoc, Nat.add_mul, Nat.one_mul]
  have h2 : (A * 256 + n) * r2 = A * (r2 * 256) + n * r2 := by rw [Nat.add_mul, Nat.mul_comm r2 256, ← Nat.mul_assoc]
  have h3 : (A * 256 + n + 1) * r2 ≤ (A * 256 + 256) * r2 := Nat.mul_le_mul_right _ (by omega)
  have h4 : n * r2 ≤ 256 * r2 := Nat.mul_le_mul_right _ (by omega)
  have h5 : 1 * (r2 * 256) ≤ (A + 1) * (r2 * 256) := Nat.mul_le_mul_right _ (by omega)
  have h6 : A * (r2 * 256) ≤ (A + 1) * (r2 * 256) := Nat.mul_le_mul_right _ (by omega)
  refine ⟨r2, n * r2, hr, by omega, by omega, rfl, by omega, by omega, h.len, h.n4, hl, by rw [hu, h2], by omega, hr2, ?_⟩
  rw [h.hj, hp, e2, jn, e]
  show (if min n 4294967296 < 256 then jn (4 - i - 1) (A * 256 + min n 4294967296) (q :: r) else _) = _
  rw [if_pos (by omega), show min n 4294967296 = n by omega, show 4 - i - 1 = 4 - (i + 1) by omega]
end
set_option maxHeartbeats 8000000 in
set_option maxRecDepth 100000 in
theorem rip4_any (l : List UInt8) (w : World) (hl : l.length ≤ 100000000) : Calls Tryz.prog 52 #[.string (str l)] w fun e w' => e = .returned (ip4V (ip4 l)) ∧ Below w.heap.size w w' := by
  have HE : Hid (Calls Tryz.prog 77 #[.string (str l)] w fun e w' => e = .returned (.bool (ends (prt l))) ∧ Below w.heap.size w w') := rends_any l w hl
  have HS : Hid (∀ W, Calls Tryz.prog 78 #[.string (str l)] W fun e w' => ∃ g c, e = .returned (.slice (some ⟨g, 0, none⟩) (prt l).length c) ∧ (prt l).length ≤ c ∧ Ps w' g (prt l) ∧ Below W.heap.size W w') := fun W => rparts_any l W hl
  have hne := prt_ne l
  have hkl := rprt_len l
  have hmem := fun p => rprt_mem l p
  have hr1 : ip4 l = if ends (prt l) then (match joinS (prt l) with | some n => (n, true, false) | none => (0, true, true)) else (0, false, false) := rfl
  have hr2 : joinS (prt l) = if 4 < (prt l).length then none else jn 4 0 (prt l) := rfl
  obtain ⟨R, hR⟩ : ∃ R, R = ip4 l := ⟨_, rfl⟩
  obtain ⟨E, hEd⟩ : ∃ R, R = ends (prt l) := ⟨_, rfl⟩
  obtain ⟨J, hJ⟩ : ∃ R, R = joinS (prt l) := ⟨_, rfl⟩
  rw [← hR] at hr1 ⊢
  rw [← hEd] at HE hr1
  rw [← hJ] at hr1 hr2
  generalize prt l = P at HS hne hkl hmem hr2
  obtain ⟨N, hN⟩ : ∃ N, P.length = N := ⟨_, rfl⟩
  rw [hN] at HS hkl hr2
  have h1N : 1 ≤ N := by have := List.length_pos_iff.2 hne; omega
  clear hR hEd hJ hne
  cases E with
  | false =>
    have HR : Hid (ip4V R = .tuple #[.int .u32 0, .bool false, .int .i64 0]) := by show _ = _; rw [hr1]; rfl
    rw [HR.out]
    clear hr1 hr2 HR
    go_enter Tryz.func52, Tryz.ntmps52
    go_wp2_with (go_at_call 77; (with_reducible refine HE.out.mono ?_); rintro e w1 ⟨rfl, hb⟩)
    go_ret3
    exact ⟨rfl, hb⟩
  | true =>
    rw [if_pos rfl] at hr1
    by_cases h4 : 4 < N
    · have h4i : (4 : Int) < (N : Int) := by omega
      have HR : Hid (ip4V R = .tuple #[.int .u32 0, .bool true, .int .i64 7]) := by show _ = _; rw [hr1, hr2, if_pos h4]; rfl
      rw [HR.out]
      clear hr1 hr2 HR h4
      go_enter Tryz.func52, Tryz.ntmps52
      go_wp2_with (first
        | (go_at_call 77; (with_reducible refine HE.out.mono ?_); (rintro e w1 ⟨rfl, hb⟩; have k1 : Kept w w1 := hb; clear hb))
        | (go_at_call 78; (with_reducible refine (HS.out _).mono ?_); (rintro e w2 ⟨g, c, rfl, hc, hps, hb⟩; have k2 := k1.step hb; clear hps hb)))
      go_ret3
      exact ⟨rfl, k2⟩
    · have h4i : ¬ (4 : Int) < (N : Int) := by omega
      rw [if_neg h4] at hr2
      have HB : Hid (J = none → ip4V R = .tuple #[.int .u32 0, .bool true, .int .i64 7]) := fun h => by rw [hr1, h]; rfl
      have HG : Hid (∀ n : Nat, J = some n → ip4V R = .tuple #[.int .u32 (n : Int), .bool true, .int .i64 0]) := fun n h => by rw [hr1, h]; rfl
      have HJ : Hid (J = jn 4 0 P) := hr2
      have HM : Hid (∀ p, p ∈ P → ∀ W, Calls Tryz.prog 79 #[.string (str p)] W fun e w' => e = .returned (valV (rnum p)) ∧ w' = W) := fun p hp W => rnumber_any p W (by have := hmem p hp; omega)
      have hN4 : N ≤ 4 := by omega
      have hst := I4.start hN hN4 h1N
      have HST := Lib.hid hst
      have hcv : ∀ (n : Nat), n < 4294967296 → ∀ W : World, (convert 97 67 (.int .u64 (n : Int))).run Tryz.prog W = .ok (.int .u32 (n : Int)) W := fun n hn W => by
        have hw : IntKind.u32.wrap (n : Int) = (n : Int) := by rw [IntKind.wrap_u32]; omega
        simp [convert, run_underlying Tryz.underlying97, run_underlying Tryz.underlying67, Conv.intToInt, hw]
      have HCV := Lib.hid hcv
      clear hr1 hr2 hmem hst hcv h4 hN hkl
      go_enter Tryz.func52, Tryz.ntmps52
      go_wp2_with (first
        | (go_at_call 77; (with_reducible refine HE.out.mono ?_); (rintro e w1 ⟨rfl, hb⟩; have k1 : Kept w w1 := hb; clear hb))
        | (go_at_call 78; (with_reducible refine (HS.out _).mono ?_); (rintro e w2 ⟨g, c, rfl, hc, hps, hb⟩; have k2 := k1.step hb; have HPs := Lib.hid hps; clear hps hb)))
      go_loop [9, 7, 8] (fun i u r => ∃ i0 u0 r0 : Nat, i = .int .i64 (i0 : Int) ∧ u = .int .u64 (u0 : Int) ∧ r = .int .u64 (r0 : Int) ∧ ((∃ A, I4 P N i0 A r0 u0) ∨ (i0 = N ∧ J = some u0 ∧ u0 < 4294967296))) (fun i _ _ => N - (intOf i).toNat)
      case atStart => exact ⟨0, 0, 4294967296, rfl, rfl, rfl, .inl ⟨0, HST.out⟩⟩
      case round =>
        obtain ⟨i0, u0, r0, rfl, rfl, rfl, ⟨A, hI⟩ | ⟨h0, h1, h2⟩⟩ := hrel
        · have hlt := hI.lt
          have hiN : (i0 : Int) < (N : Int) := by omega
          obtain ⟨p, hp, hdr⟩ := hI.at_
          have hcell := HPs.out.at_ hp
          have hM := HM.out p (List.mem_of_getElem? hp)
          have hnone := fun h => hI.no hdr h
          have hlb := fun n h => hI.last_bad (n := n) hdr h
          have hlo := fun n h => hI.last_ok (n := n) hdr h
          have hmb := fun n h => hI.mid_bad (n := n) hdr h
          have hmo := fun n h => hI.mid_ok (n := n) hdr h
          have hI1 := hI.hb
          have hrm : r0 ≤ 4294967296 := by have h2 : 1 * r0 ≤ (A + 1) * r0 := Nat.mul_le_mul_right _ (by omega); omega
          have hu0 : u0 ≤ 4294967296 := by rw [hI.hu]; have h2 : A * r0 ≤ (A + 1) * r0 := Nat.mul_le_mul_right _ (by omega); omega
          clear hI hp hdr hI1
          cases ho : rnum p with
          | none =>
            rw [ho] at hM
            have HM1 : Hid (∀ W, Calls Tryz.prog 79 #[.string (str p)] W fun e w' => e = .returned (.tuple #[.int .u64 0, .bool false]) ∧ w' = W) := hM
            have hF := Lib.hid (HB.out (HJ.out.trans (hnone ho)))
            clear hM hnone hlb hlo hmb hmo ho
            go_wp2_with (go_at_call 79; (with_reducible refine (HM1.out _).mono ?_); rintro e w3 ⟨rfl, rfl⟩)
            go_ret3
            rw [hF.out]
            exact ⟨rfl, k2⟩
          | some n =>
            rw [ho] at hM
            have HM1 : Hid (∀ W, Calls Tryz.prog 79 #[.string (str p)] W fun e w' => e = .returned (.tuple #[.int .u64 (n : Int), .bool true]) ∧ w' = W) := hM
            have hnl := rnum_le p n ho
            by_cases hla : i0 + 1 < N
            · have hla1 : (i0 : Int) + 1 < (N : Int) := by omega
              by_cases hn : 255 < n
              · have hn1 : (255 : Int) < (n : Int) := by omega
                have hF := Lib.hid (HB.out (HJ.out.trans (hmb n ho hla hn)))
                clear hM hnone hlb hlo hmb hmo ho hla hn
                go_wp2_with (go_at_call 79; (with_reducible refine (HM1.out _).mono ?_); rintro e w3 ⟨rfl, rfl⟩)
                go_ret3
                rw [hF.out]
                exact ⟨rfl, k2⟩
              · have hn1 : ¬ (255 : Int) < (n : Int) := by omega
                obtain ⟨r2, z, e1, e2, e3, e4, e5, e6, hI2⟩ := hmo n ho hla (by omega)
                have hge : ¬ (r0 : Int) ≤ (n : Int) := by omega
                have hq : (r0 : Int) / 256 = (r2 : Int) := by omega
                have hq' : Int.tdiv (r0 : Int) 256 = (r2 : Int) := by
                  have : Int.tdiv (r0 : Int) 256 = ((r0 / 256 : Nat) : Int) := rfl
                  omega
                have hz : (n : Int) * (r2 : Int) = (z : Int) := by rw [← e4]; simp
                have HI2 := Lib.hid hI2
                clear hM hnone hlb hlo hmb hmo ho hla hn hI2 e1 e4
                go_wp2_with (go_at_call 79; (with_reducible refine (HM1.out _).mono ?_); rintro e w3 ⟨rfl, rfl⟩)
                go_round
                case rel => exact ⟨i0 + 1, u0 + z, r2, by go_num, by go_num, rfl, .inl ⟨_, HI2.out⟩⟩
                case measure => simp [intOf]; omega
            · have hla1 : ¬ (i0 : Int) + 1 < (N : Int) := by omega
              by_cases hn : r0 ≤ n
              · have hn1 : (r0 : Int) ≤ (n : Int) := by omega
                have hF := Lib.hid (HB.out (HJ.out.trans (hlb n ho hla hn)))
                clear hM hnone hlb hlo hmb hmo ho hla hn
                go_wp2_with (go_at_call 79; (with_reducible refine (HM1.out _).mono ?_); rintro e w3 ⟨rfl, rfl⟩)
                go_ret3
                rw [hF.out]
                exact ⟨rfl, k2⟩
              · have hn1 : ¬ (r0 : Int) ≤ (n : Int) := by omega
                obtain ⟨e1, e2⟩ := hlo n ho hla (by omega)
                have HI2 := Lib.hid (HJ.out.trans e1)
                have hi1 : Hid (i0 + 1 = N) := by show _ = _; omega
                clear hM hnone hlb hlo hmb hmo ho hla hn e1
                go_wp2_with (go_at_call 79; (with_reducible refine (HM1.out _).mono ?_); rintro e w3 ⟨rfl, rfl⟩)
                go_round
                case rel => exact ⟨i0 + 1, u0 + n, r0, by go_num, by go_num, rfl, .inr ⟨hi1.out, HI2.out, e2⟩⟩
                case measure => have := hi1.out; simp [intOf]; omega
        · have hiN : ¬ (i0 : Int) < (N : Int) := by omega
          have hF := Lib.hid (HG.out u0 h1)
          have hcv1 := HCV.out u0 h2
          clear h0 h1
          go_wp2_with fail
          go_ret3
          rw [hF.out]
          exact ⟨rfl, k2⟩
end Go.Proofs.YtcepigekibidfaaGreatDoor
