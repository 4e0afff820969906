/-
  The walk of transeptlaw06.PercentBytes: true, for every set and two bytes; nothing that was there turns. No condition.
-/
import Derived.Test.YtkiafileelcknaaBack
import Derived.BigQuiet
namespace Go.Proofs.Ytkiafileelcknaa
open Go.RowKit

theorem below_dn {B : Nat} {a w : World} (h : Below B a w) (q : Nat) : Below B a (w.drewN q) := ⟨h.os, h.tape, h.output, h.size, h.block⟩
def lows : List UInt8 := [48, 49, 50, 51, 52, 53, 54, 55, 56, 57, 97, 98, 99, 100, 101, 102]
def low (n : Nat) : UInt8 := lows.getD n 0
theorem low_dig : ∀ k, k < 16 → dig (low k) = k := by decide +kernel
theorem pair_low (c : UInt8) : pair (low (c.toNat / 16)) (low (c.toNat % 16)) = some c := by
  have h1 : c.toNat < 256 := c.toNat_lt
  unfold pair
  rw [low_dig _ (by omega), low_dig _ (by omega), if_pos ⟨by omega, by omega⟩]
  congr 1
  rw [show c.toNat / 16 * 16 + c.toNat % 16 = c.toNat by omega]
  simp
theorem hex_cut (q : Nat) (hq : q < 16) : (ByteArray.mk #[48, 49, 50, 51, 52, 53, 54, 55, 56, 57, 65, 66, 67, 68, 69, 70]).extract q (q + 1) = str [hex q] := str_one hexs q (by simpa [hexs] using hq)
theorem low_cut (q : Nat) (hq : q < 16) : (ByteArray.mk #[48, 49, 50, 51, 52, 53, 54, 55, 56, 57, 97, 98, 99, 100, 101, 102]).extract q (q + 1) = str [low q] := str_one lows q (by simpa [lows] using hq)

set_option maxHeartbeats 4000000 in
set_option maxRecDepth 100000 in
theorem bytes_walk (n0 : Int) (c d : UInt8) (w : World) :
    Calls Try.prog 8 #[.int .i64 n0, vb c, vb d] w fun e w' => e = .returned (.bool true) ∧ Below w.heap.size w w' := by
  obtain ⟨q0, hq0, hq1⟩ : ∃ q : Nat, bits .and .i64 n0 65535 = (q : Int) ∧ q ≤ 65535 := ⟨(n0 % 65536).toNat, by rw [i64_and65535]; omega, by omega⟩
  obtain ⟨r0, hr0, hr1⟩ : ∃ r : Nat, q0 % 5 = r ∧ r < 5 := ⟨q0 % 5, rfl, by omega⟩
  have hri : Int.tmod (q0 : Int) 5 = (r0 : Int) := by
    have : Int.tmod (q0 : Int) 5 = ((q0 % 5 : Nat) : Int) := rfl
    omega
  have hri' : (q0 : Int) % 5 = (r0 : Int) := by omega
  obtain ⟨n, hn⟩ : ∃ n : Nat, n = 1 + r0 := ⟨_, rfl⟩
  have hni : (1 : Int) + (r0 : Int) = (n : Int) := by omega
  have hni' : (r0 : Int) + 1 = (n : Int) := by omega
  obtain ⟨p, hp⟩ : ∃ p, p = inS (n : Int) := ⟨_, rfl⟩
  have hsafe : Safe p := by rw [hp]; exact safe_inS _
  obtain ⟨E, hE⟩ : ∃ E, E = enc p [c] := ⟨_, rfl⟩
  obtain ⟨e, he⟩ : ∃ e, e = E.length := ⟨_, rfl⟩
  have he3 : e ≤ 3 := by rw [he, hE]; exact enc_len p [c]
  have hez : (str E).size = e := by rw [str_size, he]
  have hE1 : E = enc1 p c := by rw [hE, enc_cons, enc_nil, List.append_nil]
  obtain ⟨P, hP⟩ : ∃ P, P = p c := ⟨_, rfl⟩
  have heP : (P = true ∧ e = 3) ∨ (P = false ∧ e = 1 ∧ E = [c]) := by
    rw [he, hE1, enc1, hP]
    cases p c <;> simp
  have EN : Hid (∀ W, Calls Try.prog 13 #[.int .i64 (n : Int), .string (str [c])] W fun e w' => e = .returned (.string (str E)) ∧ Below W.heap.size W w') := fun W => by
    rw [hE, hp]; exact encode_any (n : Int) [c] W (by simp)
  obtain ⟨x, hx⟩ : ∃ x, x = c.toNat := ⟨_, rfl⟩
  obtain ⟨y, hy⟩ : ∃ y, y = d.toNat := ⟨_, rfl⟩
  have hy8 : y < 256 := by rw [hy]; exact d.toNat_lt
  have IN : Hid (∀ W, Calls Try.prog 11 #[.int .i64 (n : Int), .int .u8 (x : Int)] W fun e w' => e = .returned (.bool P) ∧ Below W.heap.size W w') := fun W => by
    have h := in_any (n : Int) c W
    rw [← hp, ← hP, vb, ← hx] at h
    exact h
  obtain ⟨q, hq⟩ : ∃ q, q = y / 16 := ⟨_, rfl⟩
  obtain ⟨r, hr⟩ : ∃ r, r = y % 16 := ⟨_, rfl⟩
  have hq16 : q < 16 := by omega
  have hr16 : r < 16 := by omega
  obtain ⟨a, ha⟩ : ∃ a, a = [37, hex q, hex r] := ⟨_, rfl⟩
  obtain ⟨b, hb⟩ : ∃ b, b = [37, low q, low r] := ⟨_, rfl⟩
  have DE : Hid (∀ W, Calls Try.prog 15 #[.string (str E)] W fun e w' => e = .returned (.string (str [c])) ∧ Below W.heap.size W w') := fun W => by
    have h := decode_any E W (by omega)
    rw [show dec E = [c] by rw [hE, dec_enc hsafe 1 [c] (by simp)]; rfl] at h
    exact h
  have DA : Hid (∀ W, Calls Try.prog 15 #[.string (str a)] W fun e w' => e = .returned (.string (str [d])) ∧ Below W.heap.size W w') := fun W => by
    have h := decode_any a W (by rw [ha]; simp)
    rw [show dec a = [d] by rw [ha, hq, hr, hy, dec_pair _ _ d [] (pair_hex d)]; rfl] at h
    exact h
  have DB : Hid (∀ W, Calls Try.prog 15 #[.string (str b)] W fun e w' => e = .returned (.string (str [d])) ∧ Below W.heap.size W w') := fun W => by
    have h := decode_any b W (by rw [hb]; simp)
    rw [show dec b = [d] by rw [hb, hq, hr, hy, dec_pair _ _ d [] (pair_low d)]; rfl] at h
    exact h
  have hqi : (y : Int) / 16 = (q : Int) := by omega
  have hrn : bits .and .u8 (y : Int) 15 = (r : Int) := (u8_and15 (x := (y : Int)) (by omega) (by omega)).trans (by omega)
  obtain ⟨q2, hq2⟩ : ∃ q2, q2 = q + 1 := ⟨_, rfl⟩
  obtain ⟨r2, hr2⟩ : ∃ r2, r2 = r + 1 := ⟨_, rfl⟩
  have hq2i : (q : Int) + 1 = (q2 : Int) := by omega
  have hr2i : (r : Int) + 1 = (r2 : Int) := by omega
  obtain ⟨U, hU⟩ : ∃ U, U = [hex q] := ⟨_, rfl⟩
  obtain ⟨V, hV⟩ : ∃ V, V = [hex r] := ⟨_, rfl⟩
  obtain ⟨X, hX⟩ : ∃ X, X = [low q] := ⟨_, rfl⟩
  obtain ⟨Y, hY⟩ : ∃ Y, Y = [low r] := ⟨_, rfl⟩
  obtain ⟨M, hM⟩ : ∃ M, M = 37 :: U := ⟨_, rfl⟩
  obtain ⟨N, hN⟩ : ∃ N, N = 37 :: X := ⟨_, rfl⟩
  have x1 : (ByteArray.mk #[48, 49, 50, 51, 52, 53, 54, 55, 56, 57, 65, 66, 67, 68, 69, 70]).extract q q2 = str U := by rw [hq2, hU]; exact hex_cut q hq16
  have x2 : (ByteArray.mk #[48, 49, 50, 51, 52, 53, 54, 55, 56, 57, 65, 66, 67, 68, 69, 70]).extract r r2 = str V := by rw [hr2, hV]; exact hex_cut r hr16
  have x3 : (ByteArray.mk #[48, 49, 50, 51, 52, 53, 54, 55, 56, 57, 97, 98, 99, 100, 101, 102]).extract q q2 = str X := by rw [hq2, hX]; exact low_cut q hq16
  have x4 : (ByteArray.mk #[48, 49, 50, 51, 52, 53, 54, 55, 56, 57, 97, 98, 99, 100, 101, 102]).extract r r2 = str Y := by rw [hr2, hY]; exact low_cut r hr16
  have y1 : (ByteArray.mk #[37]) ++ str U = str M := by rw [hM]; exact str_add [37] U
  have y2 : str M ++ str V = str a := by rw [ha, hM, hU, hV]; exact str_add [37, hex q] [hex r]
  have y3 : (ByteArray.mk #[37]) ++ str X = str N := by rw [hN]; exact str_add [37] X
  have y4 : str N ++ str Y = str b := by rw [hb, hN, hX, hY]; exact str_add [37, low q] [low r]
  have z1 : ¬ 9223372036854775807 < (ByteArray.mk #[37]).size + (str U).size := by rw [str_size, hU]; show ¬ _ < 1 + 1; omega
  have z2 : ¬ 9223372036854775807 < (str M).size + (str V).size := by rw [str_size, str_size, hM, hU, hV]; show ¬ _ < 2 + 1; omega
  have z3 : ¬ 9223372036854775807 < (ByteArray.mk #[37]).size + (str X).size := by rw [str_size, hX]; show ¬ _ < 1 + 1; omega
  have z4 : ¬ 9223372036854775807 < (str N).size + (str Y).size := by rw [str_size, str_size, hN, hX, hY]; show ¬ _ < 2 + 1; omega
  have k1 : (q : Int) ≤ (q2 : Int) := by omega
  have k2 : (r : Int) ≤ (r2 : Int) := by omega
  have k3 : (q2 : Int) ≤ 16 := by omega
  have k4 : (r2 : Int) ≤ 16 := by omega
  have k5 : (q : Int) < 16 := by omega
  have k6 : (r : Int) < 16 := by omega
  have k7 : q2 ≤ 16 := by omega
  have k8 : r2 ≤ 16 := by omega
  have k9 : q ≤ q2 := by omega
  have k10 : r ≤ r2 := by omega
  have HX := Lib.hid hx
  have HY := Lib.hid hy
  have HE := Lib.hid heP
  unfold vb
  rw [← hx, ← hy]
  clear hq hr ha hb hq2 hr2 hU hV hX hY hM hN hx hy heP hP hE hE1 he hp hsafe hn hr0
  go_enter Try.func8, Try.ntmps8
  go_wp2_with (first
    | (go_at_call 10; with_reducible refine (shown_any w).mono ?_; rintro e_ w1 ⟨rfl, b1⟩)
    | ((with_reducible show wpList _ _ _ (⟨some 23, .convert _ _ _, _, _, _, _⟩ :: _) _ _); refine wp_str _ rfl (.tmp 22) rfl _ _ 1 1 [c] rfl (Bs.one' _ _ _ (by rw [HX.out])) ?_; simp only [Act.put, List.setIfInBounds_toArray, List.set_cons_zero, List.set_cons_succ])
    | (go_at_call 13; with_reducible refine (EN.out _).mono ?_; rintro e_ w2 ⟨rfl, b2⟩)
    | (go_at_call 11; with_reducible refine (IN.out w2).mono ?_; rintro e_ w3 ⟨rfl, b3⟩))
  have c3 : Below w.heap.size w w3 := by
    have c1 := b1.alloc b1.size (Obj.cells #[.int .u8 (x : Int)] 5)
    have c2 := c1.trans (b2.mono c1.size)
    exact c2.trans (b3.mono c2.size)
  clear b1 b2 b3
  go_quiet (fail)
  have c4 := below_dn c3 nq
  clear c3
  generalize w3.drewN nq = w4 at c4 ⊢
  go_wp2_with fail
  go_quiet (fail)
  have c5 := below_dn c4 nq
  clear c4
  generalize w4.drewN nq = w5 at c5 ⊢
  have hcase : Hid ((P = true ∧ ((e : Int) == 3) = true) ∨ (P = false ∧ ((e : Int) == 3) = false ∧ E = [c])) := by
    rcases HE.out with ⟨h1, h2⟩ | ⟨h1, h2, h3⟩
    · exact Or.inl ⟨h1, by simp; omega⟩
    · exact Or.inr ⟨h1, by simp; omega, h3⟩
  rcases hcase.out with ⟨hP, he⟩ | ⟨hP, he, hEc⟩
  · subst hP
    clear hcase HE
    go_wp2_with (first
      | ((with_reducible show wpList _ _ _ (⟨some 64, .convert _ _ _, _, _, _, _⟩ :: _) _ _); refine wp_str _ rfl (.tmp 63) rfl _ _ 1 1 [d] rfl (Bs.one' _ _ _ (by rw [HY.out])) ?_; simp only [Act.put, List.setIfInBounds_toArray, List.set_cons_zero, List.set_cons_succ])
      | (go_at_call 15; first | (with_reducible refine (DE.out _).mono ?_; rintro e_ w6 ⟨rfl, b6⟩) | (with_reducible refine (DA.out w6).mono ?_; rintro e_ w7 ⟨rfl, b7⟩) | (with_reducible refine (DB.out w7).mono ?_; rintro e_ w8 ⟨rfl, b8⟩))
      | ((with_reducible show wpList _ _ _ (⟨some 85, .binOp _ _ _ _ _, _, _, _, _⟩ :: _) _ _); refine wp_eqS _ (by kernel_rfl) _ _ rfl [c] [c] rfl rfl true (by simp) ?_; simp only [Act.put, List.setIfInBounds_toArray, List.set_cons_zero, List.set_cons_succ])
      | ((with_reducible show wpList _ _ _ (⟨some 91, .binOp _ _ _ _ _, _, _, _, _⟩ :: _) _ _); refine wp_eqS _ (by kernel_rfl) _ _ rfl [d] [d] rfl rfl true (by simp) ?_; simp only [Act.put, List.setIfInBounds_toArray, List.set_cons_zero, List.set_cons_succ])
      | ((with_reducible show wpList _ _ _ (⟨some 97, .binOp _ _ _ _ _, _, _, _, _⟩ :: _) _ _); refine wp_eqS _ (by kernel_rfl) _ _ rfl [d] [d] rfl rfl true (by simp) ?_; simp only [Act.put, List.setIfInBounds_toArray, List.set_cons_zero, List.set_cons_succ]))
    go_ret
    have c6 := (c5.alloc c5.size (Obj.cells #[.int .u8 (y : Int)] 5))
    have c7 := c6.trans (b6.mono c6.size)
    have c8 := c7.trans (b7.mono c7.size)
    exact ⟨rfl, c8.trans (b8.mono c8.size)⟩
  · subst hP
    have HEC := Lib.hid hEc
    clear hcase HE hEc
    go_wp2_with (first
      | ((with_reducible show wpList _ _ _ (⟨some 64, .convert _ _ _, _, _, _, _⟩ :: _) _ _); refine wp_str _ rfl (.tmp 63) rfl _ _ 1 1 [d] rfl (Bs.one' _ _ _ (by rw [HY.out])) ?_; simp only [Act.put, List.setIfInBounds_toArray, List.set_cons_zero, List.set_cons_succ])
      | ((with_reducible show wpList _ _ _ (⟨some 78, .binOp _ _ _ _ _, _, _, _, _⟩ :: _) _ _); refine wp_eqS _ (by kernel_rfl) _ _ rfl E [c] rfl rfl true (by simp [HEC.out]) ?_; simp only [Act.put, List.setIfInBounds_toArray, List.set_cons_zero, List.set_cons_succ])
      | (go_at_call 15; first | (with_reducible refine (DE.out _).mono ?_; rintro e_ w6 ⟨rfl, b6⟩) | (with_reducible refine (DA.out w6).mono ?_; rintro e_ w7 ⟨rfl, b7⟩) | (with_reducible refine (DB.out w7).mono ?_; rintro e_ w8 ⟨rfl, b8⟩))
      | ((with_reducible show wpList _ _ _ (⟨some 85, .binOp _ _ _ _ _, _, _, _, _⟩ :: _) _ _); refine wp_eqS _ (by kernel_rfl) _ _ rfl [c] [c] rfl rfl true (by simp) ?_; simp only [Act.put, List.setIfInBounds_toArray, List.set_cons_zero, List.set_cons_succ])
      | ((with_reducible show wpList _ _ _ (⟨some 91, .binOp _ _ _ _ _, _, _, _, _⟩ :: _) _ _); refine wp_eqS _ (by kernel_rfl) _ _ rfl [d] [d] rfl rfl true (by simp) ?_; simp only [Act.put, List.setIfInBounds_toArray, List.set_cons_zero, List.set_cons_succ])
      | ((with_reducible show wpList _ _ _ (⟨some 97, .binOp _ _ _ _ _, _, _, _, _⟩ :: _) _ _); refine wp_eqS _ (by kernel_rfl) _ _ rfl [d] [d] rfl rfl true (by simp) ?_; simp only [Act.put, List.setIfInBounds_toArray, List.set_cons_zero, List.set_cons_succ]))
    go_ret
    have c6 := (c5.alloc c5.size (Obj.cells #[.int .u8 (y : Int)] 5))
    have c7 := c6.trans (b6.mono c6.size)
    have c8 := c7.trans (b7.mono c7.size)
    exact ⟨rfl, c8.trans (b8.mono c8.size)⟩
end Go.Proofs.Ytkiafileelcknaa
