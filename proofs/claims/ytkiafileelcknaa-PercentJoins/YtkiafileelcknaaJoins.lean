/-
  The walk of transeptlaw06.PercentJoins: true, for every set and two texts; nothing that was there turns. No condition.
-/
import Derived.Test.YtkiafileelcknaaBack
namespace Go.Proofs.Ytkiafileelcknaa
open Go.RowKit

theorem any_take (l : List UInt8) (i k : Nat) (hi : i ≤ k) (hk : k < l.length) : ((l.take (k + 1)).drop i).any (· == 37) = (((l.take k).drop i).any (· == 37) || l.getD k 0 == 37) := by
  rw [List.take_succ_eq_append_getElem hk, List.drop_append_of_le_length (by rw [List.length_take]; omega), List.any_append]
  simp [List.getD, List.getElem?_eq_getElem hk]

set_option maxHeartbeats 4000000 in
set_option maxRecDepth 100000 in
theorem joins_walk (n0 : Int) (A0 B0 : List UInt8) (hA0 : A0.length ≤ 9223372036854775807) (hB0 : B0.length ≤ 9223372036854775807) (w : World) :
    Calls Try.prog 6 #[.int .i64 n0, .string (str A0), .string (str B0)] w fun e w' => e = .returned (.bool true) ∧ Below w.heap.size w w' := by
  obtain ⟨ja, hja, hja1, hja2⟩ : ∃ j : Nat, min (A0.length : Int) 500 = (j : Int) ∧ j ≤ A0.length ∧ j ≤ 500 := ⟨min A0.length 500, by omega, by omega, by omega⟩
  obtain ⟨a, ha⟩ : ∃ l, l = A0.take ja := ⟨_, rfl⟩
  have hla : a.length = ja := by rw [ha, List.length_take]; omega
  have hxa : (str A0).extract 0 ja = str a := by rw [ha]; exact str_take A0 ja
  have hsa := str_size A0
  have hza : (str a).size = ja := by rw [str_size, hla]
  obtain ⟨jb, hjb, hjb1, hjb2⟩ : ∃ j : Nat, min (B0.length : Int) 500 = (j : Int) ∧ j ≤ B0.length ∧ j ≤ 500 := ⟨min B0.length 500, by omega, by omega, by omega⟩
  obtain ⟨b, hb⟩ : ∃ l, l = B0.take jb := ⟨_, rfl⟩
  have hlb : b.length = jb := by rw [hb, List.length_take]; omega
  have hxb : (str B0).extract 0 jb = str b := by rw [hb]; exact str_take B0 jb
  have hsb := str_size B0
  have hzb : (str b).size = jb := by rw [str_size, hlb]
  obtain ⟨i0, hi0, hi0'⟩ : ∃ i0 : Nat, max (0 : Int) ((ja : Int) - 2) = (i0 : Int) ∧ i0 = ja - 2 := ⟨ja - 2, by omega, rfl⟩
  obtain ⟨C, hC⟩ : ∃ C, C = a ++ b := ⟨_, rfl⟩
  have hCl : C.length ≤ 1000 := by rw [hC, List.length_append]; omega
  obtain ⟨EA, hEA⟩ : ∃ E, E = enc (inS n0) a := ⟨_, rfl⟩
  obtain ⟨EB, hEB⟩ : ∃ E, E = enc (inS n0) b := ⟨_, rfl⟩
  obtain ⟨EC, hEC⟩ : ∃ E, E = EA ++ EB := ⟨_, rfl⟩
  have hEAl : EA.length ≤ 1500 := by rw [hEA]; have := enc_len (inS n0) a; omega
  have hEBl : EB.length ≤ 1500 := by rw [hEB]; have := enc_len (inS n0) b; omega
  obtain ⟨DA, hDA⟩ : ∃ E, E = dec a := ⟨_, rfl⟩
  obtain ⟨DB, hDB⟩ : ∃ E, E = dec b := ⟨_, rfl⟩
  obtain ⟨DC, hDC⟩ : ∃ E, E = DA ++ DB := ⟨_, rfl⟩
  have hDAl : DA.length ≤ 500 := by rw [hDA]; have := dec_len _ a (Nat.le_refl _); omega
  have hDBl : DB.length ≤ 500 := by rw [hDB]; have := dec_len _ b (Nat.le_refl _); omega
  have ad1 : str a ++ str b = str C := by rw [hC]; exact str_add a b
  have ad2 : str EA ++ str EB = str EC := by rw [hEC]; exact str_add EA EB
  have ad3 : str DA ++ str DB = str DC := by rw [hDC]; exact str_add DA DB
  have bg1 : ¬ 9223372036854775807 < (str a).size + (str b).size := by rw [str_size, str_size]; omega
  have bg2 : ¬ 9223372036854775807 < (str EA).size + (str EB).size := by rw [str_size, str_size]; omega
  have bg3 : ¬ 9223372036854775807 < (str DA).size + (str DB).size := by rw [str_size, str_size]; omega
  have KC : Hid (∀ W, Calls Try.prog 13 #[.int .i64 n0, .string (str C)] W fun e w' => e = .returned (.string (str EC)) ∧ Below W.heap.size W w') := fun W => by
    have h := encode_any n0 C W (by omega)
    rw [show enc (inS n0) C = EC by rw [hC, enc_append, hEC, hEA, hEB]] at h
    exact h
  have KA : Hid (∀ W, Calls Try.prog 13 #[.int .i64 n0, .string (str a)] W fun e w' => e = .returned (.string (str EA)) ∧ Below W.heap.size W w') := fun W => by
    rw [hEA]; exact encode_any n0 a W (by omega)
  have KB : Hid (∀ W, Calls Try.prog 13 #[.int .i64 n0, .string (str b)] W fun e w' => e = .returned (.string (str EB)) ∧ Below W.heap.size W w') := fun W => by
    rw [hEB]; exact encode_any n0 b W (by omega)
  have JC : Hid (opn a = false → ∀ W, Calls Try.prog 15 #[.string (str C)] W fun e w' => e = .returned (.string (str DC)) ∧ Below W.heap.size W w') := fun ho W => by
    have h := decode_any C W (by omega)
    rw [show dec C = DC by rw [hC, dec_join b a.length a (Nat.le_refl _) ho, hDC, hDA, hDB]] at h
    exact h
  have JA : Hid (∀ W, Calls Try.prog 15 #[.string (str a)] W fun e w' => e = .returned (.string (str DA)) ∧ Below W.heap.size W w') := fun W => by
    rw [hDA]; exact decode_any a W (by omega)
  have JB : Hid (∀ W, Calls Try.prog 15 #[.string (str b)] W fun e w' => e = .returned (.string (str DB)) ∧ Below W.heap.size W w') := fun W => by
    rw [hDB]; exact decode_any b W (by omega)
  have hgb : ∀ k, k < ja → ∀ h, ((str a)[k]'h).toNat = (a.getD k 0).toNat := fun k hk h => str_at a k (by rw [hla]; exact hk) h
  have han : ∀ k, i0 ≤ k → k < ja → ((a.take (k + 1)).drop i0).any (· == 37) = (((a.take k).drop i0).any (· == 37) || a.getD k 0 == 37) := fun k h1 h2 => any_take a i0 k h1 (by rw [hla]; exact h2)
  have hfull : Hid (((a.take ja).drop i0).any (· == 37) = opn a) := by show _ = _; rw [opn, ← hla, List.take_length, hi0', hla]
  have hst : Hid (((a.take i0).drop i0).any (· == 37) = false) := by show _ = _; rw [List.drop_eq_nil_of_le (by rw [List.length_take]; omega)]; rfl
  have HG := Lib.hid (And.intro hgb han)
  have hi0j : i0 ≤ ja := by omega
  clear hgb han hC hEA hEB hEC hDA hDB hDC ha hb hla hlb hi0'
  go_enter Try.func6, Try.ntmps6
  go_wp2_with (first
    | (go_at_call 10; with_reducible refine (shown_any w).mono ?_; rintro e_ w1 ⟨rfl, b1⟩))
  go_loop [9, 8] (fun x y => ∃ k : Nat, i0 ≤ k ∧ k ≤ ja ∧ x = .int .i64 (k : Int) ∧ y = .bool (((a.take k).drop i0).any (· == 37))) (fun x _ => ja - (intOf x).toNat)
  case atStart => exact ⟨i0, by omega, by omega, rfl, by rw [hst.out]⟩
  case round =>
    obtain ⟨k, hk0, hk, rfl, rfl⟩ := hrel
    obtain ⟨o, ho⟩ : ∃ o, o = ((a.take k).drop i0).any (· == 37) := ⟨_, rfl⟩
    rw [← ho]
    by_cases hlt : k < ja
    · obtain ⟨c, hc⟩ : ∃ c, c = a.getD k 0 := ⟨_, rfl⟩
      obtain ⟨m, hm⟩ : ∃ m, m = c.toNat := ⟨_, rfl⟩
      have hget : ∀ h, ((str a)[k]'h).toNat = m := fun h => by rw [hm, hc]; exact HG.out.1 k hlt h
      have hnx : Hid (((a.take (k + 1)).drop i0).any (· == 37) = (o || c == 37)) := by show _ = _; rw [HG.out.2 k hk0 hlt, ho, hc]
      have hkj : (k : Int) < (ja : Int) := by omega
      have HM := Lib.hid hm
      clear hm hc ho
      cases o
      · by_cases h37 : m = 37
        · have hb : ((m : Int) == 37) = true := by simp; omega
          have hnx2 : Hid (((a.take (k + 1)).drop i0).any (· == 37) = true) := by
            show _ = _
            rw [hnx.out, show c = 37 from UInt8.toNat_inj.1 (by rw [← HM.out]; exact h37)]
            rfl
          clear hnx h37
          go_wp2_with fail
          go_round
          case rel => exact ⟨k + 1, by omega, by omega, by go_num, by rw [hnx2.out]⟩
          case measure => simp [intOf]; omega
        · have hb : ((m : Int) == 37) = false := by simp; omega
          have hnx2 : Hid (((a.take (k + 1)).drop i0).any (· == 37) = false) := by
            show _ = _
            rw [hnx.out, show (c == 37) = false from beq_eq_false_iff_ne.2 (fun h => h37 (by rw [HM.out, h]; rfl))]
            rfl
          clear hnx h37
          go_wp2_with fail
          go_round
          case rel => exact ⟨k + 1, by omega, by omega, by go_num, by rw [hnx2.out]⟩
          case measure => simp [intOf]; omega
      · have hnx2 : Hid (((a.take (k + 1)).drop i0).any (· == 37) = true) := by
          show _ = _
          rw [hnx.out]
          rfl
        clear hnx
        go_wp2_with fail
        go_round
        case rel => exact ⟨k + 1, by omega, by omega, by go_num, by rw [hnx2.out]⟩
        case measure => simp [intOf]; omega
    · have hkj : ¬ (k : Int) < (ja : Int) := by omega
      have hop : Hid (o = opn a) := by show _ = _; rw [ho, show k = ja by omega]; exact hfull.out
      clear ho hfull
      cases o
      · have JC' := Lib.hid (JC.out hop.out.symm)
        clear JC hop
        go_wp2_with (first
          | (go_at_call 13; first | (with_reducible refine (KC.out w1).mono ?_; rintro e_ w2 ⟨rfl, b2⟩) | (with_reducible refine (KA.out w2).mono ?_; rintro e_ w3 ⟨rfl, b3⟩) | (with_reducible refine (KB.out w3).mono ?_; rintro e_ w4 ⟨rfl, b4⟩))
          | ((with_reducible show wpList _ _ _ (⟨some 52, .binOp _ _ _ _ _, _, _, _, _⟩ :: _) _ _); refine wp_eqS _ (by kernel_rfl) _ _ rfl EC EC rfl rfl true (by simp) ?_; simp only [Act.put, List.setIfInBounds_toArray, List.set_cons_zero, List.set_cons_succ])
          | (go_at_call 15; first | (with_reducible refine (JC'.out w4).mono ?_; rintro e_ w5 ⟨rfl, b5⟩) | (with_reducible refine (JA.out w5).mono ?_; rintro e_ w6 ⟨rfl, b6⟩) | (with_reducible refine (JB.out w6).mono ?_; rintro e_ w7 ⟨rfl, b7⟩))
          | ((with_reducible show wpList _ _ _ (⟨some 66, .binOp _ _ _ _ _, _, _, _, _⟩ :: _) _ _); refine wp_eqS _ (by kernel_rfl) _ _ rfl DC DC rfl rfl true (by simp) ?_; simp only [Act.put, List.setIfInBounds_toArray, List.set_cons_zero, List.set_cons_succ]))
        go_ret
        have c2 := b1.trans (b2.mono b1.size)
        have c3 := c2.trans (b3.mono c2.size)
        have c4 := c3.trans (b4.mono c3.size)
        have c5 := c4.trans (b5.mono c4.size)
        have c6 := c5.trans (b6.mono c5.size)
        exact ⟨rfl, c6.trans (b7.mono c6.size)⟩
      · clear JC hop
        go_wp2_with (first
          | (go_at_call 13; first | (with_reducible refine (KC.out w1).mono ?_; rintro e_ w2 ⟨rfl, b2⟩) | (with_reducible refine (KA.out w2).mono ?_; rintro e_ w3 ⟨rfl, b3⟩) | (with_reducible refine (KB.out w3).mono ?_; rintro e_ w4 ⟨rfl, b4⟩))
          | ((with_reducible show wpList _ _ _ (⟨some 52, .binOp _ _ _ _ _, _, _, _, _⟩ :: _) _ _); refine wp_eqS _ (by kernel_rfl) _ _ rfl EC EC rfl rfl true (by simp) ?_; simp only [Act.put, List.setIfInBounds_toArray, List.set_cons_zero, List.set_cons_succ]))
        go_ret
        have c2 := b1.trans (b2.mono b1.size)
        have c3 := c2.trans (b3.mono c2.size)
        exact ⟨rfl, c3.trans (b4.mono c3.size)⟩
end Go.Proofs.Ytkiafileelcknaa
