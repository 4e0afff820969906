/-
  The walk of transeptlaw06.PercentLess: true, for every text; nothing that was there turns. No condition.
-/
import Derived.Test.YtkiafileelcknaaShown
import Derived.Test.YtkiafileelcknaaMath
namespace Go.Proofs.Ytkiafileelcknaa
open Go.RowKit

theorem str_take (l : List UInt8) (k : Nat) : (str l).extract 0 k = str (l.take k) := by
  apply ByteArray.ext
  apply Array.ext'
  simp [str]
theorem count_take (l : List UInt8) (k : Nat) (h : k < l.length) : (l.take (k + 1)).count 37 = (l.take k).count 37 + (if (l.getD k 0).toNat = 37 then 1 else 0) := by
  rw [List.take_succ_eq_append_getElem h, List.count_append]
  congr 1
  have e : l.getD k 0 = l[k] := by simp [List.getD, List.getElem?_eq_getElem h]
  rw [e, List.count_singleton]
  by_cases hx : l[k] = 37
  · rw [hx]
    rfl
  · have h2 : ¬ l[k].toNat = 37 := fun h => hx (UInt8.toNat_inj.1 h)
    simp [hx, h2]

set_option maxHeartbeats 4000000 in
set_option maxRecDepth 100000 in
theorem less_walk (S0 : List UInt8) (hS : S0.length ≤ 9223372036854775807) (w : World) :
    Calls Try.prog 9 #[.string (str S0)] w fun e w' => e = .returned (.bool true) ∧ Below w.heap.size w w' := by
  obtain ⟨j, hj, hj1, hj2⟩ : ∃ j : Nat, min (S0.length : Int) 1000 = (j : Int) ∧ j ≤ S0.length ∧ j ≤ 1000 := ⟨min S0.length 1000, by omega, by omega, by omega⟩
  obtain ⟨l, hl⟩ : ∃ l, l = S0.take j := ⟨_, rfl⟩
  have hll : l.length = j := by rw [hl, List.length_take]; omega
  have hex : (str S0).extract 0 j = str l := by rw [hl]; exact str_take S0 j
  have hss := str_size S0
  have hsz : (str l).size = j := by rw [str_size, hll]
  obtain ⟨i, hi1, hi2⟩ := dec_less l.length l (Nat.le_refl _)
  have hno := dec_none l
  have hgb := fun k hk h => str_at l k hk h
  have hct := fun k hk => count_take l k hk
  have hfull : Hid ((l.take j).count 37 = l.count 37) := by show _ = _; rw [← hll, List.take_length]
  have hcl : ∀ k, (l.take k).count 37 ≤ j := fun k => by
    have h1 : (l.take k).count 37 ≤ (l.take k).length := List.count_le_length
    rw [List.length_take] at h1
    omega
  have DE := fun W => decode_any l W (by omega)
  obtain ⟨D, hD⟩ : ∃ D, D = dec l := ⟨_, rfl⟩
  rw [← hD] at DE hi1 hno
  obtain ⟨d, hd⟩ : ∃ d, d = D.length := ⟨_, rfl⟩
  have hdz : (str D).size = d := by rw [str_size, hd]
  rw [← hd] at hi1
  rw [hll] at hi1 hgb hct
  have HDE := Lib.hid DE
  have HN := Lib.hid hno
  have HI := Lib.hid (And.intro hi1 hi2)
  have HG := Lib.hid hgb
  have HT := Lib.hid (And.intro hct hcl)
  have hdj : d ≤ j := by omega
  clear hl hll DE hD hd hno hi1 hi2 hgb hct hcl
  go_enter Try.func9, Try.ntmps9
  go_wp2_with (first
    | (go_at_call 10; with_reducible refine (shown_any w).mono ?_; rintro e w1 ⟨rfl, b1⟩)
    | (go_at_call 15; with_reducible refine (HDE.out w1).mono ?_; rintro e w2 ⟨rfl, b2⟩))
  have b3 : Below w.heap.size w w2 := b1.trans (b2.mono b1.size)
  clear b1 b2
  go_loop [6, 5] (fun a b => ∃ k : Nat, k ≤ j ∧ a = .int .i64 (k : Int) ∧ b = .int .i64 (((l.take k).count 37 : Nat) : Int)) (fun a _ => j - (intOf a).toNat)
  case atStart => exact ⟨0, by omega, rfl, rfl⟩
  case round =>
    obtain ⟨k, hk, rfl, rfl⟩ := hrel
    obtain ⟨c, hc⟩ : ∃ c, c = (l.take k).count 37 := ⟨_, rfl⟩
    have hcj : c ≤ j := by rw [hc]; exact HT.out.2 k
    rw [← hc]
    by_cases hlt : k < j
    · obtain ⟨m, hm⟩ : ∃ m, m = (l.getD k 0).toNat := ⟨_, rfl⟩
      have hget : ∀ h, ((str l)[k]'h).toNat = m := fun h => by rw [hm]; exact HG.out k hlt h
      have hct : Hid ((l.take (k + 1)).count 37 = c + (if m = 37 then 1 else 0)) := by show _ = _; rw [HT.out.1 k hlt, ← hc, hm]
      have hkj : (k : Int) < (j : Int) := by omega
      clear hm hc
      by_cases h37 : m = 37
      · have hb : ((m : Int) == 37) = true := by simp; omega
        have hct2 : Hid ((l.take (k + 1)).count 37 = c + 1) := by show _ = _; rw [hct.out, if_pos h37]
        clear hct h37
        go_wp2_with fail
        go_round
        case rel => exact ⟨k + 1, by omega, by go_num, by rw [hct2.out]; go_num⟩
        case measure => simp [intOf]; omega
      · have hb : ((m : Int) == 37) = false := by simp; omega
        have hct2 : Hid ((l.take (k + 1)).count 37 = c) := by show _ = _; rw [hct.out, if_neg h37]; rfl
        clear hct h37
        go_wp2_with fail
        go_round
        case rel => exact ⟨k + 1, by omega, by go_num, by rw [hct2.out]⟩
        case measure => simp [intOf]; omega
    · have hkj : ¬ (k : Int) < (j : Int) := by omega
      have hcl : Hid (c = l.count 37) := by show _ = _; rw [hc, show k = j by omega]; exact hfull.out
      have hi2 : i ≤ c := by rw [hcl.out]; exact HI.out.2
      have hi1 := HI.out.1
      have n1 : (j : Int) - (d : Int) = ((2 * i : Nat) : Int) := by omega
      obtain ⟨z, hz⟩ : ∃ z, z = 2 * i := ⟨_, rfl⟩
      rw [← hz] at n1
      have n2 : Int.tmod (z : Int) 2 = 0 := by
        have : Int.tmod (z : Int) 2 = ((z % 2 : Nat) : Int) := rfl
        omega
      have n3 : Int.tdiv (z : Int) 2 = (i : Int) := by
        have : Int.tdiv (z : Int) 2 = ((z / 2 : Nat) : Int) := rfl
        omega
      have n4 : decide ((i : Int) ≤ (c : Int)) = true := by simp; omega
      have n2' : (z : Int) % 2 = 0 := by omega
      have n3' : (z : Int) / 2 = (i : Int) := by omega
      have n5 : ¬ 9223372036854775807 < (z : Int) := by omega
      have hz9 : z ≤ 1000 := by omega
      clear hz hi1 hc
      by_cases hc0 : c = 0
      · have n6 : decide ((0 : Int) < (c : Int)) = false := by simp; omega
        have n7 : decide (0 < c) = false := by simp; omega
        have n8 : ¬ 0 < c := by omega
        have hDl : Hid (D = l) := by show _ = _; exact HN.out (by rw [← hcl.out]; exact hc0)
        clear hc0
        go_wp2_with (first
          | ((with_reducible show wpList _ _ _ (⟨some 55, .binOp _ _ _ _ _, _, _, _, _⟩ :: _) _ _); refine wp_eqS _ (by kernel_rfl) _ _ rfl D l rfl rfl true (by simp [hDl.out]) ?_; simp only [Act.put, List.setIfInBounds_toArray, List.set_cons_zero, List.set_cons_succ]))
        go_ret
        exact ⟨rfl, b3⟩
      · have n6 : decide ((0 : Int) < (c : Int)) = true := by simp; omega
        have n7 : decide (0 < c) = true := by simp; omega
        have n8 : 0 < c := by omega
        clear hc0
        go_wp2_with fail
        go_ret
        exact ⟨rfl, b3⟩
end Go.Proofs.Ytkiafileelcknaa
