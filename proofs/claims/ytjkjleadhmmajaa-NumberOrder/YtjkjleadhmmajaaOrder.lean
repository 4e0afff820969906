/-
  transeptlaw01.NumberOrder returns true, whatever two numbers it is called with, and turns nothing that was there; no condition.
-/
import Derived.Test.YtjkjleadhmmajaaBack
import Derived.Test.YtjkjleadhmmajaaOrderPlain
import Derived.BigQuiet
import Derived.Deep.QuietTactic
namespace Go.Proofs.Ytjkjleadhmmajaa
open Go.RowKit

theorem str_ne {a b : List UInt8} (h : a ≠ b) : ((str a).toList == (str b).toList) = false := by
  rw [beq_eq_false_iff_ne]
  exact fun e => h (by simpa [str] using e)
theorem two_dec {x y m n : Nat} (h : x < y ↔ m < n) : ∃ t : Bool, decide (x < y) = t ∧ decide (m < n) = t := ⟨decide (m < n), decide_eq_decide.2 h, rfl⟩
theorem str_eq {a b : List UInt8} (h : a = b) : ((str a).toList == (str b).toList) = true := by subst h; simp

set_option maxHeartbeats 1000000 in
set_option maxRecDepth 100000 in
theorem order_walk (m n : Nat) (w : World) (hm : m < 18446744073709551616) (hn : n < 18446744073709551616) :
    Calls Try.prog 9 #[.int .u64 m, .int .u64 n] w fun e w' => e = .returned (.bool true) ∧ Below w.heap.size w w' := by
  obtain ⟨a, ha⟩ : ∃ a, leb m = a := ⟨_, rfl⟩
  obtain ⟨b, hb⟩ : ∃ b, leb n = b := ⟨_, rfl⟩
  obtain ⟨p, hp⟩ : ∃ p, a.length = p := ⟨_, rfl⟩
  obtain ⟨q, hq⟩ : ∃ q, b.length = q := ⟨_, rfl⟩
  have pa : 0 < p := by rw [← hp, ← ha]; exact leb_pos m
  have pb : 0 < q := by rw [← hq, ← hb]; exact leb_pos n
  have la : p ≤ 10 := by rw [← hp, ← ha]; exact leb_len10 hm
  have lb : q ≤ 10 := by rw [← hq, ← hb]; exact leb_len10 hn
  have t2 : ((p : Int) == 0) = false := by simp; omega
  have t3 : ((q : Int) == 0) = false := by simp; omega
  have HA := Lib.hid ha
  have HB := Lib.hid hb
  have HP := Lib.hid hp
  have HQ := Lib.hid hq
  have hlt1 : p < q → m < n := fun h => lt_of_len (by rw [ha, hb, hp, hq]; exact h)
  have hlt2 : q < p → n < m := fun h => lt_of_len (by rw [ha, hb, hp, hq]; exact h)
  have hinj : a = b → m = n := fun h => leb_inj (by rw [ha, hb, h])
  have hinj' : m = n → a = b := fun h => by rw [← ha, ← hb, h]
  have HL1 := Lib.hid hlt1
  have HL2 := Lib.hid hlt2
  have HI := Lib.hid hinj
  have HI' := Lib.hid hinj'
  clear ha hb hp hq hlt1 hlt2 hinj hinj'
  go_enter Try.func9, Try.ntmps9
  go_wp2_with fail
  refine (shown_any w).mono ?_
  rintro e w1 ⟨rfl, hb1⟩
  go_wp2_with fail
  refine (put_of m p a w1 hm HA.out HP.out).mono ?_
  rintro e w2 ⟨A, c, rfl, hc2, hA, _, hb2⟩
  have hd2 : Below w.heap.size w w2 := hb1.trans (hb2.mono hb1.size)
  clear hb1 hb2
  go_wp2_with fail
  refine (put_of n q b w2 hn HB.out HQ.out).mono ?_
  rintro e w3 ⟨B, d, rfl, hc3, hB, _, hb3⟩
  have hd3 : Below w.heap.size w w3 := hd2.trans (hb3.mono hd2.size)
  have hA3 := hA.below hb3
  clear hd2 hb3 hA
  have hva := fun c' => run_str w3 _ A p c' a hA3
  have hvb := fun c' => run_str w3 _ B q c' b hB
  by_cases hlen : p = q
  · subst hlen
    have HO : Hid (∀ i, i < p → (∀ j, i < j → j < p → a.getD j 0 = b.getD j 0) → (0 < i → a.getD i 0 ≠ b.getD i 0) → ((a.getD i 0).toNat < (b.getD i 0).toNat ↔ m < n)) := by
      intro i h1 h2 h3
      have := order_at (m + 1) m n i (by omega)
      rw [HA.out, HB.out, HP.out, HQ.out] at this
      exact this rfl h1 h2 h3
    obtain ⟨t4, ht4, t7⟩ : ∃ t : Bool, ((m : Int) == (n : Int)) = t ∧ ((str a).toList == (str b).toList) = t := by
      by_cases h : m = n
      · exact ⟨true, by simp [h], str_eq (HI'.out h)⟩
      · exact ⟨false, by simp; omega, str_ne fun e => h (HI.out e)⟩
    obtain ⟨ga, oa, rfl, hga, hca⟩ := hA3.2 pa
    obtain ⟨gb, ob, rfl, hgb, hcb⟩ := hB.2 pb
    have HCA : Hid (∀ k, k < p → w3.cell? ⟨ga, oa + k, none⟩ = some (.int .u8 (((a.getD k 0).toNat : Nat) : Int))) := fun k hk => by
      have hl : k < a.length := by rw [HP.out]; exact hk
      rw [hca k a[k] (List.getElem?_eq_getElem hl)]
      simp [vb, List.getD, List.getElem?_eq_getElem hl]
    have HCB : Hid (∀ k, k < p → w3.cell? ⟨gb, ob + k, none⟩ = some (.int .u8 (((b.getD k 0).toNat : Nat) : Int))) := fun k hk => by
      have hl : k < b.length := by rw [HQ.out]; exact hk
      rw [hcb k b[k] (List.getElem?_eq_getElem hl)]
      simp [vb, List.getD, List.getElem?_eq_getElem hl]
    have hva := fun d c' => run_str (w3.drewN d) _ _ p c' a (hA3.drewN d)
    have hvb := fun d c' => run_str (w3.drewN d) _ _ p c' b (hB.drewN d)
    clear hca hcb hA3 hB
    go_wp2_with fail
    go_loopw [9] (fun i wr => ∃ k d : Nat, wr = w3.drewN d ∧ k < p ∧ i = .int .i64 k ∧ Hid (∀ j, k < j → j < p → a.getD j 0 = b.getD j 0)) (fun i _ => (intOf i).toNat)
    case atStart => exact ⟨p - 1, 0, rfl, by omega, by go_num, fun j h1 h2 => absurd h1 (by omega)⟩
    case round =>
      obtain ⟨k, dr, rfl, hk, rfl, HE⟩ := hrel
      have hxa := HCA.out k hk
      have hxb := HCB.out k hk
      obtain ⟨x, hx⟩ : ∃ x, (a.getD k 0).toNat = x := ⟨_, rfl⟩
      obtain ⟨y, hy⟩ : ∃ y, (b.getD k 0).toNat = y := ⟨_, rfl⟩
      rw [hx] at hxa
      rw [hy] at hxb
      have HX := Lib.hid hx
      have HY := Lib.hid hy
      clear hx hy
      have b1 : (0 : Int) ≤ (k : Int) := by omega
      have b2 : (k : Int) < (p : Int) := by omega
      by_cases h0 : k = 0
      · have HD := HO.out k hk HE.out (fun h => absurd h (by omega))
        rw [HX.out, HY.out] at HD
        obtain ⟨t, ht1, ht2⟩ := two_dec HD
        have t1 : decide (0 < k) = false := by simp; omega
        clear HD h0
        go_wp2_with fail
        go_quiet (fail)
        go_wp2_with fail
        go_quiet (fail)
        go_wp2_with fail
        go_ret
        exact ⟨rfl, ⟨hd3.os, hd3.tape, hd3.output, hd3.size, hd3.block⟩⟩
      · have t1 : decide (0 < k) = true := by simp; omega
        by_cases hxy : x = y
        · have t2 : ((x : Int) == (y : Int)) = true := by simp; omega
          have HXY : Hid (a.getD k 0 = b.getD k 0) := UInt8.toNat_inj.1 (by rw [HX.out, HY.out]; exact hxy)
          clear hxy
          go_wp2_with fail
          go_quiet (fail)
          go_wp2_with fail
          go_roundw
          case rel => exact ⟨k - 1, _, rfl, by omega, by go_num, fun j h1 h2 => by
            rcases Nat.lt_or_ge k j with h | h
            · exact HE.out j h h2
            · obtain rfl : j = k := by omega
              exact HXY.out⟩
          case measure => simp [intOf]; omega
        · have t2 : ((x : Int) == (y : Int)) = false := by simp; omega
          have HD := HO.out k hk HE.out (fun _ e => hxy (by rw [← HX.out, ← HY.out, e]))
          rw [HX.out, HY.out] at HD
          obtain ⟨t, ht1, ht2⟩ := two_dec HD
          clear HD hxy
          go_wp2_with fail
          go_quiet (fail)
          go_wp2_with fail
          go_quiet (fail)
          go_wp2_with fail
          go_ret
          exact ⟨rfl, ⟨hd3.os, hd3.tape, hd3.output, hd3.size, hd3.block⟩⟩
  · have hmn : m ≠ n := fun e => by have := HI'.out e; have h1 := HP.out; have h2 := HQ.out; rw [this] at h1; omega
    have t1 : ((p : Int) == (q : Int)) = false := by simp; omega
    have t4 : ((m : Int) == (n : Int)) = false := by simp; omega
    have hne : a ≠ b := fun e => hmn (HI.out e)
    have t7 := str_ne hne
    clear hne
    rcases Nat.lt_or_ge p q with h | h
    · have h2 := HL1.out h
      have t5 : decide ((p : Int) < (q : Int)) = true := by simp; omega
      have t6 : decide ((m : Int) < (n : Int)) = true := by simp; omega
      go_wp2_with fail
      go_ret
      exact ⟨rfl, hd3⟩
    · have h2 := HL2.out (by omega)
      have t5 : decide ((p : Int) < (q : Int)) = false := by simp; omega
      have t6 : decide ((m : Int) < (n : Int)) = false := by simp; omega
      go_wp2_with fail
      go_ret
      exact ⟨rfl, hd3⟩
end Go.Proofs.Ytjkjleadhmmajaa
