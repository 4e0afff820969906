/-
  What transeptref03.Primes and Roots answer: the two tables; nothing that was in memory turns. No condition.
-/
import Derived.Test.YtiigmpoopmnnhaaDoorRoots
namespace Go.Proofs.YtiigmpoopmnnhaaDoor
open Go.RowKit

theorem isNew_more (l : List Nat) (i n : Nat) (h : i < l.length) : isNew (l.take (i + 1)) n = (isNew (l.take i) n && n % l.getD i 0 != 0) := by
  unfold isNew
  rw [List.take_succ_eq_append_getElem h, List.all_append]
  simp [List.getD, List.getElem?_eq_getElem h]

theorem bne0 (r : Nat) : ((r : Int) != 0) = (r != 0) := by
  rw [Bool.eq_iff_iff]
  simp

set_option maxHeartbeats 1000000 in
theorem primes_any (count : Nat) (w : World) (hc : count ≤ 64) : Calls Tryd.prog 25 #[.int .i64 count] w fun e w' => ∃ A c, e = .returned (.slice A count c) ∧ count ≤ c ∧ Vs w' w'.heap.size A count ((prs 310).take count) ∧ Below w.heap.size w w' := by
  go_enter Tryd.func25, Tryd.ntmps25
  go_wp2_with fail
  go_loopw [3, 4] (fun v3 v4 wr => ∃ (A : Option Addr) (N c m n : Nat), v3 = .slice A N c ∧ v4 = .int .u64 n ∧ n = m + 2 ∧ N ≤ count ∧ m ≤ 310 ∧ OwnV wr w.heap.size (.slice A N c) N (prs m) ∧ Below w.heap.size w wr) (fun _ v _ => 400 - (intOf v).toNat)
  case atStart => exact ⟨_, 0, 0, 0, 2, rfl, rfl, rfl, by omega, by omega, ownV_empty w w.heap.size (Nat.le_refl _), (Below.refl _ _).alloc (Nat.le_refl _) _⟩
  case round =>
    obtain ⟨A, N, c, m, n, rfl, rfl, hn, hN, hm, hown, hbel⟩ := hrel
    have hl := hown.len
    have hsz := hbel.size
    by_cases hlt : N < count
    · have hm1 : m < 310 := by
        rcases Nat.lt_or_ge m 310 with h | h
        · exact h
        · exfalso
          have : m = 310 := by omega
          subst this
          rw [prs310] at hl
          omega
      have hn2 : n ≤ 312 := by omega
      obtain ⟨A', c', he, hcc, hV⟩ := hown.form
      injection he with he1 he2 he3
      subst he1 he3
      have HP : Hid (prs (m + 1) = if isNew (prs m) n then prs m ++ [n] else prs m) := by show _ = _; rw [prs, hn]
      have HPos : Hid (∀ q ∈ prs m, 0 < q ∧ q < m + 2) := prs_pos m
      have HN := Lib.hid hn
      have HNL : Hid (N ≤ 64) := by show _ ≤ _; omega
      clear hn
      generalize prs m = L at *
      go_wp2_with fail
      go_loop [5, 6] (fun v5 v6 => ∃ i : Nat, v5 = .bool (isNew (L.take i) n) ∧ v6 = .int .i64 i ∧ i ≤ N) (fun _ v => N - (intOf v).toNat)
      case atStart => exact ⟨0, by simp [isNew], rfl, by omega⟩
      case round =>
        obtain ⟨i, rfl, rfl, hi⟩ := hrel
        by_cases hin : i < N
        · obtain ⟨b, off, rfl, hb, cx⟩ := hV.at_ hin
          have HM := Lib.hid (isNew_more L i n (by omega))
          have hpos : 0 < L.getD i 0 ∧ L.getD i 0 < m + 2 := by
            have : L.getD i 0 ∈ L := by
              have hil : i < L.length := by omega
              simp [List.getD, List.getElem?_eq_getElem hil]
            exact HPos.out _ this
          rw [v64] at cx
          generalize L.getD i 0 = q at *
          obtain ⟨r, hr⟩ : ∃ r, r = n % q := ⟨_, rfl⟩
          have e1 : (n : Int) % (q : Int) = (r : Int) := by rw [hr]; rfl
          have q0 : ¬ ((q : Int) = 0) := by omega
          have q1 : ¬ (q = 0) := by omega
          rw [← hr] at HM
          clear hr
          cases hf : isNew (L.take i) n with
          | true =>
            rw [hf] at HM
            go_wp2_with fail
            go_round
            case rel => exact ⟨i + 1, by rw [HM.out, Bool.true_and, ← bne0], by go_num, by omega⟩
            case measure => simp [intOf]; omega
          | false =>
            rw [hf] at HM
            go_wp2_with fail
            go_round
            case rel => exact ⟨i + 1, by rw [HM.out]; simp, by go_num, by omega⟩
            case measure => simp [intOf]; omega
        · have hiN : i = N := by omega
          subst hiN
          rw [List.take_of_length_le (by omega)]
          cases hf : isNew L n with
          | true =>
            rw [hf] at HP
            go_wp2_with (at_builtin; refine wp_appV _ rfl (.tmp 31) (.tmp 33) rfl w.heap.size _ i L rfl (hown.alloc _) (wr.heap.size + 1) _ 1 1 [n] rfl (Vs.lit _ [n] _ rfl 1 rfl) (by have := HNL.out; omega) (by simp; omega) (i + 1) (L ++ [n]) rfl rfl ?_; intro A1 c1 w1 hc1 hS1 hown1 hbel1)
            go_roundw
            case rel => exact ⟨A1, i + 1, c1, m + 1, n + 1, rfl, by go_num, by have := HN.out; omega, by omega, by omega, by rw [HP.out]; exact hown1, hbel.trans (((Below.refl _ _).alloc (by omega) _).trans hbel1)⟩
            case measure => simp [intOf]; omega
          | false =>
            rw [hf] at HP
            go_wp2_with fail
            go_roundw
            case rel => exact ⟨_, i, _, m + 1, n + 1, rfl, by go_num, by have := HN.out; omega, by omega, by omega, by rw [HP.out]; exact hown, hbel⟩
            case measure => simp [intOf]; omega
    · have hNc : N = count := by omega
      subst hNc
      obtain ⟨A', c', he, hcc, hV⟩ := hown.form
      injection he with he1 he2 he3
      subst he1 he3
      rw [prs_take hm hl] at hV
      clear hown hl
      go_wp2_with fail
      go_ret
      exact ⟨_, _, rfl, hcc, hV, hbel⟩

theorem roots8 : ((prs 310).take 8).map (fun p => rootOf p false) = H0.list := by decide +kernel
theorem roots64 : ((prs 310).take 64).map (fun p => rootOf p true) = cubes := by decide +kernel
theorem map_more (l : List Nat) (f : Nat → Nat) (i : Nat) (h : i < l.length) : (l.take i).map f ++ [f (l.getD i 0)] = (l.take (i + 1)).map f := by
  rw [List.take_succ_eq_append_getElem h, List.map_append]
  congr 1
  simp [List.getD, List.getElem?_eq_getElem h]

set_option maxHeartbeats 1000000 in
theorem roots_any (count : Nat) (cube : Bool) (w : World) (hc : count ≤ 64) : Calls Tryd.prog 18 #[.int .i64 count, .bool cube] w fun e w' => ∃ A c, e = .returned (.slice A count c) ∧ count ≤ c ∧ Us w' w'.heap.size A count (((prs 310).take count).map fun p => rootOf p cube) ∧ Below w.heap.size w w' := by
  have PR := fun w => primes_any count w hc
  have hL : ((prs 310).take count).length = count := by rw [List.length_take, prs310]; omega
  have hsm : ∀ q ∈ (prs 310).take count, q < 4294967296 := fun q hq => by
    have := prs_pos 310 q (List.mem_of_mem_take hq)
    omega
  generalize (prs 310).take count = L at *
  go_enter Tryd.func18, Tryd.ntmps18
  go_wp2_with fail
  refine (PR w).mono ?_
  rintro e w1 ⟨A1, c1, rfl, hc1, hV, hb1⟩
  go_wp2_with fail
  go_loopw [6, 7] (fun v6 v7 wr => ∃ (A : Option Addr) (c i : Nat), v6 = .slice A i c ∧ v7 = .int .i64 i ∧ i ≤ count ∧ OwnU wr w1.heap.size (.slice A i c) i ((L.take i).map fun p => rootOf p cube) ∧ Below w1.heap.size w1 wr) (fun _ v _ => count - (intOf v).toNat)
  case atStart => exact ⟨_, 0, 0, rfl, rfl, by omega, ownU_empty w1 w1.heap.size (Nat.le_refl _), (Below.refl _ _).alloc (Nat.le_refl _) _⟩
  case round =>
    obtain ⟨A, c, i, rfl, rfl, hi, hown, hbel⟩ := hrel
    have hsz := hbel.size
    by_cases hlt : i < count
    · obtain ⟨b, off, rfl, hb, cx⟩ := (hV.below hbel).at_ hlt
      have HM := Lib.hid (map_more L (fun p => rootOf p cube) i (by omega))
      have hq : L.getD i 0 < 4294967296 := by
        have hil : i < L.length := by omega
        refine hsm _ ?_
        simp [List.getD, List.getElem?_eq_getElem hil]
      rw [v64] at cx
      generalize L.getD i 0 = q at *
      go_wp2_with fail
      refine (root_any q cube wr hq).mono ?_
      rintro e w2 ⟨rfl, hb2⟩
      have hown2 := hown.kept hb2
      have bel2 : Below w1.heap.size w1 w2 := hbel.trans (hb2.mono hsz)
      have sz2 := bel2.size
      clear hb2 cx
      generalize (L.take i).map (fun p => rootOf p cube) = X at *
      go_wp2_with (at_builtin; refine wp_appU _ rfl (.tmp 23) (.tmp 25) rfl w1.heap.size _ i X rfl (hown2.alloc _) (w2.heap.size + 1) _ 1 1 [rootOf q cube] rfl (Us.lit _ [rootOf q cube] _ rfl 1 rfl) (by omega) (by simp; omega) (i + 1) (X ++ [rootOf q cube]) rfl rfl ?_; intro A3 c3 w3 hc3 hS3 hown3 hbel3)
      go_roundw
      case rel => exact ⟨A3, c3, i + 1, rfl, by go_num, by omega, by rw [← HM.out]; exact hown3, bel2.trans (((Below.refl _ _).alloc (by omega) _).trans hbel3)⟩
      case measure => simp [intOf]; omega
    · have hic : i = count := by omega
      subst hic
      rw [List.take_of_length_le (by omega)] at hown
      obtain ⟨A', c', he, hcc, hU⟩ := hown.form
      injection he with he1 he2 he3
      subst he1 he3
      clear hown
      go_wp2_with fail
      go_ret
      exact ⟨_, _, rfl, hcc, hU, hb1.trans (hbel.mono hb1.size)⟩
end Go.Proofs.YtiigmpoopmnnhaaDoor
