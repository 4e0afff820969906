/-
  The walk of transeptlaw07.HostOnce: true, for every text; nothing that was there turns. Condition: the library's tables.
-/
import Derived.Test.YtcfgcakmffkpmaaDoorShw
import Derived.Test.YtcfgcakmffkpmaaDoorSixm
namespace Go.Proofs.YtcfgcakmffkpmaaDoor
open Go.RowKit

/-- May a byte be in what is written? -/
def oco (c : UInt8) : Bool := decide (33 ≤ c.toNat) && decide (c.toNat ≤ 126) && nup c && !([47, 63, 35, 64, 37] : List UInt8).contains c
theorem oco_ok : ∀ c : UInt8, okc c = true → nup c = true → oco c = true := by
  intro c
  have h : ∀ n, n < 256 → okc (UInt8.ofNat n) = true → nup (UInt8.ofNat n) = true → oco (UInt8.ofNat n) = true := by decide +kernel
  have := h c.toNat c.toNat_lt
  rwa [show UInt8.ofNat c.toNat = c by simp] at this
theorem hexL_oco (u : Nat) : (hexL u).all oco = true := by
  rw [← bsd_hexL]
  exact bsd_all 16 (by omega) (by omega) u oco (by decide)
theorem hxs_oco (x : Nat → Nat) : ∀ k, (hxs x k).all oco = true
  | 0 => rfl
  | k + 1 => by
    rw [hxs, List.all_append, List.all_append, hxs_oco x k, hexL_oco]
    split
    · rfl
    · decide
theorem brk_oco (a : List Nat) : (brk a).all oco = true := by
  unfold brk text6
  rw [List.all_append, List.all_append, List.all_append, List.all_append, hxs_oco, hxs_oco]
  split
  · decide
  · decide
theorem prs_err (l a : List UInt8) (h : prs l = (a, true)) : a = [] := by
  unfold prs at h
  split at h
  · unfold prb at h
    split at h
    · split at h
      · cases h
      · cases h
        rfl
    · cases h
      rfl
  · unfold nam at h
    split at h
    · split at h
      · cases h
        rfl
      · split at h
        · cases h
        · cases h
    · cases h
      rfl
/-- What is written is parsed as it is. -/
theorem prs_once (l a : List UInt8) (h : prs l = (a, false)) : prs a = (a, false) ∧ a ≠ [] ∧ a.all oco = true := by
  unfold prs at h
  split at h
  · unfold prb at h
    split at h
    · split at h
      · rename_i ad hi
        cases h
        obtain ⟨h1, h2⟩ := ip6_ok _ ad hi
        exact ⟨prs_brk ad h1 h2, by simp [brk], brk_oco ad⟩
      · cases h
    · cases h
  · obtain ⟨h1, h2, h3, h4⟩ := prs_nam _ a h
    refine ⟨h1, h2, ?_⟩
    rw [List.all_eq_true] at h3 h4 ⊢
    exact fun c hc => oco_ok c (h3 c hc) (h4 c hc)
theorem oco_facts (c : UInt8) (m : Nat) (hm : m = c.toNat) (h : oco c = true) : 33 ≤ m ∧ m ≤ 126 ∧ (m < 65 ∨ 90 < m) ∧ m ≠ 47 ∧ m ≠ 63 ∧ m ≠ 35 ∧ m ≠ 64 ∧ m ≠ 37 := by
  subst hm
  have key : ∀ n, n < 256 → oco (UInt8.ofNat n) = true → 33 ≤ n ∧ n ≤ 126 ∧ (n < 65 ∨ 90 < n) ∧ n ≠ 47 ∧ n ≠ 63 ∧ n ≠ 35 ∧ n ≠ 64 ∧ n ≠ 37 := by decide +kernel
  exact key c.toNat c.toNat_lt (by rwa [show UInt8.ofNat c.toNat = c by simp])

set_option maxHeartbeats 8000000 in
set_option maxRecDepth 100000 in
theorem once_walk (S0 : List UInt8) (hS : S0.length ≤ 9223372036854775807) (w : World) (ht : Tabs w) :
    Calls Tryd.prog 3 #[.string (str S0)] w fun e w' => e = .returned (.bool true) ∧ Below w.heap.size w w' := by
  obtain ⟨j, hj, hj1, hj2⟩ : ∃ j : Nat, min (S0.length : Int) 300 = (j : Int) ∧ j ≤ S0.length ∧ j ≤ 300 := ⟨min S0.length 300, by omega, by omega, by omega⟩
  obtain ⟨l, hl⟩ : ∃ l, l = S0.take j := ⟨_, rfl⟩
  have hll : l.length = j := by rw [hl, List.length_take]; omega
  have hxl : (str S0).extract 0 j = str l := by rw [hl]; exact str_take S0 j
  have hs0 := str_size S0
  have HT := Lib.hid ht
  have HSh := Lib.hid (shown_any w ht)
  obtain ⟨a, ha⟩ : ∃ a, a = (prs l).1 := ⟨_, rfl⟩
  obtain ⟨er, her⟩ : ∃ er, er = (prs l).2 := ⟨_, rfl⟩
  have hpr : prs l = (a, er) := by rw [ha, her]
  have HP : Hid (∀ w', Kept w w' → Calls Tryd.prog 10 #[.string (str l)] w' fun e w2 => e = .returned (.tuple #[.string (str a), .int .i64 (if er then 7 else 0)]) ∧ Below w'.heap.size w' w2) := fun w' hk => parse_is l a er hpr w' (by omega) (HT.out.kp hk)
  have hsa := str_size a
  have hem := str_empty a
  have hal : a.length ≤ 100000 := prs_len l a er hpr (by omega)
  clear hl ha her ht
  cases er with
  | true =>
    have hae := prs_err l a hpr
    have hem2 : (str a).toList.isEmpty = true := by rw [hem]; simp [hae]
    have HP2 : Hid (∀ w', Kept w w' → Calls Tryd.prog 10 #[.string (str l)] w' fun e w2 => e = .returned (.tuple #[.string (str a), .int .i64 7]) ∧ Below w'.heap.size w' w2) := HP.out
    clear HP hpr hem hae
    go_enter Tryd.func3, Tryd.ntmps3
    go_wp2_with (first
      | (go_at_call 9; with_reducible refine HSh.out.mono ?_; rintro e w1 ⟨rfl, hk1⟩)
      | (go_at_call 10; with_reducible refine (HP2.out _ hk1).mono ?_; rintro e w2 ⟨rfl, hb2⟩; have hk2 := hk1.step hb2; clear hb2))
    go_ret
    exact ⟨rfl, hk2⟩
  | false =>
    obtain ⟨ho, hne, hoc⟩ := prs_once l a hpr
    have hem2 : (str a).toList.isEmpty = false := by rw [hem]; simp [hne]
    have HP2 : Hid (∀ w', Kept w w' → Calls Tryd.prog 10 #[.string (str l)] w' fun e w2 => e = .returned (.tuple #[.string (str a), .int .i64 0]) ∧ Below w'.heap.size w' w2) := HP.out
    have HPa : Hid (∀ w', Kept w w' → Calls Tryd.prog 10 #[.string (str a)] w' fun e w2 => e = .returned (.tuple #[.string (str a), .int .i64 0]) ∧ Below w'.heap.size w' w2) := fun w' hk => parse_is a a false ho w' (by omega) (HT.out.kp hk)
    obtain ⟨A, hA⟩ : ∃ A, A = a.length := ⟨_, rfl⟩
    have hgb : Hid (∀ k, k < A → ∀ h, ((str a)[k]'h).toNat = (a.getD k 0).toNat) := fun k hk h => str_at a k (by rw [← hA]; exact hk) h
    have hch : Hid (∀ k, k < A → oco (a.getD k 0) = true) := fun k hk => by
      have hk' : k < a.length := by rw [← hA]; exact hk
      rw [List.all_eq_true] at hoc
      refine hoc _ ?_
      simp [List.getD, List.getElem?_eq_getElem hk']
    rw [← hA] at hsa hal
    clear HP hpr hem ho hne hoc hA
    go_enter Tryd.func3, Tryd.ntmps3
    go_wp2_with (first
      | (go_at_call 9; with_reducible refine HSh.out.mono ?_; rintro e w1 ⟨rfl, hk1⟩)
      | (go_at_call 10; with_reducible refine (HP2.out _ hk1).mono ?_; rintro e w2 ⟨rfl, hb2⟩; have hk2 := hk1.step hb2; clear hb2))
    go_loop [6] (fun i => ∃ k : Nat, k ≤ A ∧ i = .int .i64 (k : Int)) (fun i => A - (intOf i).toNat)
    case atStart => exact ⟨0, by omega, rfl⟩
    case round =>
      obtain ⟨k, hk, rfl⟩ := hrel
      by_cases hlt : k < A
      · have hki : (k : Int) < (A : Int) := by omega
        have hg := hgb.out k hlt
        obtain ⟨m, hm⟩ : ∃ m, m = (a.getD k 0).toNat := ⟨_, rfl⟩
        obtain ⟨f1, f2, f3, f4, f5, f6, f7, f8⟩ := oco_facts _ m hm (hch.out k hlt)
        rw [← hm] at hg
        have c1 : decide ((m : Int) < 33) = false := by simp; omega
        have c2 : decide ((126 : Int) < (m : Int)) = false := by simp; omega
        have c4 : ((m : Int) == 47) = false := by simp; omega
        have c5 : ((m : Int) == 63) = false := by simp; omega
        have c6 : ((m : Int) == 35) = false := by simp; omega
        have c7 : ((m : Int) == 64) = false := by simp; omega
        have c8 : ((m : Int) == 37) = false := by simp; omega
        clear hm f1 f2 f4 f5 f6 f7 f8
        by_cases h65 : m < 65
        · have c3 : decide ((65 : Int) ≤ (m : Int)) = false := by simp; omega
          clear f3 h65
          go_wp2_with fail
          go_round
          case rel => exact ⟨k + 1, by omega, by go_num⟩
          case measure => simp [intOf]; omega
        · have c3 : decide ((65 : Int) ≤ (m : Int)) = true := by simp; omega
          have c9 : decide ((m : Int) ≤ 90) = false := by simp; omega
          clear f3 h65
          go_wp2_with fail
          go_round
          case rel => exact ⟨k + 1, by omega, by go_num⟩
          case measure => simp [intOf]; omega
      · have hki : ¬ (k : Int) < (A : Int) := by omega
        go_wp2_with (first
          | (go_at_call 10; with_reducible refine (HPa.out _ hk2).mono ?_; rintro e w3 ⟨rfl, hb3⟩; have hk3 := hk2.step hb3; clear hb3))
        go_ret
        exact ⟨rfl, hk3⟩
end Go.Proofs.YtcfgcakmffkpmaaDoor
