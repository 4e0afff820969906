/-
  What the document's own answer (transeptref06) tells: In, digit, Digit; nothing that was there turns. No condition.
-/
import Derived.Test.YtkiafileelcknaaOnce
namespace Go.Proofs.Ytkiafileelcknaa
open Go.RowKit

theorem among_take (l : List UInt8) (k : Nat) (hk : k < l.length) (c : UInt8) : among (l.take (k + 1)) c = (among (l.take k) c || l.getD k 0 == c) := by
  rw [List.take_succ_eq_append_getElem hk]
  unfold among
  rw [List.contains_eq_any_beq, List.contains_eq_any_beq, List.any_append]
  simp only [List.getD, List.getElem?_eq_getElem hk, List.any_cons, List.any_nil, Bool.or_false, Option.getD_some]
  congr 1
  rw [Bool.eq_iff_iff, beq_iff_eq, beq_iff_eq]
  exact eq_comm
theorem among_found (l : List UInt8) (k : Nat) (hk : k < l.length) (c : UInt8) (h : l.getD k 0 = c) : among l c = true := by
  unfold among
  rw [List.contains_iff_mem, ← h]
  simp [List.getD, List.getElem?_eq_getElem hk]

set_option maxHeartbeats 1000000 in
theorem refHas_any (l : List UInt8) (c : UInt8) (hl : l.length ≤ 1000) (w : World) : Calls Try.prog 18 #[.string (str l), vb c] w fun e w' => e = .returned (.bool (among l c)) ∧ w' = w := by
  have hsz := str_size l
  obtain ⟨S, hS⟩ : ∃ S, S = l.length := ⟨_, rfl⟩
  have hgb : ∀ k, k < S → ∀ h, ((str l)[k]'h).toNat = (l.getD k 0).toNat := fun k hk h => str_at l k (by rw [← hS]; exact hk) h
  have ham : ∀ k, k < S → among (l.take (k + 1)) c = (among (l.take k) c || l.getD k 0 == c) := fun k hk => among_take l k (by rw [← hS]; exact hk) c
  have haf : ∀ k, k < S → l.getD k 0 = c → among l c = true := fun k hk h => among_found l k (by rw [← hS]; exact hk) c h
  have hfull : Hid (among (l.take S) c = among l c) := by show _ = _; rw [hS, List.take_length]
  have HG := Lib.hid (And.intro hgb (And.intro ham haf))
  rw [← hS] at hsz hl
  unfold vb
  obtain ⟨m, hm⟩ : ∃ m, m = c.toNat := ⟨_, rfl⟩
  rw [← hm]
  have HM := Lib.hid hm
  obtain ⟨R, hR⟩ : ∃ R, R = among l c := ⟨_, rfl⟩
  have HR := Lib.hid hR
  rw [← hR]
  clear hgb ham haf hS hm hR
  go_enter Try.func18, Try.ntmps18
  go_wp2_with fail
  go_loop [5] (fun a => ∃ k : Nat, k ≤ S ∧ a = .int .i64 (k : Int) ∧ among (l.take k) c = false) (fun a => S - (intOf a).toNat)
  case atStart => exact ⟨0, by omega, rfl, rfl⟩
  case round =>
    obtain ⟨k, hk, rfl, hnone⟩ := hrel
    have HN := Lib.hid hnone
    clear hnone
    by_cases hlt : k < S
    · obtain ⟨x, hx⟩ : ∃ x, x = (l.getD k 0).toNat := ⟨_, rfl⟩
      have hget : ∀ h, ((str l)[k]'h).toNat = x := fun h => by rw [hx]; exact HG.out.1 k hlt h
      have hkS : (k : Int) < (S : Int) := by omega
      have HX := Lib.hid hx
      clear hx
      by_cases hxm : x = m
      · have hb : ((x : Int) == (m : Int)) = true := by simp; omega
        have hRt : Hid (R = true) := by
          show _ = _
          rw [HR.out]
          exact HG.out.2.2 k hlt (UInt8.toNat_inj.1 (by rw [← HX.out, ← HM.out]; exact hxm))
        clear hxm
        go_wp2_with fail
        go_ret
        exact ⟨by rw [hRt.out]; rfl, rfl⟩
      · have hb : ((x : Int) == (m : Int)) = false := by simp; omega
        have hnx : Hid (among (l.take (k + 1)) c = false) := by
          show _ = _
          rw [HG.out.2.1 k hlt, HN.out, show (l.getD k 0 == c) = false from beq_eq_false_iff_ne.2 (fun h => hxm (by rw [HX.out, HM.out, h]))]
          rfl
        clear hxm
        go_wp2_with fail
        go_round
        case rel => exact ⟨k + 1, by omega, by go_num, hnx.out⟩
        case measure => simp [intOf]; omega
    · have hkS : ¬ (k : Int) < (S : Int) := by omega
      have hRf : Hid (R = false) := by
        show _ = _
        rw [HR.out, ← hfull.out, ← show k = S by omega]
        exact HN.out
      go_wp2_with fail
      go_ret
      exact ⟨by rw [hRf.out]; rfl, rfl⟩

def tab6 : List (List UInt8) := [[], [], s0, s1, [32, 34, 35, 60, 62, 39], [32, 34, 35, 60, 62, 63, 94, 96, 123, 125]]
theorem inS_tab : ∀ m, m < 256 → ∀ n : Nat, n < 6 → 0 < n → inS (n : Int) (UInt8.ofNat m) = (c0 (UInt8.ofNat m) || among (tab6.getD n []) (UInt8.ofNat m)) := by decide +kernel

set_option maxHeartbeats 4000000 in
theorem refIn_any (n : Int) (c : UInt8) (w : World) : Calls Try.prog 12 #[.int .i64 n, vb c] w fun e w' => e = .returned (.bool (inS n c)) ∧ Below w.heap.size w w' := by
  have hc : n < 1 ∨ 5 < n ∨ n = 1 ∨ n = 2 ∨ n = 3 ∨ n = 4 ∨ n = 5 := by omega
  have ht := inS_tab c.toNat c.toNat_lt
  simp only [UInt8.ofNat_toNat] at ht
  have HH := fun (k : Nat) W => refHas_any (tab6.getD k []) c (by
    match k with
    | 0 | 1 | 2 | 3 | 4 | 5 => decide
    | k + 6 => exact Nat.zero_le _) W
  have hcd : c0 c = (decide (c.toNat < 32) || decide (126 < c.toNat)) := rfl
  unfold vb at HH ⊢
  obtain ⟨m, hm⟩ : ∃ m, m = c.toNat := ⟨_, rfl⟩
  rw [← hm] at HH hcd ⊢
  have HT := Lib.hid ht
  have HHH := Lib.hid HH
  have HC := Lib.hid hcd
  clear ht HH hcd hm
  rcases hc with h | h | rfl | rfl | rfl | rfl | rfl
  · rw [inS_out n (Or.inl h)]
    go_enter Try.func12, Try.ntmps12
    go_wp2_with fail
    go_ret
    exact ⟨rfl, Below.refl _ _⟩
  · rw [inS_out n (Or.inr h)]
    have h1 : ¬ n < 1 := by omega
    have h2 : decide (n < 1) = false := by simpa using h1
    go_enter Try.func12, Try.ntmps12
    go_wp2_with fail
    go_ret
    exact ⟨rfl, Below.refl _ _⟩
  · have hin := HT.out 1 (by omega) (by omega)
    change inS 1 c = _ at hin
    rw [hin]
    clear hin
    by_cases h1 : m < 32
    · have hb : decide ((m : Int) < 32) = true := by simp; omega
      have hc0 : Hid (c0 c = true) := by show _ = _; rw [HC.out]; simp [h1]
      go_enter Try.func12, Try.ntmps12
      go_wp2_with fail
      go_ret
      exact ⟨by rw [hc0.out]; rfl, Below.refl _ _⟩
    · have hb : decide ((m : Int) < 32) = false := by simp; omega
      by_cases h2 : 126 < m
      · have hb2 : decide ((126 : Int) < (m : Int)) = true := by simp; omega
        have hc0 : Hid (c0 c = true) := by show _ = _; rw [HC.out]; simp [h2]
        go_enter Try.func12, Try.ntmps12
        go_wp2_with fail
        go_ret
        exact ⟨by rw [hc0.out]; rfl, Below.refl _ _⟩
      · have hb2 : decide ((126 : Int) < (m : Int)) = false := by simp; omega
        have hc0 : Hid (c0 c = false) := by show _ = _; rw [HC.out]; simp [h1, h2]
        go_enter Try.func12, Try.ntmps12
        go_wp2_with fail
        refine (HHH.out 1 _).mono ?_
        rintro e w1 ⟨rfl, rfl⟩
        go_wp2_with fail
        go_ret
        exact ⟨by rw [hc0.out]; rfl, (Below.refl _ _).alloc (Nat.le_refl _) _⟩
  · have hin := HT.out 2 (by omega) (by omega)
    change inS 2 c = _ at hin
    rw [hin]
    clear hin
    by_cases h1 : m < 32
    · have hb : decide ((m : Int) < 32) = true := by simp; omega
      have hc0 : Hid (c0 c = true) := by show _ = _; rw [HC.out]; simp [h1]
      go_enter Try.func12, Try.ntmps12
      go_wp2_with fail
      go_ret
      exact ⟨by rw [hc0.out]; rfl, Below.refl _ _⟩
    · have hb : decide ((m : Int) < 32) = false := by simp; omega
      by_cases h2 : 126 < m
      · have hb2 : decide ((126 : Int) < (m : Int)) = true := by simp; omega
        have hc0 : Hid (c0 c = true) := by show _ = _; rw [HC.out]; simp [h2]
        go_enter Try.func12, Try.ntmps12
        go_wp2_with fail
        go_ret
        exact ⟨by rw [hc0.out]; rfl, Below.refl _ _⟩
      · have hb2 : decide ((126 : Int) < (m : Int)) = false := by simp; omega
        have hc0 : Hid (c0 c = false) := by show _ = _; rw [HC.out]; simp [h1, h2]
        go_enter Try.func12, Try.ntmps12
        go_wp2_with fail
        refine (HHH.out 2 _).mono ?_
        rintro e w1 ⟨rfl, rfl⟩
        go_wp2_with fail
        go_ret
        exact ⟨by rw [hc0.out]; rfl, (Below.refl _ _).alloc (Nat.le_refl _) _⟩
  · have hin := HT.out 3 (by omega) (by omega)
    change inS 3 c = _ at hin
    rw [hin]
    clear hin
    by_cases h1 : m < 32
    · have hb : decide ((m : Int) < 32) = true := by simp; omega
      have hc0 : Hid (c0 c = true) := by show _ = _; rw [HC.out]; simp [h1]
      go_enter Try.func12, Try.ntmps12
      go_wp2_with fail
      go_ret
      exact ⟨by rw [hc0.out]; rfl, Below.refl _ _⟩
    · have hb : decide ((m : Int) < 32) = false := by simp; omega
      by_cases h2 : 126 < m
      · have hb2 : decide ((126 : Int) < (m : Int)) = true := by simp; omega
        have hc0 : Hid (c0 c = true) := by show _ = _; rw [HC.out]; simp [h2]
        go_enter Try.func12, Try.ntmps12
        go_wp2_with fail
        go_ret
        exact ⟨by rw [hc0.out]; rfl, Below.refl _ _⟩
      · have hb2 : decide ((126 : Int) < (m : Int)) = false := by simp; omega
        have hc0 : Hid (c0 c = false) := by show _ = _; rw [HC.out]; simp [h1, h2]
        go_enter Try.func12, Try.ntmps12
        go_wp2_with fail
        refine (HHH.out 3 _).mono ?_
        rintro e w1 ⟨rfl, rfl⟩
        go_wp2_with fail
        go_ret
        exact ⟨by rw [hc0.out]; rfl, (Below.refl _ _).alloc (Nat.le_refl _) _⟩
  · have hin := HT.out 4 (by omega) (by omega)
    change inS 4 c = _ at hin
    rw [hin]
    clear hin
    by_cases h1 : m < 32
    · have hb : decide ((m : Int) < 32) = true := by simp; omega
      have hc0 : Hid (c0 c = true) := by show _ = _; rw [HC.out]; simp [h1]
      go_enter Try.func12, Try.ntmps12
      go_wp2_with fail
      go_ret
      exact ⟨by rw [hc0.out]; rfl, Below.refl _ _⟩
    · have hb : decide ((m : Int) < 32) = false := by simp; omega
      by_cases h2 : 126 < m
      · have hb2 : decide ((126 : Int) < (m : Int)) = true := by simp; omega
        have hc0 : Hid (c0 c = true) := by show _ = _; rw [HC.out]; simp [h2]
        go_enter Try.func12, Try.ntmps12
        go_wp2_with fail
        go_ret
        exact ⟨by rw [hc0.out]; rfl, Below.refl _ _⟩
      · have hb2 : decide ((126 : Int) < (m : Int)) = false := by simp; omega
        have hc0 : Hid (c0 c = false) := by show _ = _; rw [HC.out]; simp [h1, h2]
        go_enter Try.func12, Try.ntmps12
        go_wp2_with fail
        refine (HHH.out 4 _).mono ?_
        rintro e w1 ⟨rfl, rfl⟩
        go_wp2_with fail
        go_ret
        exact ⟨by rw [hc0.out]; rfl, (Below.refl _ _).alloc (Nat.le_refl _) _⟩
  · have hin := HT.out 5 (by omega) (by omega)
    change inS 5 c = _ at hin
    rw [hin]
    clear hin
    by_cases h1 : m < 32
    · have hb : decide ((m : Int) < 32) = true := by simp; omega
      have hc0 : Hid (c0 c = true) := by show _ = _; rw [HC.out]; simp [h1]
      go_enter Try.func12, Try.ntmps12
      go_wp2_with fail
      go_ret
      exact ⟨by rw [hc0.out]; rfl, Below.refl _ _⟩
    · have hb : decide ((m : Int) < 32) = false := by simp; omega
      by_cases h2 : 126 < m
      · have hb2 : decide ((126 : Int) < (m : Int)) = true := by simp; omega
        have hc0 : Hid (c0 c = true) := by show _ = _; rw [HC.out]; simp [h2]
        go_enter Try.func12, Try.ntmps12
        go_wp2_with fail
        go_ret
        exact ⟨by rw [hc0.out]; rfl, Below.refl _ _⟩
      · have hb2 : decide ((126 : Int) < (m : Int)) = false := by simp; omega
        have hc0 : Hid (c0 c = false) := by show _ = _; rw [HC.out]; simp [h1, h2]
        go_enter Try.func12, Try.ntmps12
        go_wp2_with fail
        refine (HHH.out 5 _).mono ?_
        rintro e w1 ⟨rfl, rfl⟩
        go_wp2_with fail
        go_ret
        exact ⟨by rw [hc0.out]; rfl, (Below.refl _ _).alloc (Nat.le_refl _) _⟩
end Go.Proofs.Ytkiafileelcknaa
