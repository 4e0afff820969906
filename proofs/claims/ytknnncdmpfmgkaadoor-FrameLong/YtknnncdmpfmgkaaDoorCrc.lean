/-
  What crc.half, crc.More and crc.Sum answer: the sums of the plain mathematics; nothing in memory turns. Conditions: the table's cells hold what the program's text lays.
-/
import Derived.Test.YtknnncdmpfmgkaaDoorMem
import Derived.Test.YtknnncdmpfmgkaaDoorCrcPlain
import Derived.Laws.BitsAllLaws
namespace Go.Proofs.YtknnncdmpfmgkaaDoor
open Go.RowKit

/-- The table of crc: its sixteen cells. -/
def Tab (w : World) : Prop := 0 < w.heap.size ∧ ∀ i, i < 16 → w.cell? ⟨0, i, none⟩ = some (.int .u32 (tab i : Int))
theorem Tab.below {w w' : World} (h : Tab w) (hb : Below w.heap.size w w') : Tab w' :=
  ⟨by have := hb.size; have := h.1; omega, fun i hi => (hb.cell (p := ⟨0, i, none⟩) h.1).trans (h.2 i hi)⟩

theorem and15 (r : Nat) (hr : r < 4294967296) : bits .and .u32 (r : Int) 15 = ((r % 16 : Nat) : Int) := by
  have h := u32_and_nat r 15 hr (by omega)
  rw [show r &&& 15 = r % 16 from Nat.and_two_pow_sub_one_eq_mod r 4] at h
  exact h

set_option maxHeartbeats 400000 in
theorem half_any (r : Nat) (w : World) (h : Tab w) (hr : r < 4294967296) : Calls Tryd.prog 48 #[.int .u32 r] w fun e w' => e = .returned (.int .u32 (half r : Int)) ∧ w' = w := by
  have hc := h.2 (r % 16) (Nat.mod_lt _ (by omega))
  have e1 := and15 r hr
  have e3 : Hid (half r = r / 16 ^^^ tab (r % 16)) := rfl
  have hk : r % 16 < 16 := Nat.mod_lt _ (by omega)
  generalize r % 16 = k at hc e1 hk e3
  obtain ⟨q, hq⟩ : ∃ q, q = r / 16 := ⟨_, rfl⟩
  rw [← hq] at e3
  have e2 : (r : Int) / 16 = (q : Int) := by omega
  have e4 := u32_xor_nat q (tab k) (by omega) (tab_lt k hk)
  generalize tab k = t at hc e4 e3
  have e5 : ((q ^^^ t : Nat) : Int) = (half r : Int) := by rw [e3.out]
  rw [e5] at e4
  clear e5 hq h
  go_enter Tryd.func48, Tryd.ntmps48
  go_wp2_with fail
  go_ret
  exact ⟨rfl, rfl⟩

theorem not_u32 (r : Nat) (hr : r < 4294967296) : bits .xor .u32 IntKind.u32.max (r : Int) = ((r ^^^ ones : Nat) : Int) := by
  have h := u32_xor_nat 4294967295 r (by omega) hr
  rw [Nat.xor_comm] at h
  exact h

theorem ret_u32 {a b : Nat} (h : a = b) : Ending.returned (.int .u32 (a : Int)) = Ending.returned (.int .u32 (b : Int)) := by rw [h]

set_option maxHeartbeats 1000000 in
theorem more_any (s : Nat) (A : Option Addr) (n c : Nat) (l : List UInt8) (w : World) (ht : Tab w) (hs : s < 4294967296) (B : Nat) (h : Bs w B A n l) (hn : n ≤ 1000000000) :
    Calls Tryd.prog 44 #[.int .u32 s, .slice A n c] w fun e w' => e = .returned (.int .u32 (more s l : Int)) ∧ w' = w := by
  have sg : IntKind.u32.signed = false := rfl
  have e0 := not_u32 s hs
  have HM : Hid (more s l = run (s ^^^ ones) l ^^^ ones) := rfl
  have hr0 := ones_lt hs
  generalize s ^^^ ones = r0 at e0 HM hr0
  go_enter Tryd.func44, Tryd.ntmps44
  go_wp2_with fail
  go_loop [5, 12] (fun r i => ∃ k x : Nat, k ≤ n ∧ x < 4294967296 ∧ r = .int .u32 x ∧ i = .int .i64 k ∧ Hid (run x (l.drop k) = run r0 l)) (fun _ i => n - (intOf i).toNat)
  case atStart => exact ⟨0, r0, by omega, hr0, rfl, rfl, rfl⟩
  case round =>
    obtain ⟨k, x, hk, hx, rfl, rfl, HR⟩ := hrel
    by_cases hlt : k < n
    · obtain ⟨b, off, rfl, hb, hcell⟩ := h.at_ hlt
      obtain ⟨d, hd⟩ : ∃ d, d = l.getD k 0 := ⟨_, rfl⟩
      have HS : Hid (run (step x d) (l.drop (k + 1)) = run r0 l) := by
        show run (step x d) (l.drop (k + 1)) = run r0 l
        rw [← HR.out, hd]
        have hl : k < l.length := by rw [h.1]; exact hlt
        rw [List.drop_eq_getElem_cons hl, run_cons]
        simp [List.getD, List.getElem?_eq_getElem hl]
      have HX : Hid (step x d = half (half (x ^^^ d.toNat))) := rfl
      rw [← hd, vb] at hcell
      have hd8 := byte_lt d
      clear hd
      generalize d.toNat = m at hcell HX hd8
      have e1 := u32_xor_nat x m hx (by omega)
      have hy : x ^^^ m < 4294967296 := xor_lt hx (by omega)
      generalize x ^^^ m = y at e1 HX hy
      go_wp2_with fail
      refine (half_any y w ht hy).mono ?_
      rintro e w1 ⟨rfl, rfl⟩
      go_wp2_with fail
      refine (half_any (half y) w1 ht (half_lt hy)).mono ?_
      rintro e w1 ⟨rfl, rfl⟩
      go_wp2_with fail
      go_round
      case rel => exact ⟨k + 1, half (half y), by omega, half_lt (half_lt hy), rfl, by go_num, by rw [← HX.out]; exact HS⟩
      case measure => simp [intOf]; omega
    · have hkn : k = n := by omega
      have HE : Hid (x = run r0 l) := by
        show x = run r0 l
        rw [← HR.out, List.drop_eq_nil_of_le (by rw [h.1]; omega)]
        rfl
      have e2 := not_u32 x hx
      go_wp2_with fail
      go_ret
      exact ⟨ret_u32 (by rw [HM.out, HE.out]), rfl⟩

theorem sum_any (A : Option Addr) (n c : Nat) (l : List UInt8) (w : World) (ht : Tab w) (B : Nat) (h : Bs w B A n l) (hn : n ≤ 1000000000) :
    Calls Tryd.prog 36 #[.slice A n c] w fun e w' => e = .returned (.int .u32 (more 0 l : Int)) ∧ w' = w := by
  go_enter Tryd.func36, Tryd.ntmps36
  go_wp2_with fail
  refine (more_any 0 A n c l w ht (by omega) B h hn).mono ?_
  rintro e w1 ⟨rfl, rfl⟩
  go_wp2_with fail
  go_ret
  exact ⟨rfl, rfl⟩
end Go.Proofs.YtknnncdmpfmgkaaDoor
