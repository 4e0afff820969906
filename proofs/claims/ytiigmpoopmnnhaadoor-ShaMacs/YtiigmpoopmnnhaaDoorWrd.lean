/-
  What transeptref03.word answers: four bytes as a word; nothing in memory turns. Small words for strings. No condition.
-/
import Derived.Test.YtiigmpoopmnnhaaDoorTable
namespace Go.Proofs.YtiigmpoopmnnhaaDoor
open Go.RowKit

theorem str_append (l k : List UInt8) : str l ++ str k = str (l ++ k) := by
  apply ByteArray.ext
  apply Array.ext'
  simp [str]
theorem str_cut (l : List UInt8) (k n : Nat) : (str l).extract k (k + n) = str ((l.drop k).take n) := by
  apply ByteArray.ext
  apply Array.ext'
  simp [str, List.take_drop]
theorem str_get (l : List UInt8) (k : Nat) (hk : k < l.length) (h : k < (str l).size) : ((str l)[k]'h).toNat = byteAt l k := by
  simp [str, byteAt, List.getD, List.getElem?_eq_getElem hk, ByteArray.getElem_eq_getElem_data]
def wacc (l : List UInt8) : Nat → Nat
  | 0 => 0
  | k + 1 => wacc l k * 256 + byteAt l k
theorem wacc_lt (l : List UInt8) : ∀ k, wacc l k < 256 ^ k
  | 0 => by simp [wacc]
  | k + 1 => by
    have h1 := wacc_lt l k
    have h2 := byteAt_lt l k
    simp only [wacc, Nat.pow_succ]
    omega
theorem wacc_four (l : List UInt8) : wacc l 4 = wordAt l 0 := by
  simp [wacc, wordAt]

set_option maxHeartbeats 400000 in
set_option maxRecDepth 100000 in
theorem word_any (l : List UInt8) (w : World) (hl : l.length = 4) : Calls Tryd.prog 27 #[.string (str l)] w fun e w' => e = .returned (.int .u32 (wordAt l 0 : Int)) ∧ w' = w := by
  have hs := str_size l
  have HL := Lib.hid hl
  clear hl
  go_enter Tryd.func27, Tryd.ntmps27
  go_wp2_with fail
  go_loop [3, 4] (fun v i => ∃ k x : Nat, k ≤ 4 ∧ x < 4294967296 ∧ v = .int .u32 x ∧ i = .int .i64 k ∧ Hid (x = wacc l k)) (fun _ i => 4 - (intOf i).toNat)
  case atStart => exact ⟨0, 0, by omega, by omega, rfl, rfl, rfl⟩
  case round =>
    obtain ⟨k, x, hk, hx, rfl, rfl, HX⟩ := hrel
    by_cases hlt : k < 4
    · have hlk : k < l.length := by rw [HL.out]; exact hlt
      obtain ⟨m, hm⟩ : ∃ m, m = byteAt l k := ⟨_, rfl⟩
      have hget : ∀ h, ((str l)[k]'h).toNat = m := fun h => by rw [hm]; exact str_get l k hlk h
      have hm8 : m < 256 := by rw [hm]; exact byteAt_lt l k
      have hn : x * 256 + m < 4294967296 := by
        have h1 := wacc_lt l (k + 1)
        rw [wacc, ← HX.out, ← hm] at h1
        have : 256 ^ (k + 1) ≤ 256 ^ 4 := Nat.pow_le_pow_right (by omega) (by omega)
        omega
      have HY : Hid (x * 256 + m = wacc l (k + 1)) := by show _ = _; rw [wacc, ← HX.out, ← hm]
      obtain ⟨y, hy⟩ : ∃ y, y = x * 256 + m := ⟨_, rfl⟩
      have l3 : y < 4294967296 := by omega
      have HYE := Lib.hid hy
      rw [← hy] at HY
      clear hm hy hn
      go_wp2_with fail
      refine ⟨⟨k + 1, y, by omega, l3, ?_, by go_num, HY⟩, by simp [intOf]; omega⟩
      have := HYE.out
      congr 1
      omega
    · have hk4 : k = 4 := by omega
      subst hk4
      go_wp2_with fail
      go_ret
      exact ⟨by rw [← wacc_four, ← HX.out]; rfl, rfl⟩
end Go.Proofs.YtiigmpoopmnnhaaDoor
