/-
  What the document's own reading of texts (transeptref01.Text) answers; nothing turns. Condition: texts of at most 1000000 bytes.
-/
import Derived.Test.YtjgcodnabgkjoaaDoorRefGet
namespace Go.Proofs.YtjgcodnabgkjoaaDoor
open Go.RowKit

theorem str_cut (l : List UInt8) (k n : Nat) : (str l).extract k (k + n) = str ((l.drop k).take n) := by
  apply ByteArray.ext
  apply Array.ext'
  simp [str, List.take_drop]

set_option maxHeartbeats 400000 in
theorem refText_any (l : List UInt8) (most : Int) (w : World) (hl : l.length ≤ 1000000) (h1 : -9223372036854775808 ≤ most) (h2 : most ≤ 9223372036854775807) :
    Calls Tryd.prog 36 #[.string (str l), .int .i64 most] w fun e w' => e = .returned (gotText (textS l most)) ∧ w = w' := by
  have hs := str_size l
  obtain ⟨r, hr⟩ : ∃ r, r = getS l := ⟨_, rfl⟩
  obtain ⟨N, k, e⟩ := r
  have hpl := getF_place l 0 0 (by omega) (by simp)
  have hok := getS_ok l
  change (getS l).2.1 ≤ 0 + l.length ∧ (getS l).2.2 ≤ 3 ∧ (getS l).2.2 ≠ 1 at hpl
  have hts : textS l most = if e ≠ 0 then ([], k, e) else if aboveB N most = true then ([], k - 1, 5) else if l.length - k < N then ([], l.length, 2) else ((l.drop k).take N, k + N, 0) := by
    unfold textS; rw [← hr]
  have HS := Lib.hid hts
  have hg : (got (getS l)) = .tuple #[.int .u64 N, .int .i64 k, .int .i64 e] := by rw [← hr]; rfl
  rw [← hr] at hpl hok
  simp only at hpl hok
  obtain ⟨hk1, he1, he2⟩ := hpl
  have HG := Lib.hid hg
  have HO := Lib.hid hok
  have hkl : k ≤ l.length := by omega
  clear hg hts hr hok hk1
  by_cases he : e = 0
  · subst he
    obtain ⟨ho1, ho2, ho3⟩ := HO.out rfl
    go_enter Tryd.func36, Tryd.ntmps36
    go_wp2_with fail
    refine (refGet_any l w hl).mono ?_
    rintro e w1 ⟨rfl, rfl⟩
    rw [HG.out]
    by_cases hneg : most < 0
    · have hd : decide (most < 0) = true := by simpa using hneg
      have HA : Hid (aboveB N most = true) := by show aboveB N most = true; simp [aboveB, hneg]
      go_wp2_with fail
      go_ret3
      have e1 : ((k - 1 : Nat) : Int) = (k : Int) - 1 := by omega
      refine ⟨?_, rfl⟩
      rw [HS.out, if_neg (by omega), if_pos HA.out]
      exact (by simp only [gotText]; rw [e1]; rfl)
    · have hd : decide (most < 0) = false := by simpa using hneg
      by_cases hab : most < (N : Int)
      · have hd2 : decide (most < (N : Int)) = true := by simpa using hab
        have HA : Hid (aboveB N most = true) := by show aboveB N most = true; simp [aboveB, hab]
        go_wp2_with fail
        go_ret3
        have e1 : ((k - 1 : Nat) : Int) = (k : Int) - 1 := by omega
        refine ⟨?_, rfl⟩
        rw [HS.out, if_neg (by omega), if_pos HA.out]
        exact (by simp only [gotText]; rw [e1]; rfl)
      · have hd2 : decide (most < (N : Int)) = false := by simpa using hab
        have HA : Hid (¬ aboveB N most = true) := by show ¬ aboveB N most = true; simp [aboveB]; omega
        have hN : N ≤ 9223372036854775807 := by omega
        by_cases hsh : l.length - k < N
        · have hlt : (l.length : Int) - (k : Int) < (N : Int) := by omega
          go_wp2_with fail
          go_ret3
          refine ⟨?_, rfl⟩
          rw [HS.out, if_neg (by omega), if_neg HA.out, if_pos hsh]
          rfl
        · have hlt : (N : Int) ≤ (l.length : Int) - (k : Int) := by omega
          obtain ⟨T, hT⟩ : ∃ T, T = (l.drop k).take N := ⟨_, rfl⟩
          have hex : (str l).extract k (k + N) = str T := by rw [hT]; exact str_cut l k N
          have HT := Lib.hid hT
          have HX := Lib.hid hex
          clear hT hex
          go_wp2_with fail
          go_ret3
          refine ⟨?_, rfl⟩
          rw [HS.out, if_neg (by omega), if_neg HA.out, if_neg hsh, ← HT.out]
          have e1 : ((k + N : Nat) : Int) = (k : Int) + N := by omega
          exact (by simp only [gotText]; rw [e1, ← HX.out]; rfl)
  · go_enter Tryd.func36, Tryd.ntmps36
    go_wp2_with fail
    refine (refGet_any l w hl).mono ?_
    rintro e w1 ⟨rfl, rfl⟩
    rw [HG.out]
    have hne : ((e : Int) != 0) = true := by simp; omega
    go_wp2_with fail
    go_ret3
    refine ⟨?_, rfl⟩
    rw [HS.out, if_pos he]
    rfl
end Go.Proofs.YtjgcodnabgkjoaaDoor
