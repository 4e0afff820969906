/-
  What number.Get, number.above and number.Text answer; what was there stays. Condition: a slice of at most 1000000000 bytes.
-/
import Derived.Test.YtjgcodnabgkjoaaDoorGet
namespace Go.Proofs.YtjgcodnabgkjoaaDoor
open Go.RowKit

set_option maxHeartbeats 400000 in
theorem get_any (A : Option Addr) (n c : Nat) (l : List UInt8) (w : World) (h : Bs w w.heap.size A n l) (hc : n ≤ c) (hn : n ≤ 1000000000) :
    Calls Tryd.prog 46 #[.slice A n c] w fun e w' => e = .returned (got (getS l)) ∧ Below w.heap.size w w' := by
  have hmf : ∀ (fn : Fn) (first cap : Array Value) (w : World), (Instr.makeFunc fn first cap).run Tryd.prog w = .ok (.func fn first cap) w := fun _ _ _ _ => rfl
  go_enter Tryd.func46, Tryd.ntmps46
  go_wp2_with fail
  refine (read_any w.heap.size l _ ⟨A, n, c, by simp, h.alloc (Nat.le_refl _) _, hc, hn, by simp⟩).mono ?_
  rintro e w1 ⟨rfl, hbel⟩
  simp only [got]
  go_wp2_with fail
  go_ret3
  exact ⟨rfl, ((Below.refl _ _).alloc (Nat.le_refl _) _).trans hbel⟩

theorem above_any (n : Nat) (most : Int) (w : World) (_hn : n < 18446744073709551616) (h1 : -9223372036854775808 ≤ most) (h2 : most ≤ 9223372036854775807) :
    Calls Tryd.prog 54 #[.int .u64 n, .int .i64 most] w fun e w' => e = .returned (.bool (aboveB n most)) ∧ w = w' := by
  by_cases h : most < 0
  · have hd : decide (most < 0) = true := by simpa using h
    go_enter Tryd.func54, Tryd.ntmps54
    go_wp2_with fail
    go_ret
    exact ⟨ret_bool (a := true) (by simp [aboveB, h]), rfl⟩
  · have hd : decide (most < 0) = false := by simpa using h
    go_enter Tryd.func54, Tryd.ntmps54
    go_wp2_with fail
    go_ret
    exact ⟨ret_bool (a := decide (most < (n : Int))) (by unfold aboveB; rw [hd]; rfl), rfl⟩

def gotText (r : List UInt8 × Nat × Nat) : Value := .tuple #[.string (str r.1), .int .i64 r.2.1, .int .i64 r.2.2]

set_option maxHeartbeats 400000 in
theorem text_any (A : Option Addr) (n c : Nat) (l : List UInt8) (most : Int) (w : World) (h : Bs w w.heap.size A n l) (hc : n ≤ c) (hn : n ≤ 1000000000) (h1 : -9223372036854775808 ≤ most) (h2 : most ≤ 9223372036854775807) :
    Calls Tryd.prog 48 #[.slice A n c, .int .i64 most] w fun e w' => e = .returned (gotText (textS l most)) ∧ Below w.heap.size w w' := by
  have hl := h.1
  obtain ⟨r, hr⟩ : ∃ r, r = getS l := ⟨_, rfl⟩
  obtain ⟨N, k, e⟩ := r
  have hpl := getF_place l 0 0 (by omega) (by simp)
  have hok := getS_ok l
  change _ ≤ 0 + l.length ∧ _ at hpl
  change (getS l).2.1 ≤ _ ∧ (getS l).2.2 ≤ 3 ∧ (getS l).2.2 ≠ 1 at hpl
  have hts : textS l most = if e ≠ 0 then ([], k, e) else if aboveB N most = true then ([], k - 1, 5) else if l.length - k < N then ([], l.length, 2) else ((l.drop k).take N, k + N, 0) := by
    unfold textS; rw [← hr]
  have HS := Lib.hid hts
  have hg : (got (getS l)) = .tuple #[.int .u64 N, .int .i64 k, .int .i64 e] := by rw [← hr]; rfl
  rw [← hr] at hpl hok
  simp only at hpl hok
  obtain ⟨hk1, he1, he2⟩ := hpl
  have HG := Lib.hid hg
  have HL := Lib.hid hl
  have HO := Lib.hid hok
  have hkl : k ≤ n := by omega
  clear hg hts hr hok hl hk1
  by_cases he : e = 0
  · subst he
    obtain ⟨ho1, ho2, ho3⟩ := HO.out rfl
    go_enter Tryd.func48, Tryd.ntmps48
    go_wp2_with fail
    refine (get_any A n c l w h hc hn).mono ?_
    rintro e w1 ⟨rfl, hbel⟩
    rw [HG.out]
    by_cases hab : aboveB N most = true
    · go_wp2_with fail
      refine (above_any N most w1 ho3 h1 h2).mono ?_
      rintro e w2 ⟨rfl, rfl⟩
      go_wp2_with fail
      go_ret3
      have e1 : ((k - 1 : Nat) : Int) = (k : Int) - 1 := by omega
      refine ⟨?_, hbel⟩
      rw [HS.out, if_neg (by omega), if_pos hab]
      exact (by simp only [gotText]; rw [e1]; rfl)
    · have habf : aboveB N most = false := by simpa using hab
      have HT : Hid (0 ≤ most ∧ (N : Int) ≤ most) := by
        show 0 ≤ most ∧ (N : Int) ≤ most
        simp [aboveB] at habf
        omega
      clear hab
      go_wp2_with fail
      refine (above_any N most w1 ho3 h1 h2).mono ?_
      rintro e w2 ⟨rfl, rfl⟩
      by_cases hsh : n - k < N
      · have hlt : (n : Int) - (k : Int) < (N : Int) := by omega
        go_wp2_with fail
        go_ret3
        refine ⟨?_, hbel⟩
        rw [HS.out, HL.out, if_neg (by omega), if_neg (by rw [habf]; simp), if_pos hsh]
        rfl
      · have hlt : (N : Int) ≤ (n : Int) - (k : Int) := by omega
        obtain ⟨b, off, rfl, hb, hcell⟩ := h.2 (by omega)
        obtain ⟨T, hT⟩ : ∃ T, T = (l.drop k).take N := ⟨_, rfl⟩
        have hcut : Bs w1 w.heap.size (if c = k then some ⟨b, off, none⟩ else some ⟨b, off + k, none⟩) N T := by
          have := ((h.below hbel).cut (k := k) (cap := c) hkl hc).take N (by omega)
          rw [hT]
          simpa [Addr.add_lit] using this
        have HT := Lib.hid hT
        clear hT
        by_cases hck : c = k
        all_goals
          first | rw [if_pos hck] at hcut | rw [if_neg hck] at hcut
          have hcv := fun c' => run_str w1 _ _ N c' T hcut
          clear hcut
          go_wp2_with fail
          go_ret3
          refine ⟨?_, hbel⟩
          rw [HS.out, if_neg (by omega), if_neg (by rw [habf]; simp), if_neg (by rw [HL.out]; exact hsh), ← HT.out]
          have e1 : ((k + N : Nat) : Int) = (k : Int) + N := by omega
          exact (by simp only [gotText]; rw [e1]; rfl)
  · go_enter Tryd.func48, Tryd.ntmps48
    go_wp2_with fail
    refine (get_any A n c l w h hc hn).mono ?_
    rintro e w1 ⟨rfl, hbel⟩
    rw [HG.out]
    have hne : ((e : Int) != 0) = true := by simp; omega
    go_wp2_with fail
    go_ret3
    refine ⟨?_, hbel⟩
    rw [HS.out, if_pos he]
    rfl
end Go.Proofs.YtjgcodnabgkjoaaDoor
