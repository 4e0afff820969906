/-
  What frame.logSize and frame.tooMuch answer; nothing that was in memory turns. Conditions: at most a million bodies of at most a million bytes each.
-/
import Derived.Test.YtknnncdmpfmgkaaDoorView
namespace Go.Proofs.YtknnncdmpfmgkaaDoor
open Go.RowKit

/-- Few enough, and short enough, to be counted. -/
def Fine (bs : List (List UInt8)) : Prop := bs.length ≤ 1000000 ∧ ∀ l ∈ bs, l.length ≤ 1000000
theorem frs_le : ∀ (bs : List (List UInt8)), (∀ l ∈ bs, l.length ≤ 1000000) → (frs bs).length ≤ bs.length * 1000014
  | [], _ => by simp [frs_nil]
  | l :: bs, h => by
    have h1 := frs_le bs fun x hx => h x (by simp [hx])
    have h2 := h l (by simp)
    have h3 := leb_len10 (n := l.length) (by omega)
    rw [frs_cons, List.length_append, frm_len, List.length_cons]
    omega
theorem frs_take_le {bs : List (List UInt8)} (h : Fine bs) (k : Nat) : (frs (bs.take k)).length ≤ 1000014000000 := by
  have h1 := frs_le (bs.take k) fun l hl => h.2 l (List.mem_of_mem_take hl)
  have h2 : (bs.take k).length ≤ 1000000 := by rw [List.length_take]; have := h.1; omega
  omega
theorem take_next {α : Type} {bs : List α} {k : Nat} {l : α} (h : bs[k]? = some l) : bs.take (k + 1) = bs.take k ++ [l] := by
  obtain ⟨h0, h1⟩ := List.getElem?_eq_some_iff.1 h
  rw [List.take_succ_eq_append_getElem h0, h1]

set_option maxHeartbeats 1000000 in
theorem logSize_any (A : Option Addr) (n c : Nat) (bs : List (List UInt8)) (w : World) (h : Rv w A n bs) (hf : Fine bs) :
    Calls Tryd.prog 26 #[.slice A n c] w fun e w' => e = .returned (.int .i64 (join bs).length) ∧ Below w.heap.size w w' := by
  have hn : n ≤ 1000000 := by rw [← h.1]; exact hf.1
  go_enter Tryd.func26, Tryd.ntmps26
  go_wp2_with fail
  go_loopw [3, 8] (fun v i wr => ∃ (k s : Nat), k ≤ n ∧ i = .int .i64 k ∧ v = .int .i64 s ∧ Hid (s = 4 + (frs (bs.take k)).length) ∧ Below w.heap.size w wr) (fun _ i _ => n - (intOf i).toNat)
  case atStart => exact ⟨0, 4, by omega, rfl, rfl, Lib.hid (by simp [frs_nil]), Below.refl _ _⟩
  case round =>
    obtain ⟨k, s, hk, rfl, rfl, HS, hb⟩ := hrel
    have hs4 : s ≤ 1000014000004 := by have := frs_take_le hf k; have := HS.out; omega
    by_cases hlt : k < n
    · obtain ⟨l, b, off, A', c', hl, rfl, hbl, hcell, h4, h5, h6⟩ := (h.below hb).at_ hlt
      have hi := index24 wr b off n c k hlt
      have hll : l.length ≤ 1000000 := hf.2 l (List.mem_of_getElem? hl)
      have HD := head_any A' l.length c' wr (by omega)
      have h10 := leb_len10 (n := l.length) (by omega)
      have HL := Lib.hid hl
      have hfl := Lib.hid (frm_len l)
      clear hl
      generalize (leb l.length) = L at HD h10 hfl
      obtain ⟨m, hm⟩ : ∃ m, l.length = m := ⟨_, rfl⟩
      obtain ⟨q, hq⟩ : ∃ q, L.length = q := ⟨_, rfl⟩
      rw [hm] at hcell HD hll
      rw [hq] at HD h10
      have HM := Lib.hid hm
      have HQ := Lib.hid hq
      clear hm hq h4 h6
      go_wp2_with fail
      refine HD.mono ?_
      rintro e w1 ⟨A1, c1, rfl, g1, g2, g3, g4⟩
      go_wp2_with fail
      go_roundw
      case rel =>
        refine ⟨k + 1, s + (q + m + 4), by omega, by go_num, by go_num, ?_, hb.trans (g4.mono hb.size)⟩
        show s + (q + m + 4) = _
        rw [take_next HL.out, frs_snoc, List.length_append, hfl.out, HS.out, HM.out, HQ.out]
        omega
      case measure => simp [intOf]; omega
    · obtain rfl : k = n := by omega
      have HE : Hid (s = (join bs).length) := by
        show s = _
        rw [HS.out, List.take_of_length_le (by rw [h.1]; exact Nat.le_refl _), join_len]
      go_wp2_with fail
      go_ret
      exact ⟨by rw [HE.out]; rfl, hb⟩

/-- No log may hold these bodies. -/
def over (bs : List (List UInt8)) : Bool := decide (4096 < bs.length) || bs.any (fun l => decide (20000 < l.length)) || decide (1048576 < (join bs).length)

set_option maxHeartbeats 1000000 in
theorem tooMuch_any (A : Option Addr) (n c : Nat) (bs : List (List UInt8)) (w : World) (h : Rv w A n bs) (hf : Fine bs) :
    Calls Tryd.prog 25 #[.slice A n c] w fun e w' => e = .returned (.bool (over bs)) ∧ Below w.heap.size w w' := by
  have hn : n ≤ 1000000 := by rw [← h.1]; exact hf.1
  have hln := Lib.hid h.1
  by_cases hmany : 4096 < n
  · have HE : Hid (over bs = true) := by show over bs = true; unfold over; rw [hln.out]; simp [hmany]
    go_enter Tryd.func25, Tryd.ntmps25
    go_wp2_with fail
    go_ret
    exact ⟨by rw [HE.out]; rfl, Below.refl _ _⟩
  · have LS := logSize_any A n c bs w h hf
    have HO : Hid (over bs = (bs.any (fun l => decide (20000 < l.length)) || decide (1048576 < (join bs).length))) := by
      show over bs = _
      unfold over
      rw [hln.out]
      simp [hmany]
    obtain ⟨J, hJ⟩ : ∃ J, (join bs).length = J := ⟨_, rfl⟩
    rw [hJ] at LS
    have HJ := Lib.hid hJ
    clear hJ
    go_enter Tryd.func25, Tryd.ntmps25
    go_wp2_with fail
    go_loop [10] (fun i => ∃ k : Nat, k ≤ n ∧ i = .int .i64 k ∧ Hid ((bs.take k).any (fun l => decide (20000 < l.length)) = false)) (fun i => n - (intOf i).toNat)
    case atStart => exact ⟨0, by omega, rfl, Lib.hid (by simp)⟩
    case round =>
      obtain ⟨k, hk, rfl, HA⟩ := hrel
      by_cases hlt : k < n
      · obtain ⟨l, b, off, A', c', hl, rfl, hbl, hcell, h4, h5, h6⟩ := h.at_ hlt
        have hi := index24 w b off n c k hlt
        have HL := Lib.hid hl
        have hll : l.length ≤ 1000000 := hf.2 l (List.mem_of_getElem? hl)
        clear hl h6
        obtain ⟨m, hm⟩ : ∃ m, l.length = m := ⟨_, rfl⟩
        rw [hm] at hcell hll
        have HM := Lib.hid hm
        clear hm h4
        by_cases hbig : 20000 < m
        · have HE : Hid (over bs = true) := by
            show over bs = true
            rw [HO.out]
            have : bs.any (fun l => decide (20000 < l.length)) = true := by
              rw [List.any_eq_true]
              exact ⟨l, List.mem_of_getElem? HL.out, by rw [HM.out]; simpa using hbig⟩
            rw [this]
            rfl
          go_wp2_with fail
          go_ret
          exact ⟨by rw [HE.out]; rfl, Below.refl _ _⟩
        · go_wp2_with fail
          go_round
          case rel =>
            refine ⟨k + 1, by omega, by go_num, ?_⟩
            show (bs.take (k + 1)).any _ = false
            rw [take_next HL.out, List.any_append, HA.out]
            simp [HM.out]
            omega
          case measure => simp [intOf]; omega
      · obtain rfl : k = n := by omega
        have HE : Hid (over bs = decide (1048576 < J)) := by
          show over bs = _
          have := HA.out
          rw [List.take_of_length_le (by rw [hln.out]; exact Nat.le_refl _)] at this
          rw [HO.out, this, HJ.out]
          rfl
        go_wp2_with fail
        refine LS.mono ?_
        rintro e w1 ⟨rfl, g1⟩
        go_wp2_with fail
        go_ret
        refine ⟨?_, g1⟩
        rw [HE.out]
        simp
        omega
end Go.Proofs.YtknnncdmpfmgkaaDoor
