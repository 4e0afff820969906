/-
  What frame.head, frame.tail and frame.match answer; nothing that was in memory turns. Conditions: the table's cells hold what the program's text lays; slices of at most 1000000000 bytes.
-/
import Derived.Test.YtknnncdmpfmgkaaDoorAdd
import Derived.Test.YtknnncdmpfmgkaaDoorCrc
import Derived.Test.YtknnncdmpfmgkaaDoorFrPlain
import Derived.Test.YtknnncdmpfmgkaaDoorLaw
import Derived.OwnWalk
import Derived.Laws.OwnMore
namespace Go.Proofs.YtknnncdmpfmgkaaDoor
open Go.RowKit

set_option maxHeartbeats 400000 in
theorem head_any (A : Option Addr) (n c : Nat) (w : World) (hn : n ≤ 9223372036854775807) :
    Calls Tryd.prog 27 #[.slice A n c] w (Gives w (leb n).length (leb n)) := by
  have P := fun w h => put_any none 0 0 [] n w h (by omega) (by omega)
  simp only [Nat.zero_add, List.nil_append] at P
  go_enter Tryd.func27, Tryd.ntmps27
  go_wp2_with fail
  refine (P w (Bs.empty _ _ _)).mono ?_
  rintro e w1 ⟨A1, c1, rfl, h1, h2, h3, h4⟩
  go_wp2_with fail
  go_ret
  exact ⟨A1, c1, rfl, h1, h2, h3, h4⟩

theorem tl_get (s k : Nat) (hk : k < 4) : (four s)[k]? = some (UInt8.ofNat (s / 2 ^ (8 * k))) := by
  match k, hk with
  | 0, _ => simp [four]
  | 1, _ => simp [four]
  | 2, _ => simp [four]
  | 3, _ => simp [four]
theorem four_byte (s k : Nat) (_ : k < 4) (_ : s < 4294967296) : (s : Int) / 2 ^ (8 * k) % 256 = ((UInt8.ofNat (s / 2 ^ (8 * k))).toNat : Int) := by
  have e : ((s : Int) / 2 ^ (8 * k)) = ((s / 2 ^ (8 * k) : Nat) : Int) := by push_cast; rfl
  rw [e]
  simp
theorem made4 : (madeCells (Value.int .u8 0).cells (4 * 1)).toList = vbs [0, 0, 0, 0] := by kernel_rfl

theorem matchS_drop (want b : List UInt8) (wr k : Nat) (h : want.take k = b.take k) (hk : k ≤ want.length) (hb : k ≤ b.length) : matchS b want wr = (k + (matchS (b.drop k) (want.drop k) wr).1, (matchS (b.drop k) (want.drop k) wr).2) := by
  induction k generalizing want b with
  | zero => simp
  | succ k ih =>
    cases want with
    | nil => simp at hk
    | cons d s =>
      cases b with
      | nil => simp at hb
      | cons c r =>
        simp only [List.take_succ_cons, List.cons.injEq] at h
        obtain ⟨rfl, h⟩ := h
        rw [matchS, if_pos rfl, ih s r h (by simpa using hk) (by simpa using hb)]
        simp only [List.drop_succ_cons]
        refine Prod.ext ?_ rfl
        simp only
        omega

def pair (r : Nat × Nat) : Value := .tuple #[.int .i64 r.1, .int .i64 r.2]
theorem ret_pair {a b : Nat} {r : Nat × Nat} (h : r = (a, b)) : Ending.returned (.tuple #[.int .i64 (a : Int), .int .i64 (b : Int)]) = .returned (pair r) := by rw [h]; rfl
theorem u8_ne {c d : UInt8} (h : c ≠ d) : ((c.toNat : Int) != (d.toNat : Int)) = true := by
  simp only [bne_iff_ne, ne_eq]
  intro e
  exact h (UInt8.toNat_inj.1 (by omega))

set_option maxHeartbeats 1000000 in
theorem match_any (A : Option Addr) (n c : Nat) (l : List UInt8) (A' : Option Addr) (n' c' : Nat) (l' : List UInt8) (wr : Nat) (w : World) (B : Nat) (h : Bs w B A n l) (h' : Bs w B A' n' l') (hn : n ≤ 1000000000) (hn' : n' ≤ 1000000000) :
    Calls Tryd.prog 31 #[.slice A n c, .slice A' n' c', .int .i64 wr] w fun e w' => e = .returned (pair (matchS l l' wr)) ∧ w = w' := by
  have hl := Lib.hid h.1
  have hl' := Lib.hid h'.1
  go_enter Tryd.func31, Tryd.ntmps31
  go_wp2_with fail
  go_loop [12] (fun v => ∃ k : Nat, k ≤ n' ∧ k ≤ n ∧ v = .int .i64 k ∧ Hid (l'.take k = l.take k)) (fun v => n' - (intOf v).toNat)
  case atStart => exact ⟨0, by omega, by omega, rfl, Lib.hid rfl⟩
  case round =>
    obtain ⟨k, hk', hk, rfl, HR⟩ := hrel
    have HM := Lib.hid (matchS_drop l' l wr k HR.out (by rw [hl'.out]; exact hk') (by rw [hl.out]; exact hk))
    by_cases hlt : k < n'
    · obtain ⟨b', off', rfl, hb', hcell'⟩ := h'.at_ hlt
      obtain ⟨d, hd⟩ : ∃ d, l'.getD k 0 = d := ⟨_, rfl⟩
      have hd' : l'.drop k = d :: l'.drop (k + 1) := by
        have h0 : k < l'.length := by rw [hl'.out]; exact hlt
        rw [List.drop_eq_getElem_cons h0, ← hd]
        simp [List.getD, List.getElem?_eq_getElem h0]
      rw [hd, vb] at hcell'
      have HD := Lib.hid hd'
      have HDk := Lib.hid hd
      clear hd hd'
      by_cases hlt2 : k < n
      · obtain ⟨b, off, rfl, hb, hcell⟩ := h.at_ hlt2
        obtain ⟨x, hx⟩ : ∃ d, l.getD k 0 = d := ⟨_, rfl⟩
        have hx' : l.drop k = x :: l.drop (k + 1) := by
          have h0 : k < l.length := by rw [hl.out]; exact hlt2
          rw [List.drop_eq_getElem_cons h0, ← hx]
          simp [List.getD, List.getElem?_eq_getElem h0]
        rw [hx, vb] at hcell
        have HX := Lib.hid hx'
        have HXk := Lib.hid hx
        clear hx hx'
        have hne : ((k : Int) == (n : Int)) = false := by simp; omega
        by_cases hxd : x = d
        · subst hxd
          go_wp2_with fail
          go_round
          case rel =>
            refine ⟨k + 1, by omega, by omega, by go_num, ?_⟩
            show l'.take (k + 1) = l.take (k + 1)
            have h0 : k < l'.length := by rw [hl'.out]; exact hlt
            have h1 : k < l.length := by rw [hl.out]; exact hlt2
            rw [List.take_succ_eq_append_getElem h0, List.take_succ_eq_append_getElem h1, HR.out]
            have a1 := HDk.out
            have a2 := HXk.out
            simp only [List.getD, List.getElem?_eq_getElem h0, List.getElem?_eq_getElem h1, Option.getD_some] at a1 a2
            rw [a1, a2]
          case measure => simp [intOf]; omega
        · have hn2 := u8_ne hxd
          have HE := Lib.hid hxd
          clear hxd
          go_wp2_with fail
          go_ret2
          refine ⟨ret_pair ?_, rfl⟩
          rw [HM.out, HD.out, HX.out, matchS, if_neg HE.out]
          rfl
      · obtain rfl : k = n := by omega
        go_wp2_with fail
        go_ret2
        refine ⟨ret_pair ?_, rfl⟩
        rw [HM.out, HD.out, List.drop_of_length_le (by rw [hl.out]; exact Nat.le_refl _), matchS]
        rfl
    · obtain rfl : k = n' := by omega
      go_wp2_with fail
      go_ret2
      refine ⟨ret_pair ?_, rfl⟩
      rw [HM.out, List.drop_of_length_le (l := l') (by rw [hl'.out]; exact Nat.le_refl _), matchS]
      rfl
end Go.Proofs.YtknnncdmpfmgkaaDoor
