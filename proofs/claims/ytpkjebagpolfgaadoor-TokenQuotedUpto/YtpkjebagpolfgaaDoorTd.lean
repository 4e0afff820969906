/-
  What strings.IndexRune (of a rune above ASCII), IndexAny, ContainsAny (for the bytes 0, 10, 13), token.Value and transeptref09.Value answer; nothing that was there turns. No condition.
-/
import Derived.Test.YtpkjebagpolfgaaDoorTc
import Derived.Deep.LoopGhost
namespace Go.Proofs.YtpkjebagpolfgaaDoor
open Go.RowKit
set_option linter.unusedVariables false

theorem dN (n b0 b1 b2 b3 : Nat) (hn : 1 ≤ n) (h0 : 128 ≤ b0) : 128 ≤ (Lib.decodeN n b0 b1 b2 b3).1 ∧ (Lib.decodeN n b0 b1 b2 b3).1 < 1114112 ∧ 1 ≤ (Lib.decodeN n b0 b1 b2 b3).2 ∧ (Lib.decodeN n b0 b1 b2 b3).2 ≤ n ∧ (Lib.decodeN n b0 b1 b2 b3).2 ≤ 4 ∧ (2 ≤ (Lib.decodeN n b0 b1 b2 b3).2 → 128 ≤ b1) ∧ (3 ≤ (Lib.decodeN n b0 b1 b2 b3).2 → 128 ≤ b2) ∧ (4 ≤ (Lib.decodeN n b0 b1 b2 b3).2 → 128 ≤ b3) := by
  unfold Lib.decodeN
  repeat' split
  all_goals first | (exfalso; omega) | (simp only; omega)
theorem getb (s : ByteArray) (i : Nat) : s.get! i = s.data.toList.getD i 0 := by
  show s.data[i]! = _
  rw [List.getD_eq_getElem?_getD, Array.getElem?_toList, getElem!_def]
  cases s.data[i]? <;> rfl
theorem dcd (s : ByteArray) (i : Nat) (hi : i < s.size) (h : 128 ≤ (s.data.toList.getD i 0).toNat) : ∃ r n : Nat, Utf8.decode s i = (r, n) ∧ 128 ≤ r ∧ r < 1114112 ∧ 1 ≤ n ∧ i + n ≤ s.size ∧ ∀ j, i ≤ j → j < i + n → 128 ≤ (s.data.toList.getD j 0).toNat := by
  have hd := dN (s.size - i) (s.get! i).toNat (s.get! (i + 1)).toNat (s.get! (i + 2)).toNat (s.get! (i + 3)).toNat (by omega) (by rw [getb]; exact h)
  obtain ⟨a1, a2, a3, a4, a5, a6, a7, a8⟩ := hd
  rw [← Lib.decode_at] at a1 a2 a3 a4 a5 a6 a7 a8
  rw [getb] at a6 a7 a8
  refine ⟨(Utf8.decode s i).1, (Utf8.decode s i).2, rfl, a1, a2, a3, by omega, fun j h1 h2 => ?_⟩
  rcases (by omega : j = i ∨ j = i + 1 ∨ j = i + 2 ∨ j = i + 3) with rfl | rfl | rfl | rfl
  · exact h
  · exact a6 (by omega)
  · exact a7 (by omega)
  · exact a8 (by omega)
theorem run_next_any (w : World) (s : ByteArray) (pos : Nat) (ty : TypeId) (h : pos < s.size) (r n : Nat) (hd : Utf8.decode s pos = (r, n)) :
    (Instr.next (.pointer (some ⟨w.heap.size, 0, none⟩)) true ty).run Tryd.prog (w.iter s pos) =
      .ok (.tuple #[.bool true, .int .i64 pos, .int .i32 r]) (w.iter s (pos + n)) := by
  simp only [Instr.next, getObj, setObj, Sem.run_bind, Sem.run, World.iter_heap, Result.andThen, h, if_true, hd, World.iter_set]
  simp [goInt]
theorem iter_below (w : World) (s : ByteArray) (i : Nat) : Below w.heap.size w (w.iter s i) := (Below.refl _ _).alloc (Nat.le_refl _) _
theorem below_drewN {B : Nat} {w w' : World} (h : Below B w w') (k : Nat) : Below B w (w'.drewN k) := ⟨h.os, h.tape, h.output, h.size, h.block⟩
/-- The bytes that no value has. -/
def B3 : List UInt8 := [0, 10, 13]
set_option maxHeartbeats 4000000 in
set_option maxRecDepth 100000 in
theorem irune_err (w : World) : Calls Tryd.prog 47 #[.string ⟨#[0, 10, 13]⟩, .int .i32 65533] w fun e w' => e = .returned (.int .i64 (-1)) ∧ Below w.heap.size w w' := by
  obtain ⟨C, hC⟩ : ∃ C : ByteArray, C = ⟨#[0, 10, 13]⟩ := ⟨_, rfl⟩
  have hsz : C.size = 3 := by rw [hC]; rfl
  have hlo : Hid (∀ i, ∀ h : i < C.size, (C[i]'h).toNat < 128 ∧ ¬ (C[i]'h).toNat = 65533) := by
    show ∀ i, ∀ h : i < C.size, (C[i]'h).toNat < 128 ∧ ¬ (C[i]'h).toNat = 65533
    subst hC
    intro i h
    have h3 : i < 3 := h
    rcases (by omega : i = 0 ∨ i = 1 ∨ i = 2) with rfl | rfl | rfl <;> clear h3 <;> decide +revert
  rw [← hC]
  clear hC
  go_enter Tryd.func47, Tryd.ntmps47
  go_wp2_with fail
  go_loopg [5, 6] 3 (fun g _ _ wx => ∃ i : Nat, i + g = 3 ∧ wx = w.iter C i)
  case atStart => exact ⟨0, by omega, rfl⟩
  case round =>
    obtain ⟨i, hig, rfl⟩ := hrel
    cases gk with
    | zero =>
      obtain rfl : i = 3 := by omega
      have hnx := run_next_end (P := Tryd.prog) w C 3
      go_wp2_with fail
      go_ret
      exact ⟨rfl, iter_below _ _ _⟩
    | succ g =>
      have hi : i < C.size := by omega
      obtain ⟨h1, h2⟩ := hlo.out i hi
      have hnx := fun ty => run_next_ascii (P := Tryd.prog) w C i ty hi h1
      obtain ⟨x, hx⟩ : ∃ x, x = (C[i]'hi).toNat := ⟨_, rfl⟩
      rw [← hx] at hnx h2
      have hne : ((x : Int) == 65533) = false := by simp; omega
      clear hx h1 h2 hi
      go_wp2_with fail
      go_roundg g
      case measure => omega
      case rel => exact ⟨i + 1, by omega, rfl⟩
set_option maxHeartbeats 4000000 in
set_option maxRecDepth 100000 in
theorem vrune_any (r : Nat) (w : World) : Calls Tryd.prog 54 #[.int .i32 (r : Int)] w fun e w' => e = .returned (.bool (decide (r < 55296) || (decide (57343 < r) && decide (r ≤ 1114111)))) ∧ w' = w := by
  have h0 : decide ((0 : Int) ≤ (r : Int)) = true := by simp
  rcases (by omega : r < 55296 ∨ (55296 ≤ r ∧ r ≤ 57343) ∨ (57343 < r ∧ r ≤ 1114111) ∨ 1114111 < r) with h | h | h | h
  · have hr : (decide (r < 55296) || (decide (57343 < r) && decide (r ≤ 1114111))) = true := by simp; omega
    have g1 : decide ((r : Int) < 55296) = true := by simp; omega
    have g2 : decide ((57343 : Int) < (r : Int)) = false := by simp; omega
    have g3 : decide ((r : Int) ≤ 1114111) = true := by simp; omega
    rw [hr]
    clear hr h
    go_enter Tryd.func54, Tryd.ntmps54
    go_wp2_with fail
    go_ret
    exact ⟨rfl, rfl⟩
  · have hr : (decide (r < 55296) || (decide (57343 < r) && decide (r ≤ 1114111))) = false := by simp; omega
    have g1 : decide ((r : Int) < 55296) = false := by simp; omega
    have g2 : decide ((57343 : Int) < (r : Int)) = false := by simp; omega
    have g3 : decide ((r : Int) ≤ 1114111) = true := by simp; omega
    rw [hr]
    clear hr h
    go_enter Tryd.func54, Tryd.ntmps54
    go_wp2_with fail
    go_ret
    exact ⟨rfl, rfl⟩
  · have hr : (decide (r < 55296) || (decide (57343 < r) && decide (r ≤ 1114111))) = true := by simp; omega
    have g1 : decide ((r : Int) < 55296) = false := by simp; omega
    have g2 : decide ((57343 : Int) < (r : Int)) = true := by simp; omega
    have g3 : decide ((r : Int) ≤ 1114111) = true := by simp; omega
    rw [hr]
    clear hr h
    go_enter Tryd.func54, Tryd.ntmps54
    go_wp2_with fail
    go_ret
    exact ⟨rfl, rfl⟩
  · have hr : (decide (r < 55296) || (decide (57343 < r) && decide (r ≤ 1114111))) = false := by simp; omega
    have g1 : decide ((r : Int) < 55296) = false := by simp; omega
    have g2 : decide ((57343 : Int) < (r : Int)) = true := by simp; omega
    have g3 : decide ((r : Int) ≤ 1114111) = false := by simp; omega
    rw [hr]
    clear hr h
    go_enter Tryd.func54, Tryd.ntmps54
    go_wp2_with fail
    go_ret
    exact ⟨rfl, rfl⟩
theorem enc_form (r : Nat) (h : 128 ≤ r) (hv : (decide (r < 55296) || (decide (57343 < r) && decide (r ≤ 1114111))) = true) : ∃ E : List UInt8, Utf8.encode (r : Int) = str E ∧ 2 ≤ E.length ∧ E.length ≤ 4 ∧ 128 ≤ (E.getD (E.length - 1) 0).toNat := by
  have hvd : Utf8.valid (r : Int) = true := by
    unfold Utf8.valid
    simp at hv ⊢
    omega
  have hb : ∀ x, 128 ≤ (UInt8.ofNat (128 + x % 64)).toNat := fun x => by rw [UInt8.toNat_ofNat']; omega
  unfold Utf8.encode
  rw [hvd]
  simp only [if_true, Int.toNat_natCast]
  rw [if_neg (by omega)]
  by_cases h1 : r < 2048
  · rw [if_pos h1]
    exact ⟨[_, _], rfl, by simp, by simp, hb r⟩
  · rw [if_neg h1]
    by_cases h2 : r < 65536
    · rw [if_pos h2]
      exact ⟨[_, _, _], rfl, by simp, by simp, hb r⟩
    · rw [if_neg h2]
      exact ⟨[_, _, _, _], rfl, by simp, by simp, hb r⟩
theorem idx_none (l : List UInt8) (c : UInt8) (h : ∀ x ∈ l, x ≠ c) : Lib.indexByte l c = -1 := by
  have hc : l.contains c = false := by
    cases e : l.contains c
    · rfl
    · exact absurd rfl (h c (by simpa using e))
  have := indexByte_iff c l
  rw [hc] at this
  have h2 := Lib.indexByte_ge l c
  have h3 : ¬ 0 ≤ Lib.indexByte l c := of_decide_eq_false this
  omega
set_option maxHeartbeats 4000000 in
set_option maxRecDepth 1000000 in
theorem irune_hi (r : Nat) (h : 128 ≤ r) (h2 : r < 1114112) (w : World) : Calls Tryd.prog 47 #[.string ⟨#[0, 10, 13]⟩, .int .i32 (r : Int)] w fun e w' => e = .returned (.int .i64 (-1)) ∧ Below w.heap.size w w' := by
  by_cases he : r = 65533
  · subst he
    exact irune_err w
  · have g0 : decide ((0 : Int) ≤ (r : Int)) = true := by simp
    have g1 : decide ((r : Int) < 128) = false := by simp; omega
    have g2 : ((r : Int) == 65533) = false := by simp; omega
    have HV := vrune_any r w
    cases hv : (decide (r < 55296) || (decide (57343 < r) && decide (r ≤ 1114111)))
    · rw [hv] at HV
      have HV := Lib.hid HV
      clear hv
      go_enter Tryd.func47, Tryd.ntmps47
      go_wp2_with (go_at_call 54; (with_reducible refine (HV.out).mono ?_); (rintro e w1 ⟨rfl, rfl⟩))
      go_ret
      exact ⟨rfl, Below.refl _ _⟩
    · rw [hv] at HV
      have HV := Lib.hid HV
      obtain ⟨E, hE, hl1, hl2, hlast⟩ := enc_form r h hv
      clear hv
      obtain ⟨n, hn⟩ : ∃ n, n = E.length := ⟨_, rfl⟩
      have hsz : (str E).size = n := by rw [hn]; exact str_size E
      obtain ⟨p, hp⟩ : ∃ p, n = p + 1 := ⟨n - 1, by omega⟩
      obtain ⟨x, hx⟩ : ∃ x, x = E.getD p 0 := ⟨_, rfl⟩
      have hx8 : 128 ≤ x.toNat := by rw [hx, show p = E.length - 1 by omega]; exact hlast
      have HG : ∀ h : p < (str E).size, ((str E)[p]'h).toNat = x.toNat := fun h => by rw [hx]; exact str_at E p (by omega) h
      obtain ⟨b, hb⟩ : ∃ b, b = x.toNat := ⟨_, rfl⟩
      have hsb : (n : Int) - 1 = (p : Int) := by omega
      have hsw : IntKind.i64.wrap (p : Int) = (p : Int) := by rw [IntKind.wrap_i64]; omega
      have hpn : p < n := by omega
      have hp3 : p ≤ 3 := by omega
      have hp1 : 1 ≤ p := by omega
      rw [← hb] at HG hx8
      have HX := Lib.hid hb
      clear hx hn hb hl1 hl2 hlast h h2 he hp
      rcases (by omega : p = 1 ∨ p = 2 ∨ p = 3) with rfl | rfl | rfl
      · have hpi : (1 : Int) < (n : Int) := by omega
        have hw1 : IntKind.i64.wrap 2 = 2 := by rfl
        have hne : ((10 : Int) == (b : Int)) = false := by simp; omega
        have HI : Hid (∀ w', Calls Tryd.prog 36 #[.string ⟨#[13]⟩, .int .u8 (b : Int)] w' fun e w2 => e = .returned (.int .i64 (-1)) ∧ w2 = w') := fun w' => by
          have h1 := Tryd.strings_IndexByte ⟨#[13]⟩ (b : Int) w'
          rw [idx_none [13] ((b : Int).toNat.toUInt8) (by
            intro y hy e
            have e2 : ((b : Int).toNat.toUInt8).toNat = b := by rw [HX.out]; simp
            rw [← e] at e2
            simp at hy; subst hy; simp at e2; omega)] at h1
          exact h1
        obtain ⟨C, hC⟩ : ∃ C : ByteArray, C = ⟨#[0, 10, 13]⟩ := ⟨_, rfl⟩
        obtain ⟨C2, hC2⟩ : ∃ C2 : ByteArray, C2 = ⟨#[13]⟩ := ⟨_, rfl⟩
        have hCs : C.size = 3 := by rw [hC]; rfl
        have hCk : ∀ h : 1 < C.size, (C[1]'h).toNat = 10 := by rw [hC]; decide
        have hCx : C.extract 2 3 = C2 := by rw [hC]; rw [hC2]; rfl
        rw [← hC]
        rw [← hC2] at HI
        clear hC hC2
        go_enter Tryd.func47, Tryd.ntmps47
        go_wp2_with (go_at_call 54; (with_reducible refine (HV.out).mono ?_); (rintro e w1 ⟨rfl, rfl⟩))
        go_step3
        go_wp2_with fail
        go_loop [9] (fun i => i = .int .i64 1) (fun _ => 0)
        case atStart => rfl
        case round =>
          subst hrel
          go_wp2_with fail
          go_step3
          go_wp2_with fail
          go_quiet (fail)
          have hb1 : Hid (Below w1.heap.size w1 (w1.drewN nq)) := below_drewN (Below.refl _ _) nq
          generalize w1.drewN nq = wb at *
          clear nq
          go_wp2_with fail
          have D := Lib.hid fun z => Calls.quiet_of_same (HI.out (wb.drewN z))
          go_quiet (first | (go_at_call 36; with_reducible exact D.out _))
          have hb2 : Hid (Below w1.heap.size w1 (wb.drewN nq)) := below_drewN hb1.out nq
          generalize wb.drewN nq = wd at *
          clear nq D
          go_wp2_with fail
          rw [Exit.noGoto_ret]
          go_wp2_with fail
          try rw [Exit.noGoto_ret]
          try go_wp2_with fail
          go_ret
          exact ⟨rfl, hb2.out⟩
      · have hpi : (2 : Int) < (n : Int) := by omega
        have hw1 : IntKind.i64.wrap 3 = 3 := by rfl
        have hne : ((13 : Int) == (b : Int)) = false := by simp; omega
        have HI : Hid (∀ w', Calls Tryd.prog 36 #[.string ⟨#[]⟩, .int .u8 (b : Int)] w' fun e w2 => e = .returned (.int .i64 (-1)) ∧ w2 = w') := fun w' => by
          have h1 := Tryd.strings_IndexByte ⟨#[]⟩ (b : Int) w'
          rw [idx_none [] ((b : Int).toNat.toUInt8) (by
            intro y hy e
            have e2 : ((b : Int).toNat.toUInt8).toNat = b := by rw [HX.out]; simp
            rw [← e] at e2
            cases hy)] at h1
          exact h1
        obtain ⟨C, hC⟩ : ∃ C : ByteArray, C = ⟨#[0, 10, 13]⟩ := ⟨_, rfl⟩
        obtain ⟨C2, hC2⟩ : ∃ C2 : ByteArray, C2 = ⟨#[]⟩ := ⟨_, rfl⟩
        have hCs : C.size = 3 := by rw [hC]; rfl
        have hCk : ∀ h : 2 < C.size, (C[2]'h).toNat = 13 := by rw [hC]; decide
        have hCx : C.extract 3 3 = ByteArray.empty := by rw [hC]; rfl
        rw [← hC]
        change Hid (∀ w2, Calls Tryd.prog 36 #[.string ByteArray.empty, .int .u8 (b : Int)] w2 fun e w3 => e = .returned (.int .i64 (-1)) ∧ w3 = w2) at HI
        clear hC hC2
        go_enter Tryd.func47, Tryd.ntmps47
        go_wp2_with (go_at_call 54; (with_reducible refine (HV.out).mono ?_); (rintro e w1 ⟨rfl, rfl⟩))
        go_step3
        go_wp2_with fail
        go_loop [9] (fun i => i = .int .i64 2) (fun _ => 0)
        case atStart => rfl
        case round =>
          subst hrel
          go_wp2_with fail
          go_step3
          go_wp2_with fail
          go_quiet (fail)
          have hb1 : Hid (Below w1.heap.size w1 (w1.drewN nq)) := below_drewN (Below.refl _ _) nq
          generalize w1.drewN nq = wb at *
          clear nq
          go_wp2_with fail
          have D := Lib.hid fun z => Calls.quiet_of_same (HI.out (wb.drewN z))
          go_quiet (first | (go_at_call 36; with_reducible exact D.out _))
          have hb2 : Hid (Below w1.heap.size w1 (wb.drewN nq)) := below_drewN hb1.out nq
          generalize wb.drewN nq = wd at *
          clear nq D
          go_wp2_with fail
          rw [Exit.noGoto_ret]
          go_wp2_with fail
          try rw [Exit.noGoto_ret]
          try go_wp2_with fail
          go_ret
          exact ⟨rfl, hb2.out⟩
      · go_enter Tryd.func47, Tryd.ntmps47
        go_wp2_with (go_at_call 54; (with_reducible refine (HV.out).mono ?_); (rintro e w1 ⟨rfl, rfl⟩))
        go_step3
        go_wp2_with fail
        go_loop [9] (fun i => i = .int .i64 3) (fun _ => 0)
        case atStart => rfl
        case round =>
          subst hrel
          go_wp2_with fail
          try rw [Exit.noGoto_ret]
          go_ret
          exact ⟨rfl, Below.refl _ _⟩
end Go.Proofs.YtpkjebagpolfgaaDoor
