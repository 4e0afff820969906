/-
  What frame.Join, frame.At and frame.Split answer; nothing that was in memory turns. Conditions: the table's cells hold what the program's text lays; at most a million bodies of at most a million bytes each; a log of at most 1000000000 bytes.
-/
import Derived.Test.YtknnncdmpfmgkaaDoorSize
import Derived.Test.YtknnncdmpfmgkaaDoorSplit
namespace Go.Proofs.YtknnncdmpfmgkaaDoor
open Go.RowKit

theorem str_op4 : (⟨#[84, 82, 78, 49]⟩ : ByteArray) = str op4 := rfl
/-- What Join answers. -/
def JoinEnd (w : World) (bs : List (List UInt8)) (e : Ending) (w' : World) : Prop :=
  if over bs = true then e = .returned (.tuple #[.slice none 0 0, .int .i64 5]) ∧ Below w.heap.size w w'
  else ∃ A c, e = .returned (.tuple #[.slice A (join bs).length c, .int .i64 0]) ∧ Own w' w.heap.size (.slice A (join bs).length c) (join bs).length (join bs) ∧ Below w.heap.size w w'

theorem over_ok {bs : List (List UInt8)} (h : over bs = false) : bs.length ≤ 4096 ∧ (∀ l ∈ bs, l.length ≤ 20000) ∧ (join bs).length ≤ 1048576 := by
  unfold over at h
  simp only [Bool.or_eq_false_iff, decide_eq_false_iff_not, List.any_eq_false, decide_eq_true_eq] at h
  exact ⟨by omega, fun l hl => by have := h.1.2 l hl; omega, by omega⟩
theorem frs_take_mono (bs : List (List UInt8)) (k : Nat) : (frs (bs.take k)).length ≤ (frs bs).length := by
  conv => rhs; rw [← List.take_append_drop k bs, frs_append, List.length_append]
  omega

set_option maxHeartbeats 2000000 in
theorem join_any (A : Option Addr) (n c : Nat) (bs : List (List UInt8)) (w : World) (ht : Tab w) (h : Rv w A n bs) (hf : Fine bs) :
    Calls Tryd.prog 18 #[.slice A n c] w (JoinEnd w bs) := by
  obtain ⟨i, hi, hz, hi1, hi2⟩ := info_parts byte_info
  have hln := Lib.hid h.1
  have TM := tooMuch_any A n c bs w h hf
  by_cases ho : over bs = true
  · rw [ho] at TM
    have HE := Lib.hid ho
    clear ho
    go_enter Tryd.func18, Tryd.ntmps18
    go_wp2_with fail
    refine TM.mono ?_
    rintro e w1 ⟨rfl, g1⟩
    go_wp2_with fail
    go_ret2
    unfold JoinEnd
    rw [if_pos HE.out]
    exact ⟨rfl, g1⟩
  · have ho' : over bs = false := by simpa using ho
    rw [ho'] at TM
    have HE := Lib.hid ho
    obtain ⟨o1, o2, o3⟩ := over_ok ho'
    have hn : n ≤ 4096 := by rw [← hln.out]; exact o1
    clear ho ho'
    obtain ⟨J, hJ⟩ : ∃ J, (join bs).length = J := ⟨_, rfl⟩
    rw [hJ] at o3
    have HJ := Lib.hid hJ
    clear hJ
    go_enter Tryd.func18, Tryd.ntmps18
    go_wp2_with fail
    refine TM.mono ?_
    rintro e w1 ⟨rfl, g1⟩
    clear TM
    have LS := logSize_any A n c bs w1 (h.below g1) hf
    rw [HJ.out] at LS
    go_wp2_with fail
    refine LS.mono ?_
    rintro e w2 ⟨rfl, g2⟩
    clear LS
    have G2 : Below w.heap.size w w2 := g1.trans (g2.mono g1.size)
    clear g1 g2 w1
    go_wp2_with (first | (at_make; refine wpList_make_own _ rfl _ _ 22 rfl w.heap.size 5 i _ 1 Tryd.underlying22 hi hz hi1 .i64 .i64 _ J rfl rfl rfl (by rw [hi2]; omega) (by unfold maxLen; omega) G2.size ?_; intro w3 hown3 hgr3) | (at_builtin; refine wp_appStr _ rfl (.tmp 12) _ rfl w.heap.size _ 0 [] rfl hown3 op4 rfl (by decide) (by have := G2.size; have := hgr3.size; omega) ?_; intro v4 w4 hown4 hb4))
    have G4 : Below w.heap.size w w4 := (G2.grown hgr3 G2.size (fun k e => by cases e)).trans hb4
    clear hown3 hgr3 hb4 G2
    go_loopw [4, 16] (fun v i wr => ∃ (k : Nat), k ≤ n ∧ i = .int .i64 k ∧ Own wr w.heap.size v (join (bs.take k)).length (join (bs.take k)) ∧ Below w.heap.size w wr) (fun _ i _ => n - (intOf i).toNat)
    case atStart => exact ⟨0, by omega, rfl, hown4, G4⟩
    case round =>
      obtain ⟨k, hk, rfl, hown, hb⟩ := hrel
      clear hown4 G4
      by_cases hlt : k < n
      · obtain ⟨l, b, off, A', c', hl, rfl, hbl, hcell0, h4, h5, h6⟩ := h.at_ hlt
        have hcell := (hb.cell (p := ⟨b, off + k, none⟩) hbl).trans hcell0
        clear hcell0
        have hix := index24 wr b off n c k hlt
        have hll : l.length ≤ 20000 := o2 l (List.mem_of_getElem? hl)
        have HD := head_any A' l.length c' wr (by omega)
        have h10 := leb_len10 (n := l.length) (by omega)
        have hjm : (join (bs.take k)).length ≤ 1048576 := by
          have := frs_take_mono bs k
          have := HJ.out
          rw [join_len] at this ⊢
          omega
        have HL : Hid (join (bs.take (k + 1)) = join (bs.take k) ++ leb l.length ++ l ++ tl l) := by
          show join _ = _
          rw [take_next hl]
          simp [join, frs_snoc, frm]
        clear hl
        generalize join (bs.take k) = P at *
        obtain ⟨p, hp⟩ : ∃ p, P.length = p := ⟨_, rfl⟩
        obtain ⟨m, hm⟩ : ∃ m, l.length = m := ⟨_, rfl⟩
        rw [hm] at hcell HD hll h10 h4 h6 HL
        rw [hp] at hown hjm
        have HM := Lib.hid hm
        have HPP := Lib.hid hp
        clear hm hp
        generalize leb m = L at *
        obtain ⟨q, hq⟩ : ∃ q, L.length = q := ⟨_, rfl⟩
        rw [hq] at HD h10
        have HQ := Lib.hid hq
        clear hq
        go_wp2_with fail
        refine HD.mono ?_
        rintro e w5 ⟨A1, c1, rfl, g1, g2, g3, g4⟩
        have own5 := hown.kept g4
        have hw5 := hb.size
        have hw5' := g4.size
        have G5 : Below w.heap.size w w5 := hb.trans (g4.mono hb.size)
        go_wp2_with (first
          | (at_builtin; refine wp_app _ rfl (.tmp 20) (.tmp 22) rfl w.heap.size _ p P rfl own5 _ A1 q c1 L rfl g2 (by omega) (by omega) ?_; intro v6 w6 hown6 hb6; have hs6 := hb6.size)
          | (at_builtin; refine wp_app _ rfl (.tmp 24) (.tmp 25) rfl w.heap.size _ (p + q) (P ++ L) rfl hown6 w.heap.size A' m c' l rfl (h6.below (G5.trans hb6)) (by omega) (by omega) ?_; intro v7 w7 hown7 hb7; have hs7 := hb7.size))
        have G7 : Below w.heap.size w w7 := (G5.trans hb6).trans hb7
        refine (tail_any A' m c' l w7 (ht.below' G7 ht.1) w.heap.size (h6.below G7) (by omega)).mono ?_
        rintro e w8 ⟨A2, c2, rfl, k1, k2, k3, k4⟩
        have own8 := hown7.kept k4
        have hs8 := k4.size
        clear own5 hown hown6 hown7 g1 g2 g3 HD
        have HT : Hid ((tl l).length = 4) := rfl
        generalize tl l = T at *
        go_wp2_with (at_builtin; refine wp_app _ rfl (.tmp 27) (.tmp 29) rfl w.heap.size _ (p + q + m) (P ++ L ++ l) rfl own8 _ A2 4 c2 T rfl k2 (by omega) (by omega) ?_; intro v9 w9 hown9 hb9)
        go_roundw
        case rel =>
          refine ⟨k + 1, by omega, by go_num, ?_, (G7.trans (k4.mono G7.size)).trans hb9⟩
          have e1 : (join (bs.take (k + 1))).length = p + q + m + 4 := by
            rw [HL.out]
            simp only [List.length_append]
            have := HPP.out; have := HQ.out; have := HM.out; have := HT.out
            omega
          rw [e1, HL.out]
          exact hown9
        case measure => simp [intOf]; omega
      · obtain rfl : k = n := by omega
        rw [List.take_of_length_le (by rw [hln.out]; exact Nat.le_refl _)] at hown
        obtain ⟨Ar, cr, rfl, hr1, hr2⟩ := hown.form
        go_wp2_with fail
        go_ret2
        unfold JoinEnd
        rw [if_neg HE.out]
        exact ⟨Ar, cr, rfl, hown, hb⟩

/-- The same of bodies that a log may hold. -/
theorem join_fit (A : Option Addr) (n c : Nat) (bs : List (List UInt8)) (w : World) (ht : Tab w) (h : Rv w A n bs) (hf : Fine bs) (ho : over bs = false) :
    Calls Tryd.prog 18 #[.slice A n c] w fun e w' => ∃ A c, e = .returned (.tuple #[.slice A (join bs).length c, .int .i64 0]) ∧ Own w' w.heap.size (.slice A (join bs).length c) (join bs).length (join bs) ∧ Below w.heap.size w w' := by
  refine (join_any A n c bs w ht h hf).mono ?_
  intro e w' h1
  unfold JoinEnd at h1
  rwa [if_neg (by simp [ho])] at h1

set_option maxHeartbeats 1000000 in
theorem splitL_any (A : Option Addr) (n c : Nat) (b : List UInt8) (w : World) (ht : Tab w) (hbs : Bs w w.heap.size A n b) (hc : n ≤ c) (hcm : c ≤ 9223372036854775807) (hn : n ≤ 1000000000) :
    Calls Tryd.prog 14 #[.slice A n c] w (SplitEnd w (splitL b)) := by
  have hl := Lib.hid hbs.1
  by_cases hs : n ≤ 1048576
  · have hmin : min (n : Int) 1048576 = (n : Int) := by omega
    have SP := split_any A n c b w ht hbs hc hcm hn
    have HS : Hid (splitL b = splitS b) := by show splitL b = _; unfold splitL; rw [if_pos (by rw [hl.out]; exact hs)]
    generalize splitS b = r at *
    obtain ⟨r1, r2, r3⟩ := r
    have hd : decide ((1048576 : Int) < (n : Int)) = false := by simp; omega
    go_enter Tryd.func14, Tryd.ntmps14
    go_wp2_with fail
    refine SP.mono ?_
    rintro e w1 ⟨v, rfl, h1, h2⟩
    go_wp2_with fail
    go_ret3
    rw [HS.out]
    exact ⟨v, rfl, h1, h2⟩
  · have hmin : min (n : Int) 1048576 = 1048576 := by omega
    have SP := split_any A 1048576 c (b.take 1048576) w ht (hbs.take 1048576 (by omega)) (by omega) hcm (by omega)
    have HS : Hid (splitL b = fit (splitS (b.take 1048576))) := by show splitL b = _; unfold splitL; rw [if_neg (by rw [hl.out]; exact hs)]
    generalize splitS (b.take 1048576) = r at *
    obtain ⟨r1, r2, r3⟩ := r
    have hd : decide ((1048576 : Int) < (n : Int)) = true := by simp; omega
    by_cases hr : r2 = 1048576
    · subst hr
      go_enter Tryd.func14, Tryd.ntmps14
      go_wp2_with fail
      refine SP.mono ?_
      rintro e w1 ⟨v, rfl, h1, h2⟩
      go_wp2_with fail
      go_ret3
      rw [HS.out]
      exact ⟨v, rfl, h1, h2⟩
    · have hrd : ((r2 : Int) == 1048576) = false := by simp; omega
      have HF : Hid (fit (r1, r2, r3) = (r1, r2, r3)) := by show fit _ = _; unfold fit; rw [if_neg hr]
      go_enter Tryd.func14, Tryd.ntmps14
      go_wp2_with fail
      refine SP.mono ?_
      rintro e w1 ⟨v, rfl, h1, h2⟩
      go_wp2_with fail
      go_ret3
      rw [HS.out, HF.out]
      exact ⟨v, rfl, h1, h2⟩
end Go.Proofs.YtknnncdmpfmgkaaDoor
