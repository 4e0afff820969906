/-
  What the document's answers transeptref04.Four, Frame, Join answer; nothing that was in memory turns. Conditions: texts of at most 100000 bytes, at most 1000 of them.
-/
import Derived.Test.YtknnncdmpfmgkaaDoorAt
import Derived.Test.YtknnncdmpfmgkaaDoorRefText
import Derived.Test.YtknnncdmpfmgkaaDoorCrcRef
namespace Go.Proofs.YtknnncdmpfmgkaaDoor
open Go.RowKit

theorem four_vbs (s : Nat) (hs : s < 4294967296) : #[Value.int .u8 ((s : Int) % 256), .int .u8 ((s : Int) / 256 % 256), .int .u8 ((s : Int) / 65536 % 256), .int .u8 ((s : Int) / 16777216)] = (vbs (four s)).toArray := by
  simp only [four, vbs, List.map_cons, List.map_nil, vb]
  have e1 : (s : Int) % 256 = ((UInt8.ofNat s).toNat : Int) := by simp
  have e2 : (s : Int) / 256 % 256 = ((UInt8.ofNat (s / 256)).toNat : Int) := by simp
  have e3 : (s : Int) / 65536 % 256 = ((UInt8.ofNat (s / 65536)).toNat : Int) := by simp
  have e4 : (s : Int) / 16777216 = ((UInt8.ofNat (s / 16777216)).toNat : Int) := by simp; omega
  rw [e1, e2, e3, e4]

set_option maxHeartbeats 400000 in
theorem refFour_any (l : List UInt8) (w : World) (hl : l.length ≤ 1000000) :
    Calls Tryd.prog 21 #[.string (str l)] w fun e w' => e = .returned (.string (str (tl l))) ∧ Below w.heap.size w w' := by
  have SU := refSum_any l w hl
  have hs := more_lt l (s := 0) (by omega)
  have HT : Hid (tl l = four (more 0 l)) := rfl
  generalize more 0 l = s at *
  have CV := run_str _ _ _ 4 4 (four s) (Bs.new w (four s) _ (four_vbs s hs) 4 rfl)
  go_enter Tryd.func21, Tryd.ntmps21
  go_wp2_with fail
  refine SU.mono ?_
  rintro e w1 ⟨rfl, rfl⟩
  go_wp2_with fail
  go_ret
  exact ⟨by rw [HT.out]; rfl, (Below.refl _ _).alloc (Nat.le_refl _) _⟩

set_option maxHeartbeats 400000 in
theorem refFrame_any (l : List UInt8) (w : World) (hl : l.length ≤ 100000) :
    Calls Tryd.prog 22 #[.string (str l)] w fun e w' => e = .returned (.string (str (frm l))) ∧ Below w.heap.size w w' := by
  have PT := refPutText_any l w (by omega)
  have FO := fun W => refFour_any l W (by omega)
  have HF : Hid (str (frm l) = str (leb l.length ++ l) ++ str (tl l)) := by show str (frm l) = _; rw [str_append]; rfl
  have h10 := leb_len10 (n := l.length) (by omega)
  have s1 : (str (leb l.length ++ l)).size ≤ 100010 := by rw [str_size, List.length_append]; omega
  have s2 : (str (tl l)).size = 4 := by rw [str_size]; rfl
  generalize str (leb l.length ++ l) = X at *
  generalize str (tl l) = Y at *
  go_enter Tryd.func22, Tryd.ntmps22
  go_wp2_with fail
  refine PT.mono ?_
  rintro e w1 ⟨rfl, g1⟩
  go_wp2_with fail
  refine (FO w1).mono ?_
  rintro e w2 ⟨rfl, g2⟩
  go_wp2_with fail
  go_ret
  exact ⟨by rw [HF.out]; rfl, g1.trans (g2.mono g1.size)⟩

/-- Texts that the document's answers are asked of. -/
def Neat (ss : List (List UInt8)) : Prop := ss.length ≤ 1000 ∧ ∀ l ∈ ss, l.length ≤ 100000
theorem neat_fine {ss : List (List UInt8)} (h : Neat ss) : Fine ss := ⟨by have := h.1; omega, fun l hl => by have := h.2 l hl; omega⟩
theorem frs_neat {ss : List (List UInt8)} (h : Neat ss) (k : Nat) : (frs (ss.take k)).length ≤ 100014000 := by
  have : ∀ (bs : List (List UInt8)), (∀ l ∈ bs, l.length ≤ 100000) → (frs bs).length ≤ bs.length * 100014 := by
    intro bs
    induction bs with
    | nil => simp [frs_nil]
    | cons l bs ih =>
      intro h
      have h1 := ih fun x hx => h x (by simp [hx])
      have h2 := h l (by simp)
      have h3 := leb_len10 (n := l.length) (by omega)
      rw [frs_cons, List.length_append, frm_len, List.length_cons]
      omega
  have h1 := this (ss.take k) fun l hl => h.2 l (List.mem_of_mem_take hl)
  have h2 : (ss.take k).length ≤ 1000 := by rw [List.length_take]; have := h.1; omega
  omega

set_option maxHeartbeats 400000 in
theorem refJoin_any (A : Option Addr) (n c : Nat) (ss : List (List UInt8)) (w : World) (h : Sv w A n ss) (hf : Neat ss) :
    Calls Tryd.prog 19 #[.slice A n c] w fun e w' => e = .returned (.string (str (join ss))) ∧ Below w.heap.size w w' := by
  have hn : n ≤ 1000 := by rw [← h.1]; exact hf.1
  have hop : (str op4).size = 4 := rfl
  go_enter Tryd.func19, Tryd.ntmps19
  go_wp2_with fail
  go_loopw [3, 4] (fun v i wr => ∃ (k : Nat) (S : ByteArray), k ≤ n ∧ i = .int .i64 k ∧ v = .string S ∧ Hid (S = str (join (ss.take k))) ∧ Below w.heap.size w wr) (fun _ i _ => n - (intOf i).toNat)
  case atStart => exact ⟨0, str op4, by omega, rfl, rfl, Lib.hid (by simp [join, frs_nil]), Below.refl _ _⟩
  case round =>
    obtain ⟨k, S, hk, rfl, rfl, HS, hb⟩ := hrel
    by_cases hlt : k < n
    · obtain ⟨l, b, off, hl, rfl, hbl, hcell⟩ := (h.below hb).at_ hlt
      have hix := index28 wr b off n c k hlt
      have hll : l.length ≤ 100000 := hf.2 l (List.mem_of_getElem? hl)
      have FR := refFrame_any l wr hll
      have HN : Hid (str (join (ss.take (k + 1))) = S ++ str (frm l)) := by
        show str _ = _
        rw [take_next hl, HS.out, str_append]
        simp [join, frs_snoc]
      have s1 : S.size ≤ 100014004 := by rw [HS.out, str_size, join_len]; have := frs_neat hf k; omega
      have s2 : (str (frm l)).size ≤ 100014 := by rw [str_size, frm_len]; have := leb_len10 (n := l.length) (by omega); omega
      clear hl
      generalize str (frm l) = F at *
      generalize str l = L at *
      go_wp2_with fail
      refine FR.mono ?_
      rintro e w1 ⟨rfl, g1⟩
      go_wp2_with fail
      go_roundw
      case rel => exact ⟨k + 1, _, by omega, by go_num, rfl, Lib.hid HN.out.symm, hb.trans (g1.mono hb.size)⟩
      case measure => simp [intOf]; omega
    · obtain rfl : k = n := by omega
      have HE : Hid (S = str (join ss)) := by
        show S = _
        rw [HS.out, List.take_of_length_le (by rw [h.1]; exact Nat.le_refl _)]
      go_wp2_with fail
      go_ret
      exact ⟨by rw [HE.out]; rfl, hb⟩
end Go.Proofs.YtknnncdmpfmgkaaDoor
