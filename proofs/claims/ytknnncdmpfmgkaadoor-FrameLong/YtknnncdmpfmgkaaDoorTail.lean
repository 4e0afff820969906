/-
  What frame.tail answers.
-/
import Derived.Test.YtknnncdmpfmgkaaDoorParts
namespace Go.Proofs.YtknnncdmpfmgkaaDoor
open Go.RowKit
theorem set_next {T : List UInt8} {x : UInt8} {k : Nat} (hx : T[k]? = some x) (hT : T.length = 4) : (vbs (T.take k ++ List.replicate (4 - k) 0)).set k (vb x) = vbs (T.take (k + 1) ++ List.replicate (4 - (k + 1)) 0) := by
  have hk : k < T.length := (List.getElem?_eq_some_iff.1 hx).1
  have e : (vbs (T.take k ++ List.replicate (4 - k) 0)).set k (vb x) = vbs ((T.take k ++ List.replicate (4 - k) 0).set k x) := by simp [vbs, List.map_set]
  rw [e, List.set_append_right _ _ (by simp; omega)]
  have h1 : 4 - k = (4 - (k + 1)) + 1 := by omega
  have h2 : k - (T.take k).length = 0 := by simp; omega
  rw [h2, h1, List.replicate_succ, List.set_cons_zero, List.take_succ_eq_append_getElem hk]
  have : T[k] = x := (List.getElem?_eq_some_iff.1 hx).2
  simp [this]

set_option maxHeartbeats 1000000 in
theorem tail_any (A : Option Addr) (n c : Nat) (l : List UInt8) (w : World) (ht : Tab w) (B : Nat) (h : Bs w B A n l) (hn : n ≤ 1000000000) :
    Calls Tryd.prog 28 #[.slice A n c] w (Gives w 4 (tl l)) := by
  obtain ⟨i, hi, hz, hi1, hi2⟩ := info_parts byte_info
  have hTl : (tl l).length = 4 := rfl
  have hs := more_lt l (s := 0) (by omega)
  have SU := sum_any A n c l w ht B h hn
  have HT : Hid (tl l = four (more 0 l)) := rfl
  generalize tl l = T at *
  generalize more 0 l = s at *
  go_enter Tryd.func28, Tryd.ntmps28
  go_wp2_with fail
  refine SU.mono ?_
  rintro e w1 ⟨rfl, rfl⟩
  go_wp2_with (at_make; refine wpList_make_full _ rfl _ _ 22 rfl w1.heap.size 5 i _ 1 Tryd.underlying22 hi hz hi1 .i64 .i64 _ _ 4 rfl rfl rfl rfl (by rw [hi2]; omega) (by unfold maxLen; omega) (Nat.le_refl _) ?_; intro w2 hown2 hgr2)
  rw [made4] at hown2
  have hb2 : Below w1.heap.size w1 w2 := (Below.refl _ _).grown hgr2 (Nat.le_refl _) (fun k e => by cases e)
  go_loopw [11] (fun v wr => ∃ k : Nat, k ≤ 4 ∧ v = .int .i64 k ∧ wr.ownsRow w1.heap.size 5 1 (.slice (some ⟨w1.heap.size, 0, none⟩) 4 4) 4 (vbs (T.take k ++ List.replicate (4 - k) 0)) ∧ Below w1.heap.size w1 wr) (fun v _ => 4 - (intOf v).toNat)
  case atStart => exact ⟨0, by omega, rfl, by simpa using hown2, hb2⟩
  case round =>
    obtain ⟨k, hk, rfl, hown, hb⟩ := hrel
    clear hown2 hgr2 hb2
    by_cases hlt : k < 4
    · have hlt' : (k : Int) < 4 := by omega
      have hx := tl_get s k hlt
      rw [← HT.out] at hx
      have hbt := four_byte s k hlt hs
      have hcell := hown.cellAt k (by omega)
      have hfr := hown.frozenAt k
      obtain ⟨u, hu⟩ : ∃ u, (vbs (T.take k ++ List.replicate (4 - k) 0))[k]? = some u := ⟨_, List.getElem?_eq_getElem (by simp [vbs_length]; omega)⟩
      rw [hu] at hcell
      have hst := hown.stored k (vb (UInt8.ofNat (s / 2 ^ (8 * k))))
      rw [set_next hx hTl] at hst
      have HX := Lib.hid hbt
      clear hbt hx hu
      go_wp2_with fail
      go_roundw
      case rel =>
        refine ⟨k + 1, by omega, by go_num, ?_, ?_⟩
        · rw [HX.out]; exact hst.1
        · exact hb.setCell (p := ⟨w1.heap.size, k, none⟩) (Nat.le_refl _) _
      case measure => simp [intOf]; omega
    · obtain rfl : k = 4 := by omega
      have ho : Own wr w1.heap.size (.slice (some ⟨w1.heap.size, 0, none⟩) 4 4) 4 T := by
        have e : T.take 4 ++ List.replicate (4 - 4) 0 = T := by rw [List.take_of_length_le (by omega)]; simp
        rw [e] at hown
        exact hown
      go_wp2_with fail
      go_ret
      exact Gives.mk ho hb
end Go.Proofs.YtknnncdmpfmgkaaDoor
