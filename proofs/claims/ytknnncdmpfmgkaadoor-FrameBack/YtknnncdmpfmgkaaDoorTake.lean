/-
  What frame.take answers: the frame at the beginning of some bytes; nothing that was in memory turns. Conditions: the table's cells hold what the program's text lays; a slice of at most 1000000000 bytes.
-/
import Derived.Test.YtknnncdmpfmgkaaDoorTail
import Derived.Test.YtknnncdmpfmgkaaDoorGet
import Derived.Deep.RegionHeld3
namespace Go.Proofs.YtknnncdmpfmgkaaDoor
open Go.RowKit

/-- What take answers: the body as a piece of the bytes, its size, what is wrong. -/
def TakeEnd (w : World) (A0 : Option Addr) (n0 : Nat) (l : List UInt8) (r : List UInt8 × Nat × Nat) (e : Ending) (w' : World) : Prop :=
  ∃ A n c, e = .returned (.agg #[.slice A n c, .int .i64 r.2.1, .int .i64 r.2.2]) ∧ n ≤ c ∧ c ≤ 9223372036854775807 ∧ n ≤ n0 ∧ (∀ W B, Bs W B A0 n0 l → Bs W B A n r.1) ∧ Below w.heap.size w w'
theorem bcell {W w1 : World} (hb : Below W.heap.size W w1) : (∀ b o, b < W.heap.size → w1.cell? ⟨b, o, none⟩ = W.cell? ⟨b, o, none⟩) ∧ (∀ b o, b < W.heap.size → w1.frozen? ⟨b, o, none⟩ = W.frozen? ⟨b, o, none⟩) :=
  ⟨fun b o h => hb.cell (p := ⟨b, o, none⟩) h, fun b o h => hb.frozen (p := ⟨b, o, none⟩) h⟩

theorem Tab.alloc {w : World} (h : Tab w) (o : Obj) : Tab (w.alloc o) := h.below ((Below.refl _ _).alloc (Nat.le_refl _) o)
theorem Tab.drew {w : World} (h : Tab w) : Tab w.drew := h.below (Below.drew (Below.refl _ _))
theorem Tab.below' {w w' : World} (h : Tab w) {B : Nat} (hb : Below B w w') (hB : 0 < B) : Tab w' :=
  ⟨by have := hb.size; have := h.1; omega, fun i hi => (hb.cell (p := ⟨0, i, none⟩) hB).trans (h.2 i hi)⟩

set_option maxHeartbeats 1000000 in
theorem take_any (A : Option Addr) (n c : Nat) (l : List UInt8) (w : World) (ht : Tab w) (h : Bs w w.heap.size A n l) (hc : n ≤ c) (hcm : c ≤ 9223372036854775807) (hn : n ≤ 1000000000) :
    Calls Tryd.prog 40 #[.slice A n c] w (TakeEnd w A n l (takeS l)) := by
  have hl := h.1
  obtain ⟨r, hr⟩ : ∃ r, r = getS l := ⟨_, rfl⟩
  obtain ⟨N, k, e⟩ := r
  have hpl := getF_place l 0 0 (by omega) (by simp)
  have hok := getS_ok l
  change (getS l).2.1 ≤ 0 + l.length ∧ (getS l).2.2 ≤ 3 ∧ (getS l).2.2 ≠ 1 at hpl
  have hg : (got (getS l)) = .tuple #[.int .u64 N, .int .i64 k, .int .i64 e] := by rw [← hr]; rfl
  have hts : takeS l = if e ≠ 0 then ([], k, e) else if 20000 < N then ([], k - 1, 5) else if l.length < k + N then ([], l.length, 2)
      else ((l.drop k).take N, k + N + (matchS (l.drop (k + N)) (tl ((l.drop k).take N)) 4).1, (matchS (l.drop (k + N)) (tl ((l.drop k).take N)) 4).2) := by
    unfold takeS; rw [← hr]
  rw [← hr] at hpl hok
  simp only at hpl hok
  obtain ⟨hk1, he1, he2⟩ := hpl
  generalize takeS l = R at *
  have HS := Lib.hid hts
  have HG := Lib.hid hg
  have HL := Lib.hid hl
  have HO := Lib.hid hok
  have hkl : k ≤ n := by omega
  clear hg hts hr hok hl hk1
  by_cases he : e = 0
  · subst he
    obtain ⟨ho1, ho2, ho3⟩ := HO.out rfl
    have GO : Calls Tryd.prog 46 #[.slice A n c] (w.alloc (.cells #[.slice none 0 0, .int .i64 0, .int .i64 0] 57)) fun e' w1 => e' = .returned (.tuple #[.int .u64 N, .int .i64 k, .int .i64 0]) ∧ Below w.heap.size w w1 ∧ (∀ j, w1.cell? ⟨w.heap.size, j, none⟩ = (w.alloc (.cells #[.slice none 0 0, .int .i64 0, .int .i64 0] 57)).cell? ⟨w.heap.size, j, none⟩) ∧ (∀ j, w1.frozen? ⟨w.heap.size, j, none⟩ = false) ∧ w.heap.size < w1.heap.size := by
      refine (get_any A n c l _ ((h.alloc (Nat.le_refl _) _).more (by simp)) hc hn).mono ?_
      rintro e' w1 ⟨rfl, hbel⟩
      obtain ⟨hc1, hf1⟩ := bcell hbel
      refine ⟨by rw [HG.out]; rfl, ((Below.refl _ _).alloc (Nat.le_refl _) _).trans (hbel.mono (by simp)), fun j => hc1 _ _ (by simp), fun j => (hf1 _ _ (by simp)).trans (by simp), by have := hbel.size; simp at this; omega⟩
    by_cases hab : 20000 < N
    · have hd : decide ((20000 : Int) < (N : Int)) = true := by simp; omega
      go_enter Tryd.func40, Tryd.ntmps40
      go_wp2_with fail
      refine GO.mono ?_
      rintro e' w1 ⟨rfl, b1, hc1, hf1, hsz⟩
      go_wp2_with fail
      have e1 : ((k - 1 : Nat) : Int) = (k : Int) - 1 := by omega
      refine bodyPost_ret (v := .agg #[.slice none 0 0, .int .i64 ((k : Int) - 1), .int .i64 5]) (by simp [results, Tryd.results40, go_sem, hc1]) rfl ?_
      have HR : Hid (R = ([], k - 1, 5)) := by show R = _; rw [HS.out, if_neg (by simp), if_pos hab]
      refine ⟨none, 0, 0, ?_, Nat.le_refl _, by omega, by omega, by rw [HR.out]; exact fun _ _ _ => Bs.empty _ _ _, ((b1.setCell (by simp) _).setCell (by simp) _).setCell (by simp) _⟩
      rw [HR.out, ← e1]
      rfl
    · have hd : decide ((20000 : Int) < (N : Int)) = false := by simp; omega
      by_cases hsh : n < k + N
      · have hlt : (n : Int) < (k : Int) + (N : Int) := by omega
        go_enter Tryd.func40, Tryd.ntmps40
        go_wp2_with fail
        refine GO.mono ?_
        rintro e' w1 ⟨rfl, b1, hc1, hf1, hsz⟩
        go_wp2_with fail
        refine bodyPost_ret (v := .agg #[.slice none 0 0, .int .i64 n, .int .i64 2]) (by simp [results, Tryd.results40, go_sem, hc1]) rfl ?_
        have HR : Hid (R = ([], n, 2)) := by show R = _; rw [HS.out, if_neg (by simp), if_neg hab, HL.out, if_pos hsh]
        refine ⟨none, 0, 0, ?_, Nat.le_refl _, by omega, by omega, by rw [HR.out]; exact fun _ _ _ => Bs.empty _ _ _, ((b1.setCell (by simp) _).setCell (by simp) _).setCell (by simp) _⟩
        rw [HR.out]
        rfl
      · have hle : (k : Int) + (N : Int) ≤ (n : Int) := by omega
        obtain ⟨T, hT⟩ : ∃ T, (l.drop k).take N = T := ⟨_, rfl⟩
        obtain ⟨A7, hA7⟩ : ∃ A7, (if c = k then A else A.map (fun x => x.add k)) = A7 := ⟨_, rfl⟩
        obtain ⟨M, hM⟩ : ∃ M, k + N = M := ⟨_, rfl⟩
        obtain ⟨A8, hA8⟩ : ∃ A8, (if c = M then A else A.map (fun x => x.add M)) = A8 := ⟨_, rfl⟩
        have hB7' : ∀ W B, Bs W B A n l → Bs W B A7 N T := by
          intro W B h
          have := (h.cut (k := k) (cap := c) hkl hc).take N (by omega)
          rw [← hA7, ← hT]
          exact this
        have HB7 := Lib.hid hB7'
        clear hB7'
        have hB7 := HB7.out w _ h
        have hMn : M ≤ n := by omega
        have hB8 : Bs w w.heap.size A8 (n - M) (l.drop M) := by
          have := h.cut (k := M) (cap := c) hMn hc
          rw [← hA8]
          exact this
        have hMi : (k : Int) + (N : Int) = (M : Int) := by omega
        have hkN : k ≤ M := by omega
        have hMk : M - k = N := by omega
        have HS2 : Hid (R = (T, M + (matchS (l.drop M) (tl T) 4).1, (matchS (l.drop M) (tl T) 4).2)) := by
          show R = _
          rw [HS.out, if_neg (by simp), if_neg hab, if_neg (by rw [HL.out]; exact hsh), hT, hM]
        have TA := fun W (p1 : Tab W) (p2 : Bs W w.heap.size A7 N T) => tail_any A7 N (c - k) T W p1 _ p2 (by omega)
        have MA := fun A45 c45 W (p1 : Bs W W.heap.size A8 (n - M) (l.drop M)) (p2 : Bs W W.heap.size A45 4 (tl T)) => match_any A8 (n - M) (c - M) (l.drop M) A45 4 c45 (tl T) 4 W _ p1 p2 (by omega) (by omega)
        have hml := (matchS_le 4 (l.drop M) (tl T)).2
        rw [tl_len] at hml
        simp only [pair] at MA
        generalize (matchS (l.drop M) (tl T) 4).1 = m1 at *
        generalize (matchS (l.drop M) (tl T) 4).2 = m2 at *
        have HT := Lib.hid hT
        have HM := Lib.hid hM
        clear hT hM hsh HS
        go_enter Tryd.func40, Tryd.ntmps40
        go_wp2_with fail
        refine GO.mono ?_
        rintro e' w1 ⟨rfl, b1, hc1, hf1, hsz⟩
        go_wp2_with fail
        have ht1 := ht.below b1
        have hS0 : Kept w1 w1.drew := (Kept.refl w1).drew
        refine wp_region_held_drew (S := fun W => Kept w1 W) (by kernel_rfl) hS0 (fun hS => ?_)
        refine wpAnyH_take (i := 0) (oi := ⟨some 41, _, _, _, _, _⟩) (v := ?va0) rfl (by kernel_rfl) (by kernel_rfl) (by kernel_rfl) (fun _ _ _ h => h) (Or.inl ⟨by rfl, ?ya0⟩) hS ?ra0
        case ya0 => intro W hW; go_simp; first | done | with_reducible rfl
        simp only [Act.put, List.setIfInBounds_toArray, List.set_cons_zero, List.set_cons_succ]
        refine wpAnyH_take (i := 1) (oi := ⟨some 42, _, _, _, _, _⟩) (v := ?va1) rfl (by kernel_rfl) (by kernel_rfl) (by kernel_rfl) (fun _ _ _ h => h) (Or.inl ⟨by rfl, ?ya1⟩) hS ?ra1
        case ya1 => intro W hW; go_simp; first | done | with_reducible rfl
        simp only [Act.put, List.setIfInBounds_toArray, List.set_cons_zero, List.set_cons_succ]
        refine wpAnyH_take (i := 2) (oi := ⟨some 43, _, _, _, _, _⟩) (v := ?va2) rfl (by kernel_rfl) (by kernel_rfl) (by kernel_rfl) (fun _ _ _ h => h) (Or.inl ⟨by rfl, ?ya2⟩) hS ?ra2
        case ya2 => intro W hW; go_simp; first | done | with_reducible rfl
        simp only [Act.put, List.setIfInBounds_toArray, List.set_cons_zero, List.set_cons_succ]
        refine wpAnyH_take (i := 3) (oi := ⟨some 44, _, _, _, _, _⟩) (v := ?va3) rfl (by kernel_rfl) (by kernel_rfl) (by kernel_rfl) (fun _ _ _ h => h) (Or.inl ⟨by rfl, ?ya3⟩) hS ?ra3
        case ya3 => intro W hW; go_simp; first | done | with_reducible rfl
        simp only [Act.put, List.setIfInBounds_toArray, List.set_cons_zero, List.set_cons_succ]
        refine wpAnyH_ready (rs := [4]) (by kernel_rfl) (by simp) ?_
        refine (AllReadyH.cons (o := ⟨some 45, _, _, _, _, _⟩) rfl (fun K hK => ?_) AllReadyH.nil)
        go_simp
        refine (TA _ (ht1.below hS) ((hB7.below b1).below' hS b1.size)).mono ?_
        rintro e w2 ⟨A45, c45, rfl, hc45, hB45, hO45, hb2⟩
        have hK2 : Kept w1 w2 := hS.step hb2
        refine hK.out _ _ hK2 (fun _ => ?_)
        clear hK K
        try simp only [Act.put, List.setIfInBounds_toArray, List.set_cons_zero, List.set_cons_succ]
        refine wpAnyH_ready (rs := [5]) (by kernel_rfl) (by simp) ?_
        refine (AllReadyH.cons (o := ⟨some 46, _, _, _, _, _⟩) rfl (fun K hK => ?_) AllReadyH.nil)
        go_simp
        refine (MA A45 c45 w2 (((hB8.below b1).below' hK2 b1.size).more (Nat.le_trans b1.size hK2.size)) hB45).mono ?_
        rintro e w3 ⟨rfl, rfl⟩
        refine hK.out _ _ hK2 (fun _ => ?_)
        clear hK K
        try simp only [Act.put, List.setIfInBounds_toArray, List.set_cons_zero, List.set_cons_succ]
        refine wpAnyH_take (i := 6) (oi := ⟨some 40, _, _, _, _, _⟩) (v := ?vb6) rfl (by kernel_rfl) (by kernel_rfl) (by kernel_rfl) (fun _ _ _ h => h) (Or.inl ⟨by rfl, ?yb6⟩) hK2 ?rb6
        case yb6 => intro W hW; go_simp; first | done | with_reducible rfl
        simp only [Act.put, List.setIfInBounds_toArray, List.set_cons_zero, List.set_cons_succ]
        refine wpAnyH_take (i := 7) (oi := ⟨some 47, _, _, _, _, _⟩) (v := ?vb7) rfl (by kernel_rfl) (by kernel_rfl) (by kernel_rfl) (fun _ _ _ h => h) (Or.inl ⟨by rfl, ?yb7⟩) hK2 ?rb7
        case yb7 => intro W hW; go_simp; first | done | with_reducible rfl
        simp only [Act.put, List.setIfInBounds_toArray, List.set_cons_zero, List.set_cons_succ]
        refine wpAnyH_take (i := 8) (oi := ⟨some 48, _, _, _, _, _⟩) (v := ?vb8) rfl (by kernel_rfl) (by kernel_rfl) (by kernel_rfl) (fun _ _ _ h => h) (Or.inl ⟨by rfl, ?yb8⟩) hK2 ?rb8
        case yb8 => intro W hW; go_simp; first | done | with_reducible rfl
        simp only [Act.put, List.setIfInBounds_toArray, List.set_cons_zero, List.set_cons_succ]
        refine wpAnyH_take (i := 9) (oi := ⟨some 8, _, _, _, _, _⟩) (v := ?vb9) rfl (by kernel_rfl) (by kernel_rfl) (by kernel_rfl) (fun _ _ _ h => h) (Or.inl ⟨by rfl, ?yb9⟩) hK2 ?rb9
        case yb9 => intro W hW; go_simp; first | done | with_reducible rfl
        simp only [Act.put, List.setIfInBounds_toArray, List.set_cons_zero, List.set_cons_succ]
        refine wpAnyH_take (i := 10) (oi := ⟨some 5, _, _, _, _, _⟩) (v := ?vb10) rfl (by kernel_rfl) (by kernel_rfl) (by kernel_rfl) (fun _ _ _ h => h) (Or.inl ⟨by rfl, ?yb10⟩) hK2 ?rb10
        case yb10 => intro W hW; go_simp; first | done | with_reducible rfl
        simp only [Act.put, List.setIfInBounds_toArray, List.set_cons_zero, List.set_cons_succ]
        refine wpAnyH_done (by kernel_rfl) ?_ _
        have hc3 : ∀ j, w2.cell? ⟨w.heap.size, j, none⟩ = (w.alloc (.cells #[.slice none 0 0, .int .i64 0, .int .i64 0] 57)).cell? ⟨w.heap.size, j, none⟩ := fun j => (hK2.cell (p := ⟨w.heap.size, j, none⟩) hsz).trans (hc1 j)
        have hf3 : ∀ j, w2.frozen? ⟨w.heap.size, j, none⟩ = false := fun j => (hK2.frozen (p := ⟨w.heap.size, j, none⟩) hsz).trans (hf1 j)
        have hsz3 : w.heap.size < w2.heap.size := by have := hK2.size; omega
        clear hc1 hf1 hS hS0 hO45 hB45 hb2 MA TA GO
        go_wp2_with fail
        refine bodyPost_ret (v := .agg #[.slice A7 N (c - k), .int .i64 ((M : Int) + m1), .int .i64 m2]) (by simp [results, Tryd.results40, go_sem, hc3]) rfl ?_
        have b3 : Below w.heap.size w w2 := b1.trans (hK2.mono b1.size)
        refine ⟨A7, N, c - k, ?_, by omega, by omega, by omega, by rw [HS2.out]; exact HB7.out, ((b3.setCell (by simp) _).setCell (by simp) _).setCell (by simp) _⟩
        rw [HS2.out]
        rfl
  · have hne : ((e : Int) != 0) = true := by simp; omega
    go_enter Tryd.func40, Tryd.ntmps40
    go_wp2_with fail
    refine (get_any A n c l _ ((h.alloc (Nat.le_refl _) _).more (by simp)) hc hn).mono ?_
    rintro e' w1 ⟨rfl, hbel⟩
    rw [HG.out]
    obtain ⟨hc1, hf1⟩ := bcell hbel
    have b1 : Below w.heap.size w w1 := ((Below.refl _ _).alloc (Nat.le_refl _) _).trans (hbel.mono (by simp))
    have hsz : w.heap.size < w1.heap.size := by have := hbel.size; simp at this; omega
    clear hbel
    go_wp2_with fail
    refine bodyPost_ret (v := .agg #[.slice none 0 0, .int .i64 k, .int .i64 e]) (by simp [results, Tryd.results40, go_sem, hc1]) rfl ?_
    have HR : Hid (R = ([], k, e)) := by show R = _; rw [HS.out, if_pos he]
    refine ⟨none, 0, 0, ?_, Nat.le_refl _, by omega, by omega, by rw [HR.out]; exact fun _ _ _ => Bs.empty _ _ _, ((b1.setCell (by simp) _).setCell (by simp) _).setCell (by simp) _⟩
    rw [HR.out]
end Go.Proofs.YtknnncdmpfmgkaaDoor
