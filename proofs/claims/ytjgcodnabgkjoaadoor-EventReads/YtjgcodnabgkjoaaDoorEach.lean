/-
  What having.each does with whatever it is handed for texts and for numbers: it is called for each text and each number that there is, in order. Condition: what it calls keeps its contract.
-/
import Derived.Test.YtjgcodnabgkjoaaDoorEv
namespace Go.Proofs.YtjgcodnabgkjoaaDoor
open Go.RowKit

/-- The blocks that each has made itself are as they were. -/
def Kps (w w' : World) : Prop := ∀ (k : Nat) (cs : Array Value) (t : TypeId) (fr : Nat × Nat), t = 47 ∨ t = 77 ∨ t = 80 → w.heap[k]? = some (.cells cs t fr) → w'.heap[k]? = some (.cells cs t fr)
theorem Kps.blk {w w' : World} {b : Nat} {t : TypeId} {C : List Value} (h : Kps w w') (hb : Blk w b t C) (ht : t = 47 ∨ t = 77 ∨ t = 80) : Blk w' b t C := h b _ t _ ht hb
theorem textPs_at (y : Nat) {i : Nat} (h : i < 4) : (textPs y)[i]? = some (.pointer (some ⟨y, 3 + i, none⟩)) := by
  match i, h with
  | 0, _ | 1, _ | 2, _ | 3, _ => rfl
theorem numPs_at (y : Nat) {i : Nat} (h : i < 3) : (numPs y)[i]? = some (.pointer (some ⟨y, 7 + i, none⟩)) := by
  match i, h with
  | 0, _ | 1, _ | 2, _ => rfl

set_option maxHeartbeats 4000000 in
set_option maxRecDepth 100000 in
theorem each_r (h : Hav) (hk : HavOk h) (y : Nat) (p : Value) (T U : Nat → World → Prop) (w : World)
    (hT0 : T 0 w) (hTk : ∀ i W W', T i W → Below W.heap.size W W' → T i W') (hUk : ∀ i W W', U i W → Below W.heap.size W W' → U i W') (hTU : ∀ W, T h.texts W → U 0 W)
    (hF : ∀ i W, i < h.texts → T i W → Calls Tryd.prog 32 #[p, .pointer (some ⟨y, 3 + i, none⟩)] W fun r W' => r = .returned (.tuple #[]) ∧ T (i + 1) W' ∧ Kps W W')
    (hG : ∀ i W, i < 3 → 0 < h.bl.getD i 0 → U i W → Calls Tryd.prog 33 #[p, .pointer (some ⟨y, 7 + i, none⟩), .int .i64 ((h.bl.getD i 0 : Nat) : Int)] W fun r W' => r = .returned (.tuple #[]) ∧ U (i + 1) W' ∧ Kps W W')
    (hN : ∀ i W, i < 3 → ¬ 0 < h.bl.getD i 0 → U i W → U (i + 1) W) :
    Calls Tryd.prog 20 #[.agg (havc h).toArray, .pointer (some ⟨y, 0, none⟩), .func (.func 32) #[p] #[], .func (.func 33) #[p] #[]] w fun r w' => r = .returned (.tuple #[]) ∧ U 3 w' := by
  have ht4 := hk.1
  obtain ⟨n, hn⟩ : ∃ n, n = h.texts := ⟨_, rfl⟩
  rw [← hn] at ht4 hF hTU
  have hn4 : (n : Int) ≤ 4 := by omega
  have HN := Lib.hid hn
  clear hn
  go_enter Tryd.func20, Tryd.ntmps20
  go_wp2_with (first
    | ((with_reducible show wpList _ _ _ _ _ _); refine wp_box _ rfl 47 (.tmp 0) rfl (havc h) rfl ?_; intro w1 gh hB1 hf1; simp only [Act.put, List.setIfInBounds_toArray, List.set_cons_zero, List.set_cons_succ]))
  have hT1 := hTk 0 w w1 hT0 hf1.below
  have cT : w1.cell? ⟨gh, 1, none⟩ = some (.int .i64 (n : Int)) := by rw [HN.out]; exact hB1.cell rfl
  clear hT0
  go_region_held3 (fun W => W.cell? ⟨gh, 1, none⟩ = some (.int .i64 (n : Int)) ∧ Kept w1 W) (first | exact ⟨cT, (Kept.refl w1).drew⟩ | exact ⟨dT, hK2⟩) (first | (go_at_call 39; refine (texts_any y w1.drew).mono ?_; rintro e w2 ⟨gt, rfl, hB2, hgt, hb2⟩; have hK2 : Kept w1 w2 := (Kept.refl w1).drew.step hb2; have D1 := hB1.kept hK2; have dT : w2.cell? ⟨gh, 1, none⟩ = some (.int .i64 (n : Int)) := (by rw [HN.out]; exact Blk.cell D1 rfl)))
  have hT2 := hTk 0 w1 w2 hT1 hK2
  have HF := Lib.hid hF
  have HG := Lib.hid hG
  have HS := Lib.hid (And.intro hTk (And.intro hUk (And.intro hTU hN)))
  clear hF hG hTk hUk hTU hN hT1 cT dT hK2 hB1
  go_wp2_with fail
  go_loopw [18] (fun v wr => ∃ k : Nat, k ≤ n ∧ v = .int .i64 (k : Int) ∧ Hid (T k wr) ∧ Blk wr gh 47 (havc h) ∧ Blk wr gt 77 (textPs y)) (fun v _ => n - (intOf v).toNat)
  case atStart => exact ⟨0, by omega, rfl, hT2, D1, hB2⟩
  case round =>
    obtain ⟨k, hkn, rfl, hTr, E1, E2⟩ := hrel
    clear hT2 D1 hB2
    by_cases hlt : k < n
    · have hlt' : (k : Int) < (n : Int) := by omega
      have ct := E2.cell (textPs_at y (i := k) (by omega))
      have hcall := HF.out k wr hlt hTr
      go_wp2_with fail
      refine hcall.mono ?_
      rintro r w3 ⟨rfl, hT3, hkp⟩
      go_wp2_with fail
      go_roundw
      case rel => exact ⟨k + 1, by omega, by go_num, hT3, hkp.blk E1 (by simp), hkp.blk E2 (by simp)⟩
      case measure => simp [intOf]; omega
    · obtain rfl : k = n := by omega
      have hU0 := HS.out.2.2.1 wr hTr
      go_wp2_with fail
      refine (numbers_any y wr).mono ?_
      rintro r w3 ⟨gn, rfl, hB3, hgn, hb3⟩
      have hU3 := HS.out.2.1 0 wr w3 hU0 hb3
      have E3 := E1.kept hb3
      clear hU0 hTr E1 E2 hb3
      go_wp2_with fail
      go_loopw [29] (fun v wr => ∃ k : Nat, k ≤ 3 ∧ v = .int .i64 (k : Int) ∧ Hid (U k wr) ∧ Blk wr gh 47 (havc h) ∧ Blk wr gn 80 (numPs y)) (fun v _ => 3 - (intOf v).toNat)
      case atStart => exact ⟨0, by omega, rfl, hU3, E3, hB3⟩
      case round =>
        obtain ⟨j, hjn, rfl, hUr, G1, G2⟩ := hrel
        clear hU3 E3 hB3
        by_cases hlt2 : j < 3
        · have hlt' : (j : Int) < 3 := by omega
          have cn := G2.cell (numPs_at y (i := j) hlt2)
          have cb := G1.cell (havc_bl hk (i := j) hlt2)
          obtain ⟨b, hb⟩ : ∃ b, b = h.bl.getD j 0 := ⟨_, rfl⟩
          have hb1000 : b ≤ 1000 := by rw [hb]; exact hk.2.2 j
          have hcall := fun hp => HG.out j wr hlt2 hp hUr
          have hnone := fun hp => HS.out.2.2.2 j wr hlt2 hp hUr
          rw [← hb] at cb hcall hnone
          clear hb
          by_cases hp : 0 < b
          · have hcall := hcall hp
            have hp' : (0 : Int) < (b : Int) := by omega
            clear hnone
            go_wp2_with fail
            refine hcall.mono ?_
            rintro r w4 ⟨rfl, hU4, hkp⟩
            go_wp2_with fail
            go_roundw
            case rel => exact ⟨j + 1, by omega, by go_num, hU4, hkp.blk G1 (by simp), hkp.blk G2 (by simp)⟩
            case measure => simp [intOf]; omega
          · have hU4 := Lib.hid (hnone hp)
            obtain rfl : b = 0 := by omega
            clear hcall hnone
            go_wp2_with fail
            go_roundw
            case rel => exact ⟨j + 1, by omega, by go_num, hU4, G1, G2⟩
            case measure => simp [intOf]; omega
        · obtain rfl : j = 3 := by omega
          go_wp2_with fail
          go_end0
          exact ⟨rfl, hUr⟩

set_option maxHeartbeats 4000000 in
set_option maxRecDepth 100000 in
theorem each_w (h : Hav) (hk : HavOk h) (y : Nat) (p : Value) (T U : Nat → World → Prop) (w : World)
    (hT0 : T 0 w) (hTk : ∀ i W W', T i W → Below W.heap.size W W' → T i W') (hUk : ∀ i W W', U i W → Below W.heap.size W W' → U i W') (hTU : ∀ W, T h.texts W → U 0 W)
    (hF : ∀ i W, i < h.texts → T i W → Calls Tryd.prog 21 #[p, .pointer (some ⟨y, 3 + i, none⟩)] W fun r W' => r = .returned (.tuple #[]) ∧ T (i + 1) W' ∧ Kps W W')
    (hG : ∀ i W, i < 3 → 0 < h.bl.getD i 0 → U i W → Calls Tryd.prog 22 #[p, .pointer (some ⟨y, 7 + i, none⟩), .int .i64 ((h.bl.getD i 0 : Nat) : Int)] W fun r W' => r = .returned (.tuple #[]) ∧ U (i + 1) W' ∧ Kps W W')
    (hN : ∀ i W, i < 3 → ¬ 0 < h.bl.getD i 0 → U i W → U (i + 1) W) :
    Calls Tryd.prog 20 #[.agg (havc h).toArray, .pointer (some ⟨y, 0, none⟩), .func (.func 21) #[p] #[], .func (.func 22) #[p] #[]] w fun r w' => r = .returned (.tuple #[]) ∧ U 3 w' := by
  have ht4 := hk.1
  obtain ⟨n, hn⟩ : ∃ n, n = h.texts := ⟨_, rfl⟩
  rw [← hn] at ht4 hF hTU
  have hn4 : (n : Int) ≤ 4 := by omega
  have HN := Lib.hid hn
  clear hn
  go_enter Tryd.func20, Tryd.ntmps20
  go_wp2_with (first
    | ((with_reducible show wpList _ _ _ _ _ _); refine wp_box _ rfl 47 (.tmp 0) rfl (havc h) rfl ?_; intro w1 gh hB1 hf1; simp only [Act.put, List.setIfInBounds_toArray, List.set_cons_zero, List.set_cons_succ]))
  have hT1 := hTk 0 w w1 hT0 hf1.below
  have cT : w1.cell? ⟨gh, 1, none⟩ = some (.int .i64 (n : Int)) := by rw [HN.out]; exact hB1.cell rfl
  clear hT0
  go_region_held3 (fun W => W.cell? ⟨gh, 1, none⟩ = some (.int .i64 (n : Int)) ∧ Kept w1 W) (first | exact ⟨cT, (Kept.refl w1).drew⟩ | exact ⟨dT, hK2⟩) (first | (go_at_call 39; refine (texts_any y w1.drew).mono ?_; rintro e w2 ⟨gt, rfl, hB2, hgt, hb2⟩; have hK2 : Kept w1 w2 := (Kept.refl w1).drew.step hb2; have D1 := hB1.kept hK2; have dT : w2.cell? ⟨gh, 1, none⟩ = some (.int .i64 (n : Int)) := (by rw [HN.out]; exact Blk.cell D1 rfl)))
  have hT2 := hTk 0 w1 w2 hT1 hK2
  have HF := Lib.hid hF
  have HG := Lib.hid hG
  have HS := Lib.hid (And.intro hTk (And.intro hUk (And.intro hTU hN)))
  clear hF hG hTk hUk hTU hN hT1 cT dT hK2 hB1
  go_wp2_with fail
  go_loopw [18] (fun v wr => ∃ k : Nat, k ≤ n ∧ v = .int .i64 (k : Int) ∧ Hid (T k wr) ∧ Blk wr gh 47 (havc h) ∧ Blk wr gt 77 (textPs y)) (fun v _ => n - (intOf v).toNat)
  case atStart => exact ⟨0, by omega, rfl, hT2, D1, hB2⟩
  case round =>
    obtain ⟨k, hkn, rfl, hTr, E1, E2⟩ := hrel
    clear hT2 D1 hB2
    by_cases hlt : k < n
    · have hlt' : (k : Int) < (n : Int) := by omega
      have ct := E2.cell (textPs_at y (i := k) (by omega))
      have hcall := HF.out k wr hlt hTr
      go_wp2_with fail
      refine hcall.mono ?_
      rintro r w3 ⟨rfl, hT3, hkp⟩
      go_wp2_with fail
      go_roundw
      case rel => exact ⟨k + 1, by omega, by go_num, hT3, hkp.blk E1 (by simp), hkp.blk E2 (by simp)⟩
      case measure => simp [intOf]; omega
    · obtain rfl : k = n := by omega
      have hU0 := HS.out.2.2.1 wr hTr
      go_wp2_with fail
      refine (numbers_any y wr).mono ?_
      rintro r w3 ⟨gn, rfl, hB3, hgn, hb3⟩
      have hU3 := HS.out.2.1 0 wr w3 hU0 hb3
      have E3 := E1.kept hb3
      clear hU0 hTr E1 E2 hb3
      go_wp2_with fail
      go_loopw [29] (fun v wr => ∃ k : Nat, k ≤ 3 ∧ v = .int .i64 (k : Int) ∧ Hid (U k wr) ∧ Blk wr gh 47 (havc h) ∧ Blk wr gn 80 (numPs y)) (fun v _ => 3 - (intOf v).toNat)
      case atStart => exact ⟨0, by omega, rfl, hU3, E3, hB3⟩
      case round =>
        obtain ⟨j, hjn, rfl, hUr, G1, G2⟩ := hrel
        clear hU3 E3 hB3
        by_cases hlt2 : j < 3
        · have hlt' : (j : Int) < 3 := by omega
          have cn := G2.cell (numPs_at y (i := j) hlt2)
          have cb := G1.cell (havc_bl hk (i := j) hlt2)
          obtain ⟨b, hb⟩ : ∃ b, b = h.bl.getD j 0 := ⟨_, rfl⟩
          have hb1000 : b ≤ 1000 := by rw [hb]; exact hk.2.2 j
          have hcall := fun hp => HG.out j wr hlt2 hp hUr
          have hnone := fun hp => HS.out.2.2.2 j wr hlt2 hp hUr
          rw [← hb] at cb hcall hnone
          clear hb
          by_cases hp : 0 < b
          · have hcall := hcall hp
            have hp' : (0 : Int) < (b : Int) := by omega
            clear hnone
            go_wp2_with fail
            refine hcall.mono ?_
            rintro r w4 ⟨rfl, hU4, hkp⟩
            go_wp2_with fail
            go_roundw
            case rel => exact ⟨j + 1, by omega, by go_num, hU4, hkp.blk G1 (by simp), hkp.blk G2 (by simp)⟩
            case measure => simp [intOf]; omega
          · have hU4 := Lib.hid (hnone hp)
            obtain rfl : b = 0 := by omega
            clear hcall hnone
            go_wp2_with fail
            go_roundw
            case rel => exact ⟨j + 1, by omega, by go_num, hU4, G1, G2⟩
            case measure => simp [intOf]; omega
        · obtain rfl : j = 3 := by omega
          go_wp2_with fail
          go_end0
          exact ⟨rfl, hUr⟩

end Go.Proofs.YtjgcodnabgkjoaaDoor
