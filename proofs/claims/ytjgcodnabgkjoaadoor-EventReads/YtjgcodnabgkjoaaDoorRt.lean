/-
  What having.rightTexts, having.rightNumbers and event.Right answer; nothing that was there turns. Condition: the table of kinds holds what the program's text lays.
-/
import Derived.Test.YtjgcodnabgkjoaaDoorEach
namespace Go.Proofs.YtjgcodnabgkjoaaDoor
open Go.RowKit

/-- May text i be what it is, where there are n texts? -/
def goodT (n : Nat) (ts : List (List UInt8)) (i : Nat) : Bool := (decide (i < n) || decide (ts.getD i [] = [])) && decide ((ts.getD i []).length ≤ 4096)
def rightT (n : Nat) (ts : List (List UInt8)) : Bool := goodT n ts 0 && goodT n ts 1 && goodT n ts 2 && goodT n ts 3
/-- May number i be what it is? -/
def goodN (bl : List Nat) (ns : List Int) (i : Nat) : Bool := decide (0 ≤ ns.getD i 0) && (decide (ns.getD i 0 = 0) || decide (ns.getD i 0 < (bl.getD i 0 : Int)))
def rightN (bl : List Nat) (ns : List Int) : Bool := goodN bl ns 0 && goodN bl ns 1 && goodN bl ns 2
theorem rightT_true {n : Nat} {ts : List (List UInt8)} (h : ∀ j, j < 4 → goodT n ts j = true) : rightT n ts = true := by simp [rightT, h]
theorem rightT_false {n : Nat} {ts : List (List UInt8)} {j : Nat} (hj : j < 4) (h : goodT n ts j = false) : rightT n ts = false := by
  match j, hj with
  | 0, _ | 1, _ | 2, _ | 3, _ => simp [rightT, h]
theorem rightN_true {bl : List Nat} {ns : List Int} (h : ∀ j, j < 3 → goodN bl ns j = true) : rightN bl ns = true := by simp [rightN, h]
theorem rightN_false {bl : List Nat} {ns : List Int} {j : Nat} (hj : j < 3) (h : goodN bl ns j = false) : rightN bl ns = false := by
  match j, hj with
  | 0, _ | 1, _ | 2, _ => simp [rightN, h]
theorem str_isEmpty (t : List UInt8) : (str t).toList.isEmpty = decide (t = []) := by
  have e : (str t).toList = t := by rw [ByteArray.toList_eq]; rfl
  rw [e]
  cases t <;> simp
theorem str_nonempty {t : List UInt8} (h : t ≠ []) : (str t).toList.isEmpty = false := by rw [str_isEmpty]; simpa using h
theorem step_all {p : Nat → Bool} {k : Nat} (h : ∀ j, j < k → p j = true) (hk : p k = true) : ∀ j, j < k + 1 → p j = true := by
  intro j hj
  rcases Nat.lt_or_ge j k with h1 | h1
  · exact h j h1
  · obtain rfl : j = k := by omega
    exact hk

set_option maxHeartbeats 4000000 in
set_option maxRecDepth 100000 in
theorem rightTexts_any (h : Hav) (hk : HavOk h) (e : Ev) (he : EvOk e) (hsz : ∀ t ∈ e.ts, t.length ≤ 1000000) (w : World) :
    Calls Tryd.prog 24 #[.agg (havc h).toArray, .agg (evc e).toArray] w fun r w' => r = .returned (.bool (rightT h.texts e.ts)) ∧ Below w.heap.size w w' := by
  obtain ⟨R, hR⟩ : ∃ R, R = rightT h.texts e.ts := ⟨_, rfl⟩
  rw [← hR]
  have ht4 := hk.1
  obtain ⟨n, hn⟩ : ∃ n, n = h.texts := ⟨_, rfl⟩
  rw [← hn] at ht4 hR
  have HR := Lib.hid hR
  have HN := Lib.hid hn
  clear hn hR
  go_enter Tryd.func24, Tryd.ntmps24
  go_wp2_with (first
    | ((with_reducible show wpList _ _ _ (⟨some 2, _, _, _, _, _⟩ :: _) _ _); refine wp_box _ rfl 47 (.tmp 0) rfl (havc h) rfl ?_; intro w1 gh hB1 hf1; simp only [Act.put, List.setIfInBounds_toArray, List.set_cons_zero, List.set_cons_succ])
    | ((with_reducible show wpList _ _ _ (⟨some 3, _, _, _, _, _⟩ :: _) _ _); refine wp_box _ rfl 24 (.tmp 1) rfl (evc e) rfl ?_; intro w2 ge hB2 hf2; simp only [Act.put, List.setIfInBounds_toArray, List.set_cons_zero, List.set_cons_succ]))
  refine (texts_any ge w2).mono ?_
  rintro r w3 ⟨gt, rfl, hB3, hgt, hb3⟩
  have H3 := (hf2.blk hB1).kept hb3
  have V3 := hB2.kept hb3
  have b3 : Below w.heap.size w w3 := hf1.below.trans ((hf2.below.mono hf1.below.size).trans (hb3.mono (Nat.le_trans hf1.below.size hf2.below.size)))
  have cT : w3.cell? ⟨gh, 1, none⟩ = some (.int .i64 (n : Int)) := by rw [HN.out]; exact H3.cell rfl
  clear hB1 hB2 hf1 hf2 hb3 hgt
  go_wp2_with fail
  go_loopw [10] (fun v wr => ∃ k : Nat, k ≤ 4 ∧ v = .int .i64 (k : Int) ∧ w3 = wr ∧ Hid (∀ j, j < k → goodT n e.ts j = true)) (fun v _ => 4 - (intOf v).toNat)
  case atStart => exact ⟨0, by omega, rfl, rfl, fun j hj => by omega⟩
  case round =>
    obtain ⟨k, hk4, rfl, rfl, HA⟩ := hrel
    by_cases hlt : k < 4
    · have hlt' : (k : Int) < 4 := by omega
      have ct := hB3.cell (textPs_at ge (i := k) hlt)
      have cv := V3.cell (evc_text he (i := k) hlt)
      obtain ⟨t, ht⟩ : ∃ t, t = e.ts.getD k [] := ⟨_, rfl⟩
      rw [← ht] at cv
      have hgd : goodT n e.ts k = ((decide (k < n) || decide (t = [])) && decide (t.length ≤ 4096)) := by rw [goodT, ← ht]
      have HG := Lib.hid hgd
      have HT : Hid (t.length ≤ 1000000) := by
        have hl : k < e.ts.length := by rw [he.1]; exact hlt
        have hm : t ∈ e.ts := by rw [ht, List.getD_eq_getElem?_getD, List.getElem?_eq_getElem hl]; exact List.getElem_mem hl
        exact hsz t hm
      clear hgd ht
      have hts : (str t).size = t.length := str_size t
      have htl : t.length ≤ 1000000 := HT.out
      have fin : ∀ b : Bool, goodT n e.ts k = b → b = false → R = false := fun b h1 h2 => by rw [HR.out]; exact rightT_false hlt (h1.trans h2)
      have nxt : goodT n e.ts k = true → Hid (∀ j, j < k + 1 → goodT n e.ts j = true) := fun h1 => step_all HA.out h1
      have HX := Lib.hid (And.intro fin nxt)
      clear fin nxt HT
      by_cases hkn : k < n
      · have hkn' : ¬ n ≤ k := by omega
        by_cases hl : t.length ≤ 4096
        · have hl' : ¬ 4096 < t.length := by omega
          go_wp2_with fail
          go_roundw
          case rel => exact ⟨k + 1, by omega, by go_num, trivial, HX.out.2 (HG.out.trans (by simp [hkn, hl]))⟩
          case measure => simp [intOf]; omega
        · have hl' : 4096 < t.length := by omega
          go_wp2_with fail
          go_ret
          exact ⟨by rw [HX.out.1 _ HG.out (by simp [hl])]; rfl, b3⟩
      · have hkn' : n ≤ k := by omega
        by_cases ht0 : t = []
        · have hem : (str t).toList.isEmpty = true := by rw [str_isEmpty]; simpa using ht0
          have hl' : ¬ 4096 < t.length := by rw [ht0]; simp
          have hgk : ((decide (k < n) || decide (t = [])) && decide (t.length ≤ 4096)) = true := by rw [ht0]; simp
          have HGK := Lib.hid hgk
          clear ht0 hgk
          go_wp2_with fail
          go_roundw
          case rel => exact ⟨k + 1, by omega, by go_num, trivial, HX.out.2 (HG.out.trans (HGK.out))⟩
          case measure => simp [intOf]; omega
        · have hem : (str t).toList.isEmpty = false := str_nonempty ht0
          have hgk : ((decide (k < n) || decide (t = [])) && decide (t.length ≤ 4096)) = false := by simp [hkn, ht0]
          have HGK := Lib.hid hgk
          clear ht0 hgk
          go_wp2_with fail
          go_ret
          exact ⟨by rw [HX.out.1 _ HG.out (HGK.out)]; rfl, b3⟩
    · obtain rfl : k = 4 := by omega
      have hR1 : R = true := by rw [HR.out]; exact rightT_true HA.out
      have HR1 := Lib.hid hR1
      clear hR1
      go_wp2_with fail
      go_ret
      exact ⟨by rw [HR1.out]; rfl, b3⟩
theorem below_drewN (B : Nat) (w : World) (k : Nat) : Below B w (w.drewN k) := ⟨rfl, rfl, rfl, Nat.le_refl _, fun _ _ => rfl⟩
set_option maxHeartbeats 4000000 in
set_option maxRecDepth 100000 in
theorem rightNumbers_any (h : Hav) (hk : HavOk h) (e : Ev) (he : EvOk e) (w : World) :
    Calls Tryd.prog 25 #[.agg (havc h).toArray, .agg (evc e).toArray] w fun r w' => r = .returned (.bool (rightN h.bl e.ns)) ∧ Below w.heap.size w w' := by
  obtain ⟨R, hR⟩ : ∃ R, R = rightN h.bl e.ns := ⟨_, rfl⟩
  rw [← hR]
  have HR := Lib.hid hR
  clear hR
  go_enter Tryd.func25, Tryd.ntmps25
  go_wp2_with (first
    | ((with_reducible show wpList _ _ _ (⟨some 2, _, _, _, _, _⟩ :: _) _ _); refine wp_box _ rfl 47 (.tmp 0) rfl (havc h) rfl ?_; intro w1 gh hB1 hf1; simp only [Act.put, List.setIfInBounds_toArray, List.set_cons_zero, List.set_cons_succ])
    | ((with_reducible show wpList _ _ _ (⟨some 3, _, _, _, _, _⟩ :: _) _ _); refine wp_box _ rfl 24 (.tmp 1) rfl (evc e) rfl ?_; intro w2 ge hB2 hf2; simp only [Act.put, List.setIfInBounds_toArray, List.set_cons_zero, List.set_cons_succ]))
  refine (numbers_any ge w2).mono ?_
  rintro r w3 ⟨gt, rfl, hB3, hgt, hb3⟩
  have H3 := (hf2.blk hB1).kept hb3
  have V3 := hB2.kept hb3
  have b3 : Below w.heap.size w w3 := hf1.below.trans ((hf2.below.mono hf1.below.size).trans (hb3.mono (Nat.le_trans hf1.below.size hf2.below.size)))
  clear hB1 hB2 hf1 hf2 hb3 hgt
  go_wp2_with fail
  go_loopw [9] (fun v wr => ∃ k : Nat, k ≤ 3 ∧ v = .int .i64 (k : Int) ∧ Blk wr gt 80 (numPs ge) ∧ Blk wr gh 47 (havc h) ∧ Blk wr ge 24 (evc e) ∧ Below w.heap.size w3 wr ∧ Hid (∀ j, j < k → goodN h.bl e.ns j = true)) (fun v _ => 3 - (intOf v).toNat)
  case atStart => exact ⟨0, by omega, rfl, hB3, H3, V3, Below.refl _ _, fun j hj => by omega⟩
  case round =>
    obtain ⟨k, hk4, rfl, hG, hH, hV, hbr, HA⟩ := hrel
    clear hB3 H3 V3
    by_cases hlt : k < 3
    · have hlt' : (k : Int) < 3 := by omega
      have ct := hG.cell (numPs_at ge (i := k) hlt)
      have cv := hV.cell (evc_num he (i := k) hlt)
      have cb := hH.cell (havc_bl hk (i := k) hlt)
      obtain ⟨n, hn⟩ : ∃ n, n = e.ns.getD k 0 := ⟨_, rfl⟩
      obtain ⟨b, hb⟩ : ∃ b, b = h.bl.getD k 0 := ⟨_, rfl⟩
      have hgd : goodN h.bl e.ns k = (decide (0 ≤ n) && (decide (n = 0) || decide (n < (b : Int)))) := by rw [goodN, ← hn, ← hb]
      rw [← hn] at cv
      rw [← hb] at cb
      have HG := Lib.hid hgd
      clear hgd hn hb
      have fin : ∀ b : Bool, goodN h.bl e.ns k = b → b = false → R = false := fun b h1 h2 => by rw [HR.out]; exact rightN_false hlt (h1.trans h2)
      have nxt : goodN h.bl e.ns k = true → Hid (∀ j, j < k + 1 → goodN h.bl e.ns j = true) := fun h1 => step_all HA.out h1
      have HX := Lib.hid (And.intro fin nxt)
      clear fin nxt
      by_cases h0 : n < 0
      · have d0 : decide (n < 0) = true := by simpa using h0
        have hgk : (decide (0 ≤ n) && (decide (n = 0) || decide (n < (b : Int)))) = false := by simp; omega
        have HK := Lib.hid hgk
        clear hgk
        go_wp2_with fail
        go_quiet (fail)
        go_wp2_with fail
        go_ret
        exact ⟨by rw [HX.out.1 _ HG.out (HK.out)]; rfl, b3.trans (Below.trans hbr (below_drewN _ _ _))⟩
      · have d0 : decide (n < 0) = false := by simpa using h0
        by_cases h1 : n = 0
        · have d1 : decide (0 < n) = false := by simp; omega
          have hgk : (decide (0 ≤ n) && (decide (n = 0) || decide (n < (b : Int)))) = true := by simp; omega
          have HK := Lib.hid hgk
          clear hgk h1
          go_wp2_with fail
          go_quiet (fail)
          go_wp2_with fail
          go_roundw
          case rel => exact ⟨k + 1, by omega, by go_num, hG.drewN _, hH.drewN _, hV.drewN _, Below.trans hbr (below_drewN _ _ _), HX.out.2 (HG.out.trans (HK.out))⟩
          case measure => simp [intOf]; omega
        · have d1 : decide (0 < n) = true := by simp; omega
          by_cases h2 : n < (b : Int)
          · have d2 : decide ((b : Int) ≤ n) = false := by simp; omega
            have hgk : (decide (0 ≤ n) && (decide (n = 0) || decide (n < (b : Int)))) = true := by simp; omega
            have HK := Lib.hid hgk
            clear hgk h1
            go_wp2_with fail
            go_quiet (fail)
            go_wp2_with fail
            go_roundw
            case rel => exact ⟨k + 1, by omega, by go_num, hG.drewN _, hH.drewN _, hV.drewN _, Below.trans hbr (below_drewN _ _ _), HX.out.2 (HG.out.trans (HK.out))⟩
            case measure => simp [intOf]; omega
          · have d2 : decide ((b : Int) ≤ n) = true := by simp; omega
            have hgk : (decide (0 ≤ n) && (decide (n = 0) || decide (n < (b : Int)))) = false := by simp; omega
            have HK := Lib.hid hgk
            clear hgk h1
            go_wp2_with fail
            go_quiet (fail)
            go_wp2_with fail
            go_ret
            exact ⟨by rw [HX.out.1 _ HG.out (HK.out)]; rfl, b3.trans (Below.trans hbr (below_drewN _ _ _))⟩
    · obtain rfl : k = 3 := by omega
      have hR1 : R = true := by rw [HR.out]; exact rightN_true HA.out
      have HR1 := Lib.hid hR1
      clear hR1
      go_wp2_with fail
      go_ret
      exact ⟨by rw [HR1.out]; rfl, b3.trans hbr⟩
end Go.Proofs.YtjgcodnabgkjoaaDoor
