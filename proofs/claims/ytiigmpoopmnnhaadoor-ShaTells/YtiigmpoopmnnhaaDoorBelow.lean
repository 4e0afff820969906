/-
  What transeptref03.below and transeptref03.root answer: the roots of the plain mathematics; nothing that was in memory turns. Conditions: numbers are small enough.
-/
import Derived.Test.YtiigmpoopmnnhaaDoorTimes
namespace Go.Proofs.YtiigmpoopmnnhaaDoor
open Go.RowKit

/-- What the loop over the words of a power knows behind i of them: the word at K, whether there was one below it, and that there is none above it. -/
def seen (l : List Nat) (K i n : Nat) (rest : Bool) : Prop :=
  (i ≤ K → n = 0) ∧ (K < i → n = l.getD K 0) ∧ rest = decide (val (l.take (min i K)) ≠ 0) ∧ val ((l.drop (K + 1)).take (i - (K + 1))) = 0
theorem seen_start (l : List Nat) (K : Nat) : seen l K 0 0 false := by simp [seen, val]
theorem val_take_zero (l : List Nat) (k : Nat) (h : k < l.length) : val (l.take (k + 1)) = 0 ↔ val (l.take k) = 0 ∧ l.getD k 0 = 0 := by
  rw [val_take l k h, Nat.add_eq_zero_iff, Nat.mul_eq_zero]
  simp
theorem seen_low {l : List Nat} {K i n : Nat} {rest : Bool} (h : seen l K i n rest) (hi : i < K) (hl : i < l.length) : seen l K (i + 1) n (rest || decide (0 < l.getD i 0)) := by
  obtain ⟨h1, h2, h3, h4⟩ := h
  refine ⟨fun _ => h1 (by omega), fun hk => by omega, ?_, ?_⟩
  · rw [h3, Nat.min_eq_left (by omega), Nat.min_eq_left (by omega)]
    have := val_take_zero l i hl
    rw [Bool.eq_iff_iff]
    simp only [Bool.or_eq_true, decide_eq_true_eq, ne_eq, this]
    omega
  · rw [show i + 1 - (K + 1) = 0 by omega]
    rfl
theorem seen_at {l : List Nat} {K n : Nat} {rest : Bool} (h : seen l K K n rest) : seen l K (K + 1) (l.getD K 0) rest := by
  obtain ⟨h1, h2, h3, h4⟩ := h
  refine ⟨fun hk => by omega, fun _ => rfl, ?_, ?_⟩
  · rw [h3, Nat.min_self, Nat.min_eq_right (by omega)]
  · rw [Nat.sub_self]
    rfl
theorem seen_high {l : List Nat} {K i n : Nat} {rest : Bool} (h : seen l K i n rest) (hi : K < i) (hl : i < l.length) (h0 : l.getD i 0 = 0) : seen l K (i + 1) n rest := by
  obtain ⟨h1, h2, h3, h4⟩ := h
  refine ⟨fun hk => by omega, fun _ => h2 hi, ?_, ?_⟩
  · rw [h3, Nat.min_eq_right (by omega), Nat.min_eq_right (by omega)]
  · rw [show i + 1 - (K + 1) = i - (K + 1) + 1 by omega, val_take_zero _ _ (by simp; omega)]
    refine ⟨h4, ?_⟩
    simp only [List.getD, List.getElem?_drop] at h0 ⊢
    rw [show K + 1 + (i - (K + 1)) = i by omega]
    exact h0
theorem seen_stop {l : List Nat} {K i p : Nat} (hi : K < i) (hl : i < l.length) (hs : small l) (hp : p < 4294967296) (h0 : 0 < l.getD i 0) : ¬ (val l ≤ p * 4294967296 ^ K) := by
  rw [atMost l K p (by omega) hs hp]
  rintro ⟨h1, _⟩
  rw [pos_of_mem] at h1
  have hm : l.getD i 0 ∈ l.drop (K + 1) := by
    have e : (l.drop (K + 1))[i - (K + 1)]? = some (l.getD i 0) := by
      rw [List.getElem?_drop, show K + 1 + (i - (K + 1)) = i by omega]
      simp [List.getD, List.getElem?_eq_getElem hl]
    exact List.mem_of_getElem? e
  have := h1 _ hm
  omega
theorem seen_end {l : List Nat} {K n p : Nat} {rest : Bool} (h : seen l K l.length n rest) (hK : K < l.length) (hs : small l) (hp : p < 4294967296) : (val l ≤ p * 4294967296 ^ K) ↔ (n < p ∨ n = p ∧ rest = false) := by
  obtain ⟨h1, h2, h3, h4⟩ := h
  rw [atMost l K p hK hs hp, h2 hK, h3, Nat.min_eq_right (by omega)]
  have e : (l.drop (K + 1)).take (l.length - (K + 1)) = l.drop (K + 1) := List.take_of_length_le (by simp)
  rw [e] at h4
  simp [h4]

set_option maxHeartbeats 1000000 in
set_option maxRecDepth 100000 in
/-- The loop and what is behind it, told of the whole function by its two ways in. -/
theorem below_any (x p : Nat) (cube : Bool) (w : World) (hx : x < 274877906944) (hp : p < 4294967296) :
    Calls Tryd.prog 31 #[.int .u64 x, .int .u64 p, .bool cube] w fun e w' => e = .returned (.bool (fits x p cube)) ∧ Below w.heap.size w w' := by
  obtain ⟨a, ha⟩ : ∃ a, a = x % 4294967296 := ⟨_, rfl⟩
  obtain ⟨b, hb⟩ : ∃ b, b = x / 4294967296 := ⟨_, rfl⟩
  have e1 : (x : Int) % 4294967296 = (a : Int) := by omega
  have e2 : (x : Int) / 4294967296 = (b : Int) := by omega
  have sab : small [a, b] := fun y hy => by
    simp at hy
    omega
  have vab : val [a, b] = x := by
    simp only [val]
    omega
  have T2 : ∀ (g : Nat) (w : World), Blk w g 38 (v64s [a, b]) → Calls Tryd.prog 36 #[.agg #[.slice (some ⟨g, 0, none⟩) 2 2], .agg #[.slice (some ⟨g, 0, none⟩) 2 2]] w fun e w' => ∃ gP lo, e = .returned (.agg #[.slice (some ⟨gP, 0, none⟩) 5 5]) ∧ Blk w' gP 38 (v64s lo) ∧ lo.length = 5 ∧ small lo ∧ val lo = x * x ∧ Below w.heap.size w w' := fun g w h => by
    have := times_any g 2 g 2 [a, b] [a, b] w h h rfl rfl sab sab (Or.inl rfl)
    rw [vab] at this
    exact this
  have T3 : ∀ (g h : Nat) (w : World) (lo : List Nat), Blk w g 38 (v64s lo) → Blk w h 38 (v64s [a, b]) → lo.length = 5 → small lo → val lo = x * x → Calls Tryd.prog 36 #[.agg #[.slice (some ⟨g, 0, none⟩) 5 5], .agg #[.slice (some ⟨h, 0, none⟩) 2 2]] w fun e w' => ∃ gP l3, e = .returned (.agg #[.slice (some ⟨gP, 0, none⟩) 8 8]) ∧ Blk w' gP 38 (v64s l3) ∧ l3.length = 8 ∧ small l3 ∧ val l3 = x * x * x ∧ Below w.heap.size w w' := fun g h w lo p1 p2 p3 p4 p5 => by
    have := times_any g 5 h 2 lo [a, b] w p1 p2 p3 rfl p4 sab (Or.inr rfl)
    rw [vab, p5] at this
    exact this
  clear ha hb vab sab
  have b73 := build73
  have z73 : (Tryd.prog.info? 73).map (·.size) = some ([.slice none 0 0] : List Value).length := size73
  have o73 : ∀ (g n : Nat), ∀ u ∈ ([.slice (some ⟨g, 0, none⟩) n n] : List Value), u.oneCell' = true := fun g n u hu => by
    rw [List.mem_singleton] at hu
    rw [hu]
    rfl
  go_enter Tryd.func31, Tryd.ntmps31
  go_wp2_with (first
    | ((with_reducible show wpList _ _ _ (⟨some 18, _, _, _, _, _⟩ :: _) _ _); refine wp_build1 _ rfl 73 0 (.tmp 17) rfl _ rfl _ (b73 _ _ _ _) ?_; simp only [Act.put, List.setIfInBounds_toArray, List.set_cons_zero, List.set_cons_succ])
    | ((with_reducible show wpList _ _ _ (⟨some 7, _, _, _, _, _⟩ :: _) _ _); refine wp_new _ rfl 73 rfl _ zero73 ?_; intro w2 g7 B7 hf2; simp only [Act.put, List.setIfInBounds_toArray, List.set_cons_zero, List.set_cons_succ])
    | ((with_reducible show wpList _ _ _ (⟨none, _, _, _, _, _⟩ :: _) _ _); refine wp_putAll _ rfl 73 (.tmp 7) (.tmp 18) rfl g7 73 _ [.slice (some ⟨w.heap.size, 0, none⟩) 2 2] rfl rfl B7 rfl z73 (o73 _ _) ?_; intro w3 C7 U3; simp only [Act.put])
    | ((with_reducible show wpList _ _ _ (⟨some 19, _, _, _, _, _⟩ :: _) _ _); refine wp_get _ rfl 73 (.tmp 7) rfl g7 0 _ _ rfl C7.whole Tryd.underlying73 rfl z73 ?_; simp only [Act.put, List.setIfInBounds_toArray, List.set_cons_zero, List.set_cons_succ])
    | ((with_reducible show wpList _ _ _ (⟨some 20, _, _, _, _, _⟩ :: _) _ _); refine wp_get _ rfl 73 (.tmp 7) rfl g7 0 _ _ rfl C7.whole Tryd.underlying73 rfl z73 ?_; simp only [Act.put, List.setIfInBounds_toArray, List.set_cons_zero, List.set_cons_succ]))
  have BA : Blk (w.alloc (.cells #[.int .u64 (a : Int), .int .u64 (b : Int)] 38)) w.heap.size 38 (v64s [a, b]) := Blk.new w 38 (v64s [a, b])
  have q1 := hf2.is
  have q2 : (w.alloc (.cells #[.int .u64 (a : Int), .int .u64 (b : Int)] 38)).heap.size = w.heap.size + 1 := World.size_alloc ..
  have bel3 : Below w.heap.size w w3 := (((Below.refl _ _).alloc (Nat.le_refl _) _).trans (hf2.below.mono (by omega))).trans (U3.below (by omega))
  have BA3 := (hf2.blk BA).upd U3 (by omega)
  have L7 : Hid (w.heap.size ≤ g7) := by show _ ≤ _; omega
  clear q1 q2 hf2 U3 BA B7
  refine (T2 _ _ BA3).mono ?_
  rintro e w4 ⟨gP, lo, rfl, BP, hl, sl, vl, hb4⟩
  have bel4 : Below w.heap.size w w4 := bel3.trans (hb4.mono bel3.size)
  have C4 := C7.kept hb4
  have BA4 := BA3.kept hb4
  clear hb4 bel3 C7 BA3
  cases cube with
  | false =>
    have HVL : Hid (val lo = x * x) := vl
    clear vl
    go_wp2_with (first
      | ((with_reducible show wpList _ _ _ (⟨some 8, _, _, _, _, _⟩ :: _) _ _); refine wp_new _ rfl 73 rfl _ zero73 ?_; intro w5 g8 B8 hf5; simp only [Act.put, List.setIfInBounds_toArray, List.set_cons_zero, List.set_cons_succ])
      | ((with_reducible show wpList _ _ _ (⟨none, _, _, _, _, _⟩ :: _) _ _); refine wp_putAll _ rfl 73 (.tmp 8) (.tmp 21) rfl g8 73 _ [.slice (some ⟨gP, 0, none⟩) 5 5] rfl rfl B8 rfl z73 (o73 _ _) ?_; intro w6 D8 U6; have c8 := D8.cell (i := 0) rfl; simp only [Act.put]))
    have q1 := hf5.is
    have q3 := BP.lt
    have belE : Below w.heap.size w w6 := (bel4.trans (hf5.below.mono bel4.size)).trans (U6.below (by have := bel4.size; omega))
    have EP := (hf5.blk BP).upd U6 (by omega)
    clear q1 q3 hf5 U6 B8 C4 BA4 bel4
    go_loop [10, 11, 12] (fun v10 v11 v12 => ∃ (i n : Nat) (rest : Bool), v10 = .int .u64 n ∧ v11 = .bool rest ∧ v12 = .int .i64 i ∧ i ≤ 5 ∧ Hid (seen lo 2 i n rest)) (fun _ _ v => 5 - (intOf v).toNat)
    case atStart => exact ⟨0, 0, false, rfl, rfl, rfl, by omega, seen_start lo 2⟩
    case round =>
      obtain ⟨i, n, rest, rfl, rfl, rfl, hi, HS⟩ := hrel
      by_cases hlt : i < 5
      · have cx := EP.cell (v64s_get lo i (by omega))
        rw [v64] at cx
        by_cases hlo : i < 2
        · have HX := Lib.hid (seen_low HS.out hlo (by omega))
          generalize lo.getD i 0 = y at *
          cases rest with
          | true =>
            go_wp2_with fail
            go_round
            case rel => exact ⟨i + 1, n, true, rfl, rfl, by go_num, by omega, Lib.hid (by simpa using HX.out)⟩
            case measure => simp [intOf]; omega
          | false =>
            go_wp2_with fail
            go_round
            case rel => exact ⟨i + 1, n, decide (0 < y), rfl, by simp, by go_num, by omega, Lib.hid (by simpa using HX.out)⟩
            case measure => simp [intOf]; omega
        · by_cases hat : i = 2
          · subst hat
            have HX := Lib.hid (seen_at HS.out)
            generalize lo.getD 2 0 = y at *
            go_wp2_with fail
            go_round
            case rel => exact ⟨2 + 1, y, rest, rfl, rfl, by go_num, by omega, HX⟩
            case measure => simp [intOf]
          · have ne1 : ¬ ((i : Int) = 2) := by omega
            by_cases hz : lo.getD i 0 = 0
            · have HX := Lib.hid (seen_high HS.out (by omega) (by omega) hz)
              rw [hz] at cx
              go_wp2_with fail
              go_round
              case rel => exact ⟨i + 1, n, rest, rfl, rfl, by go_num, by omega, HX⟩
              case measure => simp [intOf]; omega
            · have HF : Hid (fits x p false = false) := by
                have := seen_stop (K := 2) (i := i) (p := p) (by omega) (by omega) sl hp (by omega)
                rw [HVL.out] at this
                show _ = _
                simp [fits, this]
              have hy : 0 < lo.getD i 0 := by omega
              generalize lo.getD i 0 = y at *
              have hy2 : (0 : Int) < (y : Int) := by omega
              go_wp2_with fail
              go_ret
              exact ⟨by rw [HF.out]; rfl, belE⟩
      · have hin : i = 5 := by omega
        subst hin
        have hseen := HS.out
        have HE : Hid (fits x p false = decide (n < p ∨ n = p ∧ rest = false)) := by
          have := seen_end (l := lo) (K := 2) (n := n) (p := p) (rest := rest) (by rw [hl]; exact hseen) (by omega) sl hp
          rw [HVL.out] at this
          show _ = _
          simp [fits, this]
        clear hseen
        rcases Nat.lt_trichotomy n p with h1 | h1 | h1
        · have HE2 : Hid (fits x p false = true) := by show _ = _; rw [HE.out]; simp [h1]
          have h2 : (n : Int) < (p : Int) := by omega
          go_wp2_with fail
          go_ret
          exact ⟨by rw [HE2.out]; rfl, belE⟩
        · subst h1
          have HE2 : Hid (fits x n false = !rest) := by
            show _ = _
            rw [HE.out]
            cases rest <;> simp
          have h2 : ¬ ((n : Int) < (n : Int)) := by omega
          cases rest with
          | true =>
            go_wp2_with fail
            go_ret
            exact ⟨by rw [HE2.out]; rfl, belE⟩
          | false =>
            go_wp2_with fail
            go_ret
            exact ⟨by rw [HE2.out]; rfl, belE⟩
        · have HE2 : Hid (fits x p false = false) := by
            have a1 : ¬ (n < p) := by omega
            have a2 : ¬ (n = p) := by omega
            show _ = _
            rw [HE.out]
            simp [a1, a2]
          have h2 : ¬ ((n : Int) < (p : Int)) := by omega
          have h3 : ¬ ((n : Int) = (p : Int)) := by omega
          go_wp2_with fail
          go_ret
          exact ⟨by rw [HE2.out]; rfl, belE⟩
  | true =>
    go_wp2_with (first
      | ((with_reducible show wpList _ _ _ (⟨some 8, _, _, _, _, _⟩ :: _) _ _); refine wp_new _ rfl 73 rfl _ zero73 ?_; intro w5 g8 B8 hf5; simp only [Act.put, List.setIfInBounds_toArray, List.set_cons_zero, List.set_cons_succ])
      | ((with_reducible show wpList _ _ _ (⟨none, _, _, _, _, _⟩ :: _) _ _); refine wp_putAll _ rfl 73 (.tmp 8) (.tmp 21) rfl g8 73 _ [.slice (some ⟨gP, 0, none⟩) 5 5] rfl rfl B8 rfl z73 (o73 _ _) ?_; intro w6 D8 U6; have q1 := hf5.is; have q3 := BP.lt; have q4 := C4.lt; have q5 := BA4.lt; have bel6 : Below w.heap.size w w6 := (bel4.trans (hf5.below.mono bel4.size)).trans (U6.below (by have := bel4.size; omega)); have BP6 := (hf5.blk BP).upd U6 (by omega); have C6 := (hf5.blk C4).upd U6 (by omega); have BA6 := (hf5.blk BA4).upd U6 (by omega); have L8 : w.heap.size ≤ g8 := (by have := bel4.size; omega); simp only [Act.put])
      | ((with_reducible show wpList _ _ _ (⟨some 23, _, _, _, _, _⟩ :: _) _ _); refine wp_get _ rfl 73 (.tmp 8) rfl g8 0 _ _ rfl D8.whole Tryd.underlying73 rfl z73 ?_; simp only [Act.put, List.setIfInBounds_toArray, List.set_cons_zero, List.set_cons_succ])
      | ((with_reducible show wpList _ _ _ (⟨some 24, _, _, _, _, _⟩ :: _) _ _); refine wp_get _ rfl 73 (.tmp 7) rfl g7 0 _ _ rfl C6.whole Tryd.underlying73 rfl z73 ?_; simp only [Act.put, List.setIfInBounds_toArray, List.set_cons_zero, List.set_cons_succ]))
    have HL8 := Lib.hid L8
    clear q1 q3 q4 q5 hf5 U6 B8 C4 BA4 bel4 BP L8
    refine (T3 _ _ _ lo BP6 BA6 hl sl vl).mono ?_
    rintro e w7 ⟨gQ, l3, rfl, BQ, hl3, sl3, vl3, hb7⟩
    have bel7 : Below w.heap.size w w7 := bel6.trans (hb7.mono bel6.size)
    have E8 := D8.kept hb7
    have hne : Hid (gQ ≠ g8) := fun h => by
      subst h
      have h9 := Option.some.inj (BQ.symm.trans E8)
      injection h9 with _ h9
      exact absurd h9 (by decide)
    have HVL3 : Hid (val l3 = x * x * x) := vl3
    clear vl3
    clear hb7 D8 bel6 BP6 C6 BA6 hl sl vl
    go_wp2_with ((with_reducible show wpList _ _ _ (⟨none, _, _, _, _, _⟩ :: _) _ _); refine wp_putAll _ rfl 73 (.tmp 8) (.tmp 25) rfl g8 73 _ [.slice (some ⟨gQ, 0, none⟩) 8 8] rfl rfl E8 rfl z73 (o73 _ _) ?_; intro w8 F8 U8; have c8 := F8.cell (i := 0) rfl; have EP := BQ.upd U8 hne.out; have belE : Below w.heap.size w w8 := bel7.trans (U8.below HL8.out); simp only [Act.put])
    go_loop [10, 11, 12] (fun v10 v11 v12 => ∃ (i n : Nat) (rest : Bool), v10 = .int .u64 n ∧ v11 = .bool rest ∧ v12 = .int .i64 i ∧ i ≤ 8 ∧ Hid (seen l3 3 i n rest)) (fun _ _ v => 8 - (intOf v).toNat)
    case atStart => exact ⟨0, 0, false, rfl, rfl, rfl, by omega, seen_start l3 3⟩
    case round =>
      obtain ⟨i, n, rest, rfl, rfl, rfl, hi, HS⟩ := hrel
      by_cases hlt : i < 8
      · have cx := EP.cell (v64s_get l3 i (by omega))
        rw [v64] at cx
        by_cases hlo : i < 3
        · have HX := Lib.hid (seen_low HS.out hlo (by omega))
          generalize l3.getD i 0 = y at *
          cases rest with
          | true =>
            go_wp2_with fail
            go_round
            case rel => exact ⟨i + 1, n, true, rfl, rfl, by go_num, by omega, Lib.hid (by simpa using HX.out)⟩
            case measure => simp [intOf]; omega
          | false =>
            go_wp2_with fail
            go_round
            case rel => exact ⟨i + 1, n, decide (0 < y), rfl, by simp, by go_num, by omega, Lib.hid (by simpa using HX.out)⟩
            case measure => simp [intOf]; omega
        · by_cases hat : i = 3
          · subst hat
            have HX := Lib.hid (seen_at HS.out)
            generalize l3.getD 3 0 = y at *
            go_wp2_with fail
            go_round
            case rel => exact ⟨3 + 1, y, rest, rfl, rfl, by go_num, by omega, HX⟩
            case measure => simp [intOf]
          · have ne1 : ¬ ((i : Int) = 3) := by omega
            by_cases hz : l3.getD i 0 = 0
            · have HX := Lib.hid (seen_high HS.out (by omega) (by omega) hz)
              rw [hz] at cx
              go_wp2_with fail
              go_round
              case rel => exact ⟨i + 1, n, rest, rfl, rfl, by go_num, by omega, HX⟩
              case measure => simp [intOf]; omega
            · have HF : Hid (fits x p true = false) := by
                have := seen_stop (K := 3) (i := i) (p := p) (by omega) (by omega) sl3 hp (by omega)
                rw [HVL3.out] at this
                show _ = _
                simp [fits, this]
              have hy : 0 < l3.getD i 0 := by omega
              generalize l3.getD i 0 = y at *
              have hy2 : (0 : Int) < (y : Int) := by omega
              go_wp2_with fail
              go_ret
              exact ⟨by rw [HF.out]; rfl, belE⟩
      · have hin : i = 8 := by omega
        subst hin
        have hseen := HS.out
        have HE : Hid (fits x p true = decide (n < p ∨ n = p ∧ rest = false)) := by
          have := seen_end (l := l3) (K := 3) (n := n) (p := p) (rest := rest) (by rw [hl3]; exact hseen) (by omega) sl3 hp
          rw [HVL3.out] at this
          show _ = _
          simp [fits, this]
        clear hseen
        rcases Nat.lt_trichotomy n p with h1 | h1 | h1
        · have HE2 : Hid (fits x p true = true) := by show _ = _; rw [HE.out]; simp [h1]
          have h2 : (n : Int) < (p : Int) := by omega
          go_wp2_with fail
          go_ret
          exact ⟨by rw [HE2.out]; rfl, belE⟩
        · subst h1
          have HE2 : Hid (fits x n true = !rest) := by
            show _ = _
            rw [HE.out]
            cases rest <;> simp
          have h2 : ¬ ((n : Int) < (n : Int)) := by omega
          cases rest with
          | true =>
            go_wp2_with fail
            go_ret
            exact ⟨by rw [HE2.out]; rfl, belE⟩
          | false =>
            go_wp2_with fail
            go_ret
            exact ⟨by rw [HE2.out]; rfl, belE⟩
        · have HE2 : Hid (fits x p true = false) := by
            have a1 : ¬ (n < p) := by omega
            have a2 : ¬ (n = p) := by omega
            show _ = _
            rw [HE.out]
            simp [a1, a2]
          have h2 : ¬ ((n : Int) < (p : Int)) := by omega
          have h3 : ¬ ((n : Int) = (p : Int)) := by omega
          go_wp2_with fail
          go_ret
          exact ⟨by rw [HE2.out]; rfl, belE⟩
end Go.Proofs.YtiigmpoopmnnhaaDoor
