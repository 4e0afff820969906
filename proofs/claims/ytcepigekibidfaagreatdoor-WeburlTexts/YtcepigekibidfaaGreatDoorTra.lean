/-
  What transeptref08.lower, dot and dots answer; nothing that was there turns. Condition: texts of at most 100000000 bytes.
-/
import Derived.Test.YtcepigekibidfaaGreatDoorRhq
namespace Go.Proofs.YtcepigekibidfaaGreatDoor
open Go.RowKit
set_option linter.unusedVariables false

set_option maxHeartbeats 4000000 in
set_option maxRecDepth 100000 in
theorem rlower_any (l : List UInt8) (w : World) (hl : l.length ≤ 100000000) : Calls Tryz.prog 41 #[.string (str l)] w fun e w' => e = .returned (.string (str (low l))) ∧ Below w.heap.size w w' := by
  have hsz := str_size l
  obtain ⟨S, hS⟩ : ∃ S, S = l.length := ⟨_, rfl⟩
  have hgb : Hid (∀ k, k < S → ∀ h, ((str l)[k]'h).toNat = (l.getD k 0).toNat) := fun k hk h => str_at l k (by omega) h
  have hsu : Hid (∀ k, k < S → low (l.take (k + 1)) = low (l.take k) ++ [Lib.lowerB (l.getD k 0)]) := fun k hk => low_more l k (by omega)
  have hfull : Hid (low (l.take S) = low l) := by show _ = _; rw [hS, List.take_length]
  rw [← hS] at hsz hl
  clear hS
  go_enter Tryz.func41, Tryz.ntmps41
  go_wp2_with fail
  have hown0 : Own (w.alloc (.cells #[] 5)) w.heap.size (.slice (some ⟨w.heap.size, 0, none⟩) 0 0) 0 [] := own_empty w w.heap.size (Nat.le_refl _)
  go_loopw [4, 3] (fun i v wr => ∃ (k : Nat) (v0 : Value), k ≤ S ∧ i = .int .i64 (k : Int) ∧ v0 = v ∧ Own wr w.heap.size v0 k (low (l.take k)) ∧ Kept w wr) (fun i _ _ => S - (intOf i).toNat)
  case atStart => exact ⟨0, _, by omega, rfl, rfl, by simpa [low, Lib.toLowerA] using hown0, (Kept.refl w).alloc _⟩
  case round =>
    obtain ⟨k, v0, hk, rfl, rfl, hown, hkp⟩ := hrel
    clear hown0
    have HOwn := Lib.hid hown
    have HK := Lib.hid hkp
    have hbs : Hid (w.heap.size ≤ wr.heap.size) := hkp.size
    clear hkp
    by_cases hlt : k < S
    · have hkS : (k : Int) < (S : Int) := by omega
      clear hown
      have HG := hgb.out k hlt
      have HLO := hsu.out k hlt
      obtain ⟨c, hc⟩ : ∃ c, c = l.getD k 0 := ⟨_, rfl⟩
      rw [← hc] at HG HLO
      obtain ⟨m, hm⟩ : ∃ m, m = c.toNat := ⟨_, rfl⟩
      rw [← hm] at HG
      have hm9 : m < 256 := by rw [hm]; exact c.toNat_lt
      have hlb := lowerB_is c
      rw [← hm] at hlb
      obtain ⟨A, hA⟩ : ∃ X, X = low (l.take k) := ⟨_, rfl⟩
      obtain ⟨Y, hY⟩ : ∃ X, X = low (l.take (k + 1)) := ⟨_, rfl⟩
      have HOwn : Hid (Own wr w.heap.size v0 k A) := by rw [hA]; exact HOwn.out
      rw [← hA, ← hY] at HLO
      have HY0 := Lib.hid hY
      clear hA hY
      by_cases hr : 65 ≤ m ∧ m ≤ 90
      · have c1 : decide ((65 : Int) ≤ (m : Int)) = true := by simp; omega
        have c2 : decide ((m : Int) ≤ 90) = true := by simp; omega
        rw [if_pos hr] at hlb
        rw [hlb] at HLO
        obtain ⟨m2, hm2⟩ : ∃ m2, m2 = m + 32 := ⟨_, rfl⟩
        have e2 : (c + 32).toNat = m2 := by
          rw [UInt8.toNat_add, hm2, hm]
          show (c.toNat + 32) % 256 = _
          omega
        have hm2i : (m : Int) + 32 = (m2 : Int) := by omega
        have hm2w : IntKind.u8.wrap (m2 : Int) = (m2 : Int) := by rw [IntKind.wrap_u8]; omega
        generalize c + 32 = cc at HLO e2
        have HB : Hid ((m2 : Int) = (cc.toNat : Int)) := by show _ = _; rw [e2]
        have HY : Hid (A ++ [cc] = low (l.take (k + 1))) := by show _ = _; rw [← HLO]; exact HY0.out
        clear hlb hm2 e2 HY0
        clear hc hm HLO hr
        go_wp2_with (first
          | ((with_reducible show wpList _ _ _ (⟨some 27, .call _, _, _, _, _⟩ :: _) _ _); refine wp_app _ rfl (.tmp 24) (.tmp 26) rfl w.heap.size _ k A rfl (HOwn.out.alloc _) (wr.heap.size + 1) _ 1 1 [cc] rfl (Bs.one' _ _ _ HB.out) (by omega) (by simp; have := hbs.out; omega) ?_; intro v6 w6 hown6 hb6; simp only [Act.put, List.setIfInBounds_toArray, List.set_cons_zero, List.set_cons_succ]))
        go_roundw
        case rel => exact ⟨k + 1, _, by omega, by go_num, rfl, by rw [HY.out] at hown6; exact hown6, (HK.out.alloc _).base hb6⟩
        case measure => simp [intOf]; omega
      · rw [if_neg hr] at hlb
        rw [hlb] at HLO
        have HB : Hid ((m : Int) = (c.toNat : Int)) := by show _ = _; rw [hm]
        have HY : Hid (A ++ [c] = low (l.take (k + 1))) := by show _ = _; rw [← HLO]; exact HY0.out
        clear hlb HY0
        by_cases h65 : 65 ≤ m
        · have c1 : decide ((65 : Int) ≤ (m : Int)) = true := by simp; omega
          have c2 : decide ((m : Int) ≤ 90) = false := by simp; omega
          clear hc hm HLO hr h65
          go_wp2_with (first
            | ((with_reducible show wpList _ _ _ (⟨some 27, .call _, _, _, _, _⟩ :: _) _ _); refine wp_app _ rfl (.tmp 24) (.tmp 26) rfl w.heap.size _ k A rfl (HOwn.out.alloc _) (wr.heap.size + 1) _ 1 1 [c] rfl (Bs.one' _ _ _ HB.out) (by omega) (by simp; have := hbs.out; omega) ?_; intro v6 w6 hown6 hb6; simp only [Act.put, List.setIfInBounds_toArray, List.set_cons_zero, List.set_cons_succ]))
          go_roundw
          case rel => exact ⟨k + 1, _, by omega, by go_num, rfl, by rw [HY.out] at hown6; exact hown6, (HK.out.alloc _).base hb6⟩
          case measure => simp [intOf]; omega
        · have c1 : decide ((65 : Int) ≤ (m : Int)) = false := by simp; omega
          clear hc hm HLO hr h65
          go_wp2_with (first
            | ((with_reducible show wpList _ _ _ (⟨some 27, .call _, _, _, _, _⟩ :: _) _ _); refine wp_app _ rfl (.tmp 24) (.tmp 26) rfl w.heap.size _ k A rfl (HOwn.out.alloc _) (wr.heap.size + 1) _ 1 1 [c] rfl (Bs.one' _ _ _ HB.out) (by omega) (by simp; have := hbs.out; omega) ?_; intro v6 w6 hown6 hb6; simp only [Act.put, List.setIfInBounds_toArray, List.set_cons_zero, List.set_cons_succ]))
          go_roundw
          case rel => exact ⟨k + 1, _, by omega, by go_num, rfl, by rw [HY.out] at hown6; exact hown6, (HK.out.alloc _).base hb6⟩
          case measure => simp [intOf]; omega
    · have hkS : ¬ (k : Int) < (S : Int) := by omega
      have hkE : Hid (k = S) := by show _ = _; omega
      clear hlt hk HOwn
      obtain ⟨A, cc, rfl, hcc, hs⟩ := hown.form
      have hst := run_str wr _ A k cc _ hs
      go_wp2_with fail
      go_ret
      refine ⟨?_, HK.out⟩
      rw [← hfull.out, ← hkE.out]
      rfl
set_option maxHeartbeats 1000000 in
set_option maxRecDepth 100000 in
theorem dt0 (l : List UInt8) (S b0 b1 b2 : Nat) (w : World) (hsz : (str l).size = S) (hg0 : ∀ h, ((str l)[0]'h).toNat = b0) (hg1 : ∀ h, ((str l)[1]'h).toNat = b1) (hg2 : ∀ h, ((str l)[2]'h).toNat = b2) (he : (str l).toList.isEmpty = true) (h3 : ¬ (3 : Int) ≤ (S : Int)) : Calls Tryz.prog 139 #[.string (str l)] w fun e w' => e = .returned (.int .i64 0) ∧ w' = w := by
    go_enter Tryz.func139, Tryz.ntmps139
    go_wp2_with fail
    go_ret
    exact ⟨rfl, rfl⟩
set_option maxHeartbeats 1000000 in
set_option maxRecDepth 100000 in
theorem dt1 (l : List UInt8) (S b0 b1 b2 : Nat) (w : World) (hsz : (str l).size = S) (hg0 : ∀ h, ((str l)[0]'h).toNat = b0) (hg1 : ∀ h, ((str l)[1]'h).toNat = b1) (hg2 : ∀ h, ((str l)[2]'h).toNat = b2) (he : (str l).toList.isEmpty = false) (hS1 : 1 ≤ S) (c0 : ((b0 : Int) == 46) = true) : Calls Tryz.prog 139 #[.string (str l)] w fun e w' => e = .returned (.int .i64 1) ∧ w' = w := by
    go_enter Tryz.func139, Tryz.ntmps139
    go_wp2_with fail
    go_ret
    exact ⟨rfl, rfl⟩
set_option maxHeartbeats 1000000 in
set_option maxRecDepth 100000 in
theorem dt2 (l : List UInt8) (S b0 b1 b2 : Nat) (w : World) (hsz : (str l).size = S) (hg0 : ∀ h, ((str l)[0]'h).toNat = b0) (hg1 : ∀ h, ((str l)[1]'h).toNat = b1) (hg2 : ∀ h, ((str l)[2]'h).toNat = b2) (he : (str l).toList.isEmpty = false) (hS1 : 1 ≤ S) (c0 : ((b0 : Int) == 46) = false) (h3 : ¬ (3 : Int) ≤ (S : Int)) : Calls Tryz.prog 139 #[.string (str l)] w fun e w' => e = .returned (.int .i64 0) ∧ w' = w := by
    go_enter Tryz.func139, Tryz.ntmps139
    go_wp2_with fail
    go_ret
    exact ⟨rfl, rfl⟩
set_option maxHeartbeats 1000000 in
set_option maxRecDepth 100000 in
theorem dt3 (l : List UInt8) (S b0 b1 b2 : Nat) (w : World) (hsz : (str l).size = S) (hg0 : ∀ h, ((str l)[0]'h).toNat = b0) (hg1 : ∀ h, ((str l)[1]'h).toNat = b1) (hg2 : ∀ h, ((str l)[2]'h).toNat = b2) (he : (str l).toList.isEmpty = false) (hS1 : 1 ≤ S) (c0 : ((b0 : Int) == 46) = false) (h3 : (3 : Int) ≤ (S : Int)) (c1 : ((b0 : Int) == 37) = false) : Calls Tryz.prog 139 #[.string (str l)] w fun e w' => e = .returned (.int .i64 0) ∧ w' = w := by
    go_enter Tryz.func139, Tryz.ntmps139
    go_wp2_with fail
    go_ret
    exact ⟨rfl, rfl⟩
set_option maxHeartbeats 1000000 in
set_option maxRecDepth 100000 in
theorem dt4 (l : List UInt8) (S b0 b1 b2 : Nat) (w : World) (hsz : (str l).size = S) (hg0 : ∀ h, ((str l)[0]'h).toNat = b0) (hg1 : ∀ h, ((str l)[1]'h).toNat = b1) (hg2 : ∀ h, ((str l)[2]'h).toNat = b2) (he : (str l).toList.isEmpty = false) (hS1 : 1 ≤ S) (c0 : ((b0 : Int) == 46) = false) (h3 : (3 : Int) ≤ (S : Int)) (c1 : ((b0 : Int) == 37) = true) (c2 : ((b1 : Int) == 50) = false) : Calls Tryz.prog 139 #[.string (str l)] w fun e w' => e = .returned (.int .i64 0) ∧ w' = w := by
    go_enter Tryz.func139, Tryz.ntmps139
    go_wp2_with fail
    go_ret
    exact ⟨rfl, rfl⟩
set_option maxHeartbeats 1000000 in
set_option maxRecDepth 100000 in
theorem dt5 (l : List UInt8) (S b0 b1 b2 : Nat) (w : World) (hsz : (str l).size = S) (hg0 : ∀ h, ((str l)[0]'h).toNat = b0) (hg1 : ∀ h, ((str l)[1]'h).toNat = b1) (hg2 : ∀ h, ((str l)[2]'h).toNat = b2) (he : (str l).toList.isEmpty = false) (hS1 : 1 ≤ S) (c0 : ((b0 : Int) == 46) = false) (h3 : (3 : Int) ≤ (S : Int)) (c1 : ((b0 : Int) == 37) = true) (c2 : ((b1 : Int) == 50) = true) (c3 : ((b2 : Int) == 101) = true) : Calls Tryz.prog 139 #[.string (str l)] w fun e w' => e = .returned (.int .i64 3) ∧ w' = w := by
    go_enter Tryz.func139, Tryz.ntmps139
    go_wp2_with fail
    go_ret
    exact ⟨rfl, rfl⟩
set_option maxHeartbeats 1000000 in
set_option maxRecDepth 100000 in
theorem dt6 (l : List UInt8) (S b0 b1 b2 : Nat) (w : World) (hsz : (str l).size = S) (hg0 : ∀ h, ((str l)[0]'h).toNat = b0) (hg1 : ∀ h, ((str l)[1]'h).toNat = b1) (hg2 : ∀ h, ((str l)[2]'h).toNat = b2) (he : (str l).toList.isEmpty = false) (hS1 : 1 ≤ S) (c0 : ((b0 : Int) == 46) = false) (h3 : (3 : Int) ≤ (S : Int)) (c1 : ((b0 : Int) == 37) = true) (c2 : ((b1 : Int) == 50) = true) (c3 : ((b2 : Int) == 101) = false) (c4 : ((b2 : Int) == 69) = true) : Calls Tryz.prog 139 #[.string (str l)] w fun e w' => e = .returned (.int .i64 3) ∧ w' = w := by
    go_enter Tryz.func139, Tryz.ntmps139
    go_wp2_with fail
    go_ret
    exact ⟨rfl, rfl⟩
set_option maxHeartbeats 1000000 in
set_option maxRecDepth 100000 in
theorem dt7 (l : List UInt8) (S b0 b1 b2 : Nat) (w : World) (hsz : (str l).size = S) (hg0 : ∀ h, ((str l)[0]'h).toNat = b0) (hg1 : ∀ h, ((str l)[1]'h).toNat = b1) (hg2 : ∀ h, ((str l)[2]'h).toNat = b2) (he : (str l).toList.isEmpty = false) (hS1 : 1 ≤ S) (c0 : ((b0 : Int) == 46) = false) (h3 : (3 : Int) ≤ (S : Int)) (c1 : ((b0 : Int) == 37) = true) (c2 : ((b1 : Int) == 50) = true) (c3 : ((b2 : Int) == 101) = false) (c4 : ((b2 : Int) == 69) = false) : Calls Tryz.prog 139 #[.string (str l)] w fun e w' => e = .returned (.int .i64 0) ∧ w' = w := by
    go_enter Tryz.func139, Tryz.ntmps139
    go_wp2_with fail
    go_ret
    exact ⟨rfl, rfl⟩
theorem rdot_any (l : List UInt8) (w : World) : Calls Tryz.prog 139 #[.string (str l)] w fun e w' => e = .returned (.int .i64 (dot l : Int)) ∧ w' = w := by
  have hsz := str_size l
  have eqb : ∀ (x y : UInt8), (((x.toNat : Nat) : Int) == (y.toNat : Int)) = decide (x = y) := fun x y => by
    by_cases hxy : x = y
    · rw [decide_eq_true hxy, hxy]; simp
    · rw [decide_eq_false hxy, beq_eq_false_iff_ne]
      intro e
      exact hxy (UInt8.toNat.inj (by omega))
  match l, hsz with
  | [], hsz => exact dt0 [] 0 0 0 0 w hsz (fun h => absurd h (by rw [hsz]; simp)) (fun h => absurd h (by rw [hsz]; simp)) (fun h => absurd h (by rw [hsz]; simp)) (by rw [toList_str]; rfl) (by decide)
  | a :: r, hsz =>
    have he : (str (a :: r)).toList.isEmpty = false := by rw [toList_str]; rfl
    have g0 : ∀ h, ((str (a :: r))[0]'h).toNat = a.toNat := fun h => str_at _ 0 (by simp) h
    have g1 : ∀ h, ((str (a :: r))[1]'h).toNat = ((a :: r).getD 1 0).toNat := fun h => str_at _ 1 (by rw [str_size] at h; exact h) h
    have g2 : ∀ h, ((str (a :: r))[2]'h).toNat = ((a :: r).getD 2 0).toNat := fun h => str_at _ 2 (by rw [str_size] at h; exact h) h
    have hS1 : 1 ≤ (a :: r).length := by simp
    by_cases h46 : a = 46
    · have hd : dot (a :: r) = 1 := by rw [h46]; rfl
      rw [hd]
      exact dt1 _ _ _ _ _ w hsz g0 g1 g2 he hS1 ((eqb a 46).trans (decide_eq_true h46))
    · have c0 := (eqb a 46).trans (decide_eq_false h46)
      match r, hsz, he, g0, g1, g2, hS1 with
      | [], hsz, he, g0, g1, g2, hS1 =>
        have hd : dot [a] = 0 := by unfold dot; simp [h46]
        rw [hd]
        exact dt2 _ _ _ _ _ w hsz g0 g1 g2 he hS1 c0 (by show ¬ (3 : Int) ≤ ((1 : Nat) : Int); decide)
      | [b], hsz, he, g0, g1, g2, hS1 =>
        have hd : dot [a, b] = 0 := by unfold dot; simp [h46]
        rw [hd]
        exact dt2 _ _ _ _ _ w hsz g0 g1 g2 he hS1 c0 (by show ¬ (3 : Int) ≤ ((2 : Nat) : Int); decide)
      | b :: c :: t, hsz, he, g0, g1, g2, hS1 =>
        have h3 : (3 : Int) ≤ ((a :: b :: c :: t).length : Int) := by simp only [List.length_cons]; omega
        have g1' : ∀ h, ((str (a :: b :: c :: t))[1]'h).toNat = b.toNat := g1
        have g2' : ∀ h, ((str (a :: b :: c :: t))[2]'h).toNat = c.toNat := g2
        by_cases h37 : a = 37
        · have c1 := (eqb a 37).trans (decide_eq_true h37)
          by_cases h50 : b = 50
          · have c2 := (eqb b 50).trans (decide_eq_true h50)
            by_cases h101 : c = 101
            · have hd : dot (a :: b :: c :: t) = 3 := by rw [h37, h50, h101]; rfl
              rw [hd]
              exact dt5 _ _ _ _ _ w hsz g0 g1' g2' he hS1 c0 h3 c1 c2 ((eqb c 101).trans (decide_eq_true h101))
            · have c3 := (eqb c 101).trans (decide_eq_false h101)
              by_cases h69 : c = 69
              · have hd : dot (a :: b :: c :: t) = 3 := by rw [h37, h50, h69]; rfl
                rw [hd]
                exact dt6 _ _ _ _ _ w hsz g0 g1' g2' he hS1 c0 h3 c1 c2 c3 ((eqb c 69).trans (decide_eq_true h69))
              · have hd : dot (a :: b :: c :: t) = 0 := dot_zero a b c t h46 (fun h => h.2.2.elim h101 h69)
                rw [hd]
                exact dt7 _ _ _ _ _ w hsz g0 g1' g2' he hS1 c0 h3 c1 c2 c3 ((eqb c 69).trans (decide_eq_false h69))
          · have hd : dot (a :: b :: c :: t) = 0 := dot_zero a b c t h46 (fun h => h50 h.2.1)
            rw [hd]
            exact dt4 _ _ _ _ _ w hsz g0 g1' g2' he hS1 c0 h3 c1 ((eqb b 50).trans (decide_eq_false h50))
        · have hd : dot (a :: b :: c :: t) = 0 := dot_zero a b c t h46 (fun h => h37 h.1)
          rw [hd]
          exact dt3 _ _ _ _ _ w hsz g0 g1' g2' he hS1 c0 h3 ((eqb a 37).trans (decide_eq_false h37))
set_option maxHeartbeats 1000000 in
set_option maxRecDepth 100000 in
theorem ds0 (l t : List UInt8) (S D1 D2 : Nat) (w : World) (hsz : (str l).size = S) (hS : S ≤ 100000000) (hD : D1 ≤ S) (hD2 : D2 ≤ S) (ht : (str l).extract D1 S = str t) (H1 : Hid (∀ W, Calls Tryz.prog 139 #[.string (str l)] W fun e w' => e = .returned (.int .i64 (D1 : Int)) ∧ w' = W)) (H2 : Hid (∀ W, Calls Tryz.prog 139 #[.string (str t)] W fun e w' => e = .returned (.int .i64 (D2 : Int)) ∧ w' = W)) (c1 : ((D1 : Int) == 0) = true) : Calls Tryz.prog 104 #[.string (str l)] w fun e w' => e = .returned (.int .i64 0) ∧ w' = w := by
    go_enter Tryz.func104, Tryz.ntmps104
    go_wp2_with (first
      | (go_at_call 139; (with_reducible refine (H1.out _).mono ?_); rintro e w1 ⟨rfl, rfl⟩)
      | (go_at_call 139; (with_reducible refine (H2.out _).mono ?_); rintro e w2 ⟨rfl, rfl⟩))
    go_ret
    exact ⟨rfl, rfl⟩
set_option maxHeartbeats 1000000 in
set_option maxRecDepth 100000 in
theorem ds1 (l t : List UInt8) (S D1 D2 : Nat) (w : World) (hsz : (str l).size = S) (hS : S ≤ 100000000) (hD : D1 ≤ S) (hD2 : D2 ≤ S) (ht : (str l).extract D1 S = str t) (H1 : Hid (∀ W, Calls Tryz.prog 139 #[.string (str l)] W fun e w' => e = .returned (.int .i64 (D1 : Int)) ∧ w' = W)) (H2 : Hid (∀ W, Calls Tryz.prog 139 #[.string (str t)] W fun e w' => e = .returned (.int .i64 (D2 : Int)) ∧ w' = W)) (c1 : ((D1 : Int) == 0) = false) (c2 : ((D1 : Int) == (S : Int)) = true) : Calls Tryz.prog 104 #[.string (str l)] w fun e w' => e = .returned (.int .i64 1) ∧ w' = w := by
    go_enter Tryz.func104, Tryz.ntmps104
    go_wp2_with (first
      | (go_at_call 139; (with_reducible refine (H1.out _).mono ?_); rintro e w1 ⟨rfl, rfl⟩)
      | (go_at_call 139; (with_reducible refine (H2.out _).mono ?_); rintro e w2 ⟨rfl, rfl⟩))
    go_ret
    exact ⟨rfl, rfl⟩
set_option maxHeartbeats 1000000 in
set_option maxRecDepth 100000 in
theorem ds2 (l t : List UInt8) (S D1 D2 : Nat) (w : World) (hsz : (str l).size = S) (hS : S ≤ 100000000) (hD : D1 ≤ S) (hD2 : D2 ≤ S) (ht : (str l).extract D1 S = str t) (H1 : Hid (∀ W, Calls Tryz.prog 139 #[.string (str l)] W fun e w' => e = .returned (.int .i64 (D1 : Int)) ∧ w' = W)) (H2 : Hid (∀ W, Calls Tryz.prog 139 #[.string (str t)] W fun e w' => e = .returned (.int .i64 (D2 : Int)) ∧ w' = W)) (c1 : ((D1 : Int) == 0) = false) (c2 : ((D1 : Int) == (S : Int)) = false) (c3 : ¬ (0 : Int) < (D2 : Int)) : Calls Tryz.prog 104 #[.string (str l)] w fun e w' => e = .returned (.int .i64 0) ∧ w' = w := by
    go_enter Tryz.func104, Tryz.ntmps104
    go_wp2_with (first
      | (go_at_call 139; (with_reducible refine (H1.out _).mono ?_); rintro e w1 ⟨rfl, rfl⟩)
      | (go_at_call 139; (with_reducible refine (H2.out _).mono ?_); rintro e w2 ⟨rfl, rfl⟩))
    go_ret
    exact ⟨rfl, rfl⟩
set_option maxHeartbeats 1000000 in
set_option maxRecDepth 100000 in
theorem ds3 (l t : List UInt8) (S D1 D2 : Nat) (w : World) (hsz : (str l).size = S) (hS : S ≤ 100000000) (hD : D1 ≤ S) (hD2 : D2 ≤ S) (ht : (str l).extract D1 S = str t) (H1 : Hid (∀ W, Calls Tryz.prog 139 #[.string (str l)] W fun e w' => e = .returned (.int .i64 (D1 : Int)) ∧ w' = W)) (H2 : Hid (∀ W, Calls Tryz.prog 139 #[.string (str t)] W fun e w' => e = .returned (.int .i64 (D2 : Int)) ∧ w' = W)) (c1 : ((D1 : Int) == 0) = false) (c2 : ((D1 : Int) == (S : Int)) = false) (c3 : (0 : Int) < (D2 : Int)) (T : Nat) (hT : (D1 : Int) + (D2 : Int) = (T : Int)) (c4 : ((T : Int) == (S : Int)) = true) : Calls Tryz.prog 104 #[.string (str l)] w fun e w' => e = .returned (.int .i64 2) ∧ w' = w := by
    go_enter Tryz.func104, Tryz.ntmps104
    go_wp2_with (first
      | (go_at_call 139; (with_reducible refine (H1.out _).mono ?_); rintro e w1 ⟨rfl, rfl⟩)
      | (go_at_call 139; (with_reducible refine (H2.out _).mono ?_); rintro e w2 ⟨rfl, rfl⟩))
    go_ret
    exact ⟨rfl, rfl⟩
set_option maxHeartbeats 1000000 in
set_option maxRecDepth 100000 in
theorem ds4 (l t : List UInt8) (S D1 D2 : Nat) (w : World) (hsz : (str l).size = S) (hS : S ≤ 100000000) (hD : D1 ≤ S) (hD2 : D2 ≤ S) (ht : (str l).extract D1 S = str t) (H1 : Hid (∀ W, Calls Tryz.prog 139 #[.string (str l)] W fun e w' => e = .returned (.int .i64 (D1 : Int)) ∧ w' = W)) (H2 : Hid (∀ W, Calls Tryz.prog 139 #[.string (str t)] W fun e w' => e = .returned (.int .i64 (D2 : Int)) ∧ w' = W)) (c1 : ((D1 : Int) == 0) = false) (c2 : ((D1 : Int) == (S : Int)) = false) (c3 : (0 : Int) < (D2 : Int)) (T : Nat) (hT : (D1 : Int) + (D2 : Int) = (T : Int)) (c4 : ((T : Int) == (S : Int)) = false) : Calls Tryz.prog 104 #[.string (str l)] w fun e w' => e = .returned (.int .i64 0) ∧ w' = w := by
    go_enter Tryz.func104, Tryz.ntmps104
    go_wp2_with (first
      | (go_at_call 139; (with_reducible refine (H1.out _).mono ?_); rintro e w1 ⟨rfl, rfl⟩)
      | (go_at_call 139; (with_reducible refine (H2.out _).mono ?_); rintro e w2 ⟨rfl, rfl⟩))
    go_ret
    exact ⟨rfl, rfl⟩
theorem rdots_any (l : List UInt8) (w : World) (hl : l.length ≤ 100000000) : Calls Tryz.prog 104 #[.string (str l)] w fun e w' => e = .returned (.int .i64 (dots l : Int)) ∧ w' = w := by
  have hsz := str_size l
  have hD := dot_le l
  have hD2 := dot_le (l.drop (dot l))
  rw [List.length_drop] at hD2
  have H1 : Hid (∀ W, Calls Tryz.prog 139 #[.string (str l)] W fun e w' => e = .returned (.int .i64 (dot l : Int)) ∧ w' = W) := fun W => rdot_any l W
  have H2 : Hid (∀ W, Calls Tryz.prog 139 #[.string (str (l.drop (dot l)))] W fun e w' => e = .returned (.int .i64 (dot (l.drop (dot l)) : Int)) ∧ w' = W) := fun W => rdot_any _ W
  have ht : (str l).extract (dot l) l.length = str (l.drop (dot l)) := str_drop l (dot l) l.length rfl hD
  have dd : ∀ p q : Nat, ((p : Int) == (q : Int)) = decide (p = q) := fun p q => by
    by_cases h : p = q
    · rw [decide_eq_true h, h]; simp
    · rw [decide_eq_false h, beq_eq_false_iff_ne]; omega
  by_cases h0 : dot l = 0
  · have e : dots l = 0 := by unfold dots; rw [if_pos h0]
    rw [e]
    exact ds0 l _ _ _ _ w hsz hl hD (by omega) ht H1 H2 ((dd _ 0).trans (decide_eq_true h0))
  · have c1 := (dd (dot l) 0).trans (decide_eq_false h0)
    by_cases h1 : l.length = dot l
    · have e : dots l = 1 := by unfold dots; rw [if_neg h0, if_pos h1]
      rw [e]
      exact ds1 l _ _ _ _ w hsz hl hD (by omega) ht H1 H2 c1 ((dd _ _).trans (decide_eq_true h1.symm))
    · have c2 := (dd (dot l) l.length).trans (decide_eq_false (fun h => h1 h.symm))
      by_cases h2 : dot (l.drop (dot l)) = 0
      · have e : dots l = 0 := by unfold dots; rw [if_neg h0, if_neg h1, if_pos h2]
        rw [e]
        exact ds2 l _ _ _ _ w hsz hl hD (by omega) ht H1 H2 c1 c2 (by omega)
      · by_cases h3 : l.length = dot l + dot (l.drop (dot l))
        · have e : dots l = 2 := by unfold dots; rw [if_neg h0, if_neg h1, if_neg h2, if_pos h3]
          rw [e]
          exact ds3 l _ _ _ _ w hsz hl hD (by omega) ht H1 H2 c1 c2 (by omega) (dot l + dot (l.drop (dot l))) (by omega) ((dd _ _).trans (decide_eq_true h3.symm))
        · have e : dots l = 0 := by unfold dots; rw [if_neg h0, if_neg h1, if_neg h2, if_neg h3]
          rw [e]
          exact ds4 l _ _ _ _ w hsz hl hD (by omega) ht H1 H2 c1 c2 (by omega) (dot l + dot (l.drop (dot l))) (by omega) ((dd _ _).trans (decide_eq_false (fun h => h3 h.symm)))
end Go.Proofs.YtcepigekibidfaaGreatDoor
