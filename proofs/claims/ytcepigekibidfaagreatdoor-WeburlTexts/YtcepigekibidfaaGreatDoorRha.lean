/-
  What transeptref07.based, number and bad answer, and what that is in the program's words; nothing turns. Condition: texts of at most 100000000 bytes.
-/
import Derived.Test.YtcepigekibidfaaGreatDoorGj
import Derived.Test.YtcepigekibidfaaGreatDoorGe
namespace Go.Proofs.YtcepigekibidfaaGreatDoor
open Go.RowKit

theorem getD_mem8 (l : List UInt8) (k : Nat) (h : k < l.length) : l.getD k 0 ∈ l := by
  rw [List.getD_eq_getElem?_getD, List.getElem?_eq_getElem h]
  exact List.getElem_mem h
/-- What digits to base b tell, behind n, at most 2^40. -/
def rv (b : Nat) : Nat → List UInt8 → Option Nat
  | n, [] => some n
  | n, c :: r => if dig c < b then rv b (min (n * b + dig c) 1099511627776) r else none
theorem val_rv (b : Nat) (hb : 1 ≤ b) : ∀ (l : List UInt8) (n : Nat), n ≤ 1099511627776 → val b (min n 4294967296) l = (rv b n l).map (min · 4294967296)
  | [], n, _ => rfl
  | c :: r, n, hn => by
    rw [val, rv]
    by_cases h : dig c < b
    · rw [if_pos h, if_pos h]
      have e : min (min n 4294967296 * b + dig c) 4294967296 = min (min (n * b + dig c) 1099511627776) 4294967296 := by
        by_cases h2 : n ≤ 4294967296
        · rw [Nat.min_eq_left h2]
          omega
        · have h3 : min n 4294967296 = 4294967296 := by omega
          have h4 : 4294967296 * 1 ≤ 4294967296 * b := Nat.mul_le_mul_left _ hb
          have h5 : n * 1 ≤ n * b := Nat.mul_le_mul_left _ hb
          rw [h3]
          omega
      rw [e]
      exact val_rv b hb r _ (by omega)
    · rw [if_neg h, if_neg h]
      rfl
theorem rv_le (b : Nat) : ∀ (l : List UInt8) (n m : Nat), n ≤ 1099511627776 → rv b n l = some m → m ≤ 1099511627776
  | [], n, m, h, e => by
    simp [rv] at e
    omega
  | c :: r, n, m, h, e => by
    rw [rv] at e
    split at e
    · exact rv_le b r _ m (by omega) e
    · cases e
set_option maxHeartbeats 2000000 in
theorem rbased_any (l : List UInt8) (b : Nat) (hb : b ≤ 16) (w : World) (hl : l.length ≤ 100000000) : Calls Tryz.prog 108 #[.string (str l), .int .u64 (b : Int)] w fun e w' => e = .returned (valV (rv b 0 l)) ∧ w' = w := by
  have hsz := str_size l
  obtain ⟨S, hS⟩ : ∃ S, S = l.length := ⟨_, rfl⟩
  have hgb : Hid (∀ k, k < S → ∀ h, ((str l)[k]'h).toNat = (l.getD k 0).toNat) := fun k hk h => str_at l k (by rw [← hS]; exact hk) h
  obtain ⟨R, hR⟩ : ∃ R, R = rv b 0 l := ⟨_, rfl⟩
  rw [← hR]
  rw [← hS] at hsz hl
  have HS := Lib.hid (And.intro hS hR)
  clear hS hR
  go_enter Tryz.func108, Tryz.ntmps108
  go_wp2_with fail
  go_loop [7, 6] (fun i v => ∃ (k n : Nat), k ≤ S ∧ n ≤ 1099511627776 ∧ i = .int .i64 (k : Int) ∧ v = .int .u64 (n : Int) ∧ rv b n (l.drop k) = R) (fun i _ => S - (intOf i).toNat)
  case atStart => exact ⟨0, 0, by omega, by omega, rfl, rfl, by rw [HS.out.2]; rfl⟩
  case round =>
    obtain ⟨k, n, hk, hn, rfl, rfl, hR⟩ := hrel
    by_cases hlt : k < S
    · have hkS : (k : Int) < (S : Int) := by omega
      obtain ⟨c, hc⟩ : ∃ c, c = l.getD k 0 := ⟨_, rfl⟩
      have hcons : l.drop k = c :: l.drop (k + 1) := by
        have hk' : k < l.length := by rw [← HS.out.1]; exact hlt
        rw [List.drop_eq_getElem_cons hk', hc]
        simp [List.getD, List.getElem?_eq_getElem hk']
      have HG := fun h => hgb.out k hlt h
      rw [← hc] at HG
      obtain ⟨m, hm⟩ : ∃ m, m = c.toNat := ⟨_, rfl⟩
      rw [← hm] at HG
      rw [hcons, rv] at hR
      have DI : Hid (dig c < 16 → ∀ W, Calls Tryz.prog 76 #[.int .u8 (m : Int)] W fun e w' => e = .returned (.int .i64 (dig c : Int)) ∧ w' = W) := fun h W => by rw [hm]; exact refDig_in c h W
      have DO : Hid (¬ dig c < 16 → ∀ W, Calls Tryz.prog 76 #[.int .u8 (m : Int)] W fun e w' => e = .returned (.int .i64 (-1)) ∧ w' = W) := fun h W => by rw [hm]; exact refDig_out c h W
      obtain ⟨d, hd⟩ : ∃ d, d = dig c := ⟨_, rfl⟩
      rw [← hd] at DI DO hR
      have HR := Lib.hid hR
      clear hc hcons hm hd hR
      by_cases hd16 : d < 16
      · have DD : Hid (∀ W, Calls Tryz.prog 76 #[.int .u8 (m : Int)] W fun e w' => e = .returned (.int .i64 (d : Int)) ∧ w' = W) := fun W => DI.out hd16 W
        clear DI DO
        have hcv : ∀ W : World, (convert 3 97 (.int .i64 (d : Int))).run Tryz.prog W = .ok (.int .u64 (d : Int)) W := fun W => by
          have hw : IntKind.u64.wrap (d : Int) = (d : Int) := by rw [IntKind.wrap_u64]; omega
          simp [convert, run_underlying Tryz.underlying97, run_underlying Tryz.underlying3, Conv.intToInt, hw]
        by_cases hdb : d < b
        · have hge : ¬ (b : Int) ≤ (d : Int) := by omega
          obtain ⟨q, hq⟩ : ∃ q, q = n * b := ⟨_, rfl⟩
          have hq9 : q ≤ 1099511627776 * 16 := by rw [hq]; exact Nat.mul_le_mul hn hb
          have hqi : (n : Int) * (b : Int) = (q : Int) := by rw [hq]; simp
          obtain ⟨z, hz⟩ : ∃ z, z = q + d := ⟨_, rfl⟩
          have hzi : (q : Int) + (d : Int) = (z : Int) := by omega
          have hz9 : z ≤ 17592186044500 := by omega
          have HQ := Lib.hid (And.intro hq hz)
          clear hq hz
          obtain ⟨y, hy⟩ : ∃ y, y = min z 1099511627776 := ⟨_, rfl⟩
          have hmin : min (z : Int) 1099511627776 = (y : Int) := by omega
          have hy9 : y ≤ 1099511627776 := by omega
          have HY := Lib.hid hy
          clear hy
          go_wp2_with (go_at_call 76; (with_reducible refine (DD.out _).mono ?_); rintro e w1 ⟨rfl, rfl⟩)
          go_round
          case rel =>
            refine ⟨k + 1, y, by omega, hy9, by go_num, rfl, ?_⟩
            have := HR.out
            rw [if_pos hdb] at this
            rw [← this, HY.out, HQ.out.2, HQ.out.1]
          case measure => simp [intOf]; omega
        · have hge : (b : Int) ≤ (d : Int) := by omega
          go_wp2_with (go_at_call 76; (with_reducible refine (DD.out _).mono ?_); rintro e w1 ⟨rfl, rfl⟩)
          go_ret2
          refine ⟨?_, rfl⟩
          have := HR.out
          rw [if_neg hdb] at this
          rw [← this]
          rfl
      · have DD : Hid (∀ W, Calls Tryz.prog 76 #[.int .u8 (m : Int)] W fun e w' => e = .returned (.int .i64 (-1)) ∧ w' = W) := fun W => DO.out hd16 W
        clear DI DO
        go_wp2_with (go_at_call 76; (with_reducible refine (DD.out _).mono ?_); rintro e w1 ⟨rfl, rfl⟩)
        go_ret2
        refine ⟨?_, rfl⟩
        have := HR.out
        rw [if_neg (by omega)] at this
        rw [← this]
        rfl
    · have hk' : Hid (k = S) := by show k = S; omega
      have hkS : ¬ (k : Int) < (S : Int) := by omega
      clear hk hlt
      have HR := Lib.hid hR
      clear hR
      go_wp2_with fail
      go_ret2
      refine ⟨?_, rfl⟩
      have h1 := HR.out
      rw [hk'.out, HS.out.1, List.drop_length] at h1
      rw [← h1]
      rfl
/-- What a part tells. -/
def rnum : List UInt8 → Option Nat
  | [] => none
  | [a] => rv 10 0 [a]
  | a :: b :: t => if a = 48 then (if b = 120 ∨ b = 88 then rv 16 0 t else rv 8 0 (b :: t)) else rv 10 0 (a :: b :: t)
theorem num_rnum (l : List UInt8) : num l = (rnum l).map (min · 4294967296) := by
  match l with
  | [] => rfl
  | [a] =>
    rw [num, rnum]
    split
    · rename_i h
      subst h
      rfl
    · exact val_rv 10 (by decide) [a] 0 (by decide)
  | a :: b :: t =>
    rw [num, rnum]
    split
    · split
      · exact val_rv 16 (by decide) t 0 (by decide)
      · exact val_rv 8 (by decide) (b :: t) 0 (by decide)
    · exact val_rv 10 (by decide) (a :: b :: t) 0 (by decide)
theorem rnum_le (l : List UInt8) (m : Nat) (e : rnum l = some m) : m ≤ 1099511627776 := by
  match l, e with
  | [a], e => exact rv_le _ _ _ _ (by omega) e
  | a :: b :: t, e =>
    rw [rnum] at e
    split at e
    · split at e
      · exact rv_le _ _ _ _ (by omega) e
      · exact rv_le _ _ _ _ (by omega) e
    · exact rv_le _ _ _ _ (by omega) e
set_option maxHeartbeats 8000000 in
set_option maxRecDepth 100000 in
theorem rn_one  (l : List UInt8) (S : Nat) (o : Value) (o2 : Value) (w : World) (hsz : (str l).size = S) (he : (str l).toList.isEmpty = false) (h2 : ¬ (2 : Int) ≤ (S : Int)) (HB : Hid (∀ W, Calls Tryz.prog 108 #[.string (str l), .int .u64 10] W fun e w' => e = .returned (.tuple #[o, o2]) ∧ w' = W)) : Calls Tryz.prog 79 #[.string (str l)] w fun e w' => e = .returned (.tuple #[o, o2]) ∧ w' = w := by
    go_enter Tryz.func79, Tryz.ntmps79
    go_wp2_with (first | (go_at_call 108; (with_reducible refine (HB.out _).mono ?_); rintro e w1 ⟨rfl, rfl⟩))
    go_ret2
    exact ⟨rfl, rfl⟩
set_option maxHeartbeats 8000000 in
set_option maxRecDepth 100000 in
theorem rn_x (x0 x1 : Nat) (t : List UInt8) (l : List UInt8) (S : Nat) (o : Value) (o2 : Value) (w : World) (hsz : (str l).size = S) (hS : S ≤ 100000000) (he : (str l).toList.isEmpty = false) (h2 : (2 : Int) ≤ (S : Int)) (hg0 : ∀ h, ((str l)[0]'h).toNat = x0) (hg1 : ∀ h, ((str l)[1]'h).toNat = x1) (c0 : ((x0 : Int) == 48) = true) (c1 : ((x1 : Int) == 120) = true) (ht : (str l).extract 2 S = str t) (HB : Hid (∀ W, Calls Tryz.prog 108 #[.string (str t), .int .u64 16] W fun e w' => e = .returned (.tuple #[o, o2]) ∧ w' = W)) : Calls Tryz.prog 79 #[.string (str l)] w fun e w' => e = .returned (.tuple #[o, o2]) ∧ w' = w := by
    go_enter Tryz.func79, Tryz.ntmps79
    go_wp2_with (first | (go_at_call 108; (with_reducible refine (HB.out _).mono ?_); rintro e w1 ⟨rfl, rfl⟩))
    go_ret2
    exact ⟨rfl, rfl⟩
set_option maxHeartbeats 8000000 in
set_option maxRecDepth 100000 in
theorem rn_X (x0 x1 : Nat) (t : List UInt8) (l : List UInt8) (S : Nat) (o : Value) (o2 : Value) (w : World) (hsz : (str l).size = S) (hS : S ≤ 100000000) (he : (str l).toList.isEmpty = false) (h2 : (2 : Int) ≤ (S : Int)) (hg0 : ∀ h, ((str l)[0]'h).toNat = x0) (hg1 : ∀ h, ((str l)[1]'h).toNat = x1) (c0 : ((x0 : Int) == 48) = true) (c1 : ((x1 : Int) == 120) = false) (c2 : ((x1 : Int) == 88) = true) (ht : (str l).extract 2 S = str t) (HB : Hid (∀ W, Calls Tryz.prog 108 #[.string (str t), .int .u64 16] W fun e w' => e = .returned (.tuple #[o, o2]) ∧ w' = W)) : Calls Tryz.prog 79 #[.string (str l)] w fun e w' => e = .returned (.tuple #[o, o2]) ∧ w' = w := by
    go_enter Tryz.func79, Tryz.ntmps79
    go_wp2_with (first | (go_at_call 108; (with_reducible refine (HB.out _).mono ?_); rintro e w1 ⟨rfl, rfl⟩))
    go_ret2
    exact ⟨rfl, rfl⟩
set_option maxHeartbeats 8000000 in
set_option maxRecDepth 100000 in
theorem rn_8 (x0 x1 : Nat) (t : List UInt8) (l : List UInt8) (S : Nat) (o : Value) (o2 : Value) (w : World) (hsz : (str l).size = S) (hS : S ≤ 100000000) (he : (str l).toList.isEmpty = false) (h2 : (2 : Int) ≤ (S : Int)) (hg0 : ∀ h, ((str l)[0]'h).toNat = x0) (hg1 : ∀ h, ((str l)[1]'h).toNat = x1) (c0 : ((x0 : Int) == 48) = true) (c1 : ((x1 : Int) == 120) = false) (c2 : ((x1 : Int) == 88) = false) (ht : (str l).extract 1 S = str t) (HB : Hid (∀ W, Calls Tryz.prog 108 #[.string (str t), .int .u64 8] W fun e w' => e = .returned (.tuple #[o, o2]) ∧ w' = W)) : Calls Tryz.prog 79 #[.string (str l)] w fun e w' => e = .returned (.tuple #[o, o2]) ∧ w' = w := by
    go_enter Tryz.func79, Tryz.ntmps79
    go_wp2_with (first | (go_at_call 108; (with_reducible refine (HB.out _).mono ?_); rintro e w1 ⟨rfl, rfl⟩))
    go_ret2
    exact ⟨rfl, rfl⟩
set_option maxHeartbeats 8000000 in
set_option maxRecDepth 100000 in
theorem rn_10 (x0 : Nat) (l : List UInt8) (S : Nat) (o : Value) (o2 : Value) (w : World) (hsz : (str l).size = S) (hS : S ≤ 100000000) (he : (str l).toList.isEmpty = false) (h2 : (2 : Int) ≤ (S : Int)) (hg0 : ∀ h, ((str l)[0]'h).toNat = x0) (c0 : ((x0 : Int) == 48) = false)(HB : Hid (∀ W, Calls Tryz.prog 108 #[.string (str l), .int .u64 10] W fun e w' => e = .returned (.tuple #[o, o2]) ∧ w' = W)) : Calls Tryz.prog 79 #[.string (str l)] w fun e w' => e = .returned (.tuple #[o, o2]) ∧ w' = w := by
    go_enter Tryz.func79, Tryz.ntmps79
    go_wp2_with (first | (go_at_call 108; (with_reducible refine (HB.out _).mono ?_); rintro e w1 ⟨rfl, rfl⟩))
    go_ret2
    exact ⟨rfl, rfl⟩
theorem rnumber_any (l : List UInt8) (w : World) (hl : l.length ≤ 100000000) : Calls Tryz.prog 79 #[.string (str l)] w fun e w' => e = .returned (valV (rnum l)) ∧ w' = w := by
  have hsz := str_size l
  have key : ∀ o : Option Nat, ∃ a b, valV o = .tuple #[a, b] := fun o => by cases o <;> exact ⟨_, _, rfl⟩
  match l, hl, hsz with
  | [], _, _ =>
    have he : (str []).toList.isEmpty = true := by rw [toList_str]; rfl
    go_enter Tryz.func79, Tryz.ntmps79
    go_wp2_with fail
    go_ret2
    exact ⟨rfl, rfl⟩
  | [a], hl, hsz =>
    have HB : Hid (∀ W, Calls Tryz.prog 108 #[.string (str [a]), .int .u64 10] W fun e w' => e = .returned (valV (rv 10 0 [a])) ∧ w' = W) := fun W => rbased_any [a] 10 (by decide) W hl
    show Calls Tryz.prog 79 #[.string (str [a])] w fun e w' => e = .returned (valV (rv 10 0 [a])) ∧ w' = w
    obtain ⟨p, q, e⟩ := key (rv 10 0 [a])
    rw [e] at HB ⊢
    exact rn_one [a] 1 p q w hsz (by rw [toList_str]; rfl) (by decide) HB
  | a :: b :: t, hl, hsz =>
    have hg0 : ∀ h, ((str (a :: b :: t))[0]'h).toNat = a.toNat := fun h => str_at _ 0 (by simp) h
    have hg1 : ∀ h, ((str (a :: b :: t))[1]'h).toNat = b.toNat := fun h => str_at _ 1 (by simp) h
    have he : (str (a :: b :: t)).toList.isEmpty = false := by rw [toList_str]; rfl
    have h2 : (2 : Int) ≤ ((a :: b :: t).length : Int) := by rw [List.length_cons, List.length_cons]; omega
    have eqb : ∀ (x : UInt8) (n : Nat) (y : UInt8), y.toNat = n → (((x.toNat : Nat) : Int) == (n : Int)) = decide (x = y) := fun x n y hy => by
      by_cases hxy : x = y
      · rw [decide_eq_true hxy, hxy, hy]; simp
      · rw [decide_eq_false hxy, beq_eq_false_iff_ne]
        intro e
        exact hxy (UInt8.toNat.inj (by omega))
    have t2 : (str (a :: b :: t)).extract 2 (a :: b :: t).length = str t := str_drop _ 2 _ rfl (by simp)
    have t1 : (str (a :: b :: t)).extract 1 (a :: b :: t).length = str (b :: t) := str_drop _ 1 _ rfl (by simp)
    have lt : t.length ≤ 100000000 := by rw [List.length_cons, List.length_cons] at hl; omega
    rw [rnum]
    by_cases h48 : a = 48
    · have c0 := (eqb a 48 48 rfl).trans (decide_eq_true h48)
      rw [if_pos h48]
      by_cases h120 : b = 120
      · have c1 := (eqb b 120 120 rfl).trans (decide_eq_true h120)
        rw [if_pos (.inl h120)]
        have HB : Hid (∀ W, Calls Tryz.prog 108 #[.string (str t), .int .u64 16] W fun e w' => e = .returned (valV (rv 16 0 t)) ∧ w' = W) := fun W => rbased_any t 16 (by decide) W lt
        obtain ⟨p, q, e⟩ := key (rv 16 0 t)
        rw [e] at HB ⊢
        exact rn_x _ _ t _ _ p q w hsz hl he h2 hg0 hg1 c0 c1 t2 HB
      · have c1 := (eqb b 120 120 rfl).trans (decide_eq_false h120)
        by_cases h88 : b = 88
        · have c2 := (eqb b 88 88 rfl).trans (decide_eq_true h88)
          rw [if_pos (.inr h88)]
          have HB : Hid (∀ W, Calls Tryz.prog 108 #[.string (str t), .int .u64 16] W fun e w' => e = .returned (valV (rv 16 0 t)) ∧ w' = W) := fun W => rbased_any t 16 (by decide) W lt
          obtain ⟨p, q, e⟩ := key (rv 16 0 t)
          rw [e] at HB ⊢
          exact rn_X _ _ t _ _ p q w hsz hl he h2 hg0 hg1 c0 c1 c2 t2 HB
        · have c2 := (eqb b 88 88 rfl).trans (decide_eq_false h88)
          rw [if_neg (fun h => h.elim h120 h88)]
          have HB : Hid (∀ W, Calls Tryz.prog 108 #[.string (str (b :: t)), .int .u64 8] W fun e w' => e = .returned (valV (rv 8 0 (b :: t))) ∧ w' = W) := fun W => rbased_any (b :: t) 8 (by decide) W (Nat.le_of_succ_le hl)
          obtain ⟨p, q, e⟩ := key (rv 8 0 (b :: t))
          rw [e] at HB ⊢
          exact rn_8 _ _ (b :: t) _ _ p q w hsz hl he h2 hg0 hg1 c0 c1 c2 t1 HB
    · have c0 := (eqb a 48 48 rfl).trans (decide_eq_false h48)
      rw [if_neg h48]
      have HB : Hid (∀ W, Calls Tryz.prog 108 #[.string (str (a :: b :: t)), .int .u64 10] W fun e w' => e = .returned (valV (rv 10 0 (a :: b :: t))) ∧ w' = W) := fun W => rbased_any (a :: b :: t) 10 (by decide) W hl
      obtain ⟨p, q, e⟩ := key (rv 10 0 (a :: b :: t))
      rw [e] at HB ⊢
      exact rn_10 _ _ _ p q w hsz hl he h2 hg0 c0 HB
theorem okc_of (c : UInt8) (h1 : 33 ≤ c.toNat) (h2 : c.toNat ≤ 126) : okc c = !barred.contains c := by
  unfold okc
  rw [decide_eq_true h1, decide_eq_true h2]
  rfl
set_option maxHeartbeats 2000000 in
theorem rbad_any (c : UInt8) (w : World) : Calls Tryz.prog 51 #[vb c] w fun e w' => e = .returned (.bool (!okc c)) ∧ w' = w := by
  have hok := okc_of c
  have hlo : ¬ (33 ≤ c.toNat ∧ c.toNat ≤ 126) → okc c = false := fun h => by
    unfold okc
    by_cases h1 : 33 ≤ c.toNat
    · rw [decide_eq_true h1, decide_eq_false (fun h2 => h ⟨h1, h2⟩)]; rfl
    · rw [decide_eq_false h1]; rfl
  have hgb : Hid (∀ k, k < 13 → ∀ h, ((⟨#[35, 37, 47, 58, 60, 62, 63, 64, 91, 92, 93, 94, 124]⟩ : ByteArray)[k]'h).toNat = (barred.getD k 0).toNat) := fun k hk h => str_at barred k hk h
  have hin : Hid (∀ k, k < 13 → (barred.getD k 0).toNat = c.toNat → barred.contains c = true) := fun k hk h => by
    rw [← UInt8.toNat.inj h]
    exact List.contains_iff_mem.2 (getD_mem8 barred k hk)
  have hno : Hid ((∀ k, k < 13 → (barred.getD k 0).toNat ≠ c.toNat) → barred.contains c = false) := fun h => by
    rw [Bool.eq_false_iff]
    intro hc
    obtain ⟨k, hk, e⟩ := List.getElem_of_mem (List.contains_iff_mem.1 hc)
    exact h k hk (by rw [List.getD_eq_getElem?_getD, List.getElem?_eq_getElem hk, ← e]; rfl)
  unfold vb
  obtain ⟨m, hm⟩ : ∃ m, m = c.toNat := ⟨_, rfl⟩
  rw [← hm] at hok hlo hin hno ⊢
  have hm9 : m < 256 := by rw [hm]; exact c.toNat_lt
  obtain ⟨O, hO⟩ : ∃ O, O = okc c := ⟨_, rfl⟩
  rw [← hO] at hok hlo ⊢
  obtain ⟨D, hD⟩ : ∃ O, O = barred.contains c := ⟨_, rfl⟩
  rw [← hD] at hok hin hno
  clear hm hO hD
  by_cases h1 : m < 33
  · have hO := Lib.hid (hlo (by omega))
    have c1 : decide ((m : Int) < 33) = true := by simp; omega
    clear hok hlo
    go_enter Tryz.func51, Tryz.ntmps51
    go_wp2_with fail
    go_ret
    rw [hO.out]
    exact ⟨rfl, rfl⟩
  · have c1 : decide ((m : Int) < 33) = false := by simp; omega
    by_cases h2 : 126 < m
    · have hO := Lib.hid (hlo (by omega))
      have c2 : decide ((126 : Int) < (m : Int)) = true := by simp; omega
      clear hok hlo
      go_enter Tryz.func51, Tryz.ntmps51
      go_wp2_with fail
      go_ret
      rw [hO.out]
      exact ⟨rfl, rfl⟩
    · have c2 : decide ((126 : Int) < (m : Int)) = false := by simp; omega
      have hO := Lib.hid (hok (by omega) (by omega))
      clear hok hlo h1 h2
      go_enter Tryz.func51, Tryz.ntmps51
      go_wp2_with fail
      go_loop [4] (fun i => ∃ k : Nat, k ≤ 13 ∧ i = .int .i64 (k : Int) ∧ ∀ j, j < k → (barred.getD j 0).toNat ≠ m) (fun i => 13 - (intOf i).toNat)
      case atStart => exact ⟨0, by omega, rfl, fun j hj => absurd hj (Nat.not_lt_zero _)⟩
      case round =>
        obtain ⟨k, hk, rfl, hj⟩ := hrel
        have HJ := Lib.hid hj
        clear hj
        by_cases hlt : k < 13
        · have hkS : (k : Int) < 13 := by omega
          have HG := hgb.out k hlt
          have HI := hin.out k hlt
          obtain ⟨b, hb⟩ : ∃ b, b = (barred.getD k 0).toNat := ⟨_, rfl⟩
          rw [← hb] at HG HI
          have HB := Lib.hid hb
          clear hb
          by_cases he : b = m
          · have hc : ((b : Int) == (m : Int)) = true := by simp [he]
            have hD := Lib.hid (HI he)
            clear HI he
            go_wp2_with fail
            go_ret
            rw [hO.out, hD.out]
            exact ⟨rfl, rfl⟩
          · have hc : ((b : Int) == (m : Int)) = false := by simp; omega
            have hne := Lib.hid he
            clear HI he
            go_wp2_with fail
            go_round
            case rel =>
              refine ⟨k + 1, by omega, by go_num, fun j hj => ?_⟩
              by_cases hjk : j = k
              · rw [hjk, ← HB.out]; exact hne.out
              · exact HJ.out j (by omega)
            case measure => simp [intOf]; omega
        · have hkS : ¬ (k : Int) < 13 := by omega
          have hD := Lib.hid (hno.out fun j hj => HJ.out j (by omega))
          go_wp2_with fail
          go_ret
          rw [hO.out, hD.out]
          exact ⟨rfl, rfl⟩
end Go.Proofs.YtcepigekibidfaaGreatDoor
