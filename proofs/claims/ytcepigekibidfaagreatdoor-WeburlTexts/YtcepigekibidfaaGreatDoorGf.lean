/-
  What host.digit, host.value and host.number answer; nothing turns. Condition: texts of at most 100000000 bytes.
  A text parted at a byte: the mathematics, and what the library's split is in these words. No program, no condition.
  What host.number, split, endsInNumber, joinParts, IPv4 and Domain answer; nothing that was there turns. Condition: texts of at most 100000000 bytes; the variable at place 0 holds an integer.
  Rows of texts of the call's own: append, cut at the end, read. No condition.
  What host.split and host.endsInNumber answer; nothing that was there turns. Condition: texts of at most 100000000 bytes; the variable at place 0 holds an integer.
  What host.joinParts answers; nothing turns. Condition: texts of at most 100000000 bytes.
  What host.IPv4, Domain and mayBe answer; nothing that was there turns. Condition: texts of at most 100000000 bytes; the library's tables (Tabs).
  What host.mayBe answers, and strings.ToLower of what may be; nothing that was there turns. Condition: texts of at most 100000000 bytes.
-/
import Derived.Test.YtcepigekibidfaaGreatDoorShelf
import Derived.Test.YtcepigekibidfaaGreatDoorGa
namespace Go.Proofs.YtcepigekibidfaaGreatDoor
open Go.RowKit

/-- What digits to base b tell, behind n, at most 2^32; none: there are other bytes. -/
def val (b : Nat) : Nat → List UInt8 → Option Nat
  | n, [] => some n
  | n, c :: r => if dig c < b then val b (min (n * b + dig c) 4294967296) r else none
def valV : Option Nat → Value
  | some n => .tuple #[.int .u64 (n : Int), .bool true]
  | none => .tuple #[.int .u64 0, .bool false]
/-- What a part tells; none: it is no number. -/
def num : List UInt8 → Option Nat
  | [] => none
  | [a] => if a = 48 then some 0 else val 10 0 [a]
  | a :: b :: t => if a = 48 then (if b = 120 ∨ b = 88 then val 16 0 t else val 8 0 (b :: t)) else val 10 0 (a :: b :: t)

theorem val_le (b : Nat) : ∀ (l : List UInt8) (n m : Nat), n ≤ 4294967296 → val b n l = some m → m ≤ 4294967296
  | [], n, m, h, e => by
    simp [val] at e
    omega
  | c :: r, n, m, h, e => by
    rw [val] at e
    split at e
    · exact val_le b r _ m (by omega) e
    · cases e
theorem num_le (l : List UInt8) (m : Nat) (e : num l = some m) : m ≤ 4294967296 := by
  match l, e with
  | [a], e =>
    rw [num] at e
    split at e
    · simp at e
      omega
    · exact val_le _ _ _ _ (by omega) e
  | a :: b :: t, e =>
    rw [num] at e
    split at e
    · split at e
      · exact val_le _ _ _ _ (by omega) e
      · exact val_le _ _ _ _ (by omega) e
    · exact val_le _ _ _ _ (by omega) e
theorem dig_le (c : UInt8) : dig c ≤ 16 := by
  unfold dig
  split
  · omega
  · split
    · omega
    · split <;> omega

set_option maxHeartbeats 1000000 in
theorem hdigit_any (c : UInt8) (w : World) : Calls Tryz.prog 211 #[vb c] w fun e w' => e = .returned (.int .u64 (dig c : Int)) ∧ w' = w := by
  obtain ⟨m, hm⟩ : ∃ m, c.toNat = m := ⟨_, rfl⟩
  have hd : Hid (dig c = if 48 ≤ m ∧ m ≤ 57 then m - 48 else if 65 ≤ m ∧ m ≤ 70 then m - 65 + 10 else if 97 ≤ m ∧ m ≤ 102 then m - 97 + 10 else 16) := by show _ = _; unfold dig; rw [hm]
  have hm9 : m < 256 := by rw [← hm]; exact c.toNat_lt
  obtain ⟨d, hdd⟩ : ∃ d, d = dig c := ⟨_, rfl⟩
  rw [← hdd] at hd ⊢
  unfold vb
  rw [hm]
  clear hm hdd
  have hc : m < 48 ∨ (48 ≤ m ∧ m ≤ 57) ∨ (57 < m ∧ m < 65) ∨ (65 ≤ m ∧ m ≤ 70) ∨ (70 < m ∧ m < 97) ∨ (97 ≤ m ∧ m ≤ 102) ∨ 102 < m := by omega
  rcases hc with hc | hc | hc | hc | hc | hc | hc
  · have e1 : Hid (d = 16) := by
      show _ = _
      rw [hd.out]
      repeat' split
      all_goals omega
    have a0 : decide ((48 : Int) ≤ (m : Int)) = false := by simp; omega
    have b0 : decide ((m : Int) ≤ 57) = true := by simp; omega
    have a1 : decide ((65 : Int) ≤ (m : Int)) = false := by simp; omega
    have b1 : decide ((m : Int) ≤ 70) = true := by simp; omega
    have a2 : decide ((97 : Int) ≤ (m : Int)) = false := by simp; omega
    have b2 : decide ((m : Int) ≤ 102) = true := by simp; omega
    go_enter Tryz.func211, Tryz.ntmps211
    go_wp2_with fail
    go_ret
    refine ⟨?_, rfl⟩
    have := e1.out
    have e2 : d = 16 := by omega
    rw [e2]
    rfl
  · have e1 : Hid (d = m - 48) := by
      show _ = _
      rw [hd.out]
      repeat' split
      all_goals omega
    have a0 : decide ((48 : Int) ≤ (m : Int)) = true := by simp; omega
    have b0 : decide ((m : Int) ≤ 57) = true := by simp; omega
    have a1 : decide ((65 : Int) ≤ (m : Int)) = false := by simp; omega
    have b1 : decide ((m : Int) ≤ 70) = true := by simp; omega
    have a2 : decide ((97 : Int) ≤ (m : Int)) = false := by simp; omega
    have b2 : decide ((m : Int) ≤ 102) = true := by simp; omega
    obtain ⟨x, hx⟩ : ∃ x : Nat, m = x + 48 := ⟨m - 48, by omega⟩
    have hx2 : x < 256 := by omega
    have hsub : (m : Int) - 48 = (x : Int) := by omega
    go_enter Tryz.func211, Tryz.ntmps211
    go_wp2_with fail
    go_ret
    refine ⟨?_, rfl⟩
    have := e1.out
    have e2 : d = x := by omega
    rw [e2]
    rfl
  · have e1 : Hid (d = 16) := by
      show _ = _
      rw [hd.out]
      repeat' split
      all_goals omega
    have a0 : decide ((48 : Int) ≤ (m : Int)) = true := by simp; omega
    have b0 : decide ((m : Int) ≤ 57) = false := by simp; omega
    have a1 : decide ((65 : Int) ≤ (m : Int)) = false := by simp; omega
    have b1 : decide ((m : Int) ≤ 70) = true := by simp; omega
    have a2 : decide ((97 : Int) ≤ (m : Int)) = false := by simp; omega
    have b2 : decide ((m : Int) ≤ 102) = true := by simp; omega
    go_enter Tryz.func211, Tryz.ntmps211
    go_wp2_with fail
    go_ret
    refine ⟨?_, rfl⟩
    have := e1.out
    have e2 : d = 16 := by omega
    rw [e2]
    rfl
  · have e1 : Hid (d = m - 65 + 10) := by
      show _ = _
      rw [hd.out]
      repeat' split
      all_goals omega
    have a0 : decide ((48 : Int) ≤ (m : Int)) = true := by simp; omega
    have b0 : decide ((m : Int) ≤ 57) = false := by simp; omega
    have a1 : decide ((65 : Int) ≤ (m : Int)) = true := by simp; omega
    have b1 : decide ((m : Int) ≤ 70) = true := by simp; omega
    have a2 : decide ((97 : Int) ≤ (m : Int)) = false := by simp; omega
    have b2 : decide ((m : Int) ≤ 102) = true := by simp; omega
    obtain ⟨x, hx⟩ : ∃ x : Nat, m = x + 65 := ⟨m - 65, by omega⟩
    have hx2 : x < 256 := by omega
    have hsub : (m : Int) - 65 = (x : Int) := by omega
    go_enter Tryz.func211, Tryz.ntmps211
    go_wp2_with fail
    go_ret
    refine ⟨?_, rfl⟩
    have := e1.out
    have e2 : d = x + 10 := by omega
    rw [e2]
    rfl
  · have e1 : Hid (d = 16) := by
      show _ = _
      rw [hd.out]
      repeat' split
      all_goals omega
    have a0 : decide ((48 : Int) ≤ (m : Int)) = true := by simp; omega
    have b0 : decide ((m : Int) ≤ 57) = false := by simp; omega
    have a1 : decide ((65 : Int) ≤ (m : Int)) = true := by simp; omega
    have b1 : decide ((m : Int) ≤ 70) = false := by simp; omega
    have a2 : decide ((97 : Int) ≤ (m : Int)) = false := by simp; omega
    have b2 : decide ((m : Int) ≤ 102) = true := by simp; omega
    go_enter Tryz.func211, Tryz.ntmps211
    go_wp2_with fail
    go_ret
    refine ⟨?_, rfl⟩
    have := e1.out
    have e2 : d = 16 := by omega
    rw [e2]
    rfl
  · have e1 : Hid (d = m - 97 + 10) := by
      show _ = _
      rw [hd.out]
      repeat' split
      all_goals omega
    have a0 : decide ((48 : Int) ≤ (m : Int)) = true := by simp; omega
    have b0 : decide ((m : Int) ≤ 57) = false := by simp; omega
    have a1 : decide ((65 : Int) ≤ (m : Int)) = true := by simp; omega
    have b1 : decide ((m : Int) ≤ 70) = false := by simp; omega
    have a2 : decide ((97 : Int) ≤ (m : Int)) = true := by simp; omega
    have b2 : decide ((m : Int) ≤ 102) = true := by simp; omega
    obtain ⟨x, hx⟩ : ∃ x : Nat, m = x + 97 := ⟨m - 97, by omega⟩
    have hx2 : x < 256 := by omega
    have hsub : (m : Int) - 97 = (x : Int) := by omega
    go_enter Tryz.func211, Tryz.ntmps211
    go_wp2_with fail
    go_ret
    refine ⟨?_, rfl⟩
    have := e1.out
    have e2 : d = x + 10 := by omega
    rw [e2]
    rfl
  · have e1 : Hid (d = 16) := by
      show _ = _
      rw [hd.out]
      repeat' split
      all_goals omega
    have a0 : decide ((48 : Int) ≤ (m : Int)) = true := by simp; omega
    have b0 : decide ((m : Int) ≤ 57) = false := by simp; omega
    have a1 : decide ((65 : Int) ≤ (m : Int)) = true := by simp; omega
    have b1 : decide ((m : Int) ≤ 70) = false := by simp; omega
    have a2 : decide ((97 : Int) ≤ (m : Int)) = true := by simp; omega
    have b2 : decide ((m : Int) ≤ 102) = false := by simp; omega
    go_enter Tryz.func211, Tryz.ntmps211
    go_wp2_with fail
    go_ret
    refine ⟨?_, rfl⟩
    have := e1.out
    have e2 : d = 16 := by omega
    rw [e2]
    rfl

set_option maxHeartbeats 4000000 in
set_option maxRecDepth 100000 in
theorem value_any (l : List UInt8) (b : Nat) (hb : b ≤ 16) (w : World) (hl : l.length ≤ 100000000) : Calls Tryz.prog 191 #[.string (str l), .int .u64 (b : Int)] w fun e w' => e = .returned (valV (val b 0 l)) ∧ w' = w := by
  have hsz := str_size l
  obtain ⟨S, hS⟩ : ∃ S, S = l.length := ⟨_, rfl⟩
  have hgb : Hid (∀ k, k < S → ∀ h, ((str l)[k]'h).toNat = (l.getD k 0).toNat) := fun k hk h => str_at l k (by rw [← hS]; exact hk) h
  obtain ⟨R, hR⟩ : ∃ R, R = val b 0 l := ⟨_, rfl⟩
  rw [← hR]
  rw [← hS] at hsz hl
  have HS := Lib.hid (And.intro hS hR)
  clear hS hR
  go_enter Tryz.func191, Tryz.ntmps191
  go_wp2_with fail
  go_loop [11, 6] (fun i v => ∃ (k n : Nat), k ≤ S ∧ n ≤ 4294967296 ∧ i = .int .i64 (k : Int) ∧ v = .int .u64 (n : Int) ∧ val b n (l.drop k) = R) (fun i _ => S - (intOf i).toNat)
  case atStart => exact ⟨0, 0, by omega, by omega, rfl, rfl, by rw [HS.out.2]; rfl⟩
  case round =>
    obtain ⟨k, n, hk, hn, rfl, rfl, hR⟩ := hrel
    by_cases hlt : k < S
    · have hkS : (k : Int) < (S : Int) := by omega
      obtain ⟨c, hc⟩ : ∃ c, c = l.getD k 0 := ⟨_, rfl⟩
      have hcons : l.drop k = c :: l.drop (k + 1) := by
        have hk' : k < l.length := by rw [← HS.out.1]; exact hlt
        rw [List.drop_eq_getElem_cons hk', hc]
        simp [List.getD, List.getElem?_eq_getElem hk']
      have HG := fun h => hgb.out k hlt h
      rw [← hc] at HG
      obtain ⟨m, hm⟩ : ∃ m, m = c.toNat := ⟨_, rfl⟩
      rw [← hm] at HG
      have HD := hdigit_any c w
      unfold vb at HD
      rw [← hm] at HD
      have hdl := dig_le c
      rw [hcons, val] at hR
      obtain ⟨d, hd⟩ : ∃ d, d = dig c := ⟨_, rfl⟩
      rw [← hd] at HD hdl hR
      have HD' := Lib.hid HD
      have HR := Lib.hid hR
      clear hc hcons hm hd HD hR
      by_cases hdb : d < b
      · have hge : ¬ (b : Int) ≤ (d : Int) := by omega
        obtain ⟨q, hq⟩ : ∃ q, q = n * b := ⟨_, rfl⟩
        have hq9 : q ≤ 4294967296 * 16 := by rw [hq]; exact Nat.mul_le_mul hn hb
        have hqi : (n : Int) * (b : Int) = (q : Int) := by rw [hq]; simp
        obtain ⟨z, hz⟩ : ∃ z, z = q + d := ⟨_, rfl⟩
        have hzi : (q : Int) + (d : Int) = (z : Int) := by omega
        have hz9 : z ≤ 68719476800 := by omega
        have HQ := Lib.hid (And.intro hq hz)
        clear hq hz
        obtain ⟨y, hy⟩ : ∃ y, y = min z 4294967296 := ⟨_, rfl⟩
        have hmin : min (z : Int) 4294967296 = (y : Int) := by omega
        have hy9 : y ≤ 4294967296 := by omega
        have HY := Lib.hid hy
        clear hy
        go_wp2_with (go_at_call 211; with_reducible refine HD'.out.mono ?_; rintro e w1 ⟨rfl, rfl⟩)
        go_round
        case rel =>
          refine ⟨k + 1, y, by omega, hy9, by go_num, rfl, ?_⟩
          have := HR.out
          rw [if_pos hdb] at this
          rw [← this, HY.out, HQ.out.2, HQ.out.1]
        case measure => simp [intOf]; omega
      · have hge : (b : Int) ≤ (d : Int) := by omega
        go_wp2_with (go_at_call 211; with_reducible refine HD'.out.mono ?_; rintro e w1 ⟨rfl, rfl⟩)
        go_ret2
        refine ⟨?_, rfl⟩
        have := HR.out
        rw [if_neg hdb] at this
        rw [← this]
        rfl
    · have hk' : Hid (k = S) := by show k = S; omega
      have hkS : (S : Int) ≤ (k : Int) := by omega
      clear hk hlt
      have HR := Lib.hid hR
      clear hR
      go_wp2_with fail
      go_ret2
      refine ⟨?_, rfl⟩
      have h1 := HR.out
      rw [hk'.out, HS.out.1, List.drop_length] at h1
      rw [← h1]
      rfl

end Go.Proofs.YtcepigekibidfaaGreatDoor
namespace Go.Proofs.YtcepigekibidfaaGreatDoor
open Go.RowKit

/-- What a byte parts. -/
def spl (c : UInt8) : List UInt8 → List (List UInt8)
  | [] => [[]]
  | a :: r => if a = c then [] :: spl c r else (a :: (spl c r).headD []) :: (spl c r).tail

theorem spl_ne (c : UInt8) (l : List UInt8) : spl c l ≠ [] := by
  cases l with
  | nil => simp [spl]
  | cons a r =>
    rw [spl]
    split <;> simp
theorem spl_form (c : UInt8) (l : List UInt8) : ∃ h t, spl c l = h :: t := by
  match hs : spl c l with
  | [] => exact absurd hs (spl_ne c l)
  | h :: t => exact ⟨h, t, rfl⟩
theorem spl_hit (c : UInt8) (r : List UInt8) : spl c (c :: r) = [] :: spl c r := by simp [spl]
theorem spl_miss (c a : UInt8) (r : List UInt8) (h : a ≠ c) (x : List UInt8) (t : List (List UInt8)) (hr : spl c r = x :: t) : spl c (a :: r) = (a :: x) :: t := by simp [spl, h, hr]
theorem spl_length (c : UInt8) : ∀ l : List UInt8, (spl c l).length = l.count c + 1
  | [] => rfl
  | a :: r => by
    have ih := spl_length c r
    by_cases h : a = c
    · subst h
      rw [spl_hit]
      simp [ih]
    · obtain ⟨x, t, hx⟩ := spl_form c r
      rw [spl_miss c a r h x t hx, List.count_cons_of_ne h]
      rw [hx] at ih
      simpa using ih
/-- A text without the byte is one part; the byte behind it begins another one. -/
theorem spl_none (c : UInt8) : ∀ l : List UInt8, c ∉ l → spl c l = [l]
  | [], _ => rfl
  | a :: r, h => by
    have h1 : a ≠ c := fun e => h (by simp [e])
    have h2 : c ∉ r := fun e => h (by simp [e])
    exact spl_miss c a r h1 r [] (spl_none c r h2)
theorem spl_append (c : UInt8) (m : List UInt8) : ∀ l : List UInt8, c ∉ l → spl c (l ++ c :: m) = l :: spl c m
  | [], _ => spl_hit c m
  | a :: r, h => by
    have h1 : a ≠ c := fun e => h (by simp [e])
    have h2 : c ∉ r := fun e => h (by simp [e])
    exact spl_miss c a _ h1 r _ (spl_append c m r h2)
theorem spl_mem (c : UInt8) : ∀ (l p : List UInt8), p ∈ spl c l → c ∉ p ∧ p.length ≤ l.length ∧ ∀ x ∈ p, x ∈ l
  | [], p, h => by
    simp [spl] at h
    subst h
    simp
  | a :: r, p, h => by
    by_cases hc : a = c
    · subst hc
      rw [spl_hit] at h
      rcases List.mem_cons.1 h with h | h
      · subst h
        simp
      · obtain ⟨h1, h2, h3⟩ := spl_mem a r p h
        exact ⟨h1, by simp; omega, fun x hx => by simp [h3 x hx]⟩
    · obtain ⟨x, t, hx⟩ := spl_form c r
      rw [spl_miss c a r hc x t hx] at h
      rcases List.mem_cons.1 h with h | h
      · subst h
        obtain ⟨h1, h2, h3⟩ := spl_mem c r x (by rw [hx]; simp)
        refine ⟨?_, by simp; omega, ?_⟩
        · simp [h1, Ne.symm hc]
        · intro y hy
          rcases List.mem_cons.1 hy with hy | hy
          · simp [hy]
          · simp [h3 y hy]
      · obtain ⟨h1, h2, h3⟩ := spl_mem c r p (by rw [hx]; simp [h])
        exact ⟨h1, by simp; omega, fun x hx => by simp [h3 x hx]⟩

theorem index_one_hit (c : UInt8) (r : List UInt8) : Lib.index (c :: r) [c] = 0 := by
  rw [Lib.index]
  simp [List.isPrefixOf]
theorem index_one_miss (c a : UInt8) (r : List UInt8) (h : a ≠ c) : Lib.index (a :: r) [c] = if Lib.index r [c] == -1 then -1 else Lib.index r [c] + 1 := by
  rw [Lib.index]
  simp [List.isPrefixOf, Ne.symm h]
theorem index_some (c : UInt8) : ∀ r : List UInt8, r.count c ≠ 0 → 0 ≤ Lib.index r [c]
  | [], h => by simp at h
  | a :: r, h => by
    by_cases h1 : a = c
    · subst h1
      rw [index_one_hit]
      simp
    · rw [List.count_cons_of_ne h1] at h
      have := index_some c r h
      rw [index_one_miss c a r h1, if_neg (by simp; omega)]
      omega
theorem splitK_spl (c : UInt8) : ∀ l : List UInt8, Lib.splitK [c] 0 (l.count c) l = spl c l
  | [] => rfl
  | a :: r => by
    have ih := splitK_spl c r
    by_cases h : a = c
    · subst h
      rw [List.count_cons_self, Lib.splitK, index_one_hit, if_neg (by decide), spl_hit, ← ih]
      simp
    · rw [List.count_cons_of_ne h]
      obtain ⟨k, hk⟩ : ∃ k, k = r.count c := ⟨_, rfl⟩
      rw [← hk] at ih ⊢
      cases k with
      | zero =>
        rw [Lib.splitK] at ih ⊢
        exact (spl_miss c a r h r [] ih.symm).symm
      | succ k =>
        have hi := index_some c r (by omega)
        obtain ⟨i, hi2⟩ : ∃ i : Nat, Lib.index r [c] = i := ⟨(Lib.index r [c]).toNat, by omega⟩
        have hn : ¬ ((i : Int) == -1) = true := by simp
        rw [Lib.splitK, hi2, if_neg hn] at ih
        rw [Lib.splitK, index_one_miss c a r h, hi2, if_neg hn, if_neg (by simp; omega)]
        rw [spl_miss c a r h _ _ ih.symm]
        have e1 : ((i : Int) + 1).toNat = i + 1 := by omega
        rw [e1]
        simp

def vstr (l : List UInt8) : Value := .string (str l)
theorem countB_spl (c : UInt8) (l : List UInt8) : Lib.countB (str l) ⟨#[c]⟩ + 1 = (spl c l).length := by
  rw [spl_length]
  congr 1
  exact Lib.count_one c l
theorem splitB_spl (c : UInt8) (l : List UInt8) : Lib.splitB ⟨#[c]⟩ 0 (Lib.countB (str l) ⟨#[c]⟩) (str l) = (spl c l).map str := by
  have h := Lib.splitB_data ⟨#[c]⟩ 0 (Lib.countB (str l) ⟨#[c]⟩) (str l)
  have hc : Lib.countB (str l) ⟨#[c]⟩ = l.count c := Lib.count_one c l
  rw [hc] at h ⊢
  have h2 : Lib.splitK [c] 0 (l.count c) l = spl c l := splitK_spl c l
  have h3 := h.trans h2
  rw [← h3, List.map_map]
  have e : (str ∘ fun x : ByteArray => x.data.toList) = id := by
    funext x
    rfl
  rw [e, List.map_id]

/-- The block g holds texts. -/
def Ps (w : World) (g : Nat) (ps : List (List UInt8)) : Prop := g < w.heap.size ∧ ∀ j p, ps[j]? = some p → w.cell? ⟨g, j, none⟩ = some (vstr p)
theorem Ps.below {w w' : World} {g B : Nat} {ps : List (List UInt8)} (h : Ps w g ps) (hb : Below B w w') (hB : g < B) (hBw : B ≤ w.heap.size) : Ps w' g ps :=
  ⟨by have := hb.size; omega, fun j p hj => (hb.cell (p := ⟨g, j, none⟩) hB).trans (h.2 j p hj)⟩
theorem Ps.kept {w w' : World} {g : Nat} {ps : List (List UInt8)} (h : Ps w g ps) (hb : Below w.heap.size w w') : Ps w' g ps := h.below hb h.1 (Nat.le_refl _)

/-- strings.Split at a byte. -/
theorem split_one (c : UInt8) (l : List UInt8) (m : Int) (w : World) (hl : l.length ≤ 100000000) (hm : w.cell? ⟨0, 0, none⟩ = some (.int .i64 m)) :
    Calls Tryz.prog 94 #[.string (str l), .string ⟨#[c]⟩] w fun e w' => e = .returned (.slice (some ⟨w.heap.size, 0, none⟩) (spl c l).length (spl c l).length) ∧ Ps w' w.heap.size (spl c l) ∧ Below w.heap.size w w' := by
  refine (Tryz.strings_Split (str l) ⟨#[c]⟩ m w (by rw [str_size]; omega) hm (Nat.le_refl 1)).mono ?_
  rintro e w' ⟨rfl, rfl⟩
  rw [countB_spl, splitB_spl]
  refine ⟨rfl, ⟨by simp, fun j p hj => ?_⟩, (Below.refl _ _).alloc (Nat.le_refl _) _⟩
  rw [World.cell?_alloc_at _ _ _ _ rfl, List.getElem?_toArray, List.map_map, List.getElem?_map, hj]
  rfl
end Go.Proofs.YtcepigekibidfaaGreatDoor
namespace Go.Proofs.YtcepigekibidfaaGreatDoor
open Go.RowKit

/-- The parts of a text. -/
def prt (l : List UInt8) : List (List UInt8) := if 1 < (spl 46 l).length ∧ (spl 46 l).getLastD [] = [] then (spl 46 l).dropLast else spl 46 l
/-- Is the last part digits, or a number? -/
def ends (ps : List (List UInt8)) : Bool := ps.getLastD [] != [] && ((val 10 0 (ps.getLastD [])).isSome || (num (ps.getLastD [])).isSome)
def jn (room A : Nat) : List (List UInt8) → Option Nat
  | [] => some A
  | [p] => (num p).bind fun n => if n < 256 ^ room then some (A * 256 ^ room + n) else none
  | p :: q :: r => (num p).bind fun n => if n < 256 then jn (room - 1) (A * 256 + n) (q :: r) else none
/-- The address that parts tell. -/
def joinS (ps : List (List UInt8)) : Option Nat := if 4 < ps.length then none else jn 4 0 ps

/-- A pair of a number and a bool: two slots. -/
theorem valV_pair (o : Option Nat) : valV o = .tuple #[.int .u64 ((o.getD 0 : Nat) : Int), .bool o.isSome] := by
  cases o <;> rfl

theorem value16 (l : List UInt8) (w : World) (hl : l.length ≤ 100000000) : Calls Tryz.prog 191 #[.string (str l), .int .u64 16] w fun e w' => e = .returned (valV (val 16 0 l)) ∧ w' = w := value_any l 16 (by decide) w hl
theorem value8 (l : List UInt8) (w : World) (hl : l.length ≤ 100000000) : Calls Tryz.prog 191 #[.string (str l), .int .u64 8] w fun e w' => e = .returned (valV (val 8 0 l)) ∧ w' = w := value_any l 8 (by decide) w hl
theorem value10 (l : List UInt8) (w : World) (hl : l.length ≤ 100000000) : Calls Tryz.prog 191 #[.string (str l), .int .u64 10] w fun e w' => e = .returned (valV (val 10 0 l)) ∧ w' = w := value_any l 10 (by decide) w hl
theorem str_empty (l : List UInt8) : (str l).toList.isEmpty = decide (l = []) := by
  rw [toList_str]
  cases l <;> simp
theorem num_hex (l : List UInt8) (h : Lib.hasPrefix l [48, 120] = true ∨ Lib.hasPrefix l [48, 88] = true) : num l = val 16 0 (l.drop 2) ∧ 2 ≤ l.length := by
  match l, h with
  | [], h => simp [Lib.hasPrefix] at h
  | [a], h => simp [Lib.hasPrefix, List.isPrefixOf] at h
  | a :: b :: t, h =>
    simp [Lib.hasPrefix, List.isPrefixOf] at h
    have ha : a = 48 := by rcases h with h | h <;> exact h.1.symm
    have hb : b = 120 ∨ b = 88 := by rcases h with h | h; (· exact .inl h.2.symm); exact .inr h.2.symm
    simp [num, ha, hb]
theorem num_oct (l : List UInt8) (h : ¬ (Lib.hasPrefix l [48, 120] = true ∨ Lib.hasPrefix l [48, 88] = true)) (h0 : l.getD 0 0 = 48) : num l = val 8 0 (l.drop 1) ∧ 1 ≤ l.length := by
  match l, h with
  | [], h => simp at h0
  | [a], h =>
    simp at h0
    simp [num, h0, val]
  | a :: b :: t, h =>
    simp at h0
    simp [Lib.hasPrefix, List.isPrefixOf, h0] at h
    have hb : ¬ (b = 120 ∨ b = 88) := by
      rintro (rfl | rfl)
      · exact h.1 rfl
      · exact h.2 rfl
    simp [num, h0, hb]
theorem num_dec (l : List UInt8) (hl : l ≠ []) (h0 : l.getD 0 0 ≠ 48) : num l = val 10 0 l := by
  match l, h0 with
  | [], _ => exact absurd rfl hl
  | [a], h0 =>
    simp at h0
    simp [num, h0]
  | a :: b :: t, h0 =>
    simp at h0
    simp [num, h0]

set_option maxHeartbeats 4000000 in
theorem number_any (l : List UInt8) (w : World) (hl : l.length ≤ 100000000) : Calls Tryz.prog 192 #[.string (str l)] w fun e w' => e = .returned (valV (num l)) ∧ w' = w := by
  have hsz := str_size l
  have H1 : ∀ w, Calls Tryz.prog 89 #[.string (str l), .string ⟨#[48, 120]⟩] w fun e w' => e = .returned (.bool (Lib.hasPrefix l [48, 120])) ∧ w' = w := fun w => Tryz.strings_HasPrefix (str l) _ w
  have H2 : ∀ w, Calls Tryz.prog 89 #[.string (str l), .string ⟨#[48, 88]⟩] w fun e w' => e = .returned (.bool (Lib.hasPrefix l [48, 88])) ∧ w' = w := fun w => Tryz.strings_HasPrefix (str l) _ w
  have V16 := value16 (l.drop 2) w (by rw [List.length_drop]; omega)
  have V8 := value8 (l.drop 1) w (by rw [List.length_drop]; omega)
  have V10 := value10 l w hl
  have hcut2 := fun h => str_drop l 2 l.length rfl h
  have hcut1 := fun h => str_drop l 1 l.length rfl h
  have h0 : ∀ h, ((str l)[0]'h).toNat = (l.getD 0 0).toNat := fun h => str_at l 0 (by rw [← str_size]; exact h) h
  rw [valV_pair] at V16 V8 V10 ⊢
  by_cases he : l = []
  · have hem : (str l).toList.isEmpty = true := by rw [str_empty]; simp [he]
    have hn : Hid (num l = none) := by show _ = _; rw [he]; rfl
    clear V16 V8 V10 H1 H2 hcut1 hcut2 h0 he
    go_enter Tryz.func192, Tryz.ntmps192
    go_wp2_with fail
    go_ret2
    rw [hn.out]
    exact ⟨rfl, rfl⟩
  · have hem : (str l).toList.isEmpty = false := by rw [str_empty]; simp [he]
    have hS1 : 1 ≤ l.length := by cases l with
      | nil => exact absurd rfl he
      | cons a r => simp
    by_cases hx : Lib.hasPrefix l [48, 120] = true ∨ Lib.hasPrefix l [48, 88] = true
    · obtain ⟨hn, hS2⟩ := num_hex l hx
      rw [← hn] at V16
      have hc2 := hcut2 hS2
      obtain ⟨S, hS⟩ : ∃ S, S = l.length := ⟨_, rfl⟩
      rw [← hS] at hsz hc2 hS2 hl
      have W16 := Lib.hid V16
      have G1 := Lib.hid H1
      have G2 := Lib.hid H2
      obtain ⟨R, hR⟩ : ∃ R, R = (num l).getD 0 := ⟨_, rfl⟩
      obtain ⟨B, hB⟩ : ∃ B, B = (num l).isSome := ⟨_, rfl⟩
      rw [← hR, ← hB] at W16 ⊢
      clear V16 V8 V10 H1 H2 hcut1 hcut2 h0 he hn hS hS1 hR hB
      have hS2i : (2 : Int) ≤ (S : Int) := by omega
      cases hp1 : Lib.hasPrefix l [48, 120] with
      | true =>
        rw [hp1] at G1
        clear hp1 hx G2
        go_enter Tryz.func192, Tryz.ntmps192
        go_wp2_with (first
          | (go_at_call 89; with_reducible refine (G1.out _).mono ?_; rintro e w1 ⟨rfl, rfl⟩)
          | (go_at_call 191; with_reducible refine W16.out.mono ?_; rintro e w2 ⟨rfl, rfl⟩))
        go_ret2
        exact ⟨rfl, rfl⟩
      | false =>
        have hp2 : Lib.hasPrefix l [48, 88] = true := by rcases hx with h | h; (· rw [h] at hp1; cases hp1); exact h
        rw [hp1] at G1
        rw [hp2] at G2
        clear hp1 hp2 hx
        go_enter Tryz.func192, Tryz.ntmps192
        go_wp2_with (first
          | (go_at_call 89; first | (with_reducible refine (G1.out _).mono ?_; rintro e w1 ⟨rfl, rfl⟩) | (with_reducible refine (G2.out _).mono ?_; rintro e w3 ⟨rfl, rfl⟩))
          | (go_at_call 191; with_reducible refine W16.out.mono ?_; rintro e w2 ⟨rfl, rfl⟩))
        go_ret2
        exact ⟨rfl, rfl⟩
    · have hp1 : Lib.hasPrefix l [48, 120] = false := by cases h : Lib.hasPrefix l [48, 120] with
        | true => exact absurd (.inl h) hx
        | false => rfl
      have hp2 : Lib.hasPrefix l [48, 88] = false := by cases h : Lib.hasPrefix l [48, 88] with
        | true => exact absurd (.inr h) hx
        | false => rfl
      rw [hp1] at H1
      rw [hp2] at H2
      have G1 := Lib.hid H1
      have G2 := Lib.hid H2
      by_cases hz : l.getD 0 0 = 48
      · obtain ⟨hn, _⟩ := num_oct l hx hz
        have hc1 := hcut1 hS1
        obtain ⟨T, hT⟩ : ∃ T, T = l.drop 1 := ⟨_, rfl⟩
        rw [← hT] at hc1 V8 hn
        rw [← hn] at V8
        clear hT
        obtain ⟨S, hS⟩ : ∃ S, S = l.length := ⟨_, rfl⟩
        rw [← hS] at hsz hc1 hS1 hl
        rw [hz] at h0
        have W8 := Lib.hid V8
        obtain ⟨R, hR⟩ : ∃ R, R = (num l).getD 0 := ⟨_, rfl⟩
        obtain ⟨B, hB⟩ : ∃ B, B = (num l).isSome := ⟨_, rfl⟩
        rw [← hR, ← hB] at W8 ⊢
        have h0' : ∀ h, ((str l)[0]'h).toNat = 48 := h0
        clear V16 V8 V10 H1 H2 hcut1 hcut2 h0 he hn hS hR hB hp1 hp2 hx hz
        have hS1i : (1 : Int) ≤ (S : Int) := by omega
        have hS0i : (0 : Int) < (S : Int) := by omega
        go_enter Tryz.func192, Tryz.ntmps192
        go_wp2_with (first
          | (go_at_call 89; first | (with_reducible refine (G1.out _).mono ?_; rintro e w1 ⟨rfl, rfl⟩) | (with_reducible refine (G2.out _).mono ?_; rintro e w3 ⟨rfl, rfl⟩))
          | (go_at_call 191; with_reducible refine W8.out.mono ?_; rintro e w2 ⟨rfl, rfl⟩))
        go_ret2
        exact ⟨rfl, rfl⟩
      · have hn := num_dec l he hz
        rw [← hn] at V10
        obtain ⟨S, hS⟩ : ∃ S, S = l.length := ⟨_, rfl⟩
        rw [← hS] at hsz hS1 hl
        obtain ⟨m, hm⟩ : ∃ m, m = (l.getD 0 0).toNat := ⟨_, rfl⟩
        rw [← hm] at h0
        have hm48 : ((m : Int) == 48) = false := by
          have : m ≠ 48 := fun e => hz (UInt8.toNat_inj.1 (by rw [← hm, e]; rfl))
          simp
          omega
        have W10 := Lib.hid V10
        obtain ⟨R, hR⟩ : ∃ R, R = (num l).getD 0 := ⟨_, rfl⟩
        obtain ⟨B, hB⟩ : ∃ B, B = (num l).isSome := ⟨_, rfl⟩
        rw [← hR, ← hB] at W10 ⊢
        clear V16 V8 V10 H1 H2 hcut1 hcut2 he hn hS hR hB hp1 hp2 hx hz hm
        have hS0i : (0 : Int) < (S : Int) := by omega
        go_enter Tryz.func192, Tryz.ntmps192
        go_wp2_with (first
          | (go_at_call 89; first | (with_reducible refine (G1.out _).mono ?_; rintro e w1 ⟨rfl, rfl⟩) | (with_reducible refine (G2.out _).mono ?_; rintro e w3 ⟨rfl, rfl⟩))
          | (go_at_call 191; with_reducible refine W10.out.mono ?_; rintro e w2 ⟨rfl, rfl⟩))
        go_ret2
        exact ⟨rfl, rfl⟩
end Go.Proofs.YtcepigekibidfaaGreatDoor
namespace Go.Proofs.YtcepigekibidfaaGreatDoor
open Go.RowKit

/-- The value v is a row of texts of the call's own (blocks from base on). -/
def OwnT (w : World) (base : Nat) (v : Value) (n : Nat) (L : List (List UInt8)) : Prop := w.ownsRow base 9 1 v n (L.map vstr)
theorem text_info : (Tryz.prog.info? 9).map (fun i => (i.zero, i.size, i.bytes)) = some (some (.string ⟨#[]⟩), 1, 16) := by kernel_rfl
theorem vstr_one (L : List (List UInt8)) : ∀ u ∈ L.map vstr, u.oneCell' = true := by
  intro u hu
  obtain ⟨c, _, rfl⟩ := List.mem_map.1 hu
  rfl
section
variable {w w' : World} {base n : Nat} {v : Value} {L : List (List UInt8)}
theorem OwnT.len (h : OwnT w base v n L) : L.length = n := by
  have := h.1
  rwa [List.length_map, Nat.mul_one] at this
theorem OwnT.base_le (h : OwnT w base v n L) : ∀ k, v.ownBlock = some k → base ≤ k := fun k hk => (World.ownsRow.lt h k hk).1
theorem OwnT.kept (h : OwnT w base v n L) (hb : Below w.heap.size w w') : OwnT w' base v n L := by
  refine ⟨h.1, ?_⟩
  rcases h.2 with h2 | ⟨g, cap, cur, hv, hg, hh, r⟩
  · exact .inl h2
  · exact .inr ⟨g, cap, cur, hv, hg, by rw [hb.block g (Array.getElem?_eq_some_iff.1 hh).1]; exact hh, r⟩
theorem OwnT.alloc (h : OwnT w base v n L) (o : Obj) : OwnT (w.alloc o) base v n L := World.ownsRow.alloc h o
theorem OwnT.chg {x : Nat} (h : OwnT w base v n L) (hc : Chg x x w w') (hx : v.ownBlock ≠ some x) : OwnT w' base v n L := by
  refine ⟨h.1, ?_⟩
  rcases h.2 with h2 | ⟨g, cap, cur, hv, hg, hh, r⟩
  · exact .inl h2
  · have hne : g ≠ x := by
      rintro rfl
      rw [hv] at hx
      exact hx rfl
    exact .inr ⟨g, cap, cur, hv, hg, by rw [hc.block g (Array.getElem?_eq_some_iff.1 hh).1 hne hne]; exact hh, r⟩
theorem OwnT.form (h : OwnT w base v n L) : ∃ A c, v = .slice A n c ∧ n ≤ c ∧ c ≤ maxLen ∧ (0 < c → ∃ g, A = some ⟨g, 0, none⟩ ∧ base ≤ g ∧ g < w.heap.size ∧ ∀ (j : Nat) (p : List UInt8), L[j]? = some p → w.cell? ⟨g, j, none⟩ = some (vstr p)) := by
  rcases h.2 with ⟨rfl, rfl⟩ | ⟨g, cap, cur, rfl, hb, hg, hnc, hml, _⟩
  · exact ⟨none, 0, rfl, Nat.le_refl _, Nat.zero_le _, fun hn => absurd hn (by omega)⟩
  · have hlt : g < w.heap.size := (Array.getElem?_eq_some_iff.1 hg).1
    refine ⟨some ⟨g, 0, none⟩, cap, rfl, hnc, hml, fun _ => ⟨g, rfl, hb, hlt, fun j p hj => ?_⟩⟩
    have := World.ownsRow.cells (g := g) h rfl j (vstr p) (by simp [hj])
    rwa [Addr.add_lit, Nat.zero_add] at this
/-- The row's first k texts. -/
theorem OwnT.take {A : Option Addr} {c : Nat} (h : OwnT w base (.slice A n c) n L) (k : Nat) (hk : k ≤ n) : OwnT w base (.slice A k c) k (L.take k) := by
  have hl := h.len
  refine ⟨by simp; omega, ?_⟩
  rcases h.2 with ⟨h1, h2⟩ | ⟨g, cap, cur, hv, hg, hh, hn, hml, hsz, hx⟩
  · cases h1
    exact .inl ⟨by rw [show k = 0 by omega], by omega⟩
  · cases hv
    refine .inr ⟨g, c, cur, rfl, hg, hh, by omega, hml, hsz, ?_⟩
    rw [Nat.mul_one] at hx ⊢
    rw [List.map_take, ← hx, List.take_take, Nat.min_eq_left hk]
end
theorem ownT_made (w : World) (base : Nat) (hb : base ≤ w.heap.size) : OwnT (w.alloc (.cells #[] 9)) base (.slice (some ⟨w.heap.size, 0, none⟩) 0 0) 0 [] :=
  World.ownsRow_made _ _ _ hb (by decide) rfl
theorem ownT_nil (w : World) (base : Nat) : OwnT w base (.slice none 0 0) 0 [] := World.ownsRow_nil w base 9 1

theorem run_appT (w : World) (base : Nat) (ty : TypeId) (v : Value) (n : Nat) (L : List (List UInt8)) (hown : OwnT w base v n L)
    (g off m c : Nat) (K : List (List UInt8)) (hm : K.length = m) (hr : ∀ (j : Nat) (p : List UInt8), K[j]? = some p → w.cell? ⟨g, off + j, none⟩ = some (vstr p)) (hs : n + m ≤ 1000000000) (hbase : base ≤ w.heap.size) :
    ∃ v' w', (Builtin.append_ #[34, 34] ty #[v, .slice (some ⟨g, off, none⟩) m c]).run Tryz.prog w = .ok v' w' ∧ OwnT w' base v' (n + m) (L ++ K) ∧ Below base w w' ∧ KeepsBut 9 w w' ∧ w.grownBy w' v.ownBlock := by
  obtain ⟨i, hi, hz, h1, h2⟩ := info_parts text_info
  have hcells : ∀ j u, (K.map vstr)[j]? = some u → w.cell? ((⟨g, off, none⟩ : Addr).add j) = some u := by
    intro j u hu
    rw [List.getElem?_map, Option.map_eq_some_iff] at hu
    obtain ⟨p, hp, rfl⟩ := hu
    rw [Addr.add_lit]
    exact hr j p hp
  obtain ⟨v', w', hrun, h3, h4, _, h5⟩ := run_append_own_at (P := Tryz.prog) w base 34 ty 9 i _ 1 16 Tryz.underlying34 hi hz h1 h2 rfl (by omega) v n (L.map vstr) hown ⟨g, off, none⟩ m c (K.map vstr)
    (by simpa using hm) hcells (vstr_one K) (by unfold maxLen; omega) (by omega) hbase
  exact ⟨v', w', hrun, by rw [← List.map_append] at h3; exact h3, (Below.refl _ _).grown h4 hbase (OwnT.base_le hown), KeepsBut.of_row hown h4, h4⟩
/-- The same at the operation of a walk. -/
theorem wp_appT {ops : Array Oper} {rest : List Oper} {o : Oper} {a : Act} {Q : Exit → Act → World → Prop} (w : World) (hgd : o.guard = none) (s x : Operand)
    (ho : o.op = .call { callee := .builtin .append, args := #[s, x], argTypes := #[34, 34] })
    (base : Nat) (v : Value) (n : Nat) (L : List (List UInt8)) (hs : a.eval s = v) (hown : OwnT w base v n L)
    (g off m c : Nat) (K : List (List UInt8)) (hm : K.length = m) (hx : a.eval x = .slice (some ⟨g, off, none⟩) m c) (hr : ∀ (j : Nat) (p : List UInt8), K[j]? = some p → w.cell? ⟨g, off + j, none⟩ = some (vstr p)) (hsz : n + m ≤ 1000000000) (hbase : base ≤ w.heap.size)
    (N : Nat) (hN : n + m = N)
    (h : ∀ A' c' w', N ≤ c' → OwnT w' base (.slice A' N c') N (L ++ K) → Below base w w' → KeepsBut 9 w w' → w.grownBy w' v.ownBlock → wpList Tryz.prog ops Q rest (a.put o.dst (.slice A' N c')) w') : wpList Tryz.prog ops Q (o :: rest) a w := by
  subst hN
  refine wpList_plain hgd fun K' hK => ?_
  obtain ⟨v', w', hrun, h2, h3, h4, h5⟩ := run_appT w base o.type v n L hown g off m c K hm hr hsz hbase
  obtain ⟨A', c', rfl, hc, _, _⟩ := h2.form
  unfold Oper.wp execOp
  simp only [ho, resolve, invoke, builtin, Sem.run_bind, Sem.run_pure, Result.andThen_ok, List.map_toArray, List.map_cons, List.map_nil, hs, hx, hrun]
  exact hK _ _ (h A' c' w' hc h2 h3 h4 h5)
end Go.Proofs.YtcepigekibidfaaGreatDoor
namespace Go.Proofs.YtcepigekibidfaaGreatDoor
open Go.RowKit

theorem getLastD_at (ps : List (List UInt8)) (n : Nat) (h : ps.length = n + 1) : ps[n]? = some (ps.getLastD []) := by
  rcases List.eq_nil_or_concat ps with rfl | ⟨q, x, rfl⟩
  · simp at h
  · simp at h
    subst h
    simp
theorem prt_ne (l : List UInt8) : prt l ≠ [] := by
  unfold prt
  split
  · rename_i h
    intro e
    have := congrArg List.length e
    simp at this
    omega
  · exact spl_ne 46 l
theorem prt_mem (l p : List UInt8) (h : p ∈ prt l) : p ∈ spl 46 l := by
  unfold prt at h
  split at h
  · exact List.dropLast_subset _ h
  · exact h

theorem Ps.at_ {w : World} {g j : Nat} {ps : List (List UInt8)} {p : List UInt8} (h : Ps w g ps) (hj : ps[j]? = some p) : w.cell? ⟨g, j, none⟩ = some (.string (str p)) := h.2 j p hj
theorem Ps.take {w : World} {g : Nat} {ps qs : List (List UInt8)} (h : Ps w g ps) (hq : ∀ (j : Nat) p, qs[j]? = some p → ps[j]? = some p) : Ps w g qs := ⟨h.1, fun j p hj => h.2 j p (hq j p hj)⟩

set_option maxHeartbeats 4000000 in
theorem split_any (l : List UInt8) (m : Int) (w : World) (hl : l.length ≤ 100000000) (hm : w.cell? ⟨0, 0, none⟩ = some (.int .i64 m)) :
    Calls Tryz.prog 158 #[.string (str l)] w fun e w' => ∃ c, e = .returned (.slice (some ⟨w.heap.size, 0, none⟩) (prt l).length c) ∧ (prt l).length ≤ c ∧ c ≤ 100000001 ∧ Ps w' w.heap.size (prt l) ∧ Below w.heap.size w w' := by
  have HS := Lib.hid (split_one 46 l m w hl hm)
  have hlen := spl_length 46 l
  have hcl : l.count 46 ≤ l.length := List.count_le_length
  have hp : Hid (prt l = if 1 < (spl 46 l).length ∧ (spl 46 l).getLastD [] = [] then (spl 46 l).dropLast else spl 46 l) := rfl
  have hla := getLastD_at (spl 46 l) (l.count 46) hlen
  obtain ⟨P, hP⟩ : ∃ P, P = spl 46 l := ⟨_, rfl⟩
  obtain ⟨Q, hQ⟩ : ∃ Q, Q = prt l := ⟨_, rfl⟩
  rw [← hP] at HS hlen hp hla
  rw [← hQ] at hp ⊢
  obtain ⟨k, hk⟩ : ∃ k, k = l.count 46 := ⟨_, rfl⟩
  rw [← hk] at hlen hla hcl
  have hk9 : k ≤ 100000000 := by omega
  rw [hlen] at HS
  have hki : (k : Int) + 1 - 1 = (k : Int) := by omega
  have hki2 : ((k + 1 : Nat) : Int) - 1 = (k : Int) := by omega
  have HL := Lib.hid hlen
  clear hcl hP hQ hk hlen
  by_cases hk0 : k = 0
  · have hq : Hid (Q = P) := by show _ = _; rw [hp.out, if_neg (by rw [HL.out]; omega)]
    subst hk0
    go_enter Tryz.func158, Tryz.ntmps158
    go_wp2_with (go_at_call 94; with_reducible refine HS.out.mono ?_; rintro e w1 ⟨rfl, hps, hb⟩)
    go_ret
    rw [hq.out, HL.out]
    exact ⟨_, rfl, by omega, by omega, hps, hb⟩
  · have hk1 : (0 : Int) < (k : Int) := by omega
    have hkn : k < k + 1 := by omega
    obtain ⟨X, hX⟩ : ∃ X, X = P.getLastD [] := ⟨_, rfl⟩
    rw [← hX] at hla hp
    have HA := Lib.hid hla
    clear hX hla
    by_cases hx : X = []
    · have hq : Hid (Q = P.dropLast) := by show _ = _; rw [hp.out, if_pos ⟨by rw [HL.out]; omega, hx⟩]
      have hem : (str X).toList.isEmpty = true := by rw [str_empty]; simp [hx]
      clear hp hx
      go_enter Tryz.func158, Tryz.ntmps158
      go_wp2_with (go_at_call 94; with_reducible refine HS.out.mono ?_; rintro e w1 ⟨rfl, hps, hb⟩; have hcell := hps.at_ HA.out; have HP := Lib.hid (And.intro hps hb); clear hps hb)
      go_ret
      have hql : Q.length = k := by rw [hq.out, List.length_dropLast, HL.out]; omega
      rw [hql]
      refine ⟨_, rfl, by omega, by omega, HP.out.1.take ?_, HP.out.2⟩
      intro j p hj
      rw [hq.out, List.getElem?_dropLast] at hj
      split at hj
      · exact hj
      · cases hj
    · have hq : Hid (Q = P) := by show _ = _; rw [hp.out, if_neg (fun h => hx h.2)]
      have hem : (str X).toList.isEmpty = false := by rw [str_empty]; simp [hx]
      clear hp hx
      go_enter Tryz.func158, Tryz.ntmps158
      go_wp2_with (go_at_call 94; with_reducible refine HS.out.mono ?_; rintro e w1 ⟨rfl, hps, hb⟩; have hcell := hps.at_ HA.out; have HP := Lib.hid (And.intro hps hb); clear hps hb)
      go_ret
      rw [hq.out, HL.out]
      exact ⟨_, rfl, by omega, by omega, HP.out.1, HP.out.2⟩

set_option maxHeartbeats 4000000 in
theorem ends_any (ps : List (List UInt8)) (g c : Nat) (w : World) (hps : Ps w g ps) (hne : ps ≠ []) (hn : ps.length ≤ 100000001) (hl : ∀ p ∈ ps, p.length ≤ 100000000) :
    Calls Tryz.prog 159 #[.slice (some ⟨g, 0, none⟩) ps.length c] w fun e w' => e = .returned (.bool (ends ps)) ∧ w' = w := by
  obtain ⟨k, hk⟩ : ∃ k, ps.length = k + 1 := ⟨ps.length - 1, by have := List.length_pos_iff.2 hne; omega⟩
  have hla := getLastD_at ps k hk
  have hcell := hps.at_ hla
  have hX := hl _ (List.mem_of_getElem? hla)
  have hE : Hid (ends ps = (ps.getLastD [] != [] && ((val 10 0 (ps.getLastD [])).isSome || (num (ps.getLastD [])).isSome))) := rfl
  obtain ⟨X, hX'⟩ : ∃ X, X = ps.getLastD [] := ⟨_, rfl⟩
  rw [← hX'] at hcell hX hE
  obtain ⟨E, hE'⟩ : ∃ E, E = ends ps := ⟨_, rfl⟩
  rw [← hE'] at hE ⊢
  rw [hk] at hn ⊢
  have V := value10 X w hX
  have M := number_any X w hX
  rw [valV_pair] at V M
  obtain ⟨v1, hv1⟩ : ∃ v, v = (val 10 0 X).getD 0 := ⟨_, rfl⟩
  obtain ⟨v2, hv2⟩ : ∃ v, v = (num X).getD 0 := ⟨_, rfl⟩
  obtain ⟨b1, hb1⟩ : ∃ v, v = (val 10 0 X).isSome := ⟨_, rfl⟩
  obtain ⟨b2, hb2⟩ : ∃ v, v = (num X).isSome := ⟨_, rfl⟩
  rw [← hv1, ← hb1] at V
  rw [← hv2, ← hb2] at M
  rw [← hb1, ← hb2] at hE
  have HV := Lib.hid V
  have HM := Lib.hid M
  have hki : (k : Int) + 1 - 1 = (k : Int) := by omega
  have hkn : k < k + 1 := by omega
  clear hv1 hv2 hb1 hb2 V M hla hps hl hk hne hX' hE'
  by_cases hx : X = []
  · have hem : (str X).toList.isEmpty = true := by rw [str_empty]; simp [hx]
    have hE2 : Hid (E = false) := by show _ = _; rw [hE.out, hx]; rfl
    clear hE hx
    go_enter Tryz.func159, Tryz.ntmps159
    go_wp2_with fail
    go_ret
    rw [hE2.out]
    exact ⟨rfl, rfl⟩
  · have hem : (str X).toList.isEmpty = false := by rw [str_empty]; simp [hx]
    have hE2 : Hid (E = (b1 || b2)) := by show _ = _; rw [hE.out, show (X != []) = true by simpa using hx]; rfl
    clear hE hx
    cases b1 with
    | true =>
      go_enter Tryz.func159, Tryz.ntmps159
      go_wp2_with (first
        | (go_at_call 191; with_reducible refine HV.out.mono ?_; rintro e w1 ⟨rfl, rfl⟩)
        | (go_at_call 192; with_reducible refine HM.out.mono ?_; rintro e w2 ⟨rfl, rfl⟩))
      go_ret
      rw [hE2.out]
      exact ⟨rfl, rfl⟩
    | false =>
      go_enter Tryz.func159, Tryz.ntmps159
      go_wp2_with (first
        | (go_at_call 191; with_reducible refine HV.out.mono ?_; rintro e w1 ⟨rfl, rfl⟩)
        | (go_at_call 192; with_reducible refine HM.out.mono ?_; rintro e w2 ⟨rfl, rfl⟩))
      go_ret
      rw [hE2.out]
      exact ⟨rfl, rfl⟩
end Go.Proofs.YtcepigekibidfaaGreatDoor
namespace Go.Proofs.YtcepigekibidfaaGreatDoor
open Go.RowKit

def jnV : Option Nat → Value
  | some n => .tuple #[.int .u32 (n : Int), .bool true]
  | none => .tuple #[.int .u32 0, .bool false]

theorem jn_step (room A : Nat) (p q : List UInt8) (r : List (List UInt8)) (n : Nat) (h : num p = some n) (hn : n < 256) : jn room A (p :: q :: r) = jn (room - 1) (A * 256 + n) (q :: r) := by simp [jn, h, hn]
theorem jn_last (room A : Nat) (p : List UInt8) (n : Nat) (h : num p = some n) (hn : n < 256 ^ room) : jn room A [p] = some (A * 256 ^ room + n) := by simp [jn, h, hn]
theorem jn_stop (room A : Nat) (p q : List UInt8) (r : List (List UInt8)) (h : ∀ n, num p = some n → ¬ n < 256) : jn room A (p :: q :: r) = none := by
  cases hp : num p with
  | none => simp [jn, hp]
  | some n => simp [jn, hp, h n hp]
theorem jn_end (room A : Nat) (p : List UInt8) (h : ∀ n, num p = some n → ¬ n < 256 ^ room) : jn room A [p] = none := by
  cases hp : num p with
  | none => simp [jn, hp]
  | some n => simp only [jn, hp, Option.bind_some, if_neg (h n hp)]

theorem shr_nat (n y : Nat) : (n : Int) / 2 ^ y = ((n / 2 ^ y : Nat) : Int) := by simp
theorem shl_nat (A y B : Nat) (hB : B = A * 2 ^ y) (h : B < 18446744073709551616) : IntKind.u64.wrap ((A : Int) * 2 ^ y) = (B : Int) := by
  rw [IntKind.wrap_u64, hB]
  have e : (A : Int) * 2 ^ y = ((A * 2 ^ y : Nat) : Int) := by simp
  rw [e]
  omega
theorem or_nat (A y n : Nat) (hn : n < 2 ^ y) (h : A * 2 ^ y + n < 18446744073709551616) : bits .or .u64 ((A * 2 ^ y : Nat) : Int) (n : Int) = ((A * 2 ^ y + n : Nat) : Int) := by
  rw [u64_or_nat _ _ (by omega) (by omega)]
  congr 1
  rw [Nat.mul_comm A, ← Nat.two_pow_add_eq_or_of_lt hn A]
theorem pow8 (r : Nat) : 2 ^ (8 * r) = 256 ^ r := by
  rw [Nat.pow_mul]
theorem room_mul (A k : Nat) (hk : k ≤ 4) (h : A < 256 ^ k) (n : Nat) (hn : n < 256 ^ (4 - k)) : A * 256 ^ (4 - k) + n < 4294967296 := by
  have h1 : A * 256 ^ (4 - k) + n < (A + 1) * 256 ^ (4 - k) := by
    rw [Nat.add_mul]
    omega
  have h2 : (A + 1) * 256 ^ (4 - k) ≤ 256 ^ k * 256 ^ (4 - k) := Nat.mul_le_mul_right _ h
  rw [← Nat.pow_add, show k + (4 - k) = 4 by omega] at h2
  have h3 : (256 : Nat) ^ 4 = 4294967296 := by decide
  omega

set_option maxHeartbeats 4000000 in
set_option maxRecDepth 100000 in
theorem join_any (ps : List (List UInt8)) (g c : Nat) (w : World) (hps : Ps w g ps) (hne : ps ≠ []) (hn : ps.length ≤ 100000001) (hl : ∀ p ∈ ps, p.length ≤ 100000000) :
    Calls Tryz.prog 160 #[.slice (some ⟨g, 0, none⟩) ps.length c] w fun e w' => e = .returned (jnV (joinS ps)) ∧ w' = w := by
  by_cases h4 : 4 < ps.length
  · have hj : Hid (joinS ps = none) := by show _ = _; unfold joinS; rw [if_pos h4]
    obtain ⟨S, hS⟩ : ∃ S, S = ps.length := ⟨_, rfl⟩
    rw [← hS] at h4 hn ⊢
    have h4i : (4 : Int) < (S : Int) := by omega
    clear hps hne hl hS
    go_enter Tryz.func160, Tryz.ntmps160
    go_wp2_with fail
    go_ret2
    rw [hj.out]
    exact ⟨rfl, rfl⟩
  · have hj : Hid (joinS ps = jn 4 0 ps) := by show _ = _; unfold joinS; rw [if_neg h4]
    obtain ⟨R, hR⟩ : ∃ R, R = joinS ps := ⟨_, rfl⟩
    rw [← hR] at hj ⊢
    clear hR
    obtain ⟨k0, hk0⟩ : ∃ k, ps.length = k + 1 := ⟨ps.length - 1, by have := List.length_pos_iff.2 hne; omega⟩
    have HK := Lib.hid hk0
    have HC := Lib.hid (fun (j : Nat) p (hj : ps[j]? = some p) => hps.at_ hj)
    have HLn := Lib.hid hl
    rw [hk0] at h4 hn ⊢
    have hki : (k0 : Int) + 1 - 1 = (k0 : Int) := by omega
    have h4i : ¬ (4 : Int) < (k0 : Int) + 1 := by omega
    have hk4 : k0 ≤ 3 := by omega
    clear hps hne hl hk0 hn h4
    go_enter Tryz.func160, Tryz.ntmps160
    go_wp2_with fail
    go_loop [19, 4] (fun i v => ∃ (k A : Nat), k ≤ k0 + 1 ∧ A < 4294967296 ∧ (k ≤ k0 → A < 256 ^ k) ∧ i = .int .i64 (k : Int) ∧ v = .int .u64 (A : Int) ∧ jn (4 - k) A (ps.drop k) = R) (fun i _ => k0 + 1 - (intOf i).toNat)
    case atStart => exact ⟨0, 0, by omega, by omega, by simp, rfl, rfl, hj.out.symm⟩
    case round =>
      obtain ⟨k, A, hk, hA, hA2, rfl, rfl, hR⟩ := hrel
      by_cases hlt : k < k0 + 1
      · have hkS : (k : Int) < (k0 : Int) + 1 := by omega
        obtain ⟨p, hp⟩ : ∃ p, ps[k]? = some p := ⟨_, List.getElem?_eq_getElem (by rw [HK.out]; exact hlt)⟩
        have hcell := HC.out k p hp
        have M := number_any p w (HLn.out p (List.mem_of_getElem? hp))
        rw [valV_pair] at M
        have hnle := num_le p
        have hdrop : ps.drop k = p :: ps.drop (k + 1) := by
          have hk' : k < ps.length := by rw [HK.out]; exact hlt
          rw [List.drop_eq_getElem_cons hk']
          congr 1
          rw [List.getElem?_eq_getElem hk'] at hp
          exact Option.some.inj hp
        rw [hdrop] at hR
        have hAk := hA2 (by omega)
        by_cases hlast : k = k0
        · have hke : ((k : Int) == (k0 : Int)) = true := by simp; omega
          have hd2 : ps.drop (k + 1) = [] := List.drop_eq_nil_of_le (by rw [HK.out]; omega)
          rw [hd2] at hR
          subst hlast
          cases hnp : num p with
          | none =>
            rw [jn_end _ _ _ (fun n h => by rw [hnp] at h; cases h)] at hR
            rw [hnp] at M
            have HM : Hid (Calls Tryz.prog 192 #[.string (str p)] w fun e w' => e = .returned (.tuple #[.int .u64 0, .bool false]) ∧ w' = w) := M
            have HR := Lib.hid hR
            clear M hnp hR hdrop hd2 hp hnle hA2 hAk
            go_wp2_with (go_at_call 192; with_reducible refine HM.out.mono ?_; rintro e w1 ⟨rfl, rfl⟩)
            go_ret2
            rw [← HR.out]
            exact ⟨rfl, rfl⟩
          | some n =>
            rw [hnp] at M
            have HM : Hid (Calls Tryz.prog 192 #[.string (str p)] w fun e w' => e = .returned (.tuple #[.int .u64 (n : Int), .bool true]) ∧ w' = w) := M
            have hn9 := hnle n hnp
            have HR := Lib.hid (And.intro hR hnp)
            clear M hnp hR hdrop hd2 hp hnle hA2
            obtain ⟨z, hz⟩ : ∃ z, z = 4 - k := ⟨_, rfl⟩
            have hzi : (4 : Int) - (k : Int) = (z : Int) := by omega
            obtain ⟨y, hy⟩ : ∃ y, y = 8 * z := ⟨_, rfl⟩
            have hyi : (8 : Int) * (z : Int) = (y : Int) := by omega
            have hy9 : y ≤ 32 := by omega
            have hpw : Hid (2 ^ y = 256 ^ z) := by show _ = _; rw [hy]; exact pow8 z
            obtain ⟨q, hq⟩ : ∃ q, q = n / 2 ^ y := ⟨_, rfl⟩
            have hqi : (n : Int) / 2 ^ y = (q : Int) := by rw [hq]; exact shr_nat n y
            have HZ := Lib.hid (And.intro hz (And.intro hy hq))
            have hk4' := hk4
            clear hz hy hq
            by_cases hb : n < 256 ^ z
            · have hq0 : Hid (q = 0) := by show _ = _; rw [HZ.out.2.2, hpw.out]; exact Nat.div_eq_of_lt hb
              have hq0i : ¬ (0 : Int) < (q : Int) := by have := hq0.out; omega
              have hrm := room_mul A k (by omega) hAk n (by rw [← HZ.out.1]; exact hb)
              rw [← HZ.out.1] at hrm
              obtain ⟨B, hB⟩ : ∃ B, B = A * 2 ^ y := ⟨_, rfl⟩
              obtain ⟨C, hC⟩ : ∃ C, C = A * 2 ^ y + n := ⟨_, rfl⟩
              have hBC : Hid (B = A * 256 ^ z ∧ C = A * 256 ^ z + n) := ⟨by rw [hB, hpw.out], by rw [hC, hpw.out]⟩
              have hsh := shl_nat A y B hB (by have := hBC.out; omega)
              have hor : bits .or .u64 (B : Int) (n : Int) = (C : Int) := by
                rw [hB, hC]
                exact or_nat A y n (by rw [hpw.out]; exact hb) (by rw [hpw.out]; omega)
              have HR2 : Hid (R = some C) := by
                show _ = _
                rw [← HR.out.1, jn_last _ _ _ n HR.out.2 (by rw [← HZ.out.1]; exact hb), ← HZ.out.1, hBC.out.2]
              have hC9 : C < 4294967296 := by rw [hBC.out.2]; exact hrm
              clear hB hC hrm hb HR
              go_wp2_with (go_at_call 192; with_reducible refine HM.out.mono ?_; rintro e w1 ⟨rfl, rfl⟩)
              go_round
              case rel =>
                refine ⟨k + 1, C, by omega, hC9, by omega, by go_num, rfl, ?_⟩
                rw [HR2.out, List.drop_eq_nil_of_le (by rw [HK.out]; omega)]
                rfl
              case measure => simp [intOf]
            · have hq0 : 0 < q := by
                rw [HZ.out.2.2, hpw.out]
                exact Nat.div_pos (by omega) (Nat.pow_pos (by omega))
              have hq0i : (0 : Int) < (q : Int) := by omega
              have HR2 : Hid (R = none) := by
                show _ = _
                rw [← HR.out.1, jn_end _ _ _ (fun n' h => by rw [HR.out.2] at h; cases h; rw [← HZ.out.1]; exact hb)]
              clear HR hb
              go_wp2_with (go_at_call 192; with_reducible refine HM.out.mono ?_; rintro e w1 ⟨rfl, rfl⟩)
              go_ret2
              rw [HR2.out]
              exact ⟨rfl, rfl⟩
        · have hke : ((k : Int) == (k0 : Int)) = false := by simp; omega
          obtain ⟨q2, r2, hqr⟩ : ∃ q r, ps.drop (k + 1) = q :: r := by
            match hd : ps.drop (k + 1) with
            | [] =>
              have := congrArg List.length hd
              rw [List.length_drop, HK.out] at this
              simp at this
              omega
            | q :: r => exact ⟨q, r, rfl⟩
          rw [hqr] at hR
          cases hnp : num p with
          | none =>
            rw [jn_stop _ _ _ _ _ (fun n h => by rw [hnp] at h; cases h)] at hR
            rw [hnp] at M
            have HM : Hid (Calls Tryz.prog 192 #[.string (str p)] w fun e w' => e = .returned (.tuple #[.int .u64 0, .bool false]) ∧ w' = w) := M
            have HR := Lib.hid hR
            clear M hnp hR hdrop hqr hp hnle hA2 hAk
            go_wp2_with (go_at_call 192; with_reducible refine HM.out.mono ?_; rintro e w1 ⟨rfl, rfl⟩)
            go_ret2
            rw [← HR.out]
            exact ⟨rfl, rfl⟩
          | some n =>
            rw [hnp] at M
            have HM : Hid (Calls Tryz.prog 192 #[.string (str p)] w fun e w' => e = .returned (.tuple #[.int .u64 (n : Int), .bool true]) ∧ w' = w) := M
            have hn9 := hnle n hnp
            have HR := Lib.hid (And.intro hR (And.intro hnp hqr))
            clear M hnp hR hdrop hqr hp hnle hA2
            obtain ⟨q, hq⟩ : ∃ q, q = n / 256 := ⟨_, rfl⟩
            have hqi : (n : Int) / 256 = (q : Int) := by omega
            have HQ := Lib.hid hq
            clear hq
            by_cases hb : n < 256
            · have hq0 : ¬ (0 : Int) < (q : Int) := by have := HQ.out; omega
              obtain ⟨B, hB⟩ : ∃ B, B = A * 256 := ⟨_, rfl⟩
              obtain ⟨C, hC⟩ : ∃ C, C = A * 256 + n := ⟨_, rfl⟩
              have hBi : (A : Int) * 256 = (B : Int) := by omega
              have hA3 : A < 16777216 := by
                have h1 : 256 ^ k ≤ 256 ^ 3 := Nat.pow_le_pow_right (by omega) (by omega)
                have h2 : (256 : Nat) ^ 3 = 16777216 := by decide
                omega
              have hBw : IntKind.u64.wrap (B : Int) = (B : Int) := by rw [IntKind.wrap_u64]; omega
              have hor : bits .or .u64 (B : Int) (n : Int) = (C : Int) := by
                rw [hB, hC]
                exact or_nat A 8 n hb (by omega)
              have HC2 := Lib.hid (And.intro hB hC)
              have HR2 : Hid (jn (4 - k - 1) C (ps.drop (k + 1)) = R) := by
                show _ = _
                rw [HR.out.2.2, hC, ← jn_step (4 - k) A p q2 r2 n HR.out.2.1 hb]
                exact HR.out.1
              have hB9 : B < 4294967296 := by omega
              have hC9 : C < 4294967296 := by omega
              have hCk : Hid (C < 256 ^ (k + 1)) := by
                show _ < _
                rw [hC, Nat.pow_succ]
                omega
              clear hB hC hb HR hA3 hAk
              go_wp2_with (go_at_call 192; with_reducible refine HM.out.mono ?_; rintro e w1 ⟨rfl, rfl⟩)
              go_round
              case rel =>
                refine ⟨k + 1, C, by omega, hC9, fun _ => hCk.out, by go_num, rfl, ?_⟩
                rw [← HR2.out]
                congr 1
              case measure => simp [intOf]; omega
            · have hq0 : (0 : Int) < (q : Int) := by have := HQ.out; omega
              have HR2 : Hid (R = none) := by
                show _ = _
                rw [← HR.out.1, jn_stop _ _ _ _ _ (fun n' h => by rw [HR.out.2.1] at h; cases h; exact hb)]
              clear HR hb hAk
              go_wp2_with (go_at_call 192; with_reducible refine HM.out.mono ?_; rintro e w1 ⟨rfl, rfl⟩)
              go_ret2
              rw [HR2.out]
              exact ⟨rfl, rfl⟩
      · have hk' : Hid (k = k0 + 1) := by show _ = _; omega
        have hkS : ¬ (k : Int) < (k0 : Int) + 1 := by omega
        clear hk hlt hA2
        have HR := Lib.hid hR
        clear hR
        have hwr : IntKind.u32.wrap (A : Int) = (A : Int) := by rw [IntKind.wrap_u32]; omega
        go_wp2_with fail
        go_ret2
        refine ⟨?_, rfl⟩
        have h1 := HR.out
        rw [hk'.out, List.drop_eq_nil_of_le (by rw [HK.out]; omega)] at h1
        rw [← h1]
        rfl
end Go.Proofs.YtcepigekibidfaaGreatDoor
namespace Go.Proofs.YtcepigekibidfaaGreatDoor
open Go.RowKit

/-- What the walks ask of the library's variables, here and in every world that keeps what is here. -/
structure T0 (w : World) : Prop where
  len : ∃ m, w.cell? ⟨0, 0, none⟩ = some (.int .i64 m)
  pow : Lib.TabIs Tryz.prog w "internal/strconv.uint64pow10" .u64 Lib.pow10Tab
  deb : w.cell? ⟨8, 15, none⟩ = some (.int .u8 4)
def Tabs (w : World) : Prop := ∀ w', Below w.heap.size w w' → T0 w'
theorem Tabs.here {w : World} (h : Tabs w) : T0 w := h w (Below.refl _ _)
theorem Tabs.kept {w w' : World} (h : Tabs w) (hb : Below w.heap.size w w') : Tabs w' := fun w2 h2 => h w2 (hb.trans (h2.mono hb.size))

/-- IPv4: the address, whether it ends in a number, whether it is wrong. -/
def ip4 (l : List UInt8) : Nat × Bool × Bool := if ends (prt l) then (match joinS (prt l) with | some n => (n, true, false) | none => (0, true, true)) else (0, false, false)
def errV (b : Bool) : Value := .int .i64 (if b then 7 else 0)
def ip4V (r : Nat × Bool × Bool) : Value := .tuple #[.int .u32 (r.1 : Int), .bool r.2.1, errV r.2.2]

theorem prt_len (l p : List UInt8) (h : p ∈ prt l) : p.length ≤ l.length := (spl_mem 46 l p (prt_mem l p h)).2.1
theorem prt_size (l : List UInt8) : (prt l).length ≤ l.length + 1 := by
  have h1 := spl_length 46 l
  have h2 : l.count 46 ≤ l.length := List.count_le_length
  unfold prt
  split
  · rw [List.length_dropLast]
    omega
  · omega

set_option maxHeartbeats 4000000 in
theorem four_any (l : List UInt8) (w : World) (hl : l.length ≤ 100000000) (ht : Tabs w) :
    Calls Tryz.prog 125 #[.string (str l)] w fun e w' => e = .returned (ip4V (ip4 l)) ∧ Below w.heap.size w w' := by
  obtain ⟨m, hm⟩ := ht.here.len
  have HS := Lib.hid (split_any l m w hl hm)
  have hmem : Hid (∀ p ∈ prt l, p.length ≤ 100000000) := fun p hp => Nat.le_trans (prt_len l p hp) hl
  have hne := Lib.hid (prt_ne l)
  have hsz : Hid ((prt l).length ≤ 100000001) := by have := prt_size l; show _ ≤ _; omega
  have hE : Hid (ip4 l = if ends (prt l) then (match joinS (prt l) with | some n => (n, true, false) | none => (0, true, true)) else (0, false, false)) := rfl
  obtain ⟨P, hP⟩ : ∃ P, P = prt l := ⟨_, rfl⟩
  obtain ⟨R, hR⟩ : ∃ R, R = ip4 l := ⟨_, rfl⟩
  rw [← hP] at HS hmem hne hsz hE
  rw [← hR] at hE ⊢
  obtain ⟨n, hn⟩ : ∃ n, n = P.length := ⟨_, rfl⟩
  rw [← hn] at HS
  have HN := Lib.hid hn
  clear hP hR hm hn ht
  have HEn : Hid (∀ (g c : Nat) (w : World), Ps w g P → Calls Tryz.prog 159 #[.slice (some ⟨g, 0, none⟩) n c] w fun e w' => e = .returned (.bool (ends P)) ∧ w' = w) := fun g c w h => by rw [HN.out]; exact ends_any P g c w h hne.out hsz.out hmem.out
  have HJo : Hid (∀ (g c : Nat) (w : World), Ps w g P → Calls Tryz.prog 160 #[.slice (some ⟨g, 0, none⟩) n c] w fun e w' => e = .returned (jnV (joinS P)) ∧ w' = w) := fun g c w h => by rw [HN.out]; exact join_any P g c w h hne.out hsz.out hmem.out
  cases hb : ends P with
  | false =>
    have hE2 : Hid (R = (0, false, false)) := by show _ = _; rw [hE.out, hb]; rfl
    rw [hb] at HEn
    clear hE hb HJo
    go_enter Tryz.func125, Tryz.ntmps125
    go_wp2_with (first
      | (go_at_call 158; with_reducible refine HS.out.mono ?_; rintro e w1 ⟨c, rfl, hc, hc9, hps, hb1⟩; have HB := Lib.hid hb1; have HP := Lib.hid hps; clear hb1 hps)
      | (go_at_call 159; with_reducible refine (HEn.out _ _ _ HP.out).mono ?_; rintro e w2 ⟨rfl, rfl⟩))
    go_ret3
    rw [hE2.out]
    exact ⟨rfl, HB.out⟩
  | true =>
    rw [hb] at HEn
    cases hj : joinS P with
    | none =>
      have hE2 : Hid (R = (0, true, true)) := by show _ = _; rw [hE.out, hb, hj]; rfl
      rw [hj] at HJo
      have HJ2 : Hid (∀ (g c : Nat) (w : World), Ps w g P → Calls Tryz.prog 160 #[.slice (some ⟨g, 0, none⟩) n c] w fun e w' => e = .returned (.tuple #[.int .u32 0, .bool false]) ∧ w' = w) := HJo.out
      clear hE hb hj HJo
      go_enter Tryz.func125, Tryz.ntmps125
      go_wp2_with (first
        | (go_at_call 158; with_reducible refine HS.out.mono ?_; rintro e w1 ⟨c, rfl, hc, hc9, hps, hb1⟩; have HB := Lib.hid hb1; have HP := Lib.hid hps; clear hb1 hps)
        | (go_at_call 159; with_reducible refine (HEn.out _ _ _ HP.out).mono ?_; rintro e w2 ⟨rfl, rfl⟩)
        | (go_at_call 160; with_reducible refine (HJ2.out _ _ _ HP.out).mono ?_; rintro e w3 ⟨rfl, rfl⟩))
      go_ret3
      rw [hE2.out]
      exact ⟨rfl, HB.out⟩
    | some v =>
      have hE2 : Hid (R = (v, true, false)) := by show _ = _; rw [hE.out, hb, hj]; rfl
      rw [hj] at HJo
      have HJ2 : Hid (∀ (g c : Nat) (w : World), Ps w g P → Calls Tryz.prog 160 #[.slice (some ⟨g, 0, none⟩) n c] w fun e w' => e = .returned (.tuple #[.int .u32 (v : Int), .bool true]) ∧ w' = w) := HJo.out
      clear hE hb hj HJo
      go_enter Tryz.func125, Tryz.ntmps125
      go_wp2_with (first
        | (go_at_call 158; with_reducible refine HS.out.mono ?_; rintro e w1 ⟨c, rfl, hc, hc9, hps, hb1⟩; have HB := Lib.hid hb1; have HP := Lib.hid hps; clear hb1 hps)
        | (go_at_call 159; with_reducible refine (HEn.out _ _ _ HP.out).mono ?_; rintro e w2 ⟨rfl, rfl⟩)
        | (go_at_call 160; with_reducible refine (HJ2.out _ _ _ HP.out).mono ?_; rintro e w3 ⟨rfl, rfl⟩))
      go_ret3
      rw [hE2.out]
      exact ⟨rfl, HB.out⟩

end Go.Proofs.YtcepigekibidfaaGreatDoor
namespace Go.Proofs.YtcepigekibidfaaGreatDoor
open Go.RowKit

def barred : List UInt8 := [35, 37, 47, 58, 60, 62, 63, 64, 91, 92, 93, 94, 124]
/-- May a name have the byte? -/
def okc (c : UInt8) : Bool := decide (33 ≤ c.toNat) && decide (c.toNat ≤ 126) && !barred.contains c
def may (l : List UInt8) : Bool := l.all okc && decide (l ≠ [])
theorem indexByte_iff (c : UInt8) : ∀ l : List UInt8, decide (0 ≤ Lib.indexByte l c) = l.contains c
  | [] => by simp [Lib.indexByte]
  | b :: l => by
    have ih := indexByte_iff c l
    have hg := Lib.indexByte_ge l c
    rw [Lib.indexByte]
    by_cases h : b = c
    · simp [h]
    · rw [if_neg (by simpa using h)]
      have e : (b :: l).contains c = l.contains c := by
        simp [Ne.symm h]
      rw [e, ← ih]
      split
      · rename_i h2
        simp at h2
        rw [h2]
      · rename_i h2
        simp at h2
        rw [Bool.eq_iff_iff]
        simp
        omega
theorem bar_any (c : UInt8) (w : World) : ∃ i : Int, (decide (0 ≤ i) = barred.contains c) ∧ Calls Tryz.prog 88 #[.string ⟨#[35, 37, 47, 58, 60, 62, 63, 64, 91, 92, 93, 94, 124]⟩, .int .u8 (c.toNat : Int)] w fun e w' => e = .returned (.int .i64 i) ∧ w' = w := by
  refine ⟨Lib.indexByte barred c, indexByte_iff c barred, ?_⟩
  have h := Tryz.strings_IndexByte ⟨#[35, 37, 47, 58, 60, 62, 63, 64, 91, 92, 93, 94, 124]⟩ (c.toNat : Int) w
  have e : ((c.toNat : Int).toNat.toUInt8) = c := by simp
  rw [e] at h
  exact h

set_option maxHeartbeats 4000000 in
theorem may_any (l : List UInt8) (w : World) (hl : l.length ≤ 100000000) : Calls Tryz.prog 123 #[.string (str l)] w fun e w' => e = .returned (.bool (may l)) ∧ w' = w := by
  have hsz := str_size l
  obtain ⟨S, hS⟩ : ∃ S, S = l.length := ⟨_, rfl⟩
  have hgb : Hid (∀ k, k < S → ∀ h, ((str l)[k]'h).toNat = (l.getD k 0).toNat) := fun k hk h => str_at l k (by rw [← hS]; exact hk) h
  obtain ⟨R, hR⟩ : ∃ R, R = may l := ⟨_, rfl⟩
  rw [← hR]
  rw [← hS] at hsz hl
  have hem := str_empty l
  have HS : Hid (S = l.length ∧ R = (l.all okc && decide (l ≠ []))) := ⟨hS, hR⟩
  obtain ⟨E, hE⟩ : ∃ E, E = decide (l = []) := ⟨_, rfl⟩
  rw [← hE] at hem
  have HE := Lib.hid hE
  clear hS hR hE
  go_enter Tryz.func123, Tryz.ntmps123
  go_wp2_with fail
  go_loop [7] (fun i => ∃ (k : Nat), k ≤ S ∧ i = .int .i64 (k : Int) ∧ (l.drop k).all okc = l.all okc) (fun i => S - (intOf i).toNat)
  case atStart => exact ⟨0, by omega, rfl, rfl⟩
  case round =>
    obtain ⟨k, hk, rfl, hA⟩ := hrel
    by_cases hlt : k < S
    · have hkS : (k : Int) < (S : Int) := by omega
      obtain ⟨c, hc⟩ : ∃ c, c = l.getD k 0 := ⟨_, rfl⟩
      have hcons : l.drop k = c :: l.drop (k + 1) := by
        have hk' : k < l.length := by rw [← HS.out.1]; exact hlt
        rw [List.drop_eq_getElem_cons hk', hc]
        simp [List.getD, List.getElem?_eq_getElem hk']
      have HG := fun h => hgb.out k hlt h
      rw [← hc] at HG
      rw [hcons, List.all_cons] at hA
      obtain ⟨i, hi, HB⟩ := bar_any c w
      have hok : Hid (okc c = (decide (33 ≤ c.toNat) && decide (c.toNat ≤ 126) && !decide (0 ≤ i))) := by show _ = _; rw [hi]; rfl
      obtain ⟨m, hm⟩ : ∃ m, m = c.toNat := ⟨_, rfl⟩
      rw [← hm] at HG HB hok
      have HB' := Lib.hid HB
      have HA := Lib.hid hA
      clear hc hcons hm hi HB hA
      by_cases h1 : m < 33
      · have h1b : decide ((m : Int) < 33) = true := by simp; omega
        have hno : Hid (okc c = false) := by show _ = _; rw [hok.out, show decide (33 ≤ m) = false by simp; omega]; rfl
        clear HB'
        go_wp2_with fail
        go_ret
        refine ⟨?_, rfl⟩
        rw [HS.out.2, ← HA.out, hno.out]
        rfl
      · have h1b : decide ((m : Int) < 33) = false := by simp; omega
        by_cases h2 : 126 < m
        · have h2b : decide ((126 : Int) < (m : Int)) = true := by simp; omega
          have hno : Hid (okc c = false) := by show _ = _; rw [hok.out, show decide (m ≤ 126) = false by simp; omega]; simp
          clear HB'
          go_wp2_with fail
          go_ret
          refine ⟨?_, rfl⟩
          rw [HS.out.2, ← HA.out, hno.out]
          rfl
        · have h2b : decide ((126 : Int) < (m : Int)) = false := by simp; omega
          by_cases h3 : 0 ≤ i
          · have h3b : decide ((0 : Int) ≤ i) = true := by simp; omega
            have hno : Hid (okc c = false) := by show _ = _; rw [hok.out, h3b]; simp
            go_wp2_with (go_at_call 88; with_reducible refine HB'.out.mono ?_; rintro e w1 ⟨rfl, rfl⟩)
            go_ret
            refine ⟨?_, rfl⟩
            rw [HS.out.2, ← HA.out, hno.out]
            rfl
          · have h3b : decide ((0 : Int) ≤ i) = false := by simp; omega
            have hyes : Hid (okc c = true) := by show _ = _; rw [hok.out, h3b, show decide (33 ≤ m) = true by simp; omega, show decide (m ≤ 126) = true by simp; omega]; rfl
            go_wp2_with (go_at_call 88; with_reducible refine HB'.out.mono ?_; rintro e w1 ⟨rfl, rfl⟩)
            go_round
            case rel =>
              refine ⟨k + 1, by omega, by go_num, ?_⟩
              rw [← HA.out, hyes.out]
              rfl
            case measure => simp [intOf]; omega
    · have hk' : Hid (k = S) := by show k = S; omega
      have hkS : (S : Int) ≤ (k : Int) := by omega
      clear hk hlt
      have HA := Lib.hid hA
      clear hA
      go_wp2_with fail
      go_ret
      refine ⟨?_, rfl⟩
      have h1 := HA.out
      rw [hk'.out, HS.out.1, List.drop_length] at h1
      rw [HS.out.2, ← h1, HE.out]
      simp

theorem may_ascii (l : List UInt8) (h : may l = true) : ∀ (j : Nat) (b : UInt8), (str l).data.toList[j]? = some b → b.toNat < 128 := by
  intro j b hj
  have hj' : l[j]? = some b := hj
  simp [may] at h
  have := h.1 b (List.mem_of_getElem? hj')
  simp [okc] at this
  omega
def low (l : List UInt8) : List UInt8 := Lib.toLowerA l
theorem lower_any (l : List UInt8) (w : World) (hl : l.length ≤ 100000000) (h : may l = true) : Calls Tryz.prog 124 #[.string (str l)] w fun e w' => e = .returned (.string (str (low l))) ∧ Below w.heap.size w w' :=
  Tryz.strings_ToLower_ascii (str l) w (by rw [str_size]; omega) (may_ascii l h)
end Go.Proofs.YtcepigekibidfaaGreatDoor
