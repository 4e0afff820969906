/-
  What transeptref08.port answers; nothing turns. Condition: texts of at most 100000000 bytes.
-/
import Derived.Test.YtcepigekibidfaaGreatDoorTra
namespace Go.Proofs.YtcepigekibidfaaGreatDoor
open Go.RowKit
set_option linter.unusedVariables false

/-- What the document's port tells behind n; none: there is no digit. -/
def rpt : Nat → List UInt8 → Option Nat
  | n, [] => some n
  | n, c :: r => if 48 ≤ c.toNat ∧ c.toNat ≤ 57 then rpt (min (n * 10 + (c.toNat - 48)) 70000) r else none
theorem rpt_big : ∀ (l : List UInt8) (n m : Nat), 65535 < n → rpt n l = some m → 65535 < m
  | [], n, m, h, e => by cases e; exact h
  | c :: r, n, m, h, e => by
    rw [rpt] at e
    split at e
    · exact rpt_big r _ m (by omega) e
    · cases e
theorem rpt_le : ∀ (l : List UInt8) (n m : Nat), n ≤ 70000 → rpt n l = some m → m ≤ 70000
  | [], n, m, h, e => by cases e; exact h
  | c :: r, n, m, h, e => by
    rw [rpt] at e
    split at e
    · exact rpt_le r _ m (by omega) e
    · cases e
def rptV (o : Option Nat) : Value := match o with
  | none => .tuple #[.int .i64 0, .bool false]
  | some n => .tuple #[.int .i64 (n : Int), .bool (decide (n ≤ 65535))]
set_option maxHeartbeats 2000000 in
theorem rport_any (l : List UInt8) (w : World) (hl : l.length ≤ 100000000) : Calls Tryz.prog 70 #[.string (str l)] w fun e w' => e = .returned (rptV (rpt 0 l)) ∧ w' = w := by
  have hsz := str_size l
  obtain ⟨S, hS⟩ : ∃ S, S = l.length := ⟨_, rfl⟩
  have hgb : Hid (∀ k, k < S → ∀ h, ((str l)[k]'h).toNat = (l.getD k 0).toNat) := fun k hk h => str_at l k (by rw [← hS]; exact hk) h
  obtain ⟨R, hR⟩ : ∃ R, R = rpt 0 l := ⟨_, rfl⟩
  rw [← hR]
  rw [← hS] at hsz hl
  have HS := Lib.hid (And.intro hS hR)
  clear hS hR
  go_enter Tryz.func70, Tryz.ntmps70
  go_wp2_with fail
  go_loop [5, 4] (fun i v => ∃ (k n : Nat), k ≤ S ∧ n ≤ 70000 ∧ i = .int .i64 (k : Int) ∧ v = .int .i64 (n : Int) ∧ rpt n (l.drop k) = R) (fun i _ => S - (intOf i).toNat)
  case atStart => exact ⟨0, 0, by omega, by omega, rfl, rfl, by rw [HS.out.2]; rfl⟩
  case round =>
    obtain ⟨k, n, hk, hn, rfl, rfl, hR⟩ := hrel
    by_cases hlt : k < S
    · have hkS : (k : Int) < (S : Int) := by omega
      obtain ⟨c, hc⟩ : ∃ c, c = l.getD k 0 := ⟨_, rfl⟩
      have hcons : l.drop k = c :: l.drop (k + 1) := by
        have hk' : k < l.length := by rw [← HS.out.1]; exact hlt
        rw [List.drop_eq_getElem_cons hk', hc]
        simp [List.getD, List.getElem?_eq_getElem hk']
      have HG := fun h => hgb.out k hlt h
      rw [← hc] at HG
      rw [hcons, rpt] at hR
      obtain ⟨m, hm⟩ : ∃ m, m = c.toNat := ⟨_, rfl⟩
      have hm9 : m < 256 := by rw [hm]; exact c.toNat_lt
      rw [← hm] at HG hR
      have HR := Lib.hid hR
      clear hc hcons hm hR
      by_cases h48 : m < 48
      · have c1 : decide ((m : Int) < 48) = true := by simp; omega
        have hF : Hid (R = none) := by show _ = _; rw [← HR.out, if_neg (by omega)]
        clear h48
        go_wp2_with fail
        go_ret2
        rw [hF.out]
        exact ⟨rfl, rfl⟩
      · have c1 : decide ((m : Int) < 48) = false := by simp; omega
        by_cases h57 : 57 < m
        · have c2 : decide ((57 : Int) < (m : Int)) = true := by simp; omega
          have hF : Hid (R = none) := by show _ = _; rw [← HR.out, if_neg (by omega)]
          clear h48 h57
          go_wp2_with fail
          go_ret2
          rw [hF.out]
          exact ⟨rfl, rfl⟩
        · have c2 : decide ((57 : Int) < (m : Int)) = false := by simp; omega
          obtain ⟨d, hd⟩ : ∃ d, d = m - 48 := ⟨_, rfl⟩
          have hdi : (m : Int) - 48 = (d : Int) := by omega
          have hdw : IntKind.u8.wrap (d : Int) = (d : Int) := by rw [IntKind.wrap_u8]; omega
          have hd9 : d ≤ 9 := by omega
          have hcv : ∀ W : World, (convert 5 3 (.int .u8 (d : Int))).run Tryz.prog W = .ok (.int .i64 (d : Int)) W := fun W => by
            have hw : IntKind.i64.wrap (d : Int) = (d : Int) := by rw [IntKind.wrap_i64]; omega
            simp [convert, run_underlying Tryz.underlying5, run_underlying Tryz.underlying3, Conv.intToInt, hw]
          obtain ⟨q, hq⟩ : ∃ q, q = n * 10 := ⟨_, rfl⟩
          have hqi : (n : Int) * 10 = (q : Int) := by omega
          obtain ⟨z, hz⟩ : ∃ z, z = q + d := ⟨_, rfl⟩
          have hzi : (q : Int) + (d : Int) = (z : Int) := by omega
          obtain ⟨y, hy⟩ : ∃ y, y = min z 70000 := ⟨_, rfl⟩
          have hmin : min (z : Int) 70000 = (y : Int) := by omega
          have hy9 : y ≤ 70000 := by omega
          have hz9 : z ≤ 700009 := by omega
          have hq9 : q ≤ 700000 := by omega
          have hN : Hid (rpt y (l.drop (k + 1)) = R) := by
            show _ = _
            rw [← HR.out, if_pos (by omega), hy, hz, hq, hd]
          clear h48 h57 hd hq hz hy
          go_wp2_with fail
          go_round
          case rel => exact ⟨k + 1, y, by omega, hy9, by go_num, rfl, hN.out⟩
          case measure => simp [intOf]; omega
    · have hk' : Hid (k = S) := by show k = S; omega
      have hkS : ¬ (k : Int) < (S : Int) := by omega
      have HR := Lib.hid hR
      clear hk hlt hR
      have hF : Hid (R = some n) := by
        show _ = _
        have h1 := HR.out
        rw [hk'.out, HS.out.1, List.drop_length] at h1
        rw [← h1]
        rfl
      go_wp2_with fail
      go_ret2
      rw [hF.out]
      refine ⟨?_, rfl⟩
      show Ending.returned (.tuple #[.int .i64 (n : Int), .bool (decide ((n : Int) ≤ 65535))]) = .returned (.tuple #[.int .i64 (n : Int), .bool (decide (n ≤ 65535))])
      have : decide ((n : Int) ≤ 65535) = decide (n ≤ 65535) := by
        by_cases h : n ≤ 65535
        · rw [decide_eq_true h, decide_eq_true (by omega)]
        · rw [decide_eq_false h, decide_eq_false (by omega)]
      rw [this]
theorem pum_rpt : ∀ (l : List UInt8) (acc : Nat), acc ≤ 65535 → (∀ n, Lib.parseUintM 65535 acc l = .ok n → rpt acc l = some n ∧ n ≤ 65535) ∧ ((∀ n, Lib.parseUintM 65535 acc l ≠ .ok n) → ∀ m, rpt acc l = some m → 65535 < m)
  | [], acc, h => ⟨fun n e => (by cases e; exact ⟨rfl, h⟩), fun hh => absurd rfl (hh acc)⟩
  | c :: r, acc, h => by
    rw [Lib.parseUintM, rpt]
    by_cases hd : 48 ≤ c.toNat ∧ c.toNat ≤ 57
    · rw [if_pos hd, if_pos hd, if_neg (by omega)]
      by_cases hv : 65535 < acc * 10 + (c.toNat - 48)
      · rw [if_pos hv]
        exact ⟨fun n e => (by cases e), fun _ m e => rpt_big r _ m (by omega) e⟩
      · rw [if_neg hv, show min (acc * 10 + (c.toNat - 48)) 70000 = acc * 10 + (c.toNat - 48) by omega]
        exact pum_rpt r _ (by omega)
    · rw [if_neg hd, if_neg hd]
      exact ⟨fun n e => (by cases e), fun _ m e => (by cases e)⟩
/-- The program's port is the document's. -/
theorem prtN_rpt (d : List UInt8) (p : Int) (hne : d ≠ []) : prtN d p = match rpt 0 d with
    | none => none
    | some n => if n ≤ 65535 then some (if (n : Int) = p then -1 else (n : Int)) else none := by
  obtain ⟨h1, h2⟩ := pum_rpt d 0 (by decide)
  unfold prtN Lib.parseUintB
  rw [if_neg hne, if_neg hne]
  have e : (2 ^ 16 - 1 : Nat) = 65535 := by decide
  rw [e]
  cases hu : Lib.parseUintM 65535 0 d
  case ok n =>
    obtain ⟨h3, h4⟩ := h1 n hu
    rw [h3]
    show some _ = if n ≤ 65535 then _ else _
    rw [if_pos h4]
  all_goals
    have h3 := h2 (fun n e => by rw [hu] at e; cases e)
    cases hr : rpt 0 d with
    | none => rfl
    | some m =>
      have := h3 m hr
      show none = if m ≤ 65535 then _ else _
      rw [if_neg (by omega)]
end Go.Proofs.YtcepigekibidfaaGreatDoor
