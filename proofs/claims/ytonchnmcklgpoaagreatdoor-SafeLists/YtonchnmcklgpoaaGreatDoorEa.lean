/-
  strings.Cut at a separator of one byte, transeptref11.until. No condition but sizes.
-/
import Derived.Test.YtonchnmcklgpoaaGreatDoorEm
import Derived.Test.YtonchnmcklgpoaaGreatDoorTr
import Derived.BigQuiet
import Derived.Lib.IndexLaws
namespace Go.Proofs.YtonchnmcklgpoaaGreatDoor
open Go.RowKit
set_option linter.unusedVariables false

theorem below_drewN {n : Nat} {w : World} (k : Nat) : Below n w (w.drewN k) := by
  induction k with
  | zero => exact Below.refl _ _
  | succ k ih => exact ih.drew
theorem cut_case (l : List UInt8) (c : UInt8) : (Lib.indexByte l c = -1 ∧ bef c l = l ∧ aft c l = [] ∧ l.contains c = false) ∨ ∃ i : Nat, Lib.indexByte l c = (i : Int) ∧ i < l.length ∧ bef c l = l.take i ∧ aft c l = l.drop (i + 1) ∧ l.contains c = true := by
  have hge := Lib.indexByte_ge l c
  by_cases h : Lib.indexByte l c = -1
  · have h1 := Lib.indexByte_none h
    have h2 : c ∉ l := fun e => by
      obtain ⟨k, hk, e⟩ := List.mem_iff_getElem.1 e
      exact h1 k (by rw [List.getElem?_eq_getElem hk, e])
    obtain ⟨h3, h4⟩ := bef_none c l h2
    exact .inl ⟨h, h3, h4, by simpa using h2⟩
  · obtain ⟨i, hi⟩ : ∃ i : Nat, Lib.indexByte l c = (i : Int) := ⟨(Lib.indexByte l c).toNat, by omega⟩
    obtain ⟨h1, h2⟩ := Lib.indexByte_some hi
    obtain ⟨h3, h4⟩ := bef_at c l i h1 h2
    exact .inr ⟨i, hi, (List.getElem?_eq_some_iff.1 h1).1, h3, h4, by simpa using List.mem_of_getElem? h1⟩
set_option maxHeartbeats 4000000 in
set_option maxRecDepth 100000 in
theorem lcut_any (l : List UInt8) (c : UInt8) (w : World) (hl : l.length ≤ 9223372036854775807) : Calls Tryz.prog 67 #[.string (str l), .string ⟨#[c]⟩] w fun e w' => e = .returned (.tuple #[.string (str (bef c l)), .string (str (aft c l)), .bool (l.contains c)]) ∧ Below w.heap.size w w' := by
  have HI : Hid (∀ w', Calls Tryz.prog 74 #[.string (str l), .string ⟨#[c]⟩] w' fun e w2 => e = .returned (.int .i64 (Lib.indexByte l c)) ∧ w2 = w') := fun w' => by
    have h := Tryz.stringslite_Index_one (str l) c w'
    rwa [show (str l).data.toList = l by simp [str]] at h
  have hsz := str_size l
  have h1s : (ByteArray.mk #[c]).size = 1 := rfl
  rcases cut_case l c with ⟨e1, e2, e3, e4⟩ | ⟨i, e1, e0, e2, e3, e4⟩
  · rw [e2, e3, e4]
    rw [e1] at HI
    clear e1 e2 e3 e4
    go_enter Tryz.func67, Tryz.ntmps67
    go_wp2_with (first
      | (go_at_call 74; (with_reducible refine (HI.out _).mono ?_); (rintro e w1 ⟨rfl, rfl⟩)))
    go_ret3
    exact ⟨rfl, Below.refl _ _⟩
  · rw [e2, e3, e4]
    rw [e1] at HI
    obtain ⟨S, hS⟩ : ∃ S, S = l.length := ⟨_, rfl⟩
    rw [← hS] at hsz hl e0
    obtain ⟨j, hj⟩ : ∃ j, j = i + 1 := ⟨_, rfl⟩
    have x1 : (str l).extract 0 i = str (l.take i) := str_take l i
    have x2 : (str l).extract j S = str (l.drop (i + 1)) := by rw [← hj]; exact str_drop l j S hS (by omega)
    have x3 : (i : Int) + 1 = (j : Int) := by omega
    have x4 : IntKind.i64.wrap (j : Int) = (j : Int) := by rw [IntKind.wrap_i64]; omega
    have x5 : (0 : Int) ≤ (i : Int) := by omega
    have x6 : (i : Int) ≤ (S : Int) := by omega
    have x7 : (j : Int) ≤ (S : Int) := by omega
    have x8 : (0 : Int) ≤ (j : Int) := by omega
    generalize l.take i = L1 at *
    generalize l.drop (i + 1) = L2 at *
    clear e1 e2 e3 e4 hS hj e0
    go_enter Tryz.func67, Tryz.ntmps67
    go_wp2_with (first
      | (go_at_call 74; (with_reducible refine (HI.out _).mono ?_); (rintro e w1 ⟨rfl, rfl⟩)))
    go_quiet (fail)
    go_wp2_with fail
    go_ret3
    exact ⟨rfl, below_drewN _⟩
theorem cut_any (l : List UInt8) (c : UInt8) (w : World) (hl : l.length ≤ 9223372036854775807) : Calls Tryz.prog 57 #[.string (str l), .string ⟨#[c]⟩] w fun e w' => e = .returned (.tuple #[.string (str (bef c l)), .string (str (aft c l)), .bool (l.contains c)]) ∧ Below w.heap.size w w' := by
  have HC : Hid (∀ w', Calls Tryz.prog 67 #[.string (str l), .string ⟨#[c]⟩] w' fun e w2 => e = .returned (.tuple #[.string (str (bef c l)), .string (str (aft c l)), .bool (l.contains c)]) ∧ Below w'.heap.size w' w2) := fun w' => lcut_any l c w' hl
  generalize bef c l = L1 at *
  generalize aft c l = L2 at *
  generalize l.contains c = B at *
  go_enter Tryz.func57, Tryz.ntmps57
  go_wp2_with (first
    | (go_at_call 67; (with_reducible refine (HC.out _).mono ?_); (rintro e w1 ⟨rfl, hb⟩); have HB1 := Lib.hid hb; clear hb))
  go_ret3
  exact ⟨rfl, HB1.out⟩
set_option maxHeartbeats 4000000 in
set_option maxRecDepth 100000 in
theorem until_any (l : List UInt8) (c : UInt8) (w : World) (hl : l.length ≤ 9223372036854775807) : Calls Tryz.prog 45 #[.string (str l), .int .u8 (c.toNat : Int)] w fun e w' => e = .returned (.tuple #[.string (str (bef c l)), .string (str (aft c l)), .bool (l.contains c)]) ∧ Below w.heap.size w w' := by
  have hsz := str_size l
  have hgb : Hid (∀ k, k < l.length → ∀ h, ((str l)[k]'h).toNat = (l.getD k 0).toNat) := fun k hk h => str_at l k hk h
  have hat : Hid (∀ k, k < l.length → l[k]? = some (l.getD k 0)) := fun k hk => by rw [List.getD_eq_getElem?_getD, List.getElem?_eq_getElem hk]; rfl
  obtain ⟨S, hS⟩ : ∃ S, S = l.length := ⟨_, rfl⟩
  have HS := Lib.hid hS
  rw [← hS] at hsz hl hgb hat
  have hx1 : Hid (∀ k, (str l).extract 0 k = str (l.take k)) := fun k => str_take l k
  have hx2 : Hid (∀ j, j ≤ S → (str l).extract j S = str (l.drop j)) := fun j h => str_drop l j S hS h
  obtain ⟨m, hm⟩ : ∃ m, m = c.toNat := ⟨_, rfl⟩
  have hmc := Lib.hid (uInj c m hm)
  rw [← hm]
  obtain ⟨BB, hBB⟩ : ∃ B, B = l.contains c := ⟨_, rfl⟩
  rw [← hBB]
  have Hno : Hid ((∀ k b, k < S → l[k]? = some b → b ≠ c) → bef c l = l ∧ aft c l = [] ∧ BB = false) := fun h => by
    rw [hBB]
    have h2 : c ∉ l := fun e => by
      obtain ⟨k, hk, e⟩ := List.mem_iff_getElem.1 e
      exact h k c (by omega) (by rw [List.getElem?_eq_getElem hk, e]) rfl
    obtain ⟨h3, h4⟩ := bef_none c l h2
    exact ⟨h3, h4, by simpa using h2⟩
  have Hyes : Hid (∀ i, l[i]? = some c → (∀ k b, k < i → l[k]? = some b → b ≠ c) → bef c l = l.take i ∧ aft c l = l.drop (i + 1) ∧ BB = true) := fun i h1 h2 => by
    rw [hBB]
    obtain ⟨h3, h4⟩ := bef_at c l i h1 fun k hk e => h2 k c hk e rfl
    exact ⟨h3, h4, by simpa using List.mem_of_getElem? h1⟩
  clear hm hS hBB
  go_enter Tryz.func45, Tryz.ntmps45
  go_wp2_with fail
  go_loop [7] (fun i => ∃ k : Nat, k ≤ S ∧ i = .int .i64 (k : Int) ∧ ∀ j b, j < k → l[j]? = some b → b ≠ c) (fun i => S - (intOf i).toNat)
  case atStart => exact ⟨0, by omega, rfl, fun j b h => absurd h (by omega)⟩
  case round =>
    obtain ⟨k, hk, rfl, hA⟩ := hrel
    have HA := Lib.hid hA
    clear hA
    by_cases hlt : k < S
    · have hkS : (k : Int) < (S : Int) := by omega
      have HG := hgb.out k hlt
      have HO := Lib.hid (hat.out k hlt)
      obtain ⟨x, hxx⟩ : ∃ x, x = l.getD k 0 := ⟨_, rfl⟩
      rw [← hxx] at HG HO
      have hb := hmc.out x
      obtain ⟨b, hbb⟩ : ∃ b, b = x.toNat := ⟨_, rfl⟩
      rw [← hbb] at HG hb
      have Hb := Lib.hid hb
      clear hxx hbb hb
      by_cases he : b = m
      · have hc : ((b : Int) == (m : Int)) = true := by simp [he]
        have HX := Lib.hid (Hb.out.1 he)
        have HY := Lib.hid (Hyes.out k (HX.out ▸ HO.out) HA.out)
        clear he
        obtain ⟨j, hj⟩ : ∃ j, j = k + 1 := ⟨_, rfl⟩
        have x1 := hx1.out k
        have x2 := hx2.out j (by omega)
        have x3 : (k : Int) + 1 = (j : Int) := by omega
        have x4 : IntKind.i64.wrap (j : Int) = (j : Int) := by rw [IntKind.wrap_i64]; omega
        have x5 : (0 : Int) ≤ (k : Int) := by omega
        have x6 : (k : Int) ≤ (S : Int) := by omega
        have x7 : (j : Int) ≤ (S : Int) := by omega
        have x8 : (0 : Int) ≤ (j : Int) := by omega
        have Hj := Lib.hid hj
        clear hj hlt
        go_wp2_with fail
        go_quiet (fail)
        go_wp2_with fail
        go_ret3
        rw [HY.out.1, HY.out.2.1, HY.out.2.2, ← Hj.out]
        exact ⟨rfl, below_drewN _⟩
      · have hc : ((b : Int) == (m : Int)) = false := by simp; omega
        have HX : Hid (x ≠ c) := fun e => he (Hb.out.2 e)
        clear he
        go_wp2_with fail
        go_round
        case rel => exact ⟨k + 1, by omega, by go_num, fun j y hj hy => by
          by_cases e : j = k
          · subst e
            rw [HO.out] at hy
            obtain rfl := Option.some.inj hy
            exact HX.out
          · exact HA.out j y (by omega) hy⟩
        case measure => simp [intOf]; omega
    · have hkS : ¬ (k : Int) < (S : Int) := by omega
      have hke : Hid (k = S) := by show _ = _; omega
      have HY := Lib.hid (Hno.out fun j b hj hb => HA.out j b (by rw [hke.out]; exact hj) hb)
      go_wp2_with fail
      go_ret3
      rw [HY.out.1, HY.out.2.1, HY.out.2.2]
      exact ⟨rfl, Below.refl _ _⟩
end Go.Proofs.YtonchnmcklgpoaaGreatDoor
