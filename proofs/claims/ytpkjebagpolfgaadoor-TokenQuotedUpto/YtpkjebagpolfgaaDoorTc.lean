/-
  What strings.Trim, IndexRune, IndexAny and ContainsAny (at a cutset of ASCII), transeptref09.Strip and the two Trims and Values answer; nothing that was there turns. No condition.
-/
import Derived.Test.YtpkjebagpolfgaaDoorTb
import Derived.Lib.DecodeN
import Derived.Laws.RangeString
import Derived.Laws.Runes
namespace Go.Proofs.YtpkjebagpolfgaaDoor
open Go.RowKit
set_option linter.unusedVariables false

theorem str_data (s : ByteArray) : str s.data.toList = s := by
  apply ByteArray.ext
  simp [str]
theorem trim_any (l cs : List UInt8) (w : World) (hl : l.length ≤ 9223372036854775807) (hc : cs.length < 4294967281) (ha : ∀ b ∈ cs, b.toNat < 128) : Calls Tryd.prog 31 #[.string (str l), .string (str cs)] w fun e w' => e = .returned (.string (str (Lib.trimS l cs))) ∧ Below w.heap.size w w' :=
  Tryd.strings_Trim_laid (str l) (str cs) w (by rw [str_size]; exact hl) (by rw [str_size]; exact hc) (fun j b hb => ha b (List.mem_of_getElem? hb))
theorem tok_trim_any (l : List UInt8) (w : World) (hl : l.length ≤ 9223372036854775807) : Calls Tryd.prog 15 #[.string (str l)] w fun e w' => e = .returned (.string (str (tr l))) ∧ Below w.heap.size w w' := by
  have H : Hid (∀ w', Calls Tryd.prog 31 #[.string (str l), .string ⟨#[9, 10, 13, 32]⟩] w' fun e w2 => e = .returned (.string (str (tr l))) ∧ Below w'.heap.size w' w2) := fun w' => trim_any l T4 w' hl (by decide) (by decide)
  go_enter Tryd.func15, Tryd.ntmps15
  go_wp2_with (go_at_call 31; (with_reducible refine (H.out _).mono ?_); (rintro e w1 ⟨rfl, hb⟩))
  go_ret
  exact ⟨rfl, hb⟩
set_option maxHeartbeats 4000000 in
set_option maxRecDepth 100000 in
theorem strip_any (l cs : List UInt8) (w : World) (hl : l.length ≤ 9223372036854775807) (hcs : cs.length ≤ 9223372036854775807) : Calls Tryd.prog 32 #[.string (str l), .string (str cs)] w fun e w' => e = .returned (.string (str (Lib.trimS l cs))) ∧ w' = w := by
  have hsz := str_size l
  have hgb : Hid (∀ k, k < l.length → ∀ h, ((str l)[k]'h).toNat = (l.getD k 0).toNat) := fun k hk h => str_at l k hk h
  have hsub : Hid (∀ f k, f ≤ k → k ≤ l.length → (str l).extract f k = str ((l.drop f).take (k - f))) := fun f k _ _ => str_sub l f k
  have hat : Hid (∀ k, k < l.length → l[k]? = some (l.getD k 0)) := fun k hk => by rw [List.getD_eq_getElem?_getD, List.getElem?_eq_getElem hk]; rfl
  have hout : Hid (∀ k b, l[k]? = some b → k < l.length) := fun k b h => (List.getElem?_eq_some_iff.1 h).1
  have hin : Hid (∀ (x : UInt8) (w' : World), Calls Tryd.prog 29 #[.string (str cs), .int .u8 (x.toNat : Int)] w' fun e w2 => e = .returned (.bool (cs.contains x)) ∧ w2 = w') := fun x w' => in_any cs x w' hcs
  obtain ⟨S, hS⟩ : ∃ S, S = l.length := ⟨_, rfl⟩
  have HS := Lib.hid hS
  rw [← hS] at hsz hgb hl hsub hat hout
  have hnone : Hid (∀ (j : Nat) (b : UInt8), S ≤ j → l[j]? = some b → cs.contains b = true) := fun j b h1 h2 => absurd (hout.out j b h2) (by omega)
  clear hS
  go_enter Tryd.func32, Tryd.ntmps32
  go_wp2_with fail
  go_loop [5] (fun i => ∃ k : Nat, k ≤ S ∧ i = .int .i64 (k : Int) ∧ ∀ (j : Nat) (b : UInt8), j < k → l[j]? = some b → cs.contains b = true) (fun i => S - (intOf i).toNat)
  case atStart => exact ⟨0, by omega, rfl, fun j b h => absurd h (by omega)⟩
  case round =>
    obtain ⟨k, hk, rfl, hA⟩ := hrel
    have HF1 := Lib.hid hA
    clear hA
    by_cases hlt : k < S
    · have hkS : (k : Int) < (S : Int) := by omega
      have HG := hgb.out k hlt
      have HO := hat.out k hlt
      obtain ⟨x, hxx⟩ : ∃ x, x = l.getD k 0 := ⟨_, rfl⟩
      rw [← hxx] at HG HO
      have HI := hin.out x
      obtain ⟨b, hbb⟩ : ∃ b, b = x.toNat := ⟨_, rfl⟩
      rw [← hbb] at HG HI
      have HI := Lib.hid HI
      have HO := Lib.hid HO
      clear hxx hbb
      cases hc : cs.contains x
      · rw [hc] at HI
        have HF2 : Hid (∀ b, l[k]? = some b → cs.contains b = false) := fun y hy => by
          rw [HO.out] at hy
          obtain rfl := Option.some.inj hy
          exact hc
        clear hc
        go_wp2_with (go_at_call 29; (with_reducible refine (HI.out _).mono ?_); (rintro e w1 ⟨rfl, rfl⟩))
        have hFS : ((k : Nat) : Int) ≤ (S : Int) := by omega
        go_loop [6] (fun i => ∃ t : Nat, k ≤ t ∧ t ≤ S ∧ i = .int .i64 (t : Int) ∧ ∀ (j : Nat) (b : UInt8), t ≤ j → l[j]? = some b → cs.contains b = true) (fun i => (intOf i).toNat)
        case atStart => exact ⟨S, by omega, Nat.le_refl _, rfl, hnone.out⟩
        case round =>
          obtain ⟨t, hFt, htS, rfl, hP⟩ := hrel
          have HP := Lib.hid hP
          clear hP
          have hx := hsub.out k t hFt htS
          by_cases hgt : k < t
          · have hgi : ((k : Nat) : Int) < (t : Int) := by omega
            obtain ⟨t1, ht1⟩ : ∃ t1, t = t1 + 1 := ⟨t - 1, by omega⟩
            have hsb : (t : Int) - 1 = (t1 : Int) := by omega
            have hsw : IntKind.i64.wrap (t1 : Int) = (t1 : Int) := by rw [IntKind.wrap_i64]; omega
            have hlt1 : t1 < S := by omega
            have hlti : (t1 : Int) < (S : Int) := by omega
            have HG := hgb.out t1 hlt1
            have HO := hat.out t1 hlt1
            obtain ⟨x, hxx⟩ : ∃ x, x = l.getD t1 0 := ⟨_, rfl⟩
            rw [← hxx] at HG HO
            have HI := hin.out x
            obtain ⟨b, hbb⟩ : ∃ b, b = x.toNat := ⟨_, rfl⟩
            rw [← hbb] at HG HI
            have HI := Lib.hid HI
            have HO := Lib.hid HO
            have HT := Lib.hid ht1
            clear hxx hbb ht1
            cases hc : cs.contains x
            · rw [hc] at HI
              have HC := Lib.hid hc
              clear hc
              go_wp2_with (go_at_call 29; (with_reducible refine (HI.out _).mono ?_); (rintro e w1 ⟨rfl, rfl⟩))
              go_ret
              refine ⟨?_, rfl⟩
              rw [tS_at l cs k t hFt (by rw [← HS.out]; exact htS) HF1.out HF2.out HP.out (fun y _ hy => by
                rw [show t - 1 = t1 by have := HT.out; omega, HO.out] at hy
                obtain rfl := Option.some.inj hy
                exact HC.out)]
              all_goals rfl
            · rw [hc] at HI
              have HC := Lib.hid hc
              clear hc
              go_wp2_with (go_at_call 29; (with_reducible refine (HI.out _).mono ?_); (rintro e w1 ⟨rfl, rfl⟩))
              go_round
              case rel => exact ⟨t1, by omega, by omega, by go_num, fun j y hj hy => by
                by_cases e : j = t1
                · subst e
                  rw [HO.out] at hy
                  obtain rfl := Option.some.inj hy
                  exact HC.out
                · exact HP.out j y (by have := HT.out; omega) hy⟩
              case measure => simp [intOf]; have := HT.out; omega
          · have hgi : ¬ ((k : Nat) : Int) < (t : Int) := by omega
            have hle : ((k : Nat) : Int) ≤ (t : Int) := by omega
            have hti : (t : Int) ≤ (S : Int) := by omega
            have het : Hid (t = k) := by show _ = _; omega
            go_wp2_with fail
            go_ret
            refine ⟨?_, rfl⟩
            rw [tS_at l cs k t hFt (by rw [← HS.out]; exact htS) HF1.out HF2.out HP.out (fun y h _ => absurd h (by have := het.out; omega))]
            all_goals rfl
      · rw [hc] at HI
        have HC := Lib.hid hc
        clear hc
        go_wp2_with (go_at_call 29; (with_reducible refine (HI.out _).mono ?_); (rintro e w1 ⟨rfl, rfl⟩))
        go_round
        case rel => exact ⟨k + 1, by omega, by go_num, fun j y hj hy => by
          by_cases e : j = k
          · subst e
            rw [HO.out] at hy
            obtain rfl := Option.some.inj hy
            exact HC.out
          · exact HF1.out j y (by omega) hy⟩
        case measure => simp [intOf]; omega
    · have hkS : ¬ (k : Int) < (S : Int) := by omega
      have hke : Hid (k = S) := by show _ = _; omega
      have HF2 : Hid (∀ b, l[k]? = some b → cs.contains b = false) := fun y hy => absurd (hout.out k y hy) hlt
      have hFS : ((k : Nat) : Int) ≤ (S : Int) := by omega
      go_wp2_with fail
      go_loop [6] (fun i => ∃ t : Nat, k ≤ t ∧ t ≤ S ∧ i = .int .i64 (t : Int) ∧ ∀ (j : Nat) (b : UInt8), t ≤ j → l[j]? = some b → cs.contains b = true) (fun i => (intOf i).toNat)
      case atStart => exact ⟨S, by omega, Nat.le_refl _, rfl, hnone.out⟩
      case round =>
        obtain ⟨t, hFt, htS, rfl, hP⟩ := hrel
        have HP := Lib.hid hP
        clear hP
        have hx := hsub.out k t hFt htS
        by_cases hgt : k < t
        · have hgi : ((k : Nat) : Int) < (t : Int) := by omega
          obtain ⟨t1, ht1⟩ : ∃ t1, t = t1 + 1 := ⟨t - 1, by omega⟩
          have hsb : (t : Int) - 1 = (t1 : Int) := by omega
          have hsw : IntKind.i64.wrap (t1 : Int) = (t1 : Int) := by rw [IntKind.wrap_i64]; omega
          have hlt1 : t1 < S := by omega
          have hlti : (t1 : Int) < (S : Int) := by omega
          have HG := hgb.out t1 hlt1
          have HO := hat.out t1 hlt1
          obtain ⟨x, hxx⟩ : ∃ x, x = l.getD t1 0 := ⟨_, rfl⟩
          rw [← hxx] at HG HO
          have HI := hin.out x
          obtain ⟨b, hbb⟩ : ∃ b, b = x.toNat := ⟨_, rfl⟩
          rw [← hbb] at HG HI
          have HI := Lib.hid HI
          have HO := Lib.hid HO
          have HT := Lib.hid ht1
          clear hxx hbb ht1
          cases hc : cs.contains x
          · rw [hc] at HI
            have HC := Lib.hid hc
            clear hc
            go_wp2_with (go_at_call 29; (with_reducible refine (HI.out _).mono ?_); (rintro e w1 ⟨rfl, rfl⟩))
            go_ret
            refine ⟨?_, rfl⟩
            rw [tS_at l cs k t hFt (by rw [← HS.out]; exact htS) HF1.out HF2.out HP.out (fun y _ hy => by
              rw [show t - 1 = t1 by have := HT.out; omega, HO.out] at hy
              obtain rfl := Option.some.inj hy
              exact HC.out)]
            all_goals rfl
          · rw [hc] at HI
            have HC := Lib.hid hc
            clear hc
            go_wp2_with (go_at_call 29; (with_reducible refine (HI.out _).mono ?_); (rintro e w1 ⟨rfl, rfl⟩))
            go_round
            case rel => exact ⟨t1, by omega, by omega, by go_num, fun j y hj hy => by
              by_cases e : j = t1
              · subst e
                rw [HO.out] at hy
                obtain rfl := Option.some.inj hy
                exact HC.out
              · exact HP.out j y (by have := HT.out; omega) hy⟩
            case measure => simp [intOf]; have := HT.out; omega
        · have hgi : ¬ ((k : Nat) : Int) < (t : Int) := by omega
          have hle : ((k : Nat) : Int) ≤ (t : Int) := by omega
          have hti : (t : Int) ≤ (S : Int) := by omega
          have het : Hid (t = k) := by show _ = _; omega
          go_wp2_with fail
          go_ret
          refine ⟨?_, rfl⟩
          rw [tS_at l cs k t hFt (by rw [← HS.out]; exact htS) HF1.out HF2.out HP.out (fun y h _ => absurd h (by have := het.out; omega))]
          all_goals rfl
theorem rtrim_any (l : List UInt8) (w : World) (hl : l.length ≤ 9223372036854775807) : Calls Tryd.prog 16 #[.string (str l)] w fun e w' => e = .returned (.string (str (tr l))) ∧ w' = w := by
  have H : Hid (∀ w', Calls Tryd.prog 32 #[.string (str l), .string ⟨#[9, 10, 13, 32]⟩] w' fun e w2 => e = .returned (.string (str (tr l))) ∧ w2 = w') := fun w' => strip_any l T4 w' hl (by decide)
  go_enter Tryd.func16, Tryd.ntmps16
  go_wp2_with (go_at_call 32; (with_reducible refine (H.out _).mono ?_); (rintro e w1 ⟨rfl, rfl⟩))
  go_ret
  exact ⟨rfl, rfl⟩
end Go.Proofs.YtpkjebagpolfgaaDoor
