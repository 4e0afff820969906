/-
  What token.Parts, transeptref09.Parts and Same answer; nothing that was there turns. Condition: values of at most 2^62 bytes with at most 100000000 parts.
-/
import Derived.Test.YtpkjebagpolfgaaDoorTg
namespace Go.Proofs.YtpkjebagpolfgaaDoor
open Go.RowKit
set_option linter.unusedVariables false

theorem cell_lt {w : World} {g k : Nat} {v : Value} (h : w.cell? ⟨g, k, none⟩ = some v) : g < w.heap.size := by
  rcases Nat.lt_or_ge g w.heap.size with h1 | h1
  · exact h1
  · simp [World.cell?, Array.getElem?_eq_none h1] at h
theorem pt_pos : ∀ (l : List UInt8) (q : Nat) (cur : List UInt8), 1 ≤ (pt l q cur).length
  | [], _, _ => by simp [pt]
  | c :: r, 0, cur => by
    have h1 := pt_pos r 1 (cur ++ [c])
    have h2 := pt_pos r 0 (cur ++ [c])
    simp only [pt]
    split
    · omega
    · split
      · simp
      · omega
  | c :: r, 1, cur => by
    have h1 := pt_pos r 2 (cur ++ [c])
    have h2 := pt_pos r 0 (cur ++ [c])
    have h3 := pt_pos r 1 (cur ++ [c])
    simp only [pt]
    split
    · omega
    · split <;> omega
  | c :: r, q + 2, cur => by
    simp only [pt]
    exact pt_pos r 1 (cur ++ [c])
theorem prts_pos (l : List UInt8) : 1 ≤ (prts l).length := pt_pos l 0 []
theorem Pi.size {l : List UInt8} {k st : Nat} {q : Bool} {ps : List (List UInt8)} (h : Pi l k st q ps) : ps.length ≤ (prts l).length := by
  rcases h.2 with ⟨_, _, h3⟩ | ⟨_, h3⟩ <;> rw [← h3, List.length_append] <;> omega
set_option maxHeartbeats 8000000 in
set_option maxRecDepth 100000 in
theorem parts_own (l : List UInt8) (w : World) (hl : l.length ≤ 4611686018427387904) (hp : (prts l).length ≤ 100000000) : Calls Tryd.prog 25 #[.string (str l)] w fun e w' => ∃ A c, e = .returned (.slice A (prts l).length c) ∧ OwnT w' w.heap.size (.slice A (prts l).length c) (prts l).length (prts l) ∧ Below w.heap.size w w' := by
  have hsz := str_size l
  have hgb : Hid (∀ k, k < l.length → ∀ h, ((str l)[k]'h).toNat = (l.getD k 0).toNat) := fun k hk h => str_at l k hk h
  have hsub : Hid (∀ f k, f ≤ k → k ≤ l.length → (str l).extract f k = str ((l.drop f).take (k - f)) ∧ ((l.drop f).take (k - f)).length ≤ 9223372036854775807) := fun f k _ _ => ⟨str_sub l f k, by rw [List.length_take, List.length_drop]; omega⟩
  have hsub2 : Hid (∀ f, f ≤ l.length → (str l).extract f l.length = str (l.drop f) ∧ (l.drop f).length ≤ 9223372036854775807) := fun f h => ⟨str_drop l f l.length rfl h, by rw [List.length_drop]; omega⟩
  have hquo : Hid (∀ k st q ps, Pi l k st q ps → k < l.length → l.getD k 0 = 34 → Pi l (k + 1) st (!q) ps) := fun k st q ps h => h.quote
  have hesc : Hid (∀ k st ps, Pi l k st true ps → k < l.length → l.getD k 0 = 92 → Pi l (k + 2) st true ps) := fun k st ps h => h.esc
  have hcom : Hid (∀ k st ps, Pi l k st false ps → k < l.length → l.getD k 0 = 44 → Pi l (k + 1) (k + 1) false (ps ++ [tg ((l.drop st).take (k - st))])) := fun k st ps h => h.comma
  have hoth : Hid (∀ k st q ps, Pi l k st q ps → k < l.length → l.getD k 0 ≠ 34 → ¬ (l.getD k 0 = 92 ∧ q = true) → ¬ (l.getD k 0 = 44 ∧ q = false) → Pi l (k + 1) st q ps) := fun k st q ps h => h.other
  have hle : Hid (∀ k st q ps, Pi l k st q ps → st ≤ l.length ∧ k ≤ l.length + 1 ∧ (k < l.length → st ≤ k) ∧ ps.length ≤ 100000000) := fun k st q ps h => ⟨h.le.1, h.le.2, fun hk => (h.at_ hk).1, by have := h.size; omega⟩
  have hdone : Hid (∀ k st q ps, Pi l k st q ps → ¬ k < l.length → ps ++ [tg (l.drop st)] = prts l) := fun k st q ps h => h.done
  have hstart : Hid (Pi l 0 0 false []) := Pi.start l
  have HT : Hid (∀ X w', X.length ≤ 9223372036854775807 → Calls Tryd.prog 31 #[.string (str X), .string ⟨#[9, 32]⟩] w' fun e w2 => e = .returned (.string (str (tg X))) ∧ Below w'.heap.size w' w2) := fun X w' h => trim_any X G2 w' h (by decide) (by decide)
  obtain ⟨S, hS⟩ : ∃ S, S = l.length := ⟨_, rfl⟩
  rw [← hS] at hsz hgb hsub hsub2 hquo hesc hcom hoth hle hdone hl
  clear hS
  go_enter Tryd.func25, Tryd.ntmps25
  go_wp2_with fail
  have hown0 : Hid (OwnT (w.alloc (.cells #[] 9)) w.heap.size (.slice (some ⟨w.heap.size, 0, none⟩) 0 0) 0 []) := ownT_made w w.heap.size (Nat.le_refl _)
  go_loopw [6, 5, 4, 3] (fun i q fr v wr => ∃ (k st n : Nat) (b : Bool) (A : Option Addr) (c : Nat) (ps : List (List UInt8)), i = .int .i64 (k : Int) ∧ q = .bool b ∧ fr = .int .i64 (st : Int) ∧ v = .slice A n c ∧ OwnT wr w.heap.size (.slice A n c) n ps ∧ Kept w wr ∧ Pi l k st b ps) (fun i _ _ _ _ => S + 1 - (intOf i).toNat)
  case atStart => exact ⟨0, 0, 0, false, _, _, [], rfl, rfl, rfl, rfl, hown0.out, (Kept.refl w).alloc _, hstart.out⟩
  case round =>
    obtain ⟨k, st, n, q, A, c, ps, rfl, rfl, rfl, rfl, hown, hkp, hpi⟩ := hrel
    clear hown0 hstart
    obtain ⟨hle1, hle2, hle3, hle4⟩ := hle.out k st q ps hpi
    have HP := Lib.hid hpi
    have hnl := hown.len
    have hnp : Hid (n ≤ 100000000) := by show _ ≤ _; omega
    have HOwn := Lib.hid hown
    have hbs : Hid (w.heap.size ≤ wr.heap.size) := hkp.size
    have HK := Lib.hid hkp
    have Hlen := Lib.hid hnl
    clear hkp hown hpi hnl hle4
    by_cases hlt : k < S
    · have hkS : (k : Int) < (S : Int) := by omega
      have hsk := hle3 hlt
      have hski : (st : Int) ≤ (k : Int) := by omega
      have hkSi : (k : Int) ≤ (S : Int) := by omega
      have HG := hgb.out k hlt
      have hQ := hquo.out k st q ps HP.out hlt
      have hE := fun h => hesc.out k st ps h hlt
      have hC := fun h => hcom.out k st ps h hlt
      have hO := hoth.out k st q ps HP.out hlt
      obtain ⟨hx, hxl⟩ := hsub.out st k hsk (by omega)
      obtain ⟨X, hX⟩ : ∃ X, X = (l.drop st).take (k - st) := ⟨_, rfl⟩
      rw [← hX] at hx hxl hC
      have HXl := Lib.hid hxl
      obtain ⟨bb, hbb⟩ : ∃ b, b = l.getD k 0 := ⟨_, rfl⟩
      rw [← hbb] at HG hQ hE hC hO
      obtain ⟨b, hb⟩ : ∃ b, b = bb.toNat := ⟨_, rfl⟩
      have i34 := uInj 34 34 rfl bb
      have i92 := uInj 92 92 rfl bb
      have i44 := uInj 44 44 rfl bb
      rw [← hb] at HG i34 i92 i44
      clear hX hbb hb hxl
      rcases (by omega : b = 34 ∨ b = 92 ∨ b = 44 ∨ (b ≠ 34 ∧ b ≠ 92 ∧ b ≠ 44)) with h | h | h | h
      · have c34 : ((b : Int) == 34) = true := by simp; omega
        have c92 : ((b : Int) == 92) = false := by simp; omega
        have c44 : ((b : Int) == 44) = false := by simp; omega
        cases q
        · have HN : Hid (Pi l (k + 1) st true ps) := hQ (i34.1 h)
          clear hQ hE hC hO i34 i92 i44 h
          go_wp2_with fail
          go_roundw
          case rel => exact ⟨k + 1, st, n, true, A, c, ps, by go_num, rfl, rfl, rfl, HOwn.out, HK.out, HN.out⟩
          case measure => simp [intOf]; omega
        · have HN : Hid (Pi l (k + 1) st false ps) := hQ (i34.1 h)
          clear hQ hE hC hO i34 i92 i44 h
          go_wp2_with fail
          go_roundw
          case rel => exact ⟨k + 1, st, n, false, A, c, ps, by go_num, rfl, rfl, rfl, HOwn.out, HK.out, HN.out⟩
          case measure => simp [intOf]; omega
      · have c34 : ((b : Int) == 34) = false := by simp; omega
        have c92 : ((b : Int) == 92) = true := by simp; omega
        have c44 : ((b : Int) == 44) = false := by simp; omega
        cases q
        · have HN : Hid (Pi l (k + 1) st false ps) := hO (fun e => by have := i34.2 e; omega) (fun e => by cases e.2) (fun e => by have := i44.2 e.1; omega)
          clear hQ hE hC hO i34 i92 i44 h
          go_wp2_with fail
          go_roundw
          case rel => exact ⟨k + 1, st, n, false, A, c, ps, by go_num, rfl, rfl, rfl, HOwn.out, HK.out, HN.out⟩
          case measure => simp [intOf]; omega
        · have HN : Hid (Pi l (k + 2) st true ps) := hE HP.out (i92.1 h)
          clear hQ hE hC hO i34 i92 i44 h
          have hk1 : IntKind.i64.wrap ((k : Int) + 1) = (k : Int) + 1 := by rw [IntKind.wrap_i64]; omega
          have hk2 : IntKind.i64.wrap ((k : Int) + 1 + 1) = (k : Int) + 1 + 1 := by rw [IntKind.wrap_i64]; omega
          go_wp2_with fail
          go_roundw
          case rel => exact ⟨k + 2, st, n, true, A, c, ps, by go_num, rfl, rfl, rfl, HOwn.out, HK.out, HN.out⟩
          case measure => simp [intOf]; omega
      · have c34 : ((b : Int) == 34) = false := by simp; omega
        have c92 : ((b : Int) == 92) = false := by simp; omega
        have c44 : ((b : Int) == 44) = true := by simp; omega
        cases q
        · have HN : Hid (Pi l (k + 1) (k + 1) false (ps ++ [tg X])) := hC HP.out (i44.1 h)
          clear hQ hE hC hO i34 i92 i44 h
          go_wp2_with (first
            | (go_at_call 31; (with_reducible refine (HT.out X _ HXl.out).mono ?_); (rintro e w3 ⟨rfl, hb3⟩; have HB3 := Lib.hid hb3; clear hb3))
            | ((with_reducible show wpList _ _ _ (⟨some 45, .call _, _, _, _, _⟩ :: _) _ _); refine wp_appT _ rfl (.tmp 38) (.tmp 44) rfl w.heap.size _ n ps rfl ((HOwn.out.kept HB3.out).alloc _) w3.heap.size 0 1 1 [tg X] rfl rfl (lit_one _ _ _ rfl) (by have := hnp.out; omega) (by have := (HK.out.step HB3.out).size; simp; omega) (n + 1) rfl ?_; intro A4 c4 w4 hc4 hown4 hb4 hkb4 hgr4; simp only [Act.put, List.setIfInBounds_toArray, List.set_cons_zero, List.set_cons_succ]))
          go_roundw
          case rel => exact ⟨k + 1, k + 1, n + 1, false, A4, c4, ps ++ [tg X], by go_num, rfl, by go_num, rfl, hown4, ((HK.out.step HB3.out).alloc _).base hb4, HN.out⟩
          case measure => simp [intOf]; omega
        · have HN : Hid (Pi l (k + 1) st true ps) := hO (fun e => by have := i34.2 e; omega) (fun e => by have := i92.2 e.1; omega) (fun e => by cases e.2)
          clear hQ hE hC hO i34 i92 i44 h
          go_wp2_with fail
          go_roundw
          case rel => exact ⟨k + 1, st, n, true, A, c, ps, by go_num, rfl, rfl, rfl, HOwn.out, HK.out, HN.out⟩
          case measure => simp [intOf]; omega
      · have c34 : ((b : Int) == 34) = false := by simp; omega
        have c92 : ((b : Int) == 92) = false := by simp; omega
        have c44 : ((b : Int) == 44) = false := by simp; omega
        cases q
        · have HN : Hid (Pi l (k + 1) st false ps) := hO (fun e => by have := i34.2 e; omega) (fun e => by have := i92.2 e.1; omega) (fun e => by have := i44.2 e.1; omega)
          clear hQ hE hC hO i34 i92 i44 h
          go_wp2_with fail
          go_roundw
          case rel => exact ⟨k + 1, st, n, false, A, c, ps, by go_num, rfl, rfl, rfl, HOwn.out, HK.out, HN.out⟩
          case measure => simp [intOf]; omega
        · have HN : Hid (Pi l (k + 1) st true ps) := hO (fun e => by have := i34.2 e; omega) (fun e => by have := i92.2 e.1; omega) (fun e => by have := i44.2 e.1; omega)
          clear hQ hE hC hO i34 i92 i44 h
          go_wp2_with fail
          go_roundw
          case rel => exact ⟨k + 1, st, n, true, A, c, ps, by go_num, rfl, rfl, rfl, HOwn.out, HK.out, HN.out⟩
          case measure => simp [intOf]; omega
    · have hkS : ¬ (k : Int) < (S : Int) := by omega
      have HD := Lib.hid (hdone.out k st q ps HP.out hlt)
      obtain ⟨hx, hxl⟩ := hsub2.out st hle1
      have hski : (st : Int) ≤ (S : Int) := by omega
      obtain ⟨X, hX⟩ : ∃ X, X = l.drop st := ⟨_, rfl⟩
      rw [← hX] at hx HD hxl
      have HXl := Lib.hid hxl
      clear hX hxl hlt
      go_wp2_with (first
        | (go_at_call 31; (with_reducible refine (HT.out X _ HXl.out).mono ?_); (rintro e w3 ⟨rfl, hb3⟩; have HB3 := Lib.hid hb3; clear hb3))
        | ((with_reducible show wpList _ _ _ (⟨some 54, .call _, _, _, _, _⟩ :: _) _ _); refine wp_appT _ rfl (.tmp 48) (.tmp 53) rfl w.heap.size _ n ps rfl ((HOwn.out.kept HB3.out).alloc _) w3.heap.size 0 1 1 [tg X] rfl rfl (lit_one _ _ _ rfl) (by have := hnp.out; omega) (by have := (HK.out.step HB3.out).size; simp; omega) (n + 1) rfl ?_; intro A4 c4 w4 hc4 hown4 hb4 hkb4 hgr4; simp only [Act.put, List.setIfInBounds_toArray, List.set_cons_zero, List.set_cons_succ]))
      go_ret
      have hlen := hown4.len
      rw [HD.out] at hown4 hlen
      rw [hlen]
      exact ⟨A4, c4, rfl, hown4, ((HK.out.step HB3.out).alloc _).base hb4⟩
set_option maxHeartbeats 8000000 in
set_option maxRecDepth 100000 in
theorem rparts_own (l : List UInt8) (w : World) (hl : l.length ≤ 4611686018427387904) (hp : (prts l).length ≤ 100000000) : Calls Tryd.prog 26 #[.string (str l)] w fun e w' => ∃ A c, e = .returned (.slice A (prts l).length c) ∧ OwnT w' w.heap.size (.slice A (prts l).length c) (prts l).length (prts l) ∧ Below w.heap.size w w' := by
  have hsz := str_size l
  have hgb : Hid (∀ k, k < l.length → ∀ h, ((str l)[k]'h).toNat = (l.getD k 0).toNat) := fun k hk h => str_at l k hk h
  have hsub : Hid (∀ f k, f ≤ k → k ≤ l.length → (str l).extract f k = str ((l.drop f).take (k - f)) ∧ ((l.drop f).take (k - f)).length ≤ 9223372036854775807) := fun f k _ _ => ⟨str_sub l f k, by rw [List.length_take, List.length_drop]; omega⟩
  have hsub2 : Hid (∀ f, f ≤ l.length → (str l).extract f l.length = str (l.drop f) ∧ (l.drop f).length ≤ 9223372036854775807) := fun f h => ⟨str_drop l f l.length rfl h, by rw [List.length_drop]; omega⟩
  have hquo : Hid (∀ k st q ps, Pi l k st q ps → k < l.length → l.getD k 0 = 34 → Pi l (k + 1) st (!q) ps) := fun k st q ps h => h.quote
  have hesc : Hid (∀ k st ps, Pi l k st true ps → k < l.length → l.getD k 0 = 92 → Pi l (k + 2) st true ps) := fun k st ps h => h.esc
  have hcom : Hid (∀ k st ps, Pi l k st false ps → k < l.length → l.getD k 0 = 44 → Pi l (k + 1) (k + 1) false (ps ++ [tg ((l.drop st).take (k - st))])) := fun k st ps h => h.comma
  have hoth : Hid (∀ k st q ps, Pi l k st q ps → k < l.length → l.getD k 0 ≠ 34 → ¬ (l.getD k 0 = 92 ∧ q = true) → ¬ (l.getD k 0 = 44 ∧ q = false) → Pi l (k + 1) st q ps) := fun k st q ps h => h.other
  have hle : Hid (∀ k st q ps, Pi l k st q ps → st ≤ l.length ∧ k ≤ l.length + 1 ∧ (k < l.length → st ≤ k) ∧ ps.length ≤ 100000000) := fun k st q ps h => ⟨h.le.1, h.le.2, fun hk => (h.at_ hk).1, by have := h.size; omega⟩
  have hdone : Hid (∀ k st q ps, Pi l k st q ps → ¬ k < l.length → ps ++ [tg (l.drop st)] = prts l) := fun k st q ps h => h.done
  have hstart : Hid (Pi l 0 0 false []) := Pi.start l
  have HT : Hid (∀ X w', X.length ≤ 9223372036854775807 → Calls Tryd.prog 32 #[.string (str X), .string ⟨#[9, 32]⟩] w' fun e w2 => e = .returned (.string (str (tg X))) ∧ w2 = w') := fun X w' h => strip_any X G2 w' h (by decide)
  obtain ⟨S, hS⟩ : ∃ S, S = l.length := ⟨_, rfl⟩
  rw [← hS] at hsz hgb hsub hsub2 hquo hesc hcom hoth hle hdone hl
  clear hS
  go_enter Tryd.func26, Tryd.ntmps26
  go_wp2_with fail
  have hown0 : Hid (OwnT (w.alloc (.cells #[] 9)) w.heap.size (.slice (some ⟨w.heap.size, 0, none⟩) 0 0) 0 []) := ownT_made w w.heap.size (Nat.le_refl _)
  go_loopw [6, 5, 4, 3] (fun i q fr v wr => ∃ (k st n : Nat) (b : Bool) (A : Option Addr) (c : Nat) (ps : List (List UInt8)), i = .int .i64 (k : Int) ∧ q = .bool b ∧ fr = .int .i64 (st : Int) ∧ v = .slice A n c ∧ OwnT wr w.heap.size (.slice A n c) n ps ∧ Kept w wr ∧ Pi l k st b ps) (fun i _ _ _ _ => S + 1 - (intOf i).toNat)
  case atStart => exact ⟨0, 0, 0, false, _, _, [], rfl, rfl, rfl, rfl, hown0.out, (Kept.refl w).alloc _, hstart.out⟩
  case round =>
    obtain ⟨k, st, n, q, A, c, ps, rfl, rfl, rfl, rfl, hown, hkp, hpi⟩ := hrel
    clear hown0 hstart
    obtain ⟨hle1, hle2, hle3, hle4⟩ := hle.out k st q ps hpi
    have HP := Lib.hid hpi
    have hnl := hown.len
    have hnp : Hid (n ≤ 100000000) := by show _ ≤ _; omega
    have HOwn := Lib.hid hown
    have hbs : Hid (w.heap.size ≤ wr.heap.size) := hkp.size
    have HK := Lib.hid hkp
    have Hlen := Lib.hid hnl
    clear hkp hown hpi hnl hle4
    by_cases hlt : k < S
    · have hkS : (k : Int) < (S : Int) := by omega
      have hsk := hle3 hlt
      have hski : (st : Int) ≤ (k : Int) := by omega
      have hkSi : (k : Int) ≤ (S : Int) := by omega
      have HG := hgb.out k hlt
      have hQ := hquo.out k st q ps HP.out hlt
      have hE := fun h => hesc.out k st ps h hlt
      have hC := fun h => hcom.out k st ps h hlt
      have hO := hoth.out k st q ps HP.out hlt
      obtain ⟨hx, hxl⟩ := hsub.out st k hsk (by omega)
      obtain ⟨X, hX⟩ : ∃ X, X = (l.drop st).take (k - st) := ⟨_, rfl⟩
      rw [← hX] at hx hxl hC
      have HXl := Lib.hid hxl
      obtain ⟨bb, hbb⟩ : ∃ b, b = l.getD k 0 := ⟨_, rfl⟩
      rw [← hbb] at HG hQ hE hC hO
      obtain ⟨b, hb⟩ : ∃ b, b = bb.toNat := ⟨_, rfl⟩
      have i34 := uInj 34 34 rfl bb
      have i92 := uInj 92 92 rfl bb
      have i44 := uInj 44 44 rfl bb
      rw [← hb] at HG i34 i92 i44
      clear hX hbb hb hxl
      rcases (by omega : b = 34 ∨ b = 92 ∨ b = 44 ∨ (b ≠ 34 ∧ b ≠ 92 ∧ b ≠ 44)) with h | h | h | h
      · have c34 : ((b : Int) == 34) = true := by simp; omega
        have c92 : ((b : Int) == 92) = false := by simp; omega
        have c44 : ((b : Int) == 44) = false := by simp; omega
        cases q
        · have HN : Hid (Pi l (k + 1) st true ps) := hQ (i34.1 h)
          clear hQ hE hC hO i34 i92 i44 h
          go_wp2_with fail
          go_roundw
          case rel => exact ⟨k + 1, st, n, true, A, c, ps, by go_num, rfl, rfl, rfl, HOwn.out, HK.out, HN.out⟩
          case measure => simp [intOf]; omega
        · have HN : Hid (Pi l (k + 1) st false ps) := hQ (i34.1 h)
          clear hQ hE hC hO i34 i92 i44 h
          go_wp2_with fail
          go_roundw
          case rel => exact ⟨k + 1, st, n, false, A, c, ps, by go_num, rfl, rfl, rfl, HOwn.out, HK.out, HN.out⟩
          case measure => simp [intOf]; omega
      · have c34 : ((b : Int) == 34) = false := by simp; omega
        have c92 : ((b : Int) == 92) = true := by simp; omega
        have c44 : ((b : Int) == 44) = false := by simp; omega
        cases q
        · have HN : Hid (Pi l (k + 1) st false ps) := hO (fun e => by have := i34.2 e; omega) (fun e => by cases e.2) (fun e => by have := i44.2 e.1; omega)
          clear hQ hE hC hO i34 i92 i44 h
          go_wp2_with fail
          go_roundw
          case rel => exact ⟨k + 1, st, n, false, A, c, ps, by go_num, rfl, rfl, rfl, HOwn.out, HK.out, HN.out⟩
          case measure => simp [intOf]; omega
        · have HN : Hid (Pi l (k + 2) st true ps) := hE HP.out (i92.1 h)
          clear hQ hE hC hO i34 i92 i44 h
          have hk1 : IntKind.i64.wrap ((k : Int) + 1) = (k : Int) + 1 := by rw [IntKind.wrap_i64]; omega
          have hk2 : IntKind.i64.wrap ((k : Int) + 1 + 1) = (k : Int) + 1 + 1 := by rw [IntKind.wrap_i64]; omega
          go_wp2_with fail
          go_roundw
          case rel => exact ⟨k + 2, st, n, true, A, c, ps, by go_num, rfl, rfl, rfl, HOwn.out, HK.out, HN.out⟩
          case measure => simp [intOf]; omega
      · have c34 : ((b : Int) == 34) = false := by simp; omega
        have c92 : ((b : Int) == 92) = false := by simp; omega
        have c44 : ((b : Int) == 44) = true := by simp; omega
        cases q
        · have HN : Hid (Pi l (k + 1) (k + 1) false (ps ++ [tg X])) := hC HP.out (i44.1 h)
          clear hQ hE hC hO i34 i92 i44 h
          go_wp2_with (first
            | (go_at_call 32; (with_reducible refine (HT.out X _ HXl.out).mono ?_); (rintro e w3 ⟨rfl, hw3⟩; subst w3))
            | ((with_reducible show wpList _ _ _ (⟨some 47, .call _, _, _, _, _⟩ :: _) _ _); refine wp_appT _ rfl (.tmp 40) (.tmp 46) rfl w.heap.size _ n ps rfl (HOwn.out.alloc _) wr.heap.size 0 1 1 [tg X] rfl rfl (lit_one _ _ _ rfl) (by have := hnp.out; omega) (by have := HK.out.size; simp; omega) (n + 1) rfl ?_; intro A4 c4 w4 hc4 hown4 hb4 hkb4 hgr4; simp only [Act.put, List.setIfInBounds_toArray, List.set_cons_zero, List.set_cons_succ]))
          go_roundw
          case rel => exact ⟨k + 1, k + 1, n + 1, false, A4, c4, ps ++ [tg X], by go_num, rfl, by go_num, rfl, hown4, (HK.out.alloc _).base hb4, HN.out⟩
          case measure => simp [intOf]; omega
        · have HN : Hid (Pi l (k + 1) st true ps) := hO (fun e => by have := i34.2 e; omega) (fun e => by have := i92.2 e.1; omega) (fun e => by cases e.2)
          clear hQ hE hC hO i34 i92 i44 h
          go_wp2_with fail
          go_roundw
          case rel => exact ⟨k + 1, st, n, true, A, c, ps, by go_num, rfl, rfl, rfl, HOwn.out, HK.out, HN.out⟩
          case measure => simp [intOf]; omega
      · have c34 : ((b : Int) == 34) = false := by simp; omega
        have c92 : ((b : Int) == 92) = false := by simp; omega
        have c44 : ((b : Int) == 44) = false := by simp; omega
        cases q
        · have HN : Hid (Pi l (k + 1) st false ps) := hO (fun e => by have := i34.2 e; omega) (fun e => by have := i92.2 e.1; omega) (fun e => by have := i44.2 e.1; omega)
          clear hQ hE hC hO i34 i92 i44 h
          go_wp2_with fail
          go_roundw
          case rel => exact ⟨k + 1, st, n, false, A, c, ps, by go_num, rfl, rfl, rfl, HOwn.out, HK.out, HN.out⟩
          case measure => simp [intOf]; omega
        · have HN : Hid (Pi l (k + 1) st true ps) := hO (fun e => by have := i34.2 e; omega) (fun e => by have := i92.2 e.1; omega) (fun e => by have := i44.2 e.1; omega)
          clear hQ hE hC hO i34 i92 i44 h
          go_wp2_with fail
          go_roundw
          case rel => exact ⟨k + 1, st, n, true, A, c, ps, by go_num, rfl, rfl, rfl, HOwn.out, HK.out, HN.out⟩
          case measure => simp [intOf]; omega
    · have hkS : ¬ (k : Int) < (S : Int) := by omega
      have HD := Lib.hid (hdone.out k st q ps HP.out hlt)
      obtain ⟨hx, hxl⟩ := hsub2.out st hle1
      have hski : (st : Int) ≤ (S : Int) := by omega
      obtain ⟨X, hX⟩ : ∃ X, X = l.drop st := ⟨_, rfl⟩
      rw [← hX] at hx HD hxl
      have HXl := Lib.hid hxl
      clear hX hxl hlt
      go_wp2_with (first
        | (go_at_call 32; (with_reducible refine (HT.out X _ HXl.out).mono ?_); (rintro e w3 ⟨rfl, hw3⟩; subst w3))
        | ((with_reducible show wpList _ _ _ (⟨some 56, .call _, _, _, _, _⟩ :: _) _ _); refine wp_appT _ rfl (.tmp 50) (.tmp 55) rfl w.heap.size _ n ps rfl (HOwn.out.alloc _) wr.heap.size 0 1 1 [tg X] rfl rfl (lit_one _ _ _ rfl) (by have := hnp.out; omega) (by have := HK.out.size; simp; omega) (n + 1) rfl ?_; intro A4 c4 w4 hc4 hown4 hb4 hkb4 hgr4; simp only [Act.put, List.setIfInBounds_toArray, List.set_cons_zero, List.set_cons_succ]))
      go_ret
      have hlen := hown4.len
      rw [HD.out] at hown4 hlen
      rw [hlen]
      exact ⟨A4, c4, rfl, hown4, (HK.out.alloc _).base hb4⟩
theorem parts_any (l : List UInt8) (w : World) (hl : l.length ≤ 4611686018427387904) (hp : (prts l).length ≤ 100000000) : Calls Tryd.prog 25 #[.string (str l)] w fun e w' => ∃ g c, e = .returned (.slice (some ⟨g, 0, none⟩) (prts l).length c) ∧ (prts l).length ≤ c ∧ Ps w' g (prts l) ∧ Below w.heap.size w w' := by
  refine (parts_own l w hl hp).mono fun e w' hh => ?_
  obtain ⟨A, c, rfl, hown, hb⟩ := hh
  have hne : 1 ≤ (prts l).length := prts_pos l
  obtain ⟨A', c', he, hc, _, hf⟩ := hown.form
  cases he
  obtain ⟨g, rfl, _, hg, hcell⟩ := hf (by omega)
  exact ⟨g, c, rfl, hc, ⟨hg, hcell⟩, hb⟩
theorem rparts_any (l : List UInt8) (w : World) (hl : l.length ≤ 4611686018427387904) (hp : (prts l).length ≤ 100000000) : Calls Tryd.prog 26 #[.string (str l)] w fun e w' => ∃ g c, e = .returned (.slice (some ⟨g, 0, none⟩) (prts l).length c) ∧ (prts l).length ≤ c ∧ Ps w' g (prts l) ∧ Below w.heap.size w w' := by
  refine (rparts_own l w hl hp).mono fun e w' hh => ?_
  obtain ⟨A, c, rfl, hown, hb⟩ := hh
  have hne : 1 ≤ (prts l).length := prts_pos l
  obtain ⟨A', c', he, hc, _, hf⟩ := hown.form
  cases he
  obtain ⟨g, rfl, _, hg, hcell⟩ := hf (by omega)
  exact ⟨g, c, rfl, hc, ⟨hg, hcell⟩, hb⟩
set_option maxHeartbeats 4000000 in
set_option maxRecDepth 100000 in
theorem same_any (ps qs : List (List UInt8)) (A B : Option Addr) (c d : Nat) (w : World) (hp : ∀ j x, ps[j]? = some x → ∃ g, A = some ⟨g, 0, none⟩ ∧ w.cell? ⟨g, j, none⟩ = some (vstr x)) (hq : ∀ j x, qs[j]? = some x → ∃ g, B = some ⟨g, 0, none⟩ ∧ w.cell? ⟨g, j, none⟩ = some (vstr x)) (hc : ps.length ≤ c) (hd : qs.length ≤ d) (hpl : ps.length ≤ 1000000000) : Calls Tryd.prog 24 #[.slice A ps.length c, .slice B qs.length d] w fun e w' => e = .returned (.bool (decide (ps = qs))) ∧ Below w.heap.size w w' := by
  by_cases hlen : ps.length = qs.length
  · have hend : Hid (ps.drop ps.length = qs.drop ps.length) := by show _ = _; rw [List.drop_length, hlen, List.drop_length]
    have hrow : Hid (∀ k, k < ps.length → ∃ x y g h, A = some ⟨g, 0, none⟩ ∧ B = some ⟨h, 0, none⟩ ∧ w.cell? ⟨g, k, none⟩ = some (.string (str x)) ∧ w.cell? ⟨h, k, none⟩ = some (.string (str y)) ∧ (decide (ps.drop k = qs.drop k) = (decide (x = y) && decide (ps.drop (k + 1) = qs.drop (k + 1))))) := fun k hk => by
      obtain ⟨g, hA, h1⟩ := hp k _ (row_at ps k hk)
      obtain ⟨h, hB, h2⟩ := hq k _ (row_at qs k (by omega))
      refine ⟨_, _, g, h, hA, hB, h1, h2, ?_⟩
      rw [drop_row ps k hk, drop_row qs k (by omega), ← Bool.decide_and]
      congr 1
      simp
    obtain ⟨R, hR⟩ : ∃ R, R = decide (ps = qs) := ⟨_, rfl⟩
    have HR := Lib.hid hR
    rw [← hR, ← hlen]
    obtain ⟨S, hS⟩ : ∃ S, S = ps.length := ⟨_, rfl⟩
    rw [← hS] at hrow hend hpl ⊢
    have hne : ((S : Int) != (S : Int)) = false := by simp
    clear hR hS hlen hp hq hc hd
    go_enter Tryd.func24, Tryd.ntmps24
    go_wp2_with fail
    go_loopw [5] (fun i wr => ∃ k : Nat, k ≤ S ∧ i = .int .i64 (k : Int) ∧ Below w.heap.size w wr ∧ (∀ g j, g < w.heap.size → wr.cell? ⟨g, j, none⟩ = w.cell? ⟨g, j, none⟩) ∧ decide (ps.drop k = qs.drop k) = R) (fun i _ => S - (intOf i).toNat)
    case atStart => exact ⟨0, by omega, rfl, Below.refl _ _, fun _ _ _ => rfl, by rw [List.drop_zero, List.drop_zero]; exact HR.out.symm⟩
    case round =>
      obtain ⟨k, hk, rfl, hbl, hcl, hA⟩ := hrel
      have HA := Lib.hid hA
      have HB := Lib.hid hbl
      clear hA hbl
      by_cases hlt : k < S
      · have hkS : (k : Int) < (S : Int) := by omega
        obtain ⟨x, y, g, h, rfl, rfl, h1, h2, hD⟩ := hrow.out k hlt
        have h1' := (hcl g k (cell_lt h1)).trans h1
        have h2' := (hcl h k (cell_lt h2)).trans h2
        have HC := Lib.hid hcl
        have HD := Lib.hid hD
        clear hcl h1 h2 hD
        have hsz1 : Hid (w.heap.size ≤ wr.heap.size) := HB.out.size
        have hq0 : ((str x).toList == (str y).toList) = decide (x = y) := by rw [toList_str, toList_str, Bool.eq_iff_iff]; simp
        by_cases hxy : x = y
        · have HE : Hid (decide (x = y) = true) := decide_eq_true hxy
          have hq1 : ((str x).toList == (str y).toList) = true := by rw [hq0]; exact HE.out
          have hq2 : ((str x).toList != (str y).toList) = false := by simp [bne, hq1]
          clear hxy hq0
          go_wp2_with fail
          go_quiet (fail)
          go_wp2_with fail
          go_roundw
          case rel => exact ⟨k + 1, by omega, by go_num, below_drewN HB.out nq, fun g' j hg => HC.out g' j hg, by rw [← HA.out, HD.out, HE.out]; simp⟩
          case measure => simp [intOf]; omega
        · have HE : Hid (decide (x = y) = false) := decide_eq_false hxy
          have hq1 : ((str x).toList == (str y).toList) = false := by rw [hq0]; exact HE.out
          have hq2 : ((str x).toList != (str y).toList) = true := by simp [bne, hq1]
          clear hxy hq0
          go_wp2_with fail
          go_quiet (fail)
          go_wp2_with fail
          go_ret
          refine ⟨?_, below_drewN HB.out nq⟩
          rw [← HA.out, HD.out, HE.out]
          simp
      · have hkS : ¬ (k : Int) < (S : Int) := by omega
        have hke : Hid (k = S) := by show _ = _; omega
        clear hcl
        go_wp2_with fail
        go_ret
        refine ⟨?_, HB.out⟩
        rw [← HA.out, hke.out, hend.out]
        simp
  · have hne : ((ps.length : Int) != (qs.length : Int)) = true := by simp; omega
    have hR : decide (ps = qs) = false := decide_eq_false fun e => hlen (by rw [e])
    rw [hR]
    clear hR hlen hp hq
    go_enter Tryd.func24, Tryd.ntmps24
    go_wp2_with fail
    go_ret
    exact ⟨rfl, Below.refl _ _⟩
end Go.Proofs.YtpkjebagpolfgaaDoor
