/-
  What transeptref12.among, begins, Method, Never, Reads and Hidden answer. No condition but sizes.
-/
import Derived.Test.YtonchnmcklgpoaaGreatDoorSh
import Derived.Test.YtonchnmcklgpoaaGreatDoorFn
import Derived.BigQuiet
namespace Go.Proofs.YtonchnmcklgpoaaGreatDoor
open Go.RowKit
set_option linter.unusedVariables false

/-- The slice '.slice A n c' holds the texts L, at its block's beginning. -/
def Tw (w : World) (A : Option Addr) (n : Nat) (L : List (List UInt8)) : Prop := L.length = n ∧ ∀ j x, L[j]? = some x → ∃ g, A = some ⟨g, 0, none⟩ ∧ w.cell? ⟨g, j, none⟩ = some (vstr x)
theorem Tw.of {w : World} {base n c : Nat} {A : Option Addr} {L : List (List UInt8)} (h : OwnT w base (.slice A n c) n L) : Tw w A n L ∧ n ≤ c := by
  obtain ⟨h1, h2⟩ := tv_own h
  rw [h.len] at h2
  exact ⟨⟨h.len, h1⟩, h2⟩
theorem Tw.kept {w w' : World} {n : Nat} {A : Option Addr} {L : List (List UInt8)} (h : Tw w A n L) (hb : Below w.heap.size w w') : Tw w' A n L :=
  ⟨h.1, fun j x hj => by
    obtain ⟨g, e, hc⟩ := h.2 j x hj
    exact ⟨g, e, (hb.cell (p := ⟨g, j, none⟩) (World.block_lt_of_cell? w _ hc)).trans hc⟩⟩
theorem has_drop (L : List (List UInt8)) (s x : List UInt8) (k : Nat) (h : L[k]? = some x) : (L.drop k).contains s = (decide (x = s) || (L.drop (k + 1)).contains s) := by
  have hk := (List.getElem?_eq_some_iff.1 h).1
  have e := (List.getElem?_eq_some_iff.1 h).2
  rw [List.drop_eq_getElem_cons hk, e, List.contains_cons]
  congr 1
  by_cases h2 : x = s
  · simp [h2]
  · have h3 : ¬ s = x := fun e => h2 e.symm
    simp [h2, h3]
set_option maxHeartbeats 4000000 in
set_option maxRecDepth 100000 in
theorem among_any (L : List (List UInt8)) (s : List UInt8) (A : Option Addr) (n c : Nat) (w : World) (hn : n ≤ 1000000) (ht : Tw w A n L) : Calls Tryz.prog 20 #[.slice A n c, .string (str s)] w fun e w' => e = .returned (.bool (L.contains s)) ∧ w' = w := by
  have hL := ht.1
  have HT : Hid (∀ k, k < n → ∃ x, L[k]? = some x) := fun k hk => ⟨L[k]'(by omega), List.getElem?_eq_getElem (by omega)⟩
  have HC := Lib.hid ht.2
  have HD : Hid (∀ k x, L[k]? = some x → (L.drop k).contains s = (decide (x = s) || (L.drop (k + 1)).contains s)) := fun k x h => has_drop L s x k h
  have HE : Hid ((L.drop n).contains s = false) := by show _ = _; rw [← hL, List.drop_length]; rfl
  have H0 : Hid (L.drop 0 = L) := rfl
  obtain ⟨R, hR⟩ : ∃ R, R = L.contains s := ⟨_, rfl⟩
  have HR := Lib.hid hR
  rw [← hR]
  clear hL ht hR
  go_enter Tryz.func20, Tryz.ntmps20
  go_wp2_with fail
  go_loop [5] (fun i => ∃ k : Nat, k ≤ n ∧ i = .int .i64 (k : Int) ∧ (L.drop k).contains s = R) (fun i => n - (intOf i).toNat)
  case atStart => exact ⟨0, by omega, rfl, by rw [H0.out, HR.out]⟩
  case round =>
    obtain ⟨k, hk, rfl, hA⟩ := hrel
    have HA := Lib.hid hA
    clear hA
    by_cases hlt : k < n
    · have hkS : (k : Int) < (n : Int) := by omega
      obtain ⟨x, hx⟩ := HT.out k hlt
      obtain ⟨g, rfl, hcell⟩ := HC.out k x hx
      have HDk := Lib.hid (HD.out k x hx)
      unfold vstr at hcell
      clear hx
      by_cases hxs : x = s
      · have heq : ((str x).toList == (str s).toList) = true := by rw [eq_str]; exact decide_eq_true hxs
        have HF : Hid (R = true) := by show _ = _; rw [← HA.out, HDk.out, decide_eq_true hxs, Bool.true_or]
        clear hxs
        go_wp2_with fail
        go_ret
        rw [HF.out]
        exact ⟨rfl, rfl⟩
      · have heq : ((str x).toList == (str s).toList) = false := by rw [eq_str]; exact decide_eq_false hxs
        have HF : Hid ((L.drop (k + 1)).contains s = R) := by show _ = _; rw [← HA.out, HDk.out, decide_eq_false hxs, Bool.false_or]
        clear hxs
        go_wp2_with fail
        go_round
        case rel => exact ⟨k + 1, by omega, by go_num, HF.out⟩
        case measure => simp [intOf]; omega
    · have hkS : ¬ (k : Int) < (n : Int) := by omega
      have hke : Hid (k = n) := by show _ = _; omega
      have HF : Hid (R = false) := by show _ = _; rw [← HA.out, hke.out, HE.out]
      go_wp2_with fail
      go_ret
      rw [HF.out]
      exact ⟨rfl, rfl⟩
theorem Tw.new (w : World) (L : List (List UInt8)) (a : Array Value) (h : a = (L.map vstr).toArray) (n : Nat) (hn : L.length = n) : Tw (w.alloc (.cells a 9)) (some ⟨w.heap.size, 0, none⟩) n L := by
  subst h
  exact ⟨hn, fun j p hj => ⟨w.heap.size, rfl, (Blk.new w 9 (L.map vstr)).cell (by rw [List.getElem?_map, hj]; rfl)⟩⟩
set_option maxHeartbeats 4000000 in
set_option maxRecDepth 100000 in
theorem begins_any (l p : List UInt8) (w : World) (hl : l.length ≤ 9223372036854775807) (hp : p.length ≤ 9223372036854775807) : Calls Tryz.prog 31 #[.string (str l), .string (str p)] w fun e w' => e = .returned (.bool (pre l p)) ∧ w' = w := by
  have hsz := str_size l
  have hsp := str_size p
  have HR : Hid (pre l p = (decide (p.length ≤ l.length) && decide (l.take p.length = p))) := rfl
  have HT := Lib.hid (str_take l p.length)
  have HE := Lib.hid (eq_str (l.take p.length) p)
  generalize l.take p.length = T at *
  generalize decide (T = p) = B at *
  obtain ⟨S, hS⟩ : ∃ S, S = l.length := ⟨_, rfl⟩
  obtain ⟨P, hP⟩ : ∃ P, P = p.length := ⟨_, rfl⟩
  rw [← hS] at hsz hl HR
  rw [← hP] at hsp hp HR HT
  have hx := HT.out
  have he := HE.out
  clear hS hP
  rw [HR.out]
  clear HR HT HE
  by_cases h : P ≤ S
  · have h1 : decide ((P : Int) ≤ (S : Int)) = true := by simp; omega
    have h2 : (P : Int) ≤ (S : Int) := by omega
    have h3 : (0 : Int) ≤ (P : Int) := by omega
    rw [decide_eq_true h, Bool.true_and]
    clear h
    cases B
    · go_enter Tryz.func31, Tryz.ntmps31
      go_wp2_with fail
      go_ret
      exact ⟨rfl, rfl⟩
    · go_enter Tryz.func31, Tryz.ntmps31
      go_wp2_with fail
      go_ret
      exact ⟨rfl, rfl⟩
  · have h1 : decide ((P : Int) ≤ (S : Int)) = false := by simp; omega
    rw [decide_eq_false h, Bool.false_and]
    go_enter Tryz.func31, Tryz.ntmps31
    go_wp2_with fail
    go_ret
    exact ⟨rfl, rfl⟩
set_option maxHeartbeats 4000000 in
set_option maxRecDepth 100000 in
theorem rmeth_any (n : List UInt8) (w : World) (hl : n.length ≤ 9223372036854775807) : Calls Tryz.prog 7 #[.string (str n)] w fun e w' => e = .returned (.bool (mtd n)) ∧ Below w.heap.size w w' := by
  have H : Hid (∀ w', Calls Tryz.prog 21 #[.string (str n)] w' fun e w2 => e = .returned (.string (str (mth mths n))) ∧ Below w'.heap.size w' w2) := fun w' => rmethod_any n w' hl
  have HR : Hid (mtd n = mth3.contains (mth mths n)) := rfl
  generalize mth mths n = M at *
  have HN : Hid (Tw (w.alloc (.cells #[.string ⟨#[71, 69, 84]⟩, .string ⟨#[72, 69, 65, 68]⟩, .string ⟨#[80, 79, 83, 84]⟩] 9)) (some ⟨w.heap.size, 0, none⟩) 3 mth3) := Tw.new w mth3 _ rfl 3 rfl
  have HA : Hid (∀ A w', Tw w' A 3 mth3 → Calls Tryz.prog 20 #[.slice A 3 3, .string (str M)] w' fun e w2 => e = .returned (.bool (mth3.contains M)) ∧ w2 = w') := fun A w' h => among_any mth3 M A 3 3 w' (by decide) h
  rw [HR.out]
  generalize mth3.contains M = B at *
  clear hl HR
  go_enter Tryz.func7, Tryz.ntmps7
  go_wp2_with (first
    | (go_at_call 21; (with_reducible refine (H.out _).mono ?_); (rintro e w1 ⟨rfl, hb⟩); have HT := Lib.hid (HN.out.kept hb); have HB := Lib.hid (((Below.refl w.heap.size w).alloc (Nat.le_refl _) (.cells #[.string ⟨#[71, 69, 84]⟩, .string ⟨#[72, 69, 65, 68]⟩, .string ⟨#[80, 79, 83, 84]⟩] 9)).trans (hb.mono (by simp))); clear hb H)
    | (go_at_call 20; (with_reducible refine (HA.out _ _ HT.out).mono ?_); (rintro e w2 ⟨rfl, hq⟩); subst w2))
  go_ret
  exact ⟨rfl, HB.out⟩
set_option maxHeartbeats 4000000 in
set_option maxRecDepth 100000 in
theorem rreads_any (n : List UInt8) (w : World) (hl : n.length ≤ 9223372036854775807) : Calls Tryz.prog 13 #[.string (str n)] w fun e w' => e = .returned (.bool (rds n)) ∧ Below w.heap.size w w' := by
  have H : Hid (∀ w', Calls Tryz.prog 24 #[.string (str n)] w' fun e w2 => e = .returned (.string (str (low n))) ∧ Below w'.heap.size w' w2) := fun w' => rlower_any n w' hl
  have HR : Hid (rds n = rdsL.contains (low n)) := rfl
  generalize low n = M at *
  have HN : Hid (Tw (w.alloc (.cells #[.string ⟨#[99, 97, 99, 104, 101, 45, 99, 111, 110, 116, 114, 111, 108]⟩, .string ⟨#[99, 111, 110, 116, 101, 110, 116, 45, 108, 97, 110, 103, 117, 97, 103, 101]⟩, .string ⟨#[99, 111, 110, 116, 101, 110, 116, 45, 108, 101, 110, 103, 116, 104]⟩, .string ⟨#[99, 111, 110, 116, 101, 110, 116, 45, 116, 121, 112, 101]⟩, .string ⟨#[101, 120, 112, 105, 114, 101, 115]⟩, .string ⟨#[108, 97, 115, 116, 45, 109, 111, 100, 105, 102, 105, 101, 100]⟩, .string ⟨#[112, 114, 97, 103, 109, 97]⟩] 9)) (some ⟨w.heap.size, 0, none⟩) 7 rdsL) := Tw.new w rdsL _ rfl 7 rfl
  have HA : Hid (∀ A w', Tw w' A 7 rdsL → Calls Tryz.prog 20 #[.slice A 7 7, .string (str M)] w' fun e w2 => e = .returned (.bool (rdsL.contains M)) ∧ w2 = w') := fun A w' h => among_any rdsL M A 7 7 w' (by decide) h
  rw [HR.out]
  generalize rdsL.contains M = B at *
  clear hl HR
  go_enter Tryz.func13, Tryz.ntmps13
  go_wp2_with (first
    | (go_at_call 24; (with_reducible refine (H.out _).mono ?_); (rintro e w1 ⟨rfl, hb⟩); have HT := Lib.hid (HN.out.kept hb); have HB := Lib.hid (((Below.refl w.heap.size w).alloc (Nat.le_refl _) (.cells #[.string ⟨#[99, 97, 99, 104, 101, 45, 99, 111, 110, 116, 114, 111, 108]⟩, .string ⟨#[99, 111, 110, 116, 101, 110, 116, 45, 108, 97, 110, 103, 117, 97, 103, 101]⟩, .string ⟨#[99, 111, 110, 116, 101, 110, 116, 45, 108, 101, 110, 103, 116, 104]⟩, .string ⟨#[99, 111, 110, 116, 101, 110, 116, 45, 116, 121, 112, 101]⟩, .string ⟨#[101, 120, 112, 105, 114, 101, 115]⟩, .string ⟨#[108, 97, 115, 116, 45, 109, 111, 100, 105, 102, 105, 101, 100]⟩, .string ⟨#[112, 114, 97, 103, 109, 97]⟩] 9)).trans (hb.mono (by simp))); clear hb H)
    | (go_at_call 20; (with_reducible refine (HA.out _ _ HT.out).mono ?_); (rintro e w2 ⟨rfl, hq⟩); subst w2))
  go_ret
  exact ⟨rfl, HB.out⟩
set_option maxHeartbeats 4000000 in
set_option maxRecDepth 100000 in
theorem rhidden_any (n : List UInt8) (w : World) (hl : n.length ≤ 9223372036854775807) : Calls Tryz.prog 15 #[.string (str n)] w fun e w' => e = .returned (.bool (hdn n)) ∧ Below w.heap.size w w' := by
  have H : Hid (∀ w', Calls Tryz.prog 24 #[.string (str n)] w' fun e w2 => e = .returned (.string (str (low n))) ∧ Below w'.heap.size w' w2) := fun w' => rlower_any n w' hl
  have HR : Hid (hdn n = hdnL.contains (low n)) := rfl
  generalize low n = M at *
  have HN : Hid (Tw (w.alloc (.cells #[.string ⟨#[115, 101, 116, 45, 99, 111, 111, 107, 105, 101]⟩, .string ⟨#[115, 101, 116, 45, 99, 111, 111, 107, 105, 101, 50]⟩] 9)) (some ⟨w.heap.size, 0, none⟩) 2 hdnL) := Tw.new w hdnL _ rfl 2 rfl
  have HA : Hid (∀ A w', Tw w' A 2 hdnL → Calls Tryz.prog 20 #[.slice A 2 2, .string (str M)] w' fun e w2 => e = .returned (.bool (hdnL.contains M)) ∧ w2 = w') := fun A w' h => among_any hdnL M A 2 2 w' (by decide) h
  rw [HR.out]
  generalize hdnL.contains M = B at *
  clear hl HR
  go_enter Tryz.func15, Tryz.ntmps15
  go_wp2_with (first
    | (go_at_call 24; (with_reducible refine (H.out _).mono ?_); (rintro e w1 ⟨rfl, hb⟩); have HT := Lib.hid (HN.out.kept hb); have HB := Lib.hid (((Below.refl w.heap.size w).alloc (Nat.le_refl _) (.cells #[.string ⟨#[115, 101, 116, 45, 99, 111, 111, 107, 105, 101]⟩, .string ⟨#[115, 101, 116, 45, 99, 111, 111, 107, 105, 101, 50]⟩] 9)).trans (hb.mono (by simp))); clear hb H)
    | (go_at_call 20; (with_reducible refine (HA.out _ _ HT.out).mono ?_); (rintro e w2 ⟨rfl, hq⟩); subst w2))
  go_ret
  exact ⟨rfl, HB.out⟩
set_option maxHeartbeats 4000000 in
set_option maxRecDepth 100000 in
theorem rnever_any (n : List UInt8) (w : World) (hl : n.length ≤ 9223372036854775807) : Calls Tryz.prog 11 #[.string (str n)] w fun e w' => e = .returned (.bool (nvr n)) ∧ Below w.heap.size w w' := by
  have H : Hid (∀ w', Calls Tryz.prog 24 #[.string (str n)] w' fun e w2 => e = .returned (.string (str (low n))) ∧ Below w'.heap.size w' w2) := fun w' => rlower_any n w' hl
  have HL : Hid ((low n).length ≤ 9223372036854775807) := by show _ ≤ _; rw [low_length]; exact hl
  have HR : Hid (nvr n = (nvrs.contains (low n) || pre (low n) pxL || pre (low n) scL)) := rfl
  generalize low n = M at *
  have P1 : Hid (∀ w', Calls Tryz.prog 31 #[.string (str M), .string ⟨#[112, 114, 111, 120, 121, 45]⟩] w' fun e w2 => e = .returned (.bool (pre M pxL)) ∧ w2 = w') := fun w' => begins_any M pxL w' HL.out (by decide)
  have P2 : Hid (∀ w', Calls Tryz.prog 31 #[.string (str M), .string ⟨#[115, 101, 99, 45]⟩] w' fun e w2 => e = .returned (.bool (pre M scL)) ∧ w2 = w') := fun w' => begins_any M scL w' HL.out (by decide)
  have HN : Hid (∀ W : World, Tw (W.alloc (.cells #[.string ⟨#[97, 99, 99, 101, 112, 116, 45, 99, 104, 97, 114, 115, 101, 116]⟩, .string ⟨#[97, 99, 99, 101, 112, 116, 45, 101, 110, 99, 111, 100, 105, 110, 103]⟩, .string ⟨#[97, 99, 99, 101, 115, 115, 45, 99, 111, 110, 116, 114, 111, 108, 45, 114, 101, 113, 117, 101, 115, 116, 45, 104, 101, 97, 100, 101, 114, 115]⟩, .string ⟨#[97, 99, 99, 101, 115, 115, 45, 99, 111, 110, 116, 114, 111, 108, 45, 114, 101, 113, 117, 101, 115, 116, 45, 109, 101, 116, 104, 111, 100]⟩, .string ⟨#[99, 111, 110, 110, 101, 99, 116, 105, 111, 110]⟩, .string ⟨#[99, 111, 110, 116, 101, 110, 116, 45, 108, 101, 110, 103, 116, 104]⟩, .string ⟨#[99, 111, 111, 107, 105, 101]⟩, .string ⟨#[99, 111, 111, 107, 105, 101, 50]⟩, .string ⟨#[100, 97, 116, 101]⟩, .string ⟨#[100, 110, 116]⟩, .string ⟨#[101, 120, 112, 101, 99, 116]⟩, .string ⟨#[104, 111, 115, 116]⟩, .string ⟨#[107, 101, 101, 112, 45, 97, 108, 105, 118, 101]⟩, .string ⟨#[111, 114, 105, 103, 105, 110]⟩, .string ⟨#[114, 101, 102, 101, 114, 101, 114]⟩, .string ⟨#[115, 101, 116, 45, 99, 111, 111, 107, 105, 101]⟩, .string ⟨#[116, 101]⟩, .string ⟨#[116, 114, 97, 105, 108, 101, 114]⟩, .string ⟨#[116, 114, 97, 110, 115, 102, 101, 114, 45, 101, 110, 99, 111, 100, 105, 110, 103]⟩, .string ⟨#[117, 112, 103, 114, 97, 100, 101]⟩, .string ⟨#[118, 105, 97]⟩] 9)) (some ⟨W.heap.size, 0, none⟩) 21 nvrs) := fun W => Tw.new W nvrs _ rfl 21 rfl
  have HA : Hid (∀ A w', Tw w' A 21 nvrs → Calls Tryz.prog 20 #[.slice A 21 21, .string (str M)] w' fun e w2 => e = .returned (.bool (nvrs.contains M)) ∧ w2 = w') := fun A w' h => among_any nvrs M A 21 21 w' (by decide) h
  rw [HR.out]
  generalize nvrs.contains M = B at *
  generalize pre M pxL = B1 at *
  generalize pre M scL = B2 at *
  clear hl HR HL
  cases B1
  · cases B2
    · rw [Bool.or_false, Bool.or_false]
      go_enter Tryz.func11, Tryz.ntmps11
      go_wp2_with (first
        | (go_at_call 24; (with_reducible refine (H.out _).mono ?_); (rintro e w1 ⟨rfl, hb⟩); have HB := Lib.hid hb; clear hb H)
        | (go_at_call 31; (with_reducible refine (P1.out _).mono ?_); (rintro e w2 ⟨rfl, hq⟩); subst w2; clear P1)
        | (go_at_call 31; (with_reducible refine (P2.out _).mono ?_); (rintro e w3 ⟨rfl, hq⟩); subst w3; clear P2)
        | (go_at_call 20; (with_reducible refine (HA.out _ _ (HN.out w1)).mono ?_); (rintro e w4 ⟨rfl, hq⟩); subst w4))
      go_ret
      exact ⟨rfl, HB.out.alloc HB.out.size _⟩
    · rw [Bool.or_true]
      go_enter Tryz.func11, Tryz.ntmps11
      go_wp2_with (first
        | (go_at_call 24; (with_reducible refine (H.out _).mono ?_); (rintro e w1 ⟨rfl, hb⟩); have HB := Lib.hid hb; clear hb H)
        | (go_at_call 31; (with_reducible refine (P1.out _).mono ?_); (rintro e w2 ⟨rfl, hq⟩); subst w2; clear P1)
        | (go_at_call 31; (with_reducible refine (P2.out _).mono ?_); (rintro e w3 ⟨rfl, hq⟩); subst w3; clear P2))
      go_ret
      exact ⟨rfl, HB.out⟩
  · rw [Bool.or_true, Bool.true_or]
    go_enter Tryz.func11, Tryz.ntmps11
    go_wp2_with (first
      | (go_at_call 24; (with_reducible refine (H.out _).mono ?_); (rintro e w1 ⟨rfl, hb⟩); have HB := Lib.hid hb; clear hb H)
      | (go_at_call 31; (with_reducible refine (P1.out _).mono ?_); (rintro e w2 ⟨rfl, hq⟩); subst w2; clear P1))
    go_ret
    exact ⟨rfl, HB.out⟩
end Go.Proofs.YtonchnmcklgpoaaGreatDoor
