/-
  What token.Method, Never, Parts and transeptref09.Method, Never, Parts, Same answer; nothing that was there turns. Condition: values of at most 2^62 bytes with at most 100000000 parts.
-/
import Derived.Test.YtpkjebagpolfgaaDoorTf
namespace Go.Proofs.YtpkjebagpolfgaaDoor
open Go.RowKit
set_option linter.unusedVariables false

theorem lit_cell9 (w : World) (p : List UInt8) : ∀ (q : List UInt8) (j : Nat) (r : List UInt8), ([q] : List (List UInt8))[j]? = some r → (w.alloc (.cells #[.string (str q)] 9)).cell? ⟨w.heap.size, 0 + j, none⟩ = some (vstr r) := by
  intro q j r h
  cases j with
  | zero =>
    simp at h
    subst h
    exact (Blk.new w 9 [vstr q]).cell rfl
  | succ j => simp at h
theorem lit_one (w : World) (p : List UInt8) (g : Nat) (hg : g = w.heap.size) : ∀ (j : Nat) (r : List UInt8), ([p] : List (List UInt8))[j]? = some r → (w.alloc (.cells #[.string (str p)] 9)).cell? ⟨g, 0 + j, none⟩ = some (vstr r) := by
  rw [hg]
  exact lit_cell9 w p p
theorem Ps.new (w : World) (L : List (List UInt8)) (a : Array Value) (h : a = (L.map vstr).toArray) : Ps (w.alloc (.cells a 9)) w.heap.size L := by
  subst h
  exact ⟨by simp, fun j p hj => (Blk.new w 9 (L.map vstr)).cell (by rw [List.getElem?_map, hj]; rfl)⟩
theorem Ps.at_ {w : World} {g j : Nat} {ps : List (List UInt8)} {p : List UInt8} (h : Ps w g ps) (hj : ps[j]? = some p) : w.cell? ⟨g, j, none⟩ = some (.string (str p)) := h.2 j p hj
theorem mth_cons (m : List UInt8) (r : List (List UInt8)) (s : List UInt8) : mth (m :: r) s = if low m = low s then m else mth r s := rfl
theorem drop_row (L : List (List UInt8)) (k : Nat) (hk : k < L.length) : L.drop k = L.getD k [] :: L.drop (k + 1) := by
  rw [List.drop_eq_getElem_cons hk, List.getD_eq_getElem?_getD, List.getElem?_eq_getElem hk]
  rfl
theorem row_at (L : List (List UInt8)) (k : Nat) (hk : k < L.length) : L[k]? = some (L.getD k []) := by
  rw [List.getD_eq_getElem?_getD, List.getElem?_eq_getElem hk]
  rfl
set_option maxHeartbeats 4000000 in
set_option maxRecDepth 100000 in
theorem method_any (s : List UInt8) (w : World) (hl : s.length ≤ 9223372036854775807) : Calls Tryd.prog 20 #[.string (str s)] w fun e w' => e = .returned (.string (str (mth mths s))) ∧ Below w.heap.size w w' := by
  obtain ⟨R, hR⟩ : ∃ R, R = mth mths s := ⟨_, rfl⟩
  have HR := Lib.hid hR
  have hrow : Hid (∀ k, k < 6 → mths[k]? = some (mths.getD k []) ∧ (mths.getD k []).length ≤ 10 ∧ upp (mths.getD k []) = mths.getD k [] ∧ (low (mths.getD k []) = low s → mth (mths.drop k) s = mths.getD k []) ∧ (¬ low (mths.getD k []) = low s → mth (mths.drop k) s = mth (mths.drop (k + 1)) s)) := fun k hk => by
    have h1 := row_at mths k hk
    refine ⟨h1, (by decide : ∀ m ∈ mths, m.length ≤ 10) _ (List.mem_of_getElem? h1), mths_upp _ (List.mem_of_getElem? h1), fun h => ?_, fun h => ?_⟩
    · rw [drop_row mths k hk, mth_cons, if_pos h]
    · rw [drop_row mths k hk, mth_cons, if_neg h]
  have hend : Hid (mth (mths.drop 6) s = s) := by show _ = _; rfl
  have HF : Hid (∀ m w', m.length ≤ 10 → Calls Tryd.prog 19 #[.string (str m), .string (str s)] w' fun e w2 => e = .returned (.bool (decide (low m = low s))) ∧ Below w'.heap.size w' w2) := fun m w' h => fold_any m s w' (by omega) hl
  obtain ⟨L, hL⟩ : ∃ L, L = mths := ⟨_, rfl⟩
  have hLv : Hid ((L.map vstr).toArray = #[.string ⟨#[68, 69, 76, 69, 84, 69]⟩, .string ⟨#[71, 69, 84]⟩, .string ⟨#[72, 69, 65, 68]⟩, .string ⟨#[79, 80, 84, 73, 79, 78, 83]⟩, .string ⟨#[80, 79, 83, 84]⟩, .string ⟨#[80, 85, 84]⟩]) := by show _ = _; rw [hL]; rfl
  rw [← hR]
  rw [← hL] at hrow hend HR
  clear hR hL
  go_enter Tryd.func20, Tryd.ntmps20
  go_wp2_with fail
  have HK0 : Hid (Kept w w) := Kept.refl w
  have hps0 : Hid (Ps (w.alloc (.cells #[.string ⟨#[68, 69, 76, 69, 84, 69]⟩, .string ⟨#[71, 69, 84]⟩, .string ⟨#[72, 69, 65, 68]⟩, .string ⟨#[79, 80, 84, 73, 79, 78, 83]⟩, .string ⟨#[80, 79, 83, 84]⟩, .string ⟨#[80, 85, 84]⟩] 9)) w.heap.size L) := Ps.new w L _ hLv.out.symm
  obtain ⟨g, hg⟩ : ∃ g, g = w.heap.size := ⟨_, rfl⟩
  rw [← hg] at hps0 ⊢
  go_loopw [7] (fun i wr => ∃ k : Nat, k ≤ 6 ∧ i = .int .i64 (k : Int) ∧ Ps wr g L ∧ Kept w wr ∧ mth (L.drop k) s = R) (fun i _ => 6 - (intOf i).toNat)
  case atStart => exact ⟨0, by omega, rfl, hps0.out, HK0.out.alloc _, by rw [List.drop_zero]; exact HR.out.symm⟩
  case round =>
    obtain ⟨k, hk, rfl, hps, hkp, hA⟩ := hrel
    clear hps0 hg
    have HP := Lib.hid hps
    have HK := Lib.hid hkp
    have HA := Lib.hid hA
    clear hkp hA
    by_cases hlt : k < 6
    · have hkS : (k : Int) < 6 := by omega
      obtain ⟨h1, h2, h3, hy, hn⟩ := hrow.out k hlt
      have hcell := hps.at_ h1
      obtain ⟨m, hm⟩ : ∃ m, m = L.getD k [] := ⟨_, rfl⟩
      rw [← hm] at hcell h2 h3 hy hn
      clear hps hm h1
      have HC := HF.out m wr h2
      by_cases hlo : low m = low s
      · have HY := Lib.hid (hy hlo)
        rw [decide_eq_true hlo] at HC
        have HC' := Lib.hid HC
        clear hy hn hlo HC
        go_wp2_with (go_at_call 19; (with_reducible refine HC'.out.mono ?_); (rintro e w1 ⟨rfl, hb⟩))
        go_ret
        exact ⟨by rw [← HA.out, HY.out]; rfl, HK.out.step hb⟩
      · have HY := Lib.hid (hn hlo)
        rw [decide_eq_false hlo] at HC
        have HC' := Lib.hid HC
        clear hy hn hlo HC
        go_wp2_with (go_at_call 19; (with_reducible refine HC'.out.mono ?_); (rintro e w1 ⟨rfl, hb⟩))
        go_roundw
        case rel => exact ⟨k + 1, by omega, by go_num, HP.out.kept hb, HK.out.step hb, by rw [← HY.out]; exact HA.out⟩
        case measure => simp [intOf]; omega
    · have hkS : ¬ (k : Int) < 6 := by omega
      have hke : Hid (k = 6) := by show _ = _; omega
      clear hps
      go_wp2_with fail
      go_ret
      exact ⟨by rw [← HA.out, hke.out, hend.out]; rfl, HK.out⟩
set_option maxHeartbeats 4000000 in
set_option maxRecDepth 100000 in
theorem rmethod_any (s : List UInt8) (w : World) (hl : s.length ≤ 9223372036854775807) : Calls Tryd.prog 21 #[.string (str s)] w fun e w' => e = .returned (.string (str (mth mths s))) ∧ Below w.heap.size w w' := by
  obtain ⟨R, hR⟩ : ∃ R, R = mth mths s := ⟨_, rfl⟩
  have HR := Lib.hid hR
  have hrow : Hid (∀ k, k < 6 → mths[k]? = some (mths.getD k []) ∧ (mths.getD k []).length ≤ 10 ∧ upp (mths.getD k []) = mths.getD k [] ∧ (low (mths.getD k []) = low s → mth (mths.drop k) s = mths.getD k []) ∧ (¬ low (mths.getD k []) = low s → mth (mths.drop k) s = mth (mths.drop (k + 1)) s)) := fun k hk => by
    have h1 := row_at mths k hk
    refine ⟨h1, (by decide : ∀ m ∈ mths, m.length ≤ 10) _ (List.mem_of_getElem? h1), mths_upp _ (List.mem_of_getElem? h1), fun h => ?_, fun h => ?_⟩
    · rw [drop_row mths k hk, mth_cons, if_pos h]
    · rw [drop_row mths k hk, mth_cons, if_neg h]
  have hend : Hid (mth (mths.drop 6) s = s) := by show _ = _; rfl
  have HU : Hid (∀ w', Calls Tryd.prog 33 #[.string (str s), .int .u8 97, .int .u8 32] w' fun e w2 => e = .returned (.string (str (upp s))) ∧ Below w'.heap.size w' w2) := fun w' => turned97 s w' hl
  have hls : Hid (∀ m, upp m = m → (low m = low s ↔ upp s = m)) := fun m h => low_is m s h
  generalize upp s = up at HU hls
  obtain ⟨L, hL⟩ : ∃ L, L = mths := ⟨_, rfl⟩
  have hLv : Hid ((L.map vstr).toArray = #[.string ⟨#[68, 69, 76, 69, 84, 69]⟩, .string ⟨#[71, 69, 84]⟩, .string ⟨#[72, 69, 65, 68]⟩, .string ⟨#[79, 80, 84, 73, 79, 78, 83]⟩, .string ⟨#[80, 79, 83, 84]⟩, .string ⟨#[80, 85, 84]⟩]) := by show _ = _; rw [hL]; rfl
  rw [← hR]
  rw [← hL] at hrow hend HR
  clear hR hL
  go_enter Tryd.func21, Tryd.ntmps21
  go_wp2_with (go_at_call 33; (with_reducible refine (HU.out _).mono ?_); (rintro e w1 ⟨rfl, hb⟩))
  have HK0 : Hid (Kept w w1) := hb
  have hps0 : Hid (Ps (w1.alloc (.cells #[.string ⟨#[68, 69, 76, 69, 84, 69]⟩, .string ⟨#[71, 69, 84]⟩, .string ⟨#[72, 69, 65, 68]⟩, .string ⟨#[79, 80, 84, 73, 79, 78, 83]⟩, .string ⟨#[80, 79, 83, 84]⟩, .string ⟨#[80, 85, 84]⟩] 9)) w1.heap.size L) := Ps.new w1 L _ hLv.out.symm
  obtain ⟨g, hg⟩ : ∃ g, g = w1.heap.size := ⟨_, rfl⟩
  rw [← hg] at hps0 ⊢
  go_loopw [10] (fun i wr => ∃ k : Nat, k ≤ 6 ∧ i = .int .i64 (k : Int) ∧ Ps wr g L ∧ Kept w wr ∧ mth (L.drop k) s = R) (fun i _ => 6 - (intOf i).toNat)
  case atStart => exact ⟨0, by omega, rfl, hps0.out, HK0.out.alloc _, by rw [List.drop_zero]; exact HR.out.symm⟩
  case round =>
    obtain ⟨k, hk, rfl, hps, hkp, hA⟩ := hrel
    clear hps0 hg
    have HP := Lib.hid hps
    have HK := Lib.hid hkp
    have HA := Lib.hid hA
    clear hkp hA
    by_cases hlt : k < 6
    · have hkS : (k : Int) < 6 := by omega
      obtain ⟨h1, h2, h3, hy, hn⟩ := hrow.out k hlt
      have hcell := hps.at_ h1
      obtain ⟨m, hm⟩ : ∃ m, m = L.getD k [] := ⟨_, rfl⟩
      rw [← hm] at hcell h2 h3 hy hn
      clear hps hm h1
      have hq := hls.out m h3
      by_cases hlo : low m = low s
      · have HY := Lib.hid (hy hlo)
        have HQ := Lib.hid (hq.1 hlo)
        clear hy hn hlo hq
        go_wp2_with ((with_reducible show wpList _ _ _ (⟨some 16, .binOp _ _ _ _ _, _, _, _, _⟩ :: _) _ _); refine wp_eqS _ (by first | rfl | kernel_rfl) (.tmp 14) (.tmp 15) rfl up m rfl rfl true (by simp [HQ.out]) ?_; simp only [Act.put, List.setIfInBounds_toArray, List.set_cons_zero, List.set_cons_succ])
        go_ret
        exact ⟨by rw [← HA.out, HY.out]; rfl, HK.out⟩
      · have HY := Lib.hid (hn hlo)
        have HQ : Hid (¬ up = m) := fun h => hlo (hq.2 h)
        clear hy hn hlo hq
        go_wp2_with ((with_reducible show wpList _ _ _ (⟨some 16, .binOp _ _ _ _ _, _, _, _, _⟩ :: _) _ _); refine wp_eqS _ (by first | rfl | kernel_rfl) (.tmp 14) (.tmp 15) rfl up m rfl rfl false (by have := HQ.out; simp [this]) ?_; simp only [Act.put, List.setIfInBounds_toArray, List.set_cons_zero, List.set_cons_succ])
        go_roundw
        case rel => exact ⟨k + 1, by omega, by go_num, HP.out, HK.out, by rw [← HY.out]; exact HA.out⟩
        case measure => simp [intOf]; omega
    · have hkS : ¬ (k : Int) < 6 := by omega
      have hke : Hid (k = 6) := by show _ = _; omega
      clear hps
      go_wp2_with fail
      go_ret
      exact ⟨by rw [← HA.out, hke.out, hend.out]; rfl, HK.out⟩
set_option maxHeartbeats 4000000 in
set_option maxRecDepth 100000 in
theorem clo_any (s m : List UInt8) (b : Nat) (w : World) (hs : s.length ≤ 9223372036854775807) (hm : m.length ≤ 9223372036854775807) (hc : w.cell? ⟨b, 0, none⟩ = some (.string (str s))) : Calls Tryd.prog 34 #[.string (str m), .pointer (some ⟨b, 0, none⟩)] w fun e w' => e = .returned (.bool (decide (low m = low s))) ∧ Below w.heap.size w w' := by
  have HF : Hid (∀ w', Calls Tryd.prog 19 #[.string (str m), .string (str s)] w' fun e w2 => e = .returned (.bool (decide (low m = low s))) ∧ Below w'.heap.size w' w2) := fun w' => fold_any m s w' hm hs
  generalize decide (low m = low s) = R at *
  go_enter Tryd.func34, Tryd.ntmps34
  go_wp2_with (go_at_call 19; (with_reducible refine (HF.out _).mono ?_); (rintro e w1 ⟨rfl, hb⟩))
  go_ret
  exact ⟨rfl, hb⟩
theorem nev_at (s : List UInt8) (k : Nat) (hk : k < 3) : (nevs.drop k).any (fun m => decide (low m = low s)) = (decide (low (nevs.getD k []) = low s) || (nevs.drop (k + 1)).any (fun m => decide (low m = low s))) := by
  rw [drop_row nevs k hk, List.any_cons]
set_option maxHeartbeats 4000000 in
set_option maxRecDepth 100000 in
theorem ifun_any (s : List UInt8) (g b : Nat) (w : World) (hs : s.length ≤ 9223372036854775807) (hp : Ps w g nevs) (hb : Ps w b [s]) : Calls Tryd.prog 45 #[.slice (some ⟨g, 0, none⟩) 3 3, .func (.func 34) #[] #[.pointer (some ⟨b, 0, none⟩)]] w fun e w' => ∃ i, e = .returned (.int .i64 i) ∧ decide (0 ≤ i) = nev s ∧ Below w.heap.size w w' := by
  obtain ⟨R, hR⟩ : ∃ R, R = nev s := ⟨_, rfl⟩
  have HR : Hid (R = nevs.any (fun m => decide (low m = low s))) := hR
  have hrow : Hid (∀ k, k < 3 → nevs[k]? = some (nevs.getD k []) ∧ (nevs.getD k []).length ≤ 10 ∧ (nevs.drop k).any (fun m => decide (low m = low s)) = (decide (low (nevs.getD k []) = low s) || (nevs.drop (k + 1)).any (fun m => decide (low m = low s)))) := fun k hk =>
    ⟨row_at nevs k hk, (by decide : ∀ m ∈ nevs, m.length ≤ 10) _ (List.mem_of_getElem? (row_at nevs k hk)), nev_at s k hk⟩
  have hend : Hid ((nevs.drop 3).any (fun m => decide (low m = low s)) = false) := by show _ = _; rfl
  have HC : Hid (∀ m w', m.length ≤ 10 → Ps w' b [s] → Calls Tryd.prog 34 #[.string (str m), .pointer (some ⟨b, 0, none⟩)] w' fun e w2 => e = .returned (.bool (decide (low m = low s))) ∧ Below w'.heap.size w' w2) := fun m w' h1 h2 => clo_any s m b w' hs (by omega) (h2.at_ (j := 0) rfl)
  obtain ⟨L, hL⟩ : ∃ L, L = nevs := ⟨_, rfl⟩
  rw [← hR]
  rw [← hL] at hrow hend HR hp
  have HP0 := Lib.hid hp
  have HB0 := Lib.hid hb
  clear hR hL hp hb
  go_enter Tryd.func45, Tryd.ntmps45
  go_wp2_with fail
  go_loopw [8] (fun i wr => ∃ k : Nat, k ≤ 3 ∧ i = .int .i64 (k : Int) ∧ Ps wr g L ∧ Ps wr b [s] ∧ Kept w wr ∧ (L.drop k).any (fun m => decide (low m = low s)) = R) (fun i _ => 3 - (intOf i).toNat)
  case atStart => exact ⟨0, by omega, rfl, HP0.out, HB0.out, Kept.refl w, by rw [List.drop_zero]; exact HR.out.symm⟩
  case round =>
    obtain ⟨k, hk, rfl, hps, hbs, hkp, hA⟩ := hrel
    have HP := Lib.hid hps
    have HB := Lib.hid hbs
    have HK := Lib.hid hkp
    have HA := Lib.hid hA
    clear hkp hA HP0 HB0
    by_cases hlt : k < 3
    · have hkS : (k : Int) < 3 := by omega
      obtain ⟨h1, h2, hD⟩ := hrow.out k hlt
      have hcell := hps.at_ h1
      obtain ⟨m, hm⟩ : ∃ m, m = L.getD k [] := ⟨_, rfl⟩
      rw [← hm] at hcell h2 hD
      have HD := Lib.hid hD
      have HX := HC.out m wr h2 hbs
      clear hps hm h1 hbs hD
      cases hq : decide (low m = low s)
      · rw [hq] at HX
        have HQ := Lib.hid hq
        have HX' := Lib.hid HX
        clear hq HX
        go_wp2_with (go_at_call 34; (with_reducible refine HX'.out.mono ?_); (rintro e w1 ⟨rfl, hb⟩))
        go_roundw
        case rel => exact ⟨k + 1, by omega, by go_num, HP.out.kept hb, HB.out.kept hb, HK.out.step hb, by rw [← HA.out, HD.out, HQ.out]; rfl⟩
        case measure => simp [intOf]; omega
      · rw [hq] at HX
        have HQ := Lib.hid hq
        have HX' := Lib.hid HX
        clear hq HX
        go_wp2_with (go_at_call 34; (with_reducible refine HX'.out.mono ?_); (rintro e w1 ⟨rfl, hb⟩))
        have hk9 : Hid ((0 : Int) ≤ (k : Int)) := by show _ ≤ _; omega
        go_ret
        exact ⟨_, rfl, by rw [decide_eq_true hk9.out, ← HA.out, HD.out, HQ.out]; rfl, HK.out.step hb⟩
    · have hkS : ¬ (k : Int) < 3 := by omega
      have hke : Hid (k = 3) := by show _ = _; omega
      clear hps hbs
      go_wp2_with fail
      go_ret
      exact ⟨_, rfl, by rw [← HA.out, hke.out, hend.out]; rfl, HK.out⟩
set_option maxHeartbeats 4000000 in
set_option maxRecDepth 100000 in
theorem never_any (s : List UInt8) (w : World) (hs : s.length ≤ 9223372036854775807) : Calls Tryd.prog 22 #[.string (str s)] w fun e w' => e = .returned (.bool (nev s)) ∧ Below w.heap.size w w' := by
  have HC : Hid (∀ g b w', Ps w' g nevs → Ps w' b [s] → Calls Tryd.prog 35 #[.slice (some ⟨g, 0, none⟩) 3 3, .func (.func 34) #[] #[.pointer (some ⟨b, 0, none⟩)]] w' fun e w2 => e = .returned (.bool (nev s)) ∧ Below w'.heap.size w' w2) := by
    intro g b w h1 h2
    have H : Hid (∀ w', w' = w → Calls Tryd.prog 45 #[.slice (some ⟨g, 0, none⟩) 3 3, .func (.func 34) #[] #[.pointer (some ⟨b, 0, none⟩)]] w' fun e w2 => ∃ i, e = .returned (.int .i64 i) ∧ decide (0 ≤ i) = nev s ∧ Below w'.heap.size w' w2) := fun w' h => by rw [h]; exact ifun_any s g b w hs h1 h2
    generalize nev s = R at *
    go_enter Tryd.func35, Tryd.ntmps35
    go_wp2_with (go_at_call 45; (with_reducible refine (H.out _ rfl).mono ?_); (rintro e w1 ⟨i, rfl, hi, hb⟩))
    go_ret
    exact ⟨rfl, hb⟩
  have hmf : ∀ (fn : Fn) (first cap : Array Value) (w : World), (Instr.makeFunc fn first cap).run Tryd.prog w = .ok (.func fn first cap) w := fun _ _ _ _ => rfl
  generalize nev s = R at *
  have hp1 : Hid (Ps (w.alloc (.cells #[.string (str s)] 9)) w.heap.size [s]) := Ps.new w [s] _ rfl
  have hp2 : Hid (Ps ((w.alloc (.cells #[.string (str s)] 9)).alloc (.cells #[.string ⟨#[67, 79, 78, 78, 69, 67, 84]⟩, .string ⟨#[84, 82, 65, 67, 69]⟩, .string ⟨#[84, 82, 65, 67, 75]⟩] 9)) (w.alloc (.cells #[.string (str s)] 9)).heap.size nevs) := Ps.new _ nevs _ rfl
  have hp3 : Hid (Ps ((w.alloc (.cells #[.string (str s)] 9)).alloc (.cells #[.string ⟨#[67, 79, 78, 78, 69, 67, 84]⟩, .string ⟨#[84, 82, 65, 67, 69]⟩, .string ⟨#[84, 82, 65, 67, 75]⟩] 9)) w.heap.size [s]) := hp1.out.kept ((Below.refl _ _).alloc (Nat.le_refl _) _)
  have hk : Hid (Kept w ((w.alloc (.cells #[.string (str s)] 9)).alloc (.cells #[.string ⟨#[67, 79, 78, 78, 69, 67, 84]⟩, .string ⟨#[84, 82, 65, 67, 69]⟩, .string ⟨#[84, 82, 65, 67, 75]⟩] 9))) := ((Kept.refl w).alloc _).alloc _
  have e1 : (w.alloc (.cells #[.string (str s)] 9)).heap.size = w.heap.size + 1 := by simp
  rw [e1] at hp2
  clear e1
  go_enter Tryd.func22, Tryd.ntmps22
  go_wp2_with (go_at_call 35; (with_reducible refine (HC.out _ _ _ hp2.out hp3.out).mono ?_); (rintro e w1 ⟨rfl, hb⟩))
  go_ret
  exact ⟨rfl, hk.out.step hb⟩
theorem nev_upp (s : List UInt8) : nev s = (decide (upp s = [67, 79, 78, 78, 69, 67, 84]) || decide (upp s = [84, 82, 65, 67, 69]) || decide (upp s = [84, 82, 65, 67, 75])) := by
  have h : ∀ m ∈ nevs, decide (low m = low s) = decide (upp s = m) := fun m hm => decide_eq_decide.2 (low_is m s (nevs_upp m hm))
  unfold nev nevs
  simp only [List.any_cons, List.any_nil, Bool.or_false]
  rw [h _ (by decide), h _ (by decide), h _ (by decide), Bool.or_assoc]
set_option maxHeartbeats 4000000 in
set_option maxRecDepth 100000 in
theorem rnever_any (s : List UInt8) (w : World) (hs : s.length ≤ 9223372036854775807) : Calls Tryd.prog 23 #[.string (str s)] w fun e w' => e = .returned (.bool (nev s)) ∧ Below w.heap.size w w' := by
  have HU : Hid (∀ w', Calls Tryd.prog 33 #[.string (str s), .int .u8 97, .int .u8 32] w' fun e w2 => e = .returned (.string (str (upp s))) ∧ Below w'.heap.size w' w2) := fun w' => turned97 s w' hs
  rw [nev_upp]
  generalize upp s = u at *
  obtain ⟨a, ha⟩ : ∃ a, a = decide (u = [67, 79, 78, 78, 69, 67, 84]) := ⟨_, rfl⟩
  obtain ⟨b, hb⟩ : ∃ b, b = decide (u = [84, 82, 65, 67, 69]) := ⟨_, rfl⟩
  obtain ⟨c, hc⟩ : ∃ c, c = decide (u = [84, 82, 65, 67, 75]) := ⟨_, rfl⟩
  have ea : ((str u).toList == [67, 79, 78, 78, 69, 67, 84]) = a := by rw [ha, toList_str, Bool.eq_iff_iff]; simp
  have eb : ((str u).toList == [84, 82, 65, 67, 69]) = b := by rw [hb, toList_str, Bool.eq_iff_iff]; simp
  have ec : ((str u).toList == [84, 82, 65, 67, 75]) = c := by rw [hc, toList_str, Bool.eq_iff_iff]; simp
  rw [← ha, ← hb, ← hc]
  clear ha hb hc
  cases a <;> cases b <;> cases c
  all_goals
    go_enter Tryd.func23, Tryd.ntmps23
    go_wp2_with (go_at_call 33; (with_reducible refine (HU.out _).mono ?_); (rintro e w1 ⟨rfl, hb⟩))
    go_ret
    exact ⟨rfl, hb⟩
end Go.Proofs.YtpkjebagpolfgaaDoor
