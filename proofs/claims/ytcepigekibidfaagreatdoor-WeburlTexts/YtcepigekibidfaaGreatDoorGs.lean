/-
  What transeptref07.hexa answers; nothing that was there turns. Condition: a number below 65536.
  The mathematics of an IPv6 written with a gap, and of the reference's longest row of noughts. No program, no condition.
  What transeptref07.Text6 answers; nothing that was there turns. Condition: eight pieces below 65536.
-/
import Derived.Test.YtcepigekibidfaaGreatDoorGj
namespace Go.Proofs.YtcepigekibidfaaGreatDoor
open Go.RowKit

theorem hx_let : ∀ d, d < 16 → ¬ d < 10 → UInt8.ofNat (87 + d) = hx d := by decide
set_option maxHeartbeats 4000000 in
theorem hexa_any : ∀ (n : Nat) (w : World), n < 65536 → Calls Tryz.prog 75 #[.int .i64 (n : Int)] w fun e w' => e = .returned (.string (str (hexL n))) ∧ Below w.heap.size w w' := by
  intro n
  induction n using Nat.strongRecOn with
  | _ n ih =>
    intro w hn
    by_cases h : n < 16
    · have hge : ¬ (16 : Int) ≤ (n : Int) := by omega
      by_cases h10 : n < 10
      · have hlt : (n : Int) < 10 := by omega
        have hR : Hid (hexL n = [UInt8.ofNat (48 + n)]) := by show _ = _; rw [hexL_lt h, hx_dec n h10]
        obtain ⟨m, hm⟩ : ∃ m, m = 48 + n := ⟨_, rfl⟩
        have hmi : (48 : Int) + (n : Int) = (m : Int) := by omega
        have hwr : IntKind.u8.wrap (m : Int) = (m : Int) := by rw [IntKind.wrap_u8]; omega
        have hmc : Hid (m = (UInt8.ofNat m).toNat) := by show _ = _; rw [toNat_ofNat_lt m (by omega)]
        rw [← hm] at hR
        clear hm ih
        go_enter Tryz.func75, Tryz.ntmps75
        go_wp2_with (first
          | ((with_reducible show wpList _ _ _ (⟨some 18, .convert _ _ _, _, _, _, _⟩ :: _) _ _); refine wp_str _ rfl (.tmp 17) rfl _ _ 1 1 [UInt8.ofNat m] rfl (bs_of _ _ _ hmc.out) ?_; simp only [Act.put, List.setIfInBounds_toArray, List.set_cons_zero, List.set_cons_succ]))
        go_ret
        rw [hR.out]
        exact ⟨rfl, (Below.refl _ _).alloc (Nat.le_refl _) _⟩
      · have hlt : ¬ (n : Int) < 10 := by omega
        have hR : Hid (hexL n = [UInt8.ofNat (87 + n)]) := by show _ = _; rw [hexL_lt h, hx_let n h h10]
        obtain ⟨m, hm⟩ : ∃ m, m = 87 + n := ⟨_, rfl⟩
        obtain ⟨m2, hm2⟩ : ∃ m, m = 97 + n := ⟨_, rfl⟩
        have hmi2 : (97 : Int) + (n : Int) = (m2 : Int) := by omega
        have hmi : (m2 : Int) - 10 = (m : Int) := by omega
        have hm29 : m2 < 256 := by omega
        have hwr : IntKind.u8.wrap (m : Int) = (m : Int) := by rw [IntKind.wrap_u8]; omega
        have hmc : Hid (m = (UInt8.ofNat m).toNat) := by show _ = _; rw [toNat_ofNat_lt m (by omega)]
        rw [← hm] at hR
        clear hm hm2 ih
        go_enter Tryz.func75, Tryz.ntmps75
        go_wp2_with (first
          | ((with_reducible show wpList _ _ _ (⟨some 24, .convert _ _ _, _, _, _, _⟩ :: _) _ _); refine wp_str _ rfl (.tmp 23) rfl _ _ 1 1 [UInt8.ofNat m] rfl (bs_of _ _ _ hmc.out) ?_; simp only [Act.put, List.setIfInBounds_toArray, List.set_cons_zero, List.set_cons_succ]))
        go_ret
        rw [hR.out]
        exact ⟨rfl, (Below.refl _ _).alloc (Nat.le_refl _) _⟩
    · have hge : (16 : Int) ≤ (n : Int) := by omega
      have hR : hexL n = hexL (n / 16) ++ hexL (n % 16) := by
        rw [hexL_ge h]
        congr 1
        rw [hexL_lt (by omega)]
      have HA : Hid (Calls Tryz.prog 75 #[.int .i64 ((n / 16 : Nat) : Int)] w fun e w' => e = .returned (.string (str (hexL (n / 16)))) ∧ Below w.heap.size w w') := ih (n / 16) (by omega) w (by omega)
      have HB : Hid (∀ w, Calls Tryz.prog 75 #[.int .i64 ((n % 16 : Nat) : Int)] w fun e w' => e = .returned (.string (str (hexL (n % 16)))) ∧ Below w.heap.size w w') := fun w => ih (n % 16) (by omega) w (by omega)
      have hq : (n : Int) / 16 = ((n / 16 : Nat) : Int) := rfl
      have hr : (n : Int) % 16 = ((n % 16 : Nat) : Int) := rfl
      have hl1 : (hexL (n / 16)).length ≤ 4 := hexL_len4 _ (by omega)
      have hl2 : (hexL (n % 16)).length ≤ 4 := hexL_len4 _ (by omega)
      rw [hR]
      obtain ⟨q, hq'⟩ : ∃ q, q = n / 16 := ⟨_, rfl⟩
      obtain ⟨r, hr'⟩ : ∃ r, r = n % 16 := ⟨_, rfl⟩
      rw [← hq'] at HA hq hl1 ⊢
      rw [← hr'] at HB hr hl2 ⊢
      obtain ⟨X, hX⟩ : ∃ X, X = hexL q := ⟨_, rfl⟩
      obtain ⟨Y, hY⟩ : ∃ Y, Y = hexL r := ⟨_, rfl⟩
      rw [← hX] at HA hl1 ⊢
      rw [← hY] at HB hl2 ⊢
      have hadd := str_add X Y
      have hsX := str_size X
      have hsY := str_size Y
      obtain ⟨nx, hnx⟩ : ∃ k, k = X.length := ⟨_, rfl⟩
      obtain ⟨ny, hny⟩ : ∃ k, k = Y.length := ⟨_, rfl⟩
      rw [← hnx] at hsX hl1
      rw [← hny] at hsY hl2
      clear hq' hr' hX hY hR ih hnx hny
      go_enter Tryz.func75, Tryz.ntmps75
      go_wp2_with (go_at_call 75; first
        | (with_reducible refine HA.out.mono ?_; rintro e w1 ⟨rfl, hb1⟩; have hk1 := kept_of hb1; clear hb1)
        | (with_reducible refine (HB.out w1).mono ?_; rintro e w2 ⟨rfl, hb2⟩; have hk2 := hk1.step hb2; clear hb2))
      go_ret
      exact ⟨rfl, hk2⟩
end Go.Proofs.YtcepigekibidfaaGreatDoor
namespace Go.Proofs.YtcepigekibidfaaGreatDoor
open Go.RowKit

/-- A colon is wanted behind: there is a text, and no colon at its end. -/
def sep (X : List UInt8) : Bool := X.getLast?.getD 58 != 58
/-- The text of the first pieces, with a gap from p to t. -/
def tg (f : Nat → List UInt8) (p t : Nat) : Nat → List UInt8
  | 0 => []
  | i + 1 => if p ≤ i ∧ i < t then (if i = p then tg f p t i ++ [58, 58] else tg f p t i) else (if sep (tg f p t i) then tg f p t i ++ [58] else tg f p t i) ++ f i
theorem sep_app (X m : List UInt8) (hm : m ≠ []) (h : (58 : UInt8) ∉ m) : sep (X ++ m) = true := by
  unfold sep
  rw [List.getLast?_append]
  cases hl : m.getLast? with
  | none => exact absurd (List.getLast?_eq_none_iff.1 hl) hm
  | some c =>
    have hc := List.mem_of_getLast? hl
    simp only [Option.some_or, Option.getD_some, bne_iff_ne, ne_eq]
    intro e
    exact h (e ▸ hc)
theorem sep_colon (X : List UInt8) : sep (X ++ [58, 58]) = false := by
  unfold sep
  rw [List.getLast?_append]
  rfl
theorem sep_jc (X : List UInt8) (g : Nat → List UInt8) (g1 : ∀ j, g j ≠ []) (g2 : ∀ j, (58 : UInt8) ∉ g j) (k : Nat) : sep (X ++ jc g (k + 1)) = true := by
  rw [jc, ← List.append_assoc]
  exact sep_app _ _ (g1 k) (g2 k)
section
variable (f : Nat → List UInt8) (h1 : ∀ j, f j ≠ []) (h2 : ∀ j, (58 : UInt8) ∉ f j)
include h1 h2
theorem tg_low (p t : Nat) : ∀ i, i ≤ p → tg f p t i = jc f i
  | 0, _ => rfl
  | i + 1, h => by
    rw [tg, if_neg (by omega), tg_low p t i (by omega), jc]
    cases i with
    | zero => simp [sep, jc]
    | succ k =>
      have := sep_jc [] f h1 h2 k
      rw [List.nil_append] at this
      rw [if_pos this, if_neg (by omega)]
theorem tg_mid (p t : Nat) (hpt : p < t) : ∀ i, p < i → i ≤ t → tg f p t i = jc f p ++ [58, 58]
  | 0, h, _ => by omega
  | i + 1, h, ht => by
    rw [tg, if_pos (by omega)]
    by_cases hi : i = p
    · rw [if_pos hi, hi, tg_low f h1 h2 p t p (by omega)]
    · rw [if_neg hi]
      exact tg_mid p t hpt i (by omega) (by omega)
theorem tg_high (p t : Nat) (hpt : p < t) : ∀ m, tg f p t (t + m) = jc f p ++ [58, 58] ++ jc (fun j => f (t + j)) m
  | 0 => by
    rw [Nat.add_zero, tg_mid f h1 h2 p t hpt t hpt (Nat.le_refl _)]
    simp [jc]
  | m + 1 => by
    rw [← Nat.add_assoc, tg, if_neg (by omega), tg_high p t hpt m, jc]
    cases m with
    | zero =>
      have : sep (jc f p ++ [58, 58] ++ jc (fun j => f (t + j)) 0) = false := by
        rw [jc, List.append_nil]
        exact sep_colon _
      rw [this, if_pos rfl]
      simp
    | succ k =>
      rw [if_pos (sep_jc _ _ (fun j => h1 _) (fun j => h2 _) k), if_neg (by omega)]
      simp
theorem tg_gap (p t : Nat) (hpt : p < t) (ht : t ≤ 8) : tg f p t 8 = jc f p ++ 58 :: 58 :: jc (fun j => f (t + j)) (8 - t) := by
  have := tg_high f h1 h2 p t hpt (8 - t)
  rw [show t + (8 - t) = 8 by omega] at this
  rw [this]
  simp
end
theorem tg_text6 (a : List Nat) (ha : a.length = 8) : tg (fun j => hexL (a.getD j 0)) (longest a).1 (longest a).2 8 = text6 a := by
  obtain ⟨_, hft⟩ := longest_zero a ha
  have hle := longest_le a ha
  unfold text6
  rw [hxs_jc, hxs_jc]
  rcases hft with hft | ⟨e1, e2⟩
  · rw [if_pos hft, tg_gap _ (fun j => hexL_ne _) (fun j => hexL_no58 _) _ _ hft hle.2]
    simp
  · rw [e1, e2, if_neg (by omega), tg_low _ (fun j => hexL_ne _) (fun j => hexL_no58 _) 8 8 8 (Nat.le_refl _)]
    simp [jc]

/-- The noughts at the beginning. -/
def zr : List Nat → Nat
  | [] => 0
  | n :: r => if n = 0 then zr r + 1 else 0
/-- The reference's longest row: where it begins (8: nowhere), and its length. -/
def rz6 (i p s : Nat) : List Nat → Nat × Nat
  | [] => (p, s)
  | n :: r => if s < zr (n :: r) then rz6 (i + 1) i (zr (n :: r)) r else rz6 (i + 1) p s r
def nz (n : Nat) : Nat := bif n == 0 then 0 else 1
theorem nz_zero (n : Nat) : nz n = 0 ↔ n = 0 := by
  unfold nz
  cases h : (n == 0)
  · simp at h
    simp [h]
  · simp at h
    simp [h]
theorem zr_nz : ∀ l : List Nat, zr (l.map nz) = zr l
  | [] => rfl
  | n :: r => by
    rw [List.map_cons, zr, zr, zr_nz r]
    simp only [nz_zero]
theorem lr_nz : ∀ (l : List Nat) (i st fr tu mo : Nat), lr i st fr tu mo (l.map nz) = lr i st fr tu mo l
  | [], _, _, _, _, _ => rfl
  | n :: r, i, st, fr, tu, mo => by
    rw [List.map_cons, lr, lr, lr_nz r, lr_nz r, lr_nz r]
    simp only [ne_eq, nz_zero]
theorem r6_nz : ∀ (l : List Nat) (i p s : Nat), rz6 i p s (l.map nz) = rz6 i p s l
  | [], _, _, _ => rfl
  | n :: r, i, p, s => by
    have := zr_nz (n :: r)
    rw [List.map_cons] at this
    rw [List.map_cons, rz6, rz6, r6_nz r, r6_nz r, this]
set_option maxRecDepth 100000 in
theorem rows_bool : ∀ a b c d e f g h : Bool, lr 0 0 8 8 1 [bif a then 0 else 1, bif b then 0 else 1, bif c then 0 else 1, bif d then 0 else 1, bif e then 0 else 1, bif f then 0 else 1, bif g then 0 else 1, bif h then 0 else 1] =
    ((rz6 0 8 1 [bif a then 0 else 1, bif b then 0 else 1, bif c then 0 else 1, bif d then 0 else 1, bif e then 0 else 1, bif f then 0 else 1, bif g then 0 else 1, bif h then 0 else 1]).1,
      if (rz6 0 8 1 [bif a then 0 else 1, bif b then 0 else 1, bif c then 0 else 1, bif d then 0 else 1, bif e then 0 else 1, bif f then 0 else 1, bif g then 0 else 1, bif h then 0 else 1]).1 = 8 then 8 else (rz6 0 8 1 [bif a then 0 else 1, bif b then 0 else 1, bif c then 0 else 1, bif d then 0 else 1, bif e then 0 else 1, bif f then 0 else 1, bif g then 0 else 1, bif h then 0 else 1]).1 + (rz6 0 8 1 [bif a then 0 else 1, bif b then 0 else 1, bif c then 0 else 1, bif d then 0 else 1, bif e then 0 else 1, bif f then 0 else 1, bif g then 0 else 1, bif h then 0 else 1]).2) := by decide +kernel
theorem longest_r6 (a : List Nat) (ha : a.length = 8) : longest a = ((rz6 0 8 1 a).1, if (rz6 0 8 1 a).1 = 8 then 8 else (rz6 0 8 1 a).1 + (rz6 0 8 1 a).2) := by
  unfold longest
  rw [← lr_nz, ← r6_nz]
  match a, ha with
  | [a, b, c, d, e, f, g, h], _ => exact rows_bool (a == 0) (b == 0) (c == 0) (d == 0) (e == 0) (f == 0) (g == 0) (h == 0)
end Go.Proofs.YtcepigekibidfaaGreatDoor
namespace Go.Proofs.YtcepigekibidfaaGreatDoor
open Go.RowKit

theorem tg_len (f : Nat → List UInt8) (h : ∀ j, (f j).length ≤ 4) (p t : Nat) : ∀ k, (tg f p t k).length ≤ 5 * k
  | 0 => by simp [tg]
  | k + 1 => by
    have := tg_len f h p t k
    have := h k
    rw [tg]
    split
    · split
      · simp; omega
      · omega
    · split
      · simp; omega
      · simp; omega
theorem tg_step (f : Nat → List UInt8) (p t k : Nat) (h : ¬ (p ≤ k ∧ k < t)) : tg f p t (k + 1) = (if sep (tg f p t k) then tg f p t k ++ [58] else tg f p t k) ++ f k := by rw [tg, if_neg h]
/-- The byte at the end. -/
theorem last_is (X : List UInt8) (c : UInt8) (h : X ≠ []) (hc : c = X.getD (X.length - 1) 0) : X.getLast?.getD 58 = c := by
  rw [hc, List.getLast?_eq_getElem?, List.getD_eq_getElem?_getD, List.getElem?_eq_getElem (by have := List.length_pos_iff.2 h; omega)]
  rfl
theorem sep_yes (X : List UInt8) (c : UInt8) (h : X ≠ []) (hc : c = X.getD (X.length - 1) 0) (h58 : ¬ c = 58) : sep X = true := by
  unfold sep
  rw [last_is X c h hc]
  simpa using h58
theorem sep_no (X : List UInt8) (c : UInt8) (h : X ≠ []) (hc : c = X.getD (X.length - 1) 0) (h58 : c = 58) : sep X = false := by
  unfold sep
  rw [last_is X c h hc, h58]
  rfl
theorem u8_nb {m : Nat} {c : UInt8} (hm : m = c.toNat) (h : ¬ c = 58) : ((m : Int) != 58) = true := by
  rw [bne_iff_ne]
  intro e
  apply h
  have : c.toNat = 58 := by omega
  exact UInt8.toNat_inj.1 this
theorem put1 (X : List UInt8) (c : UInt8) (Y : List UInt8) (h : Y = X ++ [c]) : str X ++ (⟨#[c]⟩ : ByteArray) = str Y := by rw [h]; exact str_add X [c]
theorem put2 (X : List UInt8) (c d : UInt8) (Y : List UInt8) (h : Y = X ++ [c, d]) : str X ++ (⟨#[c, d]⟩ : ByteArray) = str Y := by rw [h]; exact str_add X [c, d]
theorem ne_yes (X : List UInt8) (h : X ≠ []) : ((str X).toList != (⟨#[]⟩ : ByteArray).toList) = true := by
  have e : (⟨#[]⟩ : ByteArray).toList = [] := toList_str []
  rw [e, toList_str]
  simpa using h
theorem ne_no (X : List UInt8) (h : X = []) : ((str X).toList != (⟨#[]⟩ : ByteArray).toList) = false := by
  have e : (⟨#[]⟩ : ByteArray).toList = [] := toList_str []
  rw [e, toList_str, h]
  rfl
theorem zr_hit (a : List Nat) (k : Nat) (h : k < a.length) (h0 : a.getD k 0 = 0) : zr (a.drop k) = zr (a.drop (k + 1)) + 1 := by
  rw [List.drop_eq_getElem_cons h, zr, if_pos]
  simpa [List.getD, List.getElem?_eq_getElem h] using h0
theorem zr_miss (a : List Nat) (k : Nat) (h : k < a.length) (h0 : ¬ a.getD k 0 = 0) : zr (a.drop k) = 0 := by
  rw [List.drop_eq_getElem_cons h, zr, if_neg]
  simpa [List.getD, List.getElem?_eq_getElem h] using h0
theorem r6_step (a : List Nat) (k p s : Nat) (h : k < a.length) : rz6 k p s (a.drop k) = if s < zr (a.drop k) then rz6 (k + 1) k (zr (a.drop k)) (a.drop (k + 1)) else rz6 (k + 1) p s (a.drop (k + 1)) := by
  rw [List.drop_eq_getElem_cons h, rz6]

set_option maxHeartbeats 16000000 in
set_option maxRecDepth 100000 in
theorem text6_any (a : List Nat) (ha : a.length = 8) (hlt : ∀ x ∈ a, x < 65536) (w : World) : Calls Tryz.prog 49 #[.agg (vhs a).toArray] w fun e w' => e = .returned (.string (str (text6 a))) ∧ Below w.heap.size w w' := by
  have hxx : Hid (∀ i, a.getD i 0 < 65536) := fun i => getD_lt a hlt i
  have hget : Hid (∀ k, k < 8 → (vhs a)[k]? = some (.int .u16 ((a.getD k 0 : Nat) : Int))) := fun k hk => vhs_at a k (by omega)
  have hlg := longest_r6 a ha
  have hle := longest_le a ha
  have hz0 := (longest_zero a ha).2
  obtain ⟨f, hf⟩ : ∃ f : Nat → List UInt8, f = fun j => hexL (a.getD j 0) := ⟨_, rfl⟩
  have hf4 : ∀ j, (f j).length ≤ 4 := fun j => by rw [hf]; exact hexL_len4 _ (hxx.out j)
  have hT6 : tg f (longest a).1 (longest a).2 8 = text6 a := by rw [hf]; exact tg_text6 a ha
  obtain ⟨T6, hT6'⟩ : ∃ X, X = text6 a := ⟨_, rfl⟩
  rw [← hT6'] at hT6 ⊢
  have HF : Hid ((∀ j, (f j).length ≤ 4) ∧ (∀ j, f j ≠ []) ∧ (∀ j, (58 : UInt8) ∉ f j)) := ⟨hf4, fun j => by rw [hf]; exact hexL_ne _, fun j => by rw [hf]; exact hexL_no58 _⟩
  have HB : Hid (∀ (k n : Nat), n = a.getD k 0 → ∀ w', Calls Tryz.prog 75 #[.int .i64 (n : Int)] w' fun e w2 => e = .returned (.string (str (f k))) ∧ Below w'.heap.size w' w2) := fun k n hn w' => by
    have h9 := hxx.out k
    have h := hexa_any n w' (by omega)
    rw [hn] at h
    rw [hf]
    exact hn ▸ h
  obtain ⟨p, hp⟩ : ∃ p, p = (longest a).1 := ⟨_, rfl⟩
  obtain ⟨t, ht⟩ : ∃ t, t = (longest a).2 := ⟨_, rfl⟩
  rw [← hp, ← ht] at hT6 hle hz0
  have hR1 : p = (rz6 0 8 1 a).1 := by rw [hp, hlg]
  have hR2 : t = if (rz6 0 8 1 a).1 = 8 then 8 else (rz6 0 8 1 a).1 + (rz6 0 8 1 a).2 := by rw [ht, hlg]
  have HA := Lib.hid ha
  have HR := Lib.hid (And.intro hR1 hR2)
  have HP := Lib.hid (And.intro hT6 (And.intro hle hz0))
  clear ha hlt hlg hle hz0 hf hf4 hT6 hT6' hp ht hR1 hR2
  go_enter Tryz.func49, Tryz.ntmps49
  go_wp2_with (first
    | ((with_reducible show wpList _ _ _ (⟨some 1, .box _ _, _, _, _, _⟩ :: _) _ _); refine wp_box _ rfl 62 _ rfl (vhs a) rfl ?_; intro w1 g1 B1 F1; simp only [Act.put, List.setIfInBounds_toArray, List.set_cons_zero, List.set_cons_succ]; have hk1 := kept_of F1.below; clear F1))
  go_loop [5, 3, 4] (fun i x y => ∃ (k p' s : Nat) (z : Int), k ≤ 8 ∧ s ≤ 8 ∧ i = .int .i64 (k : Int) ∧ x = .int .i64 z ∧ y = .int .i64 (s : Int) ∧ ((z = -1 ∧ p' = 8) ∨ (z = (p' : Int) ∧ p' < 8)) ∧ rz6 k p' s (a.drop k) = rz6 0 8 1 a) (fun i _ _ => 8 - (intOf i).toNat)
  case atStart => exact ⟨0, 8, 1, -1, by omega, by omega, rfl, rfl, rfl, .inl ⟨rfl, rfl⟩, by simp⟩
  case round =>
    obtain ⟨k, p', s, z, hk, hs, rfl, rfl, rfl, hz, hr⟩ := hrel
    by_cases hlt : k < 8
    · have hki : (k : Int) < 8 := by omega
      rw [r6_step a k p' s (by rw [HA.out]; exact hlt)] at hr
      have HRr := Lib.hid hr
      have HZ := Lib.hid hz
      clear hr hz
      go_wp2_with fail
      go_loop [6] (fun x => ∃ m : Nat, k + m ≤ 8 ∧ x = .int .i64 (m : Int) ∧ m + zr (a.drop (k + m)) = zr (a.drop k)) (fun x => 8 - (intOf x).toNat)
      case atStart => exact ⟨0, by omega, rfl, by simp⟩
      case round =>
        obtain ⟨m, hm, rfl, hzm⟩ := hrel
        obtain ⟨q, hq⟩ : ∃ q, q = k + m := ⟨_, rfl⟩
        have hqi : (k : Int) + (m : Int) = (q : Int) := by omega
        rw [← hq] at hzm
        have hm8 : m ≤ 8 := by omega
        have HQ := Lib.hid hq
        by_cases hq8 : q < 8
        · have hq8i : (q : Int) < 8 := by omega
          have hg := hget.out q hq8
          by_cases h0 : a.getD q 0 = 0
          · rw [zr_hit a q (by rw [HA.out]; exact hq8) h0] at hzm
            rw [h0] at hg
            have hcell := B1.cell hg
            have HZm := Lib.hid hzm
            clear hzm h0 hg hq
            go_wp2_with fail
            go_round
            case rel => exact ⟨m + 1, by have := HQ.out; omega, by go_num, by rw [← Nat.add_assoc, ← HQ.out]; have := HZm.out; omega⟩
            case measure => simp [intOf]; omega
          · rw [zr_miss a q (by rw [HA.out]; exact hq8) h0] at hzm
            have hzm : m = zr (a.drop k) := hzm
            obtain ⟨n, hn⟩ : ∃ n, n = a.getD q 0 := ⟨_, rfl⟩
            rw [← hn] at hg h0
            have hn0 : ((n : Int) == 0) = false := by simp; omega
            have hcell := B1.cell hg
            have HZm := Lib.hid hzm
            clear hzm h0 hg hq hn
            by_cases hsm : s < m
            · have hsi : (s : Int) < (m : Int) := by omega
              have hr2 : Hid (rz6 (k + 1) k m (a.drop (k + 1)) = rz6 0 8 1 a) := by
                have := HRr.out
                rw [← HZm.out, if_pos hsm] at this
                exact this
              go_wp2_with fail
              go_round
              case rel => exact ⟨k + 1, k, m, (k : Int), by omega, by omega, by go_num, rfl, rfl, .inr ⟨rfl, hlt⟩, hr2.out⟩
              case measure => simp [intOf]; omega
            · have hsi : ¬ (s : Int) < (m : Int) := by omega
              have hr2 : Hid (rz6 (k + 1) p' s (a.drop (k + 1)) = rz6 0 8 1 a) := by
                have := HRr.out
                rw [← HZm.out, if_neg hsm] at this
                exact this
              go_wp2_with fail
              go_round
              case rel => exact ⟨k + 1, p', s, z, by omega, hs, by go_num, rfl, rfl, HZ.out, hr2.out⟩
              case measure => simp [intOf]; omega
        · have hq8i : ¬ (q : Int) < 8 := by omega
          rw [List.drop_eq_nil_of_le (by rw [HA.out]; omega)] at hzm
          have hzm : m = zr (a.drop k) := hzm
          have HZm := Lib.hid hzm
          clear hzm hq
          by_cases hsm : s < m
          · have hsi : (s : Int) < (m : Int) := by omega
            have hr2 : Hid (rz6 (k + 1) k m (a.drop (k + 1)) = rz6 0 8 1 a) := by
              have := HRr.out
              rw [← HZm.out, if_pos hsm] at this
              exact this
            go_wp2_with fail
            go_round
            case rel => exact ⟨k + 1, k, m, (k : Int), by omega, by omega, by go_num, rfl, rfl, .inr ⟨rfl, hlt⟩, hr2.out⟩
            case measure => simp [intOf]; omega
          · have hsi : ¬ (s : Int) < (m : Int) := by omega
            have hr2 : Hid (rz6 (k + 1) p' s (a.drop (k + 1)) = rz6 0 8 1 a) := by
              have := HRr.out
              rw [← HZm.out, if_neg hsm] at this
              exact this
            go_wp2_with fail
            go_round
            case rel => exact ⟨k + 1, p', s, z, by omega, hs, by go_num, rfl, rfl, HZ.out, hr2.out⟩
            case measure => simp [intOf]; omega
    · have hki : ¬ (k : Int) < 8 := by omega
      rw [List.drop_eq_nil_of_le (by rw [HA.out]; omega)] at hr
      have hr : (p', s) = rz6 0 8 1 a := hr
      have e1 : p = p' := by rw [HR.out.1, ← hr]
      have e2 : t = if p' = 8 then 8 else p' + s := by rw [HR.out.2, ← hr]
      subst e1
      have HPT : Hid (t = if p = 8 then 8 else p + s) := e2
      have HZ := Lib.hid hz
      have B1' := Lib.hid B1
      clear hr e2 hz B1
      go_wp2_with fail
      go_loopw [8, 7] (fun i y wr => ∃ (k : Nat), k ≤ 8 ∧ (k ≤ p ∨ t ≤ k) ∧ i = .int .i64 (k : Int) ∧ y = .string (str (tg f p t k)) ∧ Kept w wr ∧ Blk wr g1 62 (vhs a)) (fun i _ _ => 8 - (intOf i).toNat)
      case atStart => exact ⟨0, by omega, .inl (by omega), rfl, rfl, hk1, B1'.out⟩
      case round =>
        obtain ⟨k, hk, hkp, rfl, rfl, hkw, hbk⟩ := hrel
        have hXl := tg_len f HF.out.1 p t k
        obtain ⟨X, hX⟩ : ∃ X, X = tg f p t k := ⟨_, rfl⟩
        rw [← hX] at hXl ⊢
        have sX : (str X).size ≤ 40 := by rw [str_size]; omega
        have HX := Lib.hid hX
        have HBk := Lib.hid hbk
        clear hX hbk
        by_cases hlt : k < 8
        · have hki : (k : Int) < 8 := by omega
          by_cases hkz : k = p
          · have hzk : ((k : Int) == z) = true := by
              rcases HZ.out with h | h
              · omega
              · rw [h.1, hkz]; simp
            have hzk2 : (k : Int) = z := by simpa using hzk
            obtain ⟨Y, hY⟩ : ∃ Y, Y = X ++ [58, 58] := ⟨_, rfl⟩
            have a1 : str X ++ (⟨#[58, 58]⟩ : ByteArray) = str Y := put2 X 58 58 Y hY
            have hts : t = k + s := by
              have := HPT.out
              rw [if_neg (by omega)] at this
              omega
            have ht8 : t ≤ 8 := HP.out.2.1.2
            have hpt : p < t := by have := HP.out.2.2; omega
            have hY2 : Hid (Y = tg f p t t) := by
              show _ = _
              rw [tg_mid f HF.out.2.1 HF.out.2.2 p t hpt t hpt (Nat.le_refl _), hY, HX.out, hkz, tg_low f HF.out.2.1 HF.out.2.2 p t p (Nat.le_refl _)]
            have hi1 : (k : Int) + (s : Int) = (t : Int) := by omega
            obtain ⟨t1, ht1⟩ : ∃ q, q = t - 1 := ⟨_, rfl⟩
            have hi2 : (t : Int) - 1 = (t1 : Int) := by omega
            have hi3 : (t1 : Int) + 1 = (t : Int) := by omega
            have ht19 : t1 < 8 := by omega
            have HE := Lib.hid (And.intro hkz (And.intro hts (And.intro hpt ht1)))
            have hzk3 := Lib.hid hzk2
            clear hkz hts hpt ht1 hY hzk2
            go_wp2_with fail
            go_roundw
            case rel => exact ⟨t, by omega, .inr (Nat.le_refl _), by rw [← hi3], by rw [hY2.out], hkw, HBk.out⟩
            case measure =>
              have := HE.out
              simp [intOf]
              omega
          · have hzk : ((k : Int) == z) = false := by
              rw [beq_eq_false_iff_ne]
              rcases HZ.out with h | h <;> omega
            have hng : ¬ (p ≤ k ∧ k < t) := by omega
            have hst := tg_step f p t k hng
            rw [← HX.out] at hst
            have HSt := Lib.hid hst
            have HNx : Hid (k + 1 ≤ p ∨ t ≤ k + 1) := by show _ ∨ _; omega
            obtain ⟨n, hn⟩ : ∃ n, n = a.getD k 0 := ⟨_, rfl⟩
            have hg := hget.out k hlt
            have hn9 := hxx.out k
            rw [← hn] at hg hn9
            have hcell := HBk.out.cell hg
            have HBn := Lib.hid (HB.out k n hn)
            have hfk4 := HF.out.1 k
            obtain ⟨fk, hfk⟩ : ∃ X, X = f k := ⟨_, rfl⟩
            rw [← hfk] at hfk4 HBn
            have sfk : (str fk).size ≤ 4 := by rw [str_size]; omega
            have HFk := Lib.hid hfk
            clear hst hng hkz hn hg hfk hkp
            by_cases hXn : X = []
            · have hxn : ((str X).toList != (⟨#[]⟩ : ByteArray).toList) = false := ne_no X hXn
              have hxn2 : ((str X).toList == []) = true := by rw [toList_str, hXn]; rfl
              have hsep : sep X = false := by rw [hXn]; rfl
              have HXn := Lib.hid hXn
              clear hXn
              obtain ⟨Z, hZ⟩ : ∃ Z, Z = X ++ fk := ⟨_, rfl⟩
              have a2 : str X ++ str fk = str Z := by rw [hZ]; exact str_add _ _
              have hZ2 : Hid (Z = tg f p t (k + 1)) := by
                show _ = _
                rw [HSt.out, hsep, if_neg (by decide), hZ, ← HFk.out]
              clear hZ hsep
              go_wp2_with (go_at_call 75; with_reducible refine (HBn.out wr).mono ?_; rintro e w5 ⟨rfl, hb5⟩; have hk5 := hkw.step hb5; have hb5' := HBk.out.kept hb5; clear hb5)
              go_roundw
              case rel => exact ⟨k + 1, by omega, HNx.out, by go_num, by rw [hZ2.out], hk5, hb5'⟩
              case measure => simp [intOf]; omega
            · have hxn : ((str X).toList != (⟨#[]⟩ : ByteArray).toList) = true := ne_yes X hXn
              have hxn2 : ((str X).toList == []) = false := by rw [toList_str]; simpa using hXn
              obtain ⟨xl, hxl⟩ : ∃ q, q = X.length := ⟨_, rfl⟩
              have hxl1 : 1 ≤ xl := by rw [hxl]; exact List.length_pos_iff.2 hXn
              have hxl9 : xl ≤ 40 := by omega
              have sXl : (str X).size = xl := by rw [str_size, hxl]
              obtain ⟨x1, hx1⟩ : ∃ q, q = xl - 1 := ⟨_, rfl⟩
              have hx1i : (xl : Int) - 1 = (x1 : Int) := by omega
              have hx1l : x1 < xl := by omega
              have hg : ∀ h, ((str X)[x1]'h).toNat = (X.getD x1 0).toNat := fun h => str_at X x1 (by rw [← hxl]; exact hx1l) h
              obtain ⟨c, hc⟩ : ∃ c, c = X.getD x1 0 := ⟨_, rfl⟩
              obtain ⟨m, hm⟩ : ∃ m, m = c.toNat := ⟨_, rfl⟩
              rw [← hc, ← hm] at hg
              have hm9 : m < 256 := by rw [hm]; exact c.toNat_lt
              have hcl : c = X.getD (X.length - 1) 0 := by rw [← hxl, ← hx1]; exact hc
              by_cases h58 : c = 58
              · have hmb : ((m : Int) != 58) = false := by rw [hm, h58]; rfl
                have hsep := sep_no X c hXn hcl h58
                obtain ⟨Z, hZ⟩ : ∃ Z, Z = X ++ fk := ⟨_, rfl⟩
                have a2 : str X ++ str fk = str Z := by rw [hZ]; exact str_add _ _
                have hZ2 : Hid (Z = tg f p t (k + 1)) := by
                  show _ = _
                  rw [HSt.out, hsep, if_neg (by decide), hZ, ← HFk.out]
                clear hZ hsep hm h58 hXn hcl hc hx1 hxl
                go_wp2_with (go_at_call 75; with_reducible refine (HBn.out wr).mono ?_; rintro e w5 ⟨rfl, hb5⟩; have hk5 := hkw.step hb5; have hb5' := HBk.out.kept hb5; clear hb5)
                go_roundw
                case rel => exact ⟨k + 1, by omega, HNx.out, by go_num, by rw [hZ2.out], hk5, hb5'⟩
                case measure => simp [intOf]; omega
              · have hmb : ((m : Int) != 58) = true := u8_nb hm h58
                have hsep := sep_yes X c hXn hcl h58
                obtain ⟨Y, hY⟩ : ∃ Y, Y = X ++ [58] := ⟨_, rfl⟩
                have a1 : str X ++ (⟨#[58]⟩ : ByteArray) = str Y := put1 X 58 Y hY
                have sY : (str Y).size ≤ 41 := by rw [str_size, hY]; simp; omega
                obtain ⟨Z, hZ⟩ : ∃ Z, Z = Y ++ fk := ⟨_, rfl⟩
                have a2 : str Y ++ str fk = str Z := by rw [hZ]; exact str_add _ _
                have hZ2 : Hid (Z = tg f p t (k + 1)) := by
                  show _ = _
                  rw [HSt.out, hsep, if_pos rfl, hZ, ← HFk.out, hY]
                clear hZ hsep hY hm h58 hXn hcl hc hx1 hxl
                go_wp2_with (go_at_call 75; with_reducible refine (HBn.out wr).mono ?_; rintro e w5 ⟨rfl, hb5⟩; have hk5 := hkw.step hb5; have hb5' := HBk.out.kept hb5; clear hb5)
                go_roundw
                case rel => exact ⟨k + 1, by omega, HNx.out, by go_num, by rw [hZ2.out], hk5, hb5'⟩
                case measure => simp [intOf]; omega
        · have hki : ¬ (k : Int) < 8 := by omega
          have hk8 : k = 8 := by omega
          have hE : Hid (T6 = X) := by show _ = _; rw [← HP.out.1, HX.out, hk8]
          go_wp2_with fail
          go_ret
          rw [hE.out]
          exact ⟨rfl, hkw⟩
end Go.Proofs.YtcepigekibidfaaGreatDoor
