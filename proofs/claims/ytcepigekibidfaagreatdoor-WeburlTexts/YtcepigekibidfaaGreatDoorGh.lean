/-
  What host.fourNumbers answers; nothing that was there turns. Condition: texts of at most 100000000 bytes; the library's tables.
  What host.pieces answers; nothing that was there turns. Condition: texts of at most 100000000 bytes; the library's tables.
-/
import Derived.Test.YtcepigekibidfaaGreatDoorGg
namespace Go.Proofs.YtcepigekibidfaaGreatDoor
open Go.RowKit

/-- A number to base ten from 0 to 255, without noughts ahead. -/
def oct (p : List UInt8) : Option Nat := if p = [] ∨ (1 < p.length ∧ p.getD 0 0 = 48) then none else (val 10 0 p).bind fun n => if n ≤ 255 then some n else none
def stp (k : Nat) (xs : List Nat) (n : Nat) : List Nat := xs.set (k / 2) (xs.getD (k / 2) 0 * 256 + n)
def fo (k : Nat) (xs : List Nat) : List (List UInt8) → Option (List Nat)
  | [] => some xs
  | p :: r => (oct p).bind fun n => fo (k + 1) (stp k xs n) r
/-- The two pieces that four numbers with dots between tell. -/
def four (l : List UInt8) : Option (List Nat) := if (spl 46 l).length = 4 then fo 0 [0, 0] (spl 46 l) else none
def fourV (o : Option (List Nat)) : Value := .tuple #[.agg (vhs (o.getD [0, 0])).toArray, .bool o.isSome]

theorem type67 : (Tryz.prog.info? 210).map (fun i => i.zero) = some (some (.agg (vhs [0, 0]).toArray)) := by kernel_rfl
theorem size67 : (Tryz.prog.info? 210).map (·.size) = some 2 := by kernel_rfl
theorem size67' (xs : List Nat) (h : xs.length = 2) : (Tryz.prog.info? 210).map (·.size) = some (vhs xs).length := by rw [Hs_len, h]; exact size67
theorem size37 : (Tryz.prog.info? 61).map (·.size) = some 1 := by kernel_rfl
theorem build67 (w : World) : (Instr.build 210 #[]).run Tryz.prog w = .ok (.agg (vhs [0, 0]).toArray) w := by kernel_rfl
theorem vhs_at (xs : List Nat) (k : Nat) (h : k < xs.length) : (vhs xs)[k]? = some (.int .u16 ((xs.getD k 0 : Nat) : Int)) := by
  simp [vhs, vh, List.getD, List.getElem?_eq_getElem h]
theorem vhs_set (xs : List Nat) (k n : Nat) : (vhs xs).set k (.int .u16 (n : Int)) = vhs (xs.set k n) := by simp [vhs, vh, List.map_set]

/-- What holds of the two pieces behind k numbers. -/
structure Two (k : Nat) (xs : List Nat) : Prop where
  len : xs.length = 2
  lt : ∀ x ∈ xs, x < 65536
  odd : k % 2 = 1 → xs.getD (k / 2) 0 < 256
  rest : ∀ j, k ≤ 2 * j → xs.getD j 0 = 0
theorem Two.step {k n : Nat} {xs : List Nat} (h : Two k xs) (hk : k < 4) (hn : n ≤ 255) : Two (k + 1) (stp k xs n) ∧ xs.getD (k / 2) 0 < 256 := by
  have hx : xs.getD (k / 2) 0 < 256 := by
    rcases Nat.mod_two_eq_zero_or_one k with h0 | h0
    · rw [h.rest (k / 2) (by omega)]
      omega
    · exact h.odd h0
  refine ⟨⟨by simp [stp, h.len], ?_, ?_, ?_⟩, hx⟩
  · intro x hm
    rcases List.mem_or_eq_of_mem_set hm with hm | hm
    · exact h.lt x hm
    · omega
  · intro ho
    have e : (k + 1) / 2 = k / 2 := by omega
    rw [e, stp]
    have h0 : xs.getD (k / 2) 0 = 0 := h.rest (k / 2) (by omega)
    rw [h0]
    have hl : k / 2 < xs.length := by rw [h.len]; omega
    simp [List.getD, List.getElem?_set_self hl]
    omega
  · intro j hj
    have hne : k / 2 ≠ j := by omega
    have h0 := h.rest j (by omega)
    rw [List.getD_eq_getElem?_getD] at h0 ⊢
    rw [stp, List.getElem?_set_ne hne]
    exact h0
theorem fo_two (k : Nat) : ∀ (ps : List (List UInt8)) (xs r : List Nat), k + ps.length = 4 → Two k xs → fo k xs ps = some r → r.length = 2 ∧ ∀ x ∈ r, x < 65536 := by
  intro ps
  induction ps generalizing k with
  | nil =>
    intro xs r _ h e
    simp [fo] at e
    subst e
    exact ⟨h.len, h.lt⟩
  | cons p t ih =>
    intro xs r hl h e
    simp only [List.length_cons] at hl
    rw [fo] at e
    cases ho : oct p with
    | none => simp [ho] at e
    | some n =>
      have hn : n ≤ 255 := by
        unfold oct at ho
        split at ho
        · cases ho
        · cases hv : val 10 0 p with
          | none => simp [hv] at ho
          | some m =>
            simp [hv] at ho
            omega
      rw [ho] at e
      exact ih (k + 1) _ r (by omega) (h.step (by omega) hn).1 e
theorem two_start : Two 0 [0, 0] := ⟨rfl, by simp, by omega, by
  intro j _
  match j with
  | 0 => rfl
  | 1 => rfl
  | j + 2 => rfl⟩
theorem four_two (l : List UInt8) (r : List Nat) (h : four l = some r) : r.length = 2 ∧ ∀ x ∈ r, x < 65536 := by
  unfold four at h
  split at h
  · rename_i hl
    exact fo_two 0 _ _ r (by rw [hl]) two_start h
  · cases h
theorem orH (x n : Nat) (hx : x < 256) (hn : n ≤ 255) : bits .or .u16 ((x * 256 : Nat) : Int) (n : Int) = ((x * 256 + n : Nat) : Int) := by
  rw [u16_or_nat _ _ (by omega) (by omega)]
  congr 1
  rw [Nat.mul_comm x, ← Nat.two_pow_add_eq_or_of_lt (i := 8) (by omega) x]

theorem len_of {w : World} (h : Tabs w) : ∃ m, w.cell? ⟨0, 0, none⟩ = some (.int .i64 m) := h.here.len
theorem split_ex (c : UInt8) (l : List UInt8) (w : World) (hl : l.length ≤ 100000000) (hm : ∃ m, w.cell? ⟨0, 0, none⟩ = some (.int .i64 m)) :
    Calls Tryz.prog 94 #[.string (str l), .string ⟨#[c]⟩] w fun e w' => e = .returned (.slice (some ⟨w.heap.size, 0, none⟩) (spl c l).length (spl c l).length) ∧ Ps w' w.heap.size (spl c l) ∧ Below w.heap.size w w' := by
  obtain ⟨m, hm⟩ := hm
  exact split_one c l m w hl hm

set_option maxHeartbeats 8000000 in
set_option maxRecDepth 100000 in
theorem fourNumbers_any (l : List UInt8) (w : World) (hl : l.length ≤ 100000000) (ht : Tabs w) : Calls Tryz.prog 184 #[.string (str l)] w fun e w' => e = .returned (fourV (four l)) ∧ Below w.heap.size w w' := by
  have HT := Lib.hid ht
  clear ht
  have HS : Hid (∀ w, (∃ m, w.cell? ⟨0, 0, none⟩ = some (.int .i64 m)) → Calls Tryz.prog 94 #[.string (str l), .string ⟨#[46]⟩] w fun e w' => e = .returned (.slice (some ⟨w.heap.size, 0, none⟩) (spl 46 l).length (spl 46 l).length) ∧ Ps w' w.heap.size (spl 46 l) ∧ Below w.heap.size w w') := fun w hm => split_ex 46 l w hl hm
  have hmem : Hid (∀ p ∈ spl 46 l, p.length ≤ 100000000) := fun p hp => Nat.le_trans (spl_mem 46 l p hp).2.1 hl
  have hF : Hid (four l = if (spl 46 l).length = 4 then fo 0 [0, 0] (spl 46 l) else none) := rfl
  have hsz : Hid ((spl 46 l).length ≤ 100000001) := by show _ ≤ _; rw [spl_length]; have : l.count 46 ≤ l.length := List.count_le_length; omega
  obtain ⟨P, hP⟩ : ∃ P, P = spl 46 l := ⟨_, rfl⟩
  obtain ⟨R, hR⟩ : ∃ R, R = four l := ⟨_, rfl⟩
  rw [← hP] at HS hmem hF hsz
  rw [← hR] at hF ⊢
  obtain ⟨n, hn⟩ : ∃ n, n = P.length := ⟨_, rfl⟩
  rw [← hn] at HS hF
  have hn9 : n ≤ 100000001 := by rw [hn]; exact hsz.out
  have HN := Lib.hid hn
  clear hP hR hn
  by_cases h4 : n = 4
  · have hni : ((n : Int) != 4) = false := by simp; omega
    have hF2 : Hid (R = fo 0 [0, 0] P) := by show _ = _; rw [hF.out, if_pos h4]
    clear hF
    go_enter Tryz.func184, Tryz.ntmps184
    go_wp2_with (first
    | ((with_reducible show wpList _ _ _ (⟨some 2, .alloc _, _, _, _, _⟩ :: _) _ _); refine wp_new _ rfl 210 rfl _ type67 ?_; intro w1 g2 B1 F1; simp only [Act.put, List.setIfInBounds_toArray, List.set_cons_zero, List.set_cons_succ]; have HM := len_of (HT.out.kept F1.below); have hk1 := kept_of F1.below)
    | (go_at_call 94; with_reducible refine (HS.out w1 HM).mono ?_; rintro e w3 ⟨rfl, hps, hb3⟩; have hk3 := hk1.step hb3; have B3 := B1.kept hb3; have HP := Lib.hid hps; clear hps)
    | ((with_reducible show wpList _ _ _ (⟨some 17, .build _ _, _, _, _, _⟩ :: _) _ _); refine wp_build0 _ rfl 210 rfl _ (build67 _) ?_; simp only [Act.put, List.setIfInBounds_toArray, List.set_cons_zero, List.set_cons_succ])
    | ((with_reducible show wpList _ _ _ (⟨some 5, .alloc _, _, _, _, _⟩ :: _) _ _); refine wp_new _ rfl 210 rfl _ type67 ?_; intro w4 g5 B4 F4; simp only [Act.put, List.setIfInBounds_toArray, List.set_cons_zero, List.set_cons_succ])
    | ((with_reducible show wpList _ _ _ (⟨none, .store 210 (.tmp 5) _, _, _, _, _⟩ :: _) _ _); refine wp_putAll _ rfl 210 (.tmp 5) (.tmp 17) rfl g5 210 _ (vhs [0, 0]) rfl rfl B4 rfl size67 (Hs_one _) ?_; intro w5 B5 U5; simp only [Act.put]))
    have hB5 : Hid (∀ wr, Upd g5 w5 wr → Below w3.heap.size w3 wr) := fun wr hu => (F4.below.trans (U5.below (Nat.le_of_eq F4.is.symm))).trans (hu.below (Nat.le_of_eq F4.is.symm))
    have hg2 : Hid (g2 = w.heap.size) := F1.is
    have htb : Hid (w1.heap.size < w3.heap.size) := HP.out.1
    have HK3 := Lib.hid hk3
    have HB3 := Lib.hid B3
    clear F1 F4 U5 HS HM hk1 hk3 B3
    go_loopw [20] (fun i wr => ∃ (k : Nat) (xs : List Nat), k ≤ 4 ∧ i = .int .i64 (k : Int) ∧ Upd g5 w5 wr ∧ Blk wr g5 210 (vhs xs) ∧ Two k xs ∧ fo k xs (P.drop k) = R) (fun i _ => 4 - (intOf i).toNat)
    case atStart => exact ⟨0, [0, 0], by omega, rfl, Upd.refl _ _, B5, two_start, hF2.out.symm⟩
    case round =>
      obtain ⟨k, xs, hk, rfl, hup, hblk, htwo, hR⟩ := hrel
      have hbw := hB5.out wr hup
      have hpr := HP.out.below hbw htb.out (Nat.le_refl _)
      have HKr := Lib.hid (HK3.out.step hbw)
      have HBr := Lib.hid (HB3.out.kept hbw)
      clear B5
      by_cases hlt : k < 4
      · have hki : (k : Int) < (n : Int) := by omega
        obtain ⟨p, hp⟩ : ∃ p, P[k]? = some p := ⟨_, List.getElem?_eq_getElem (by rw [← HN.out]; omega)⟩
        have hcell := hpr.at_ hp
        have hpl := hmem.out p (List.mem_of_getElem? hp)
        have hsz1 := str_size p
        have hem := str_empty p
        have V := value10 p wr hpl
        rw [valV_pair] at V
        have hdrop : P.drop k = p :: P.drop (k + 1) := by
          have hk' : k < P.length := by rw [← HN.out]; omega
          rw [List.drop_eq_getElem_cons hk']
          congr 1
          rw [List.getElem?_eq_getElem hk'] at hp
          exact Option.some.inj hp
        rw [hdrop, fo] at hR
        have hoct : Hid (oct p = if p = [] ∨ (1 < p.length ∧ p.getD 0 0 = 48) then none else (val 10 0 p).bind fun n => if n ≤ 255 then some n else none) := rfl
        have h0 : ∀ h, ((str p)[0]'h).toNat = (p.getD 0 0).toNat := fun h => str_at p 0 (by rw [← str_size]; exact h) h
        obtain ⟨S, hS⟩ : ∃ S, S = p.length := ⟨_, rfl⟩
        rw [← hS] at hsz1 hoct hpl
        obtain ⟨m, hm⟩ : ∃ m, m = (p.getD 0 0).toNat := ⟨_, rfl⟩
        rw [← hm] at h0
        have HR := Lib.hid hR
        have HUp := Lib.hid (And.intro hup (And.intro hblk htwo))
        have HX := Lib.hid (And.intro hS (And.intro hm hdrop))
        clear hpr hR hup hbw hdrop hS hm hp
        cases hv : val 10 0 p with
        | none =>
          rw [hv] at V
          have HV : Hid (Calls Tryz.prog 191 #[.string (str p), .int .u64 10] wr fun e w' => e = .returned (.tuple #[.int .u64 0, .bool false]) ∧ w' = wr) := V
          have hno : Hid (R = none) := by
            show _ = _
            rw [← HR.out, hoct.out, hv]
            split <;> rfl
          clear V hv
          go_wp2_with (first
            | (go_at_call 191; with_reducible refine HV.out.mono ?_; rintro e w7 ⟨rfl, rfl⟩)
            | ((with_reducible show wpList _ _ _ (⟨some 51, .build _ _, _, _, _, _⟩ :: _) _ _); refine wp_build0 _ rfl 210 rfl _ (build67 _) ?_; simp only [Act.put, List.setIfInBounds_toArray, List.set_cons_zero, List.set_cons_succ])
            | ((with_reducible show wpList _ _ _ (⟨none, .store 210 (.tmp 2) _, _, _, _, _⟩ :: _) _ _); refine wp_putAll _ rfl 210 (.tmp 2) (.tmp 51) rfl g2 210 _ (vhs [0, 0]) rfl rfl HBr.out rfl size67 (Hs_one _) ?_; intro w9 B9 U9; simp only [Act.put]))
          all_goals exact ret_cell2 2 3 210 rfl g2 (vhs [0, 0]) _ rfl B9.whole Tryz.underlying210 rfl size67 rfl (.bool false) rfl ⟨by rw [hno.out]; rfl, HKr.out.base (U9.below (Nat.le_of_eq hg2.out.symm))⟩
        | some x =>
          rw [hv] at V
          have HV : Hid (Calls Tryz.prog 191 #[.string (str p), .int .u64 10] wr fun e w' => e = .returned (.tuple #[.int .u64 (x : Int), .bool true]) ∧ w' = wr) := V
          have hx9 : x ≤ 4294967296 := val_le 10 p 0 x (by omega) hv
          have hov : Hid (oct p = if p = [] ∨ (1 < S ∧ p.getD 0 0 = 48) then none else if x ≤ 255 then some x else none) := by show _ = _; rw [hoct.out, hv]; rfl
          clear V hv hoct
          by_cases he : p = []
          · have hem2 : (str p).toList.isEmpty = true := by rw [hem]; simp [he]
            have hS0 : ¬ (1 : Int) < (S : Int) := by rw [HX.out.1, he]; simp
            have hno : Hid (R = none) := by
              show _ = _
              rw [← HR.out, hov.out, if_pos (.inl he)]
              rfl
            clear hem he
            go_wp2_with (first
              | (go_at_call 191; with_reducible refine HV.out.mono ?_; rintro e w7 ⟨rfl, rfl⟩)
              | ((with_reducible show wpList _ _ _ (⟨some 51, .build _ _, _, _, _, _⟩ :: _) _ _); refine wp_build0 _ rfl 210 rfl _ (build67 _) ?_; simp only [Act.put, List.setIfInBounds_toArray, List.set_cons_zero, List.set_cons_succ])
              | ((with_reducible show wpList _ _ _ (⟨none, .store 210 (.tmp 2) _, _, _, _, _⟩ :: _) _ _); refine wp_putAll _ rfl 210 (.tmp 2) (.tmp 51) rfl g2 210 _ (vhs [0, 0]) rfl rfl HBr.out rfl size67 (Hs_one _) ?_; intro w9 B9 U9; simp only [Act.put]))
            refine ret_cell2 2 3 210 rfl g2 (vhs [0, 0]) _ rfl B9.whole Tryz.underlying210 rfl size67 rfl (.bool false) rfl ⟨?_, ?_⟩
            · rw [hno.out]
              rfl
            · exact HKr.out.base (U9.below (Nat.le_of_eq hg2.out.symm))
          · have hem2 : (str p).toList.isEmpty = false := by rw [hem]; simp [he]
            have hS0 : (0 : Int) < (S : Int) := by
              have : 0 < p.length := List.length_pos_iff.2 he
              have := HX.out.1
              omega
            by_cases hn1 : 1 < S ∧ p.getD 0 0 = 48
            · have hS1 : (1 : Int) < (S : Int) := by omega
              have hm48 : ((m : Int) == 48) = true := by rw [HX.out.2.1, hn1.2]; rfl
              have hno : Hid (R = none) := by
                show _ = _
                rw [← HR.out, hov.out, if_pos (.inr hn1)]
                rfl
              clear hem he hn1
              go_wp2_with (first
                | (go_at_call 191; with_reducible refine HV.out.mono ?_; rintro e w7 ⟨rfl, rfl⟩)
                | ((with_reducible show wpList _ _ _ (⟨some 51, .build _ _, _, _, _, _⟩ :: _) _ _); refine wp_build0 _ rfl 210 rfl _ (build67 _) ?_; simp only [Act.put, List.setIfInBounds_toArray, List.set_cons_zero, List.set_cons_succ])
                | ((with_reducible show wpList _ _ _ (⟨none, .store 210 (.tmp 2) _, _, _, _, _⟩ :: _) _ _); refine wp_putAll _ rfl 210 (.tmp 2) (.tmp 51) rfl g2 210 _ (vhs [0, 0]) rfl rfl HBr.out rfl size67 (Hs_one _) ?_; intro w9 B9 U9; simp only [Act.put]))
              refine ret_cell2 2 3 210 rfl g2 (vhs [0, 0]) _ rfl B9.whole Tryz.underlying210 rfl size67 rfl (.bool false) rfl ⟨?_, ?_⟩
              · rw [hno.out]
                rfl
              · exact HKr.out.base (U9.below (Nat.le_of_eq hg2.out.symm))
            · have hov2 : Hid (oct p = if x ≤ 255 then some x else none) := by
                show _ = _
                rw [hov.out, if_neg (by rintro (h | h); (· exact he h); exact hn1 h)]
              clear hov
              by_cases hx255 : x ≤ 255
              · have hxb : ¬ (255 : Int) < (x : Int) := by omega
                have hst := HUp.out.2.2.step hlt hx255
                obtain ⟨h, hh⟩ : ∃ h, h = k / 2 := ⟨_, rfl⟩
                have hq : ((k : Int).tdiv 2) = (h : Int) := by rw [hh]; rfl
                have hh2 : h < 2 := by omega
                have hget := HUp.out.2.1.cell (vhs_at xs h (by rw [HUp.out.2.2.len]; exact hh2))
                have hfr := HUp.out.2.1.frozen h
                obtain ⟨y, hy⟩ : ∃ y, y = xs.getD h 0 := ⟨_, rfl⟩
                rw [← hh] at hst
                rw [← hy] at hget hst
                have hy9 := hst.2
                have hw1 : IntKind.u16.wrap ((y : Int) * 256) = ((y * 256 : Nat) : Int) := by rw [IntKind.wrap_u16]; omega
                have hw2 : IntKind.u16.wrap (x : Int) = (x : Int) := by rw [IntKind.wrap_u16]; omega
                have hor := orH y x hy9 hx255
                obtain ⟨q, hq'⟩ : ∃ q, q = y * 256 := ⟨_, rfl⟩
                obtain ⟨z, hz⟩ : ∃ z, z = y * 256 + x := ⟨_, rfl⟩
                rw [← hq'] at hw1
                rw [← hz, ← hq'] at hor
                have HZ := Lib.hid (And.intro hst.1 (And.intro hh (And.intro hy hz)))
                have hyes : Hid (fo (k + 1) (stp k xs x) (P.drop (k + 1)) = R) := by
                  show _ = _
                  rw [← HR.out, hov2.out, if_pos hx255]
                  rfl
                have hnext : Hid (∀ k', k' = k + 1 → Upd g5 w5 (wr.setCell ⟨g5, h, none⟩ (.int .u16 (z : Int))) ∧ Blk (wr.setCell ⟨g5, h, none⟩ (.int .u16 (z : Int))) g5 210 (vhs (stp k xs x))) := fun k' _ => by
                  refine ⟨HUp.out.1.trans (Upd.setCell _ _ _ _), ?_⟩
                  have h1 := HUp.out.2.1.set h (.int .u16 (z : Int))
                  rw [vhs_set] at h1
                  rw [stp, ← HZ.out.2.1, ← HZ.out.2.2.1, ← HZ.out.2.2.2]
                  exact h1
                by_cases hS1' : 1 < S
                · have hS1 : (1 : Int) < (S : Int) := by omega
                  have hm48 : ((m : Int) == 48) = false := by
                    have : m ≠ 48 := fun e => hn1 ⟨hS1', UInt8.toNat_inj.1 (by rw [← HX.out.2.1, e]; rfl)⟩
                    simp
                    omega
                  clear hem he hn1 hst hh hy hq' hz hov2 hblk htwo HUp HR
                  go_wp2_with (first
                    | (go_at_call 191; with_reducible refine HV.out.mono ?_; rintro e w7 ⟨rfl, rfl⟩))
                  go_roundw
                  case rel => exact ⟨k + 1, stp k xs x, by omega, by go_num, (hnext.out _ rfl).1, (hnext.out _ rfl).2, HZ.out.1, hyes.out⟩
                  case measure => simp [intOf]; omega
                · have hS1 : ¬ (1 : Int) < (S : Int) := by omega
                  clear hem he hn1 hst hh hy hq' hz hov2 hblk htwo HUp HR
                  go_wp2_with (first
                    | (go_at_call 191; with_reducible refine HV.out.mono ?_; rintro e w7 ⟨rfl, rfl⟩))
                  go_roundw
                  case rel => exact ⟨k + 1, stp k xs x, by omega, by go_num, (hnext.out _ rfl).1, (hnext.out _ rfl).2, HZ.out.1, hyes.out⟩
                  case measure => simp [intOf]; omega
              · have hxb : (255 : Int) < (x : Int) := by omega
                have hno : Hid (R = none) := by
                  show _ = _
                  rw [← HR.out, hov2.out, if_neg hx255]
                  rfl
                by_cases hS1' : 1 < S
                · have hS1 : (1 : Int) < (S : Int) := by omega
                  have hm48 : ((m : Int) == 48) = false := by
                    have : m ≠ 48 := fun e => hn1 ⟨hS1', UInt8.toNat_inj.1 (by rw [← HX.out.2.1, e]; rfl)⟩
                    simp
                    omega
                  clear hem he hn1 hov2
                  go_wp2_with (first
                    | (go_at_call 191; with_reducible refine HV.out.mono ?_; rintro e w7 ⟨rfl, rfl⟩)
                    | ((with_reducible show wpList _ _ _ (⟨some 51, .build _ _, _, _, _, _⟩ :: _) _ _); refine wp_build0 _ rfl 210 rfl _ (build67 _) ?_; simp only [Act.put, List.setIfInBounds_toArray, List.set_cons_zero, List.set_cons_succ])
                    | ((with_reducible show wpList _ _ _ (⟨none, .store 210 (.tmp 2) _, _, _, _, _⟩ :: _) _ _); refine wp_putAll _ rfl 210 (.tmp 2) (.tmp 51) rfl g2 210 _ (vhs [0, 0]) rfl rfl HBr.out rfl size67 (Hs_one _) ?_; intro w9 B9 U9; simp only [Act.put]))
                  refine ret_cell2 2 3 210 rfl g2 (vhs [0, 0]) _ rfl B9.whole Tryz.underlying210 rfl size67 rfl (.bool false) rfl ⟨?_, ?_⟩
                  · rw [hno.out]
                    rfl
                  · exact HKr.out.base (U9.below (Nat.le_of_eq hg2.out.symm))
                · have hS1 : ¬ (1 : Int) < (S : Int) := by omega
                  clear hem he hn1 hov2
                  go_wp2_with (first
                    | (go_at_call 191; with_reducible refine HV.out.mono ?_; rintro e w7 ⟨rfl, rfl⟩)
                    | ((with_reducible show wpList _ _ _ (⟨some 51, .build _ _, _, _, _, _⟩ :: _) _ _); refine wp_build0 _ rfl 210 rfl _ (build67 _) ?_; simp only [Act.put, List.setIfInBounds_toArray, List.set_cons_zero, List.set_cons_succ])
                    | ((with_reducible show wpList _ _ _ (⟨none, .store 210 (.tmp 2) _, _, _, _, _⟩ :: _) _ _); refine wp_putAll _ rfl 210 (.tmp 2) (.tmp 51) rfl g2 210 _ (vhs [0, 0]) rfl rfl HBr.out rfl size67 (Hs_one _) ?_; intro w9 B9 U9; simp only [Act.put]))
                  refine ret_cell2 2 3 210 rfl g2 (vhs [0, 0]) _ rfl B9.whole Tryz.underlying210 rfl size67 rfl (.bool false) rfl ⟨?_, ?_⟩
                  · rw [hno.out]
                    rfl
                  · exact HKr.out.base (U9.below (Nat.le_of_eq hg2.out.symm))
      · have hk' : Hid (k = 4) := by show k = 4; omega
        have hki : ¬ (k : Int) < (n : Int) := by omega
        have hyes : Hid (R = some xs) := by
          show _ = _
          rw [← hR, hk'.out, List.drop_eq_nil_of_le (by rw [← HN.out]; omega)]
          rfl
        have htl := htwo.len
        have hs67 := Lib.hid (size67' xs htl)
        have hsl : Hid ((vhs xs).length = (vhs [0, 0]).length) := by show _ = _; rw [Hs_len, htl]; rfl
        have hrg := Lib.hid hblk.whole
        clear hk hlt hR hpr hbw
        go_wp2_with (first
          | ((with_reducible show wpList _ _ _ (⟨some 64, .load 210 _, _, _, _, _⟩ :: _) _ _); refine wp_get _ rfl 210 (.tmp 5) rfl g5 0 (vhs xs) _ rfl hrg.out Tryz.underlying210 rfl hs67.out ?_; simp only [Act.put, List.setIfInBounds_toArray, List.set_cons_zero, List.set_cons_succ])
          | ((with_reducible show wpList _ _ _ (⟨none, .store 210 (.tmp 2) _, _, _, _, _⟩ :: _) _ _); refine wp_putAll _ rfl 210 (.tmp 2) (.tmp 64) rfl g2 210 _ (vhs xs) rfl rfl HBr.out hsl.out hs67.out (Hs_one _) ?_; intro w9 B9 U9; simp only [Act.put]))
        refine ret_cell2 2 3 210 rfl g2 (vhs xs) _ rfl B9.whole Tryz.underlying210 rfl hs67.out rfl (.bool true) rfl ⟨?_, ?_⟩
        · rw [hyes.out]
          rfl
        · exact HKr.out.base (U9.below (Nat.le_of_eq hg2.out.symm))
  · have hni : ((n : Int) != 4) = true := by simp; omega
    have hF2 : Hid (R = none) := by show _ = _; rw [hF.out, if_neg h4]
    clear hF
    go_enter Tryz.func184, Tryz.ntmps184
    go_wp2_with (first
    | ((with_reducible show wpList _ _ _ (⟨some 2, .alloc _, _, _, _, _⟩ :: _) _ _); refine wp_new _ rfl 210 rfl _ type67 ?_; intro w1 g2 B1 F1; simp only [Act.put, List.setIfInBounds_toArray, List.set_cons_zero, List.set_cons_succ]; have HM := len_of (HT.out.kept F1.below); have hk1 := kept_of F1.below)
    | (go_at_call 94; with_reducible refine (HS.out w1 HM).mono ?_; rintro e w3 ⟨rfl, hps, hb3⟩; have hk3 := hk1.step hb3; have B3 := B1.kept hb3; have HP := Lib.hid hps; clear hps)
    | ((with_reducible show wpList _ _ _ (⟨some 16, .build _ _, _, _, _, _⟩ :: _) _ _); refine wp_build0 _ rfl 210 rfl _ (build67 _) ?_; simp only [Act.put, List.setIfInBounds_toArray, List.set_cons_zero, List.set_cons_succ])
    | ((with_reducible show wpList _ _ _ (⟨none, .store 210 (.tmp 2) _, _, _, _, _⟩ :: _) _ _); refine wp_putAll _ rfl 210 (.tmp 2) (.tmp 16) rfl g2 210 _ (vhs [0, 0]) rfl rfl B3 rfl size67 (Hs_one _) ?_; intro w9 B9 U9; simp only [Act.put]))
    refine ret_cell2 2 3 210 rfl g2 (vhs [0, 0]) _ rfl B9.whole Tryz.underlying210 rfl size67 rfl (.bool false) rfl ⟨?_, ?_⟩
    · rw [hF2.out]
      rfl
    · exact hk3.base (U9.below (by rw [F1.is]; exact Nat.le_refl _))

end Go.Proofs.YtcepigekibidfaaGreatDoor
namespace Go.Proofs.YtcepigekibidfaaGreatDoor
open Go.RowKit

/-- The pieces of texts; at the end (e) four numbers may stand for two. -/
def pcl (e : Bool) : List (List UInt8) → Option (List Nat)
  | [] => some []
  | [p] => if e && p.contains 46 then four p else (pc p).map fun n => [n]
  | p :: q :: r => (pc p).bind fun n => (pcl e (q :: r)).map fun t => n :: t
def pcs (e : Bool) (l : List UInt8) : Option (List Nat) := if l = [] then some [] else pcl e (spl 58 l)
/-- What host.pieces leaves. -/
def Pco (R : Option (List Nat)) (w : World) (e : Ending) (w' : World) : Prop :=
  match R with
  | some r => ∃ A c, e = .returned (.tuple #[.slice A r.length c, .bool true]) ∧ r.length ≤ c ∧ Hs w' w'.heap.size A r.length r ∧ Below w.heap.size w w'
  | none => ∃ v, e = .returned (.tuple #[v, .bool false]) ∧ Below w.heap.size w w'
theorem pcl_more (e : Bool) (p q : List UInt8) (r : List (List UInt8)) (n : Nat) (h : pc p = some n) : pcl e (p :: q :: r) = (pcl e (q :: r)).map fun t => n :: t := by simp [pcl, h]
theorem pcl_stop (e : Bool) (p q : List UInt8) (r : List (List UInt8)) (h : pc p = none) : pcl e (p :: q :: r) = none := by simp [pcl, h]
theorem pcl_last (e : Bool) (p : List UInt8) (h : (e && p.contains 46) = false) : pcl e [p] = (pc p).map fun n => [n] := by simp only [pcl, h]; simp
theorem pcl_four (e : Bool) (p : List UInt8) (h : (e && p.contains 46) = true) : pcl e [p] = four p := by simp only [pcl, h]; simp
theorem pcl_len (e : Bool) : ∀ (ps : List (List UInt8)) (r : List Nat), pcl e ps = some r → r.length ≤ ps.length + 1 ∧ ∀ x ∈ r, x < 65536
  | [], r, h => by
    simp [pcl] at h
    subst h
    simp
  | [p], r, h => by
    rw [pcl] at h
    split at h
    · obtain ⟨h1, h2⟩ := four_two p r h
      exact ⟨by simp [h1], h2⟩
    · cases hp : pc p with
      | none => simp [hp] at h
      | some n =>
        simp [hp] at h
        subst h
        have := pc_lt p n hp
        simp [this]
  | p :: q :: r', r, h => by
    cases hp : pc p with
    | none => simp [pcl, hp] at h
    | some n =>
      rw [pcl_more e p q r' n hp] at h
      cases ht : pcl e (q :: r') with
      | none => simp [ht] at h
      | some t =>
        simp [ht] at h
        subst h
        obtain ⟨h1, h2⟩ := pcl_len e (q :: r') t ht
        have := pc_lt p n hp
        refine ⟨by simp at h1 ⊢; omega, fun x hx => ?_⟩
        rcases List.mem_cons.1 hx with hx | hx
        · omega
        · exact h2 x hx
theorem pcs_len (e : Bool) (l : List UInt8) (r : List Nat) (h : pcs e l = some r) : r.length ≤ l.length + 2 ∧ ∀ x ∈ r, x < 65536 := by
  unfold pcs at h
  split at h
  · simp at h
    subst h
    simp
  · obtain ⟨h1, h2⟩ := pcl_len e _ r h
    have h3 := spl_length 58 l
    have h4 : l.count 58 ≤ l.length := List.count_le_length
    exact ⟨by omega, h2⟩
theorem dot_any (p : List UInt8) (w : World) : Calls Tryz.prog 61 #[.string (str p), .string ⟨#[46]⟩] w fun e w' => e = .returned (.bool (p.contains 46)) ∧ w' = w := by
  have h := Tryz.strings_Contains_one (str p) 46 w
  have e : decide (0 ≤ Lib.indexByte (str p).data.toList 46) = p.contains 46 := indexByte_iff 46 p
  rw [e] at h
  exact h
theorem vstr_at (ps : List (List UInt8)) (k : Nat) (p : List UInt8) (h : ps[k]? = some p) : (ps.map vstr)[k]? = some (.string (str p)) := by
  rw [List.getElem?_map, h]
  rfl
theorem split_blk (c : UInt8) (l : List UInt8) (w : World) (hl : l.length ≤ 100000000) (hm : ∃ m, w.cell? ⟨0, 0, none⟩ = some (.int .i64 m)) :
    Calls Tryz.prog 94 #[.string (str l), .string ⟨#[c]⟩] w fun e w' => e = .returned (.slice (some ⟨w.heap.size, 0, none⟩) (spl c l).length (spl c l).length) ∧ Blk w' w.heap.size 9 ((spl c l).map vstr) ∧ Below w.heap.size w w' := by
  obtain ⟨m, hm⟩ := hm
  refine (Tryz.strings_Split (str l) ⟨#[c]⟩ m w (by rw [str_size]; omega) hm (Nat.le_refl 1)).mono ?_
  rintro e w' ⟨rfl, rfl⟩
  rw [countB_spl, splitB_spl, List.map_map]
  exact ⟨rfl, Blk.new w 9 _, (Below.refl _ _).alloc (Nat.le_refl _) _⟩
theorem Hs.empty (w : World) (B : Nat) (A : Option Addr) : Hs w B A 0 [] := ⟨rfl, fun h => absurd h (by omega)⟩

set_option maxHeartbeats 8000000 in
set_option maxRecDepth 100000 in
theorem pieces_any (l : List UInt8) (e : Bool) (w : World) (hl : l.length ≤ 10000000) (ht : Tabs w) : Calls Tryz.prog 151 #[.string (str l), .bool e] w fun x w' => Pco (pcs e l) w x w' := by
  have HT := Lib.hid ht
  clear ht
  have hem := str_empty l
  by_cases he : l = []
  · have hem2 : (str l).toList.isEmpty = true := by rw [hem]; simp [he]
    have hR : Hid (pcs e l = some []) := by show _ = _; unfold pcs; rw [if_pos he]
    clear hem he
    go_enter Tryz.func151, Tryz.ntmps151
    go_wp2_with fail
    go_ret2
    rw [hR.out]
    exact ⟨none, 0, rfl, Nat.le_refl _, Hs.empty _ _ _, Below.refl _ _⟩
  · have hem2 : (str l).toList.isEmpty = false := by rw [hem]; simp [he]
    have hR : pcs e l = pcl e (spl 58 l) := by unfold pcs; rw [if_neg he]
    have HS : Hid (∀ w, (∃ m, w.cell? ⟨0, 0, none⟩ = some (.int .i64 m)) → Calls Tryz.prog 94 #[.string (str l), .string ⟨#[58]⟩] w fun e w' => e = .returned (.slice (some ⟨w.heap.size, 0, none⟩) (spl 58 l).length (spl 58 l).length) ∧ Blk w' w.heap.size 9 ((spl 58 l).map vstr) ∧ Below w.heap.size w w') := fun w hm => split_blk 58 l w (by omega) hm
    have hmem : Hid (∀ p ∈ spl 58 l, p.length ≤ 10000000) := fun p hp => Nat.le_trans (spl_mem 58 l p hp).2.1 hl
    have hsz : (spl 58 l).length ≤ 10000001 := by rw [spl_length]; have : l.count 58 ≤ l.length := List.count_le_length; omega
    have hne := spl_ne 58 l
    obtain ⟨P, hP⟩ : ∃ P, P = spl 58 l := ⟨_, rfl⟩
    obtain ⟨R, hR'⟩ : ∃ R, R = pcs e l := ⟨_, rfl⟩
    rw [← hP] at HS hmem hsz hR hne
    rw [← hR'] at hR ⊢
    obtain ⟨k0, hk0⟩ : ∃ k, P.length = k + 1 := ⟨P.length - 1, by have := List.length_pos_iff.2 hne; omega⟩
    rw [hk0] at HS hsz
    have HK := Lib.hid hk0
    have HR0 := Lib.hid hR
    have hki0 : (k0 : Int) + 1 - 1 = (k0 : Int) := by omega
    clear hP hR' hR he hem hne hk0
    go_enter Tryz.func151, Tryz.ntmps151
    go_wp2_with (first
      | (go_at_call 94; with_reducible refine (HS.out _ (len_of (HT.out.kp ((Kept.refl w).alloc _)))).mono ?_; rintro x w3 ⟨rfl, hps, hb3⟩; have hb3 := Lib.hid hb3; have HPt := Lib.hid hps; clear hps))
    have hk3 : Kept w w3 := ((Kept.refl w).alloc _).step hb3.out
    have hown3 : OwnH w3 w.heap.size _ 0 [] := (ownH_empty w w.heap.size (Nat.le_refl _)).kept hb3.out
    have hPs : Hid (∃ B3 : Blk w3 (w.heap.size + 1) 9 (P.map vstr), True) := ⟨by have := HPt.out; simpa using this, trivial⟩
    obtain ⟨HB3, _⟩ := hPs.out
    have HB3 := Lib.hid HB3
    clear hPs HS HPt
    obtain ⟨tb, htb⟩ : ∃ tb, tb = w.heap.size + 1 := ⟨_, rfl⟩
    rw [← htb] at HB3 ⊢
    clear htb
    go_loopw [21, 6] (fun i v wr => ∃ (k : Nat) (L : List Nat), k ≤ k0 + 1 ∧ i = .int .i64 (k : Int) ∧ L.length = k ∧ Kept w wr ∧ Blk wr tb 9 (P.map vstr) ∧ OwnH wr w.heap.size v L.length L ∧ (pcl e (P.drop k)).map (fun t => L ++ t) = R) (fun i _ _ => k0 + 1 - (intOf i).toNat)
    case atStart => exact ⟨0, [], by omega, rfl, rfl, hk3, HB3.out, hown3, by rw [HR0.out]; simp⟩
    case round =>
      obtain ⟨k, L, hk, rfl, hLk, hkp, hbk, hown, hR⟩ := hrel
      clear hown3 hk3 HR0 HB3
      rw [hLk] at hown
      have hkz := hkp.size
      have HBk := Lib.hid hbk
      clear hbk
      by_cases hlt : k < k0 + 1
      · have hki : (k : Int) < (k0 : Int) + 1 := by omega
        obtain ⟨p, hp⟩ : ∃ p, P[k]? = some p := ⟨_, List.getElem?_eq_getElem (by rw [HK.out]; exact hlt)⟩
        have hcell := HBk.out.cell (vstr_at P k p hp)
        have hpl := hmem.out p (List.mem_of_getElem? hp)
        have HPc := piece_any p wr (by omega)
        unfold pcV at HPc
        have hdrop : P.drop k = p :: P.drop (k + 1) := by
          have hk' : k < P.length := by rw [HK.out]; exact hlt
          rw [List.drop_eq_getElem_cons hk']
          congr 1
          rw [List.getElem?_eq_getElem hk'] at hp
          exact Option.some.inj hp
        rw [hdrop] at hR
        have hkn : k < k0 + 1 := hlt
        by_cases hlast : k = k0
        · have hke : ((k : Int) == (k0 : Int)) = true := by simp; omega
          have hd2 : P.drop (k + 1) = [] := List.drop_eq_nil_of_le (by rw [HK.out]; omega)
          rw [hd2] at hR
          cases hdot : (e && p.contains 46) with
          | true =>
            rw [pcl_four e p hdot] at hR
            have he : e = true := by cases e <;> simp_all
            have hc : p.contains 46 = true := by cases e <;> simp_all
            subst he
            have HD := dot_any p wr
            rw [hc] at HD
            have HDt := Lib.hid HD
            have HF := fourNumbers_any p wr (by omega) (HT.out.kp hkp)
            unfold fourV at HF
            obtain ⟨o, ho⟩ : ∃ o, o = four p := ⟨_, rfl⟩
            have ho2 : (o.getD [0, 0]).length = 2 := by
              cases o with
              | none => rfl
              | some r => exact (four_two p r ho.symm).1
            rw [← ho] at HF hR
            obtain ⟨xs, hxs⟩ : ∃ xs, xs = o.getD [0, 0] := ⟨_, rfl⟩
            obtain ⟨b, hb⟩ : ∃ b, b = o.isSome := ⟨_, rfl⟩
            rw [← hxs, ← hb] at HF
            rw [← hxs] at ho2
            have HF4 := Lib.hid HF
            have HR := Lib.hid (And.intro hR (And.intro hxs hb))
            have hs67 := Lib.hid (size67' xs ho2)
            have hsl : Hid ((vhs xs).length = (vhs [0, 0]).length) := by show _ = _; rw [Hs_len, ho2]; rfl
            obtain ⟨x0, x1, hx01⟩ : ∃ x0 x1, xs = [x0, x1] := by
              match xs, ho2 with
              | [x0, x1], _ => exact ⟨x0, x1, rfl⟩
            have hg0 : ∀ {w' : World} {g : Nat}, Blk w' g 210 (vhs xs) → w'.cell? ⟨g, 0, none⟩ = some (.int .u16 (x0 : Int)) := fun hB => hB.cell (by rw [hx01]; rfl)
            have hg1 : ∀ {w' : World} {g : Nat}, Blk w' g 210 (vhs xs) → w'.cell? ⟨g, 1, none⟩ = some (.int .u16 (x1 : Int)) := fun hB => hB.cell (by rw [hx01]; rfl)
            have HG := Lib.hid (And.intro @hg0 @hg1)
            have hlit : Hid (∀ w' : World, Hs (w'.alloc (.cells #[.int .u16 (x0 : Int), .int .u16 (x1 : Int)] 61)) (w'.heap.size + 1) (some ⟨w'.heap.size, 0, none⟩) 2 xs) := fun w' => Hs.lit w' xs _ (by rw [hx01]; rfl) 2 ho2
            have HLa := Lib.hid hlast
            clear hlast hdrop hd2 hdot hc HD HF ho hxs hb ho2 hR hp HPc hg0 hg1 hx01
            go_wp2_with (first
              | (go_at_call 61; with_reducible refine HDt.out.mono ?_; rintro x w4 ⟨rfl, rfl⟩)
              | (go_at_call 184; with_reducible refine HF4.out.mono ?_; rintro x w5 ⟨rfl, hb5⟩; have hkp5 := hkp.step hb5; have hown5 := hown.kept hb5; clear hb5)
              | ((with_reducible show wpList _ _ _ (⟨some 10, .alloc _, _, _, _, _⟩ :: _) _ _); refine wp_new _ rfl 210 rfl _ type67 ?_; intro w6 g6 B6 F6; simp only [Act.put, List.setIfInBounds_toArray, List.set_cons_zero, List.set_cons_succ]; have hkp6 := hkp5.step F6.below; have hown6 := hown5.kept F6.below)
              | ((with_reducible show wpList _ _ _ (⟨none, .store 210 (.tmp 10) _, _, _, _, _⟩ :: _) _ _); refine wp_putAll _ rfl 210 (.tmp 10) (.tmp 41) rfl g6 210 _ (vhs xs) rfl rfl B6 hsl.out hs67.out (Hs_one _) ?_; intro w7 B7 U7; simp only [Act.put]; have c0 := HG.out.1 B7; have c1 := HG.out.2 B7; have hb67 := U7.below (Nat.le_of_eq F6.is.symm); have hown7 := (hown5.kept (F6.below.trans hb67)); have hkp7 := hkp5.step (F6.below.trans hb67); have hz7 := hkp7.size; clear hb67)
              | (at_builtin; refine wp_appH _ rfl (.tmp 43) (.tmp 48) rfl w.heap.size _ k L rfl (hown7.alloc _) _ _ 2 2 xs rfl (hlit.out _) (by omega) (by simp; omega) (k + 2) (L ++ xs) rfl rfl ?_; intro A8 c8 w8 hc8 hs8 hown8 hb8 hkb8))
            go_ret2
            have hkp8 : Kept w w8 := hkp7.base (((Below.refl _ _).alloc hz7 _).trans hb8)
            have hR := HR.out.1
            rw [HR.out.2.2]
            rw [HR.out.2.1] at hs8
            cases o with
            | none =>
              rw [← hR]
              exact ⟨_, rfl, hkp8⟩
            | some r =>
              rw [← hR]
              have hlen : (L ++ r).length = k + 2 := hs8.1
              show ∃ A c, _ ∧ _
              rw [hlen]
              exact ⟨_, _, rfl, hc8, hs8, hkp8⟩
          | false =>
            rw [pcl_last e p hdot] at hR
            have hstop : pc p = none → R = none := fun h => by rw [← hR, h]; rfl
            have hgo : ∀ n, pc p = some n → (pcl e (P.drop (k + 1))).map (fun t => (L ++ [n]) ++ t) = R := fun n h => by rw [← hR, h, hd2]; simp [pcl]
            have HDt := dot_any p wr
            cases e with
            | true =>
              have hc : p.contains 46 = false := by simpa using hdot
              rw [hc] at HDt
              have HDt := Lib.hid HDt
              have HLa := Lib.hid hlast
              clear hlast hdrop hd2 hdot hc hR hp
              cases hpc : pc p with
              | none =>
                have hno := Lib.hid (hstop hpc)
                rw [hpc] at HPc
                have HPc2 : Hid (Calls Tryz.prog 185 #[.string (str p)] wr fun e w' => e = .returned (.tuple #[.int .u16 0, .bool false]) ∧ w' = wr) := HPc
                clear hpc HPc hstop hgo
                go_wp2_with (first
                  | (go_at_call 61; with_reducible refine HDt.out.mono ?_; rintro x w4 ⟨rfl, rfl⟩)
                  | (go_at_call 185; with_reducible refine HPc2.out.mono ?_; rintro x w5 ⟨rfl, rfl⟩))
                go_ret2
                rw [hno.out]
                exact ⟨_, rfl, hkp⟩
              | some n =>
                have hyes := Lib.hid (hgo n hpc)
                rw [hpc] at HPc
                have HPc2 : Hid (Calls Tryz.prog 185 #[.string (str p)] wr fun e w' => e = .returned (.tuple #[.int .u16 (n : Int), .bool true]) ∧ w' = wr) := HPc
                clear hpc HPc hstop hgo
                go_wp2_with (first
                  | (go_at_call 61; with_reducible refine HDt.out.mono ?_; rintro x w4 ⟨rfl, rfl⟩)
                  | (go_at_call 185; with_reducible refine HPc2.out.mono ?_; rintro x w5 ⟨rfl, rfl⟩)
                  | (at_builtin; refine wp_appH _ rfl (.tmp 58) (.tmp 60) rfl w.heap.size _ k L rfl (hown.alloc _) _ _ 1 1 [n] rfl (Hs.lit _ [n] _ rfl 1 rfl) (by omega) (by simp; omega) (k + 1) (L ++ [n]) rfl rfl ?_; intro A8 c8 w8 hc8 hs8 hown8 hb8 hkb8))
                go_roundw
                case rel =>
                  refine ⟨k + 1, L ++ [n], by omega, by go_num, by simp [hLk], hkp.base (((Below.refl _ _).alloc hkz _).trans hb8), (HBk.out.alloc _).but hkb8 (by decide), ?_, hyes.out⟩
                  rw [show (L ++ [n]).length = k + 1 by simp [hLk]]
                  exact hown8
                case measure => simp [intOf]; omega
            | false =>
              have HDt := Lib.hid HDt
              have HLa := Lib.hid hlast
              clear hlast hdrop hd2 hdot hR hp
              cases hpc : pc p with
              | none =>
                have hno := Lib.hid (hstop hpc)
                rw [hpc] at HPc
                have HPc2 : Hid (Calls Tryz.prog 185 #[.string (str p)] wr fun e w' => e = .returned (.tuple #[.int .u16 0, .bool false]) ∧ w' = wr) := HPc
                clear hpc HPc hstop hgo
                go_wp2_with (first
                  | (go_at_call 61; with_reducible refine HDt.out.mono ?_; rintro x w4 ⟨rfl, rfl⟩)
                  | (go_at_call 185; with_reducible refine HPc2.out.mono ?_; rintro x w5 ⟨rfl, rfl⟩))
                go_ret2
                rw [hno.out]
                exact ⟨_, rfl, hkp⟩
              | some n =>
                have hyes := Lib.hid (hgo n hpc)
                rw [hpc] at HPc
                have HPc2 : Hid (Calls Tryz.prog 185 #[.string (str p)] wr fun e w' => e = .returned (.tuple #[.int .u16 (n : Int), .bool true]) ∧ w' = wr) := HPc
                clear hpc HPc hstop hgo
                go_wp2_with (first
                  | (go_at_call 61; with_reducible refine HDt.out.mono ?_; rintro x w4 ⟨rfl, rfl⟩)
                  | (go_at_call 185; with_reducible refine HPc2.out.mono ?_; rintro x w5 ⟨rfl, rfl⟩)
                  | (at_builtin; refine wp_appH _ rfl (.tmp 58) (.tmp 60) rfl w.heap.size _ k L rfl (hown.alloc _) _ _ 1 1 [n] rfl (Hs.lit _ [n] _ rfl 1 rfl) (by omega) (by simp; omega) (k + 1) (L ++ [n]) rfl rfl ?_; intro A8 c8 w8 hc8 hs8 hown8 hb8 hkb8))
                go_roundw
                case rel =>
                  refine ⟨k + 1, L ++ [n], by omega, by go_num, by simp [hLk], hkp.base (((Below.refl _ _).alloc hkz _).trans hb8), (HBk.out.alloc _).but hkb8 (by decide), ?_, hyes.out⟩
                  rw [show (L ++ [n]).length = k + 1 by simp [hLk]]
                  exact hown8
                case measure => simp [intOf]; omega
        · have hke : ((k : Int) == (k0 : Int)) = false := by simp; omega
          obtain ⟨q2, r2, hqr⟩ : ∃ q r, P.drop (k + 1) = q :: r := by
            match hd : P.drop (k + 1) with
            | [] =>
              have := congrArg List.length hd
              rw [List.length_drop, HK.out] at this
              simp at this
              omega
            | q :: r => exact ⟨q, r, rfl⟩
          rw [hqr] at hR
          have hstop : pc p = none → R = none := fun h => by rw [← hR, pcl_stop e p q2 r2 h]; rfl
          have hgo : ∀ n, pc p = some n → (pcl e (P.drop (k + 1))).map (fun t => (L ++ [n]) ++ t) = R := fun n h => by
            rw [← hR, pcl_more e p q2 r2 n h, hqr, Option.map_map]
            congr 1
            funext t
            simp
          have HDt := Lib.hid (dot_any p wr)
          cases e with
          | true =>
            clear hdrop hqr hR hp
            cases hpc : pc p with
            | none =>
              have hno := Lib.hid (hstop hpc)
              rw [hpc] at HPc
              have HPc2 : Hid (Calls Tryz.prog 185 #[.string (str p)] wr fun e w' => e = .returned (.tuple #[.int .u16 0, .bool false]) ∧ w' = wr) := HPc
              clear hpc HPc hstop hgo
              go_wp2_with (first
                | (go_at_call 61; with_reducible refine HDt.out.mono ?_; rintro x w4 ⟨rfl, rfl⟩)
                | (go_at_call 185; with_reducible refine HPc2.out.mono ?_; rintro x w5 ⟨rfl, rfl⟩))
              go_ret2
              rw [hno.out]
              exact ⟨_, rfl, hkp⟩
            | some n =>
              have hyes := Lib.hid (hgo n hpc)
              rw [hpc] at HPc
              have HPc2 : Hid (Calls Tryz.prog 185 #[.string (str p)] wr fun e w' => e = .returned (.tuple #[.int .u16 (n : Int), .bool true]) ∧ w' = wr) := HPc
              clear hpc HPc hstop hgo
              go_wp2_with (first
                | (go_at_call 61; with_reducible refine HDt.out.mono ?_; rintro x w4 ⟨rfl, rfl⟩)
                | (go_at_call 185; with_reducible refine HPc2.out.mono ?_; rintro x w5 ⟨rfl, rfl⟩)
                | (at_builtin; refine wp_appH _ rfl (.tmp 58) (.tmp 60) rfl w.heap.size _ k L rfl (hown.alloc _) _ _ 1 1 [n] rfl (Hs.lit _ [n] _ rfl 1 rfl) (by omega) (by simp; omega) (k + 1) (L ++ [n]) rfl rfl ?_; intro A8 c8 w8 hc8 hs8 hown8 hb8 hkb8))
              go_roundw
              case rel =>
                refine ⟨k + 1, L ++ [n], by omega, by go_num, by simp [hLk], hkp.base (((Below.refl _ _).alloc hkz _).trans hb8), (HBk.out.alloc _).but hkb8 (by decide), ?_, hyes.out⟩
                rw [show (L ++ [n]).length = k + 1 by simp [hLk]]
                exact hown8
              case measure => simp [intOf]; omega
          | false =>
            clear hdrop hqr hR hp
            cases hpc : pc p with
            | none =>
              have hno := Lib.hid (hstop hpc)
              rw [hpc] at HPc
              have HPc2 : Hid (Calls Tryz.prog 185 #[.string (str p)] wr fun e w' => e = .returned (.tuple #[.int .u16 0, .bool false]) ∧ w' = wr) := HPc
              clear hpc HPc hstop hgo
              go_wp2_with (first
                | (go_at_call 61; with_reducible refine HDt.out.mono ?_; rintro x w4 ⟨rfl, rfl⟩)
                | (go_at_call 185; with_reducible refine HPc2.out.mono ?_; rintro x w5 ⟨rfl, rfl⟩))
              go_ret2
              rw [hno.out]
              exact ⟨_, rfl, hkp⟩
            | some n =>
              have hyes := Lib.hid (hgo n hpc)
              rw [hpc] at HPc
              have HPc2 : Hid (Calls Tryz.prog 185 #[.string (str p)] wr fun e w' => e = .returned (.tuple #[.int .u16 (n : Int), .bool true]) ∧ w' = wr) := HPc
              clear hpc HPc hstop hgo
              go_wp2_with (first
                | (go_at_call 61; with_reducible refine HDt.out.mono ?_; rintro x w4 ⟨rfl, rfl⟩)
                | (go_at_call 185; with_reducible refine HPc2.out.mono ?_; rintro x w5 ⟨rfl, rfl⟩)
                | (at_builtin; refine wp_appH _ rfl (.tmp 58) (.tmp 60) rfl w.heap.size _ k L rfl (hown.alloc _) _ _ 1 1 [n] rfl (Hs.lit _ [n] _ rfl 1 rfl) (by omega) (by simp; omega) (k + 1) (L ++ [n]) rfl rfl ?_; intro A8 c8 w8 hc8 hs8 hown8 hb8 hkb8))
              go_roundw
              case rel =>
                refine ⟨k + 1, L ++ [n], by omega, by go_num, by simp [hLk], hkp.base (((Below.refl _ _).alloc hkz _).trans hb8), (HBk.out.alloc _).but hkb8 (by decide), ?_, hyes.out⟩
                rw [show (L ++ [n]).length = k + 1 by simp [hLk]]
                exact hown8
              case measure => simp [intOf]; omega
      · have hk' : Hid (k = k0 + 1) := by show _ = _; omega
        have hki : ¬ (k : Int) < (k0 : Int) + 1 := by omega
        clear hk hlt
        have HR := Lib.hid (And.intro hR hLk)
        clear hR hLk
        obtain ⟨A, cc, rfl, hcc, hs⟩ := hown.form
        go_wp2_with fail
        go_ret2
        have h1 := HR.out.1
        rw [hk'.out, List.drop_eq_nil_of_le (by rw [HK.out]; omega)] at h1
        simp [pcl] at h1
        rw [← h1, ← HR.out.2] at *
        exact ⟨_, _, rfl, hcc, hs, hkp⟩
end Go.Proofs.YtcepigekibidfaaGreatDoor
