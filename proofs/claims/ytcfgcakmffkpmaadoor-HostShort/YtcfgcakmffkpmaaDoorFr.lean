/-
  What host.fourNumbers answers; nothing that was there turns. Condition: texts of at most 100000000 bytes; the library's tables.
-/
import Derived.Test.YtcfgcakmffkpmaaDoorPc
namespace Go.Proofs.YtcfgcakmffkpmaaDoor
open Go.RowKit

/-- A number to base ten from 0 to 255, without noughts ahead. -/
def oct (p : List UInt8) : Option Nat := if p = [] ∨ (1 < p.length ∧ p.getD 0 0 = 48) then none else (val 10 0 p).bind fun n => if n ≤ 255 then some n else none
def stp (k : Nat) (xs : List Nat) (n : Nat) : List Nat := xs.set (k / 2) (xs.getD (k / 2) 0 * 256 + n)
def fo (k : Nat) (xs : List Nat) : List (List UInt8) → Option (List Nat)
  | [] => some xs
  | p :: r => (oct p).bind fun n => fo (k + 1) (stp k xs n) r
/-- The two pieces that four numbers with dots between tell. -/
def four (l : List UInt8) : Option (List Nat) := if (spl 46 l).length = 4 then fo 0 [0, 0] (spl 46 l) else none
def fourV (o : Option (List Nat)) : Value := .tuple #[.agg (vhs (o.getD [0, 0])).toArray, .bool o.isSome]

theorem type67 : (Tryd.prog.info? 67).map (fun i => i.zero) = some (some (.agg (vhs [0, 0]).toArray)) := by kernel_rfl
theorem size67 : (Tryd.prog.info? 67).map (·.size) = some 2 := by kernel_rfl
theorem size67' (xs : List Nat) (h : xs.length = 2) : (Tryd.prog.info? 67).map (·.size) = some (vhs xs).length := by rw [Hs_len, h]; exact size67
theorem size37 : (Tryd.prog.info? 37).map (·.size) = some 1 := by kernel_rfl
theorem build67 (w : World) : (Instr.build 67 #[]).run Tryd.prog w = .ok (.agg (vhs [0, 0]).toArray) w := by kernel_rfl
theorem vhs_at (xs : List Nat) (k : Nat) (h : k < xs.length) : (vhs xs)[k]? = some (.int .u16 ((xs.getD k 0 : Nat) : Int)) := by
  simp [vhs, vh, List.getD, List.getElem?_eq_getElem h]
theorem vhs_set (xs : List Nat) (k n : Nat) : (vhs xs).set k (.int .u16 (n : Int)) = vhs (xs.set k n) := by simp [vhs, vh, List.map_set]

/-- What holds of the two pieces behind k numbers. -/
structure Two (k : Nat) (xs : List Nat) : Prop where
  len : xs.length = 2
  lt : ∀ x ∈ xs, x < 65536
  odd : k % 2 = 1 → xs.getD (k / 2) 0 < 256
  rest : ∀ j, k ≤ 2 * j → xs.getD j 0 = 0
theorem Two.step {k n : Nat} {xs : List Nat} (h : Two k xs) (hk : k < 4) (hn : n ≤ 255) : Two (k + 1) (stp k xs n) ∧ xs.getD (k / 2) 0 < 256 := by
  have hx : xs.getD (k / 2) 0 < 256 := by
    rcases Nat.mod_two_eq_zero_or_one k with h0 | h0
    · rw [h.rest (k / 2) (by omega)]
      omega
    · exact h.odd h0
  refine ⟨⟨by simp [stp, h.len], ?_, ?_, ?_⟩, hx⟩
  · intro x hm
    rcases List.mem_or_eq_of_mem_set hm with hm | hm
    · exact h.lt x hm
    · omega
  · intro ho
    have e : (k + 1) / 2 = k / 2 := by omega
    rw [e, stp]
    have h0 : xs.getD (k / 2) 0 = 0 := h.rest (k / 2) (by omega)
    rw [h0]
    have hl : k / 2 < xs.length := by rw [h.len]; omega
    simp [List.getD, List.getElem?_set_self hl]
    omega
  · intro j hj
    have hne : k / 2 ≠ j := by omega
    have h0 := h.rest j (by omega)
    rw [List.getD_eq_getElem?_getD] at h0 ⊢
    rw [stp, List.getElem?_set_ne hne]
    exact h0
theorem fo_two (k : Nat) : ∀ (ps : List (List UInt8)) (xs r : List Nat), k + ps.length = 4 → Two k xs → fo k xs ps = some r → r.length = 2 ∧ ∀ x ∈ r, x < 65536 := by
  intro ps
  induction ps generalizing k with
  | nil =>
    intro xs r _ h e
    simp [fo] at e
    subst e
    exact ⟨h.len, h.lt⟩
  | cons p t ih =>
    intro xs r hl h e
    simp only [List.length_cons] at hl
    rw [fo] at e
    cases ho : oct p with
    | none => simp [ho] at e
    | some n =>
      have hn : n ≤ 255 := by
        unfold oct at ho
        split at ho
        · cases ho
        · cases hv : val 10 0 p with
          | none => simp [hv] at ho
          | some m =>
            simp [hv] at ho
            omega
      rw [ho] at e
      exact ih (k + 1) _ r (by omega) (h.step (by omega) hn).1 e
theorem two_start : Two 0 [0, 0] := ⟨rfl, by simp, by omega, by
  intro j _
  match j with
  | 0 => rfl
  | 1 => rfl
  | j + 2 => rfl⟩
theorem four_two (l : List UInt8) (r : List Nat) (h : four l = some r) : r.length = 2 ∧ ∀ x ∈ r, x < 65536 := by
  unfold four at h
  split at h
  · rename_i hl
    exact fo_two 0 _ _ r (by rw [hl]) two_start h
  · cases h
theorem orH (x n : Nat) (hx : x < 256) (hn : n ≤ 255) : bits .or .u16 ((x * 256 : Nat) : Int) (n : Int) = ((x * 256 + n : Nat) : Int) := by
  rw [u16_or_nat _ _ (by omega) (by omega)]
  congr 1
  rw [Nat.mul_comm x, ← Nat.two_pow_add_eq_or_of_lt (i := 8) (by omega) x]

theorem len_of {w : World} (h : Tabs w) : ∃ m, w.cell? ⟨0, 0, none⟩ = some (.int .i64 m) := h.here.len
theorem split_ex (c : UInt8) (l : List UInt8) (w : World) (hl : l.length ≤ 100000000) (hm : ∃ m, w.cell? ⟨0, 0, none⟩ = some (.int .i64 m)) :
    Calls Tryd.prog 38 #[.string (str l), .string ⟨#[c]⟩] w fun e w' => e = .returned (.slice (some ⟨w.heap.size, 0, none⟩) (spl c l).length (spl c l).length) ∧ Ps w' w.heap.size (spl c l) ∧ Below w.heap.size w w' := by
  obtain ⟨m, hm⟩ := hm
  exact split_one c l m w hl hm

set_option maxHeartbeats 8000000 in
set_option maxRecDepth 100000 in
theorem fourNumbers_any (l : List UInt8) (w : World) (hl : l.length ≤ 100000000) (ht : Tabs w) : Calls Tryd.prog 43 #[.string (str l)] w fun e w' => e = .returned (fourV (four l)) ∧ Below w.heap.size w w' := by
  have HT := Lib.hid ht
  clear ht
  have HS : Hid (∀ w, (∃ m, w.cell? ⟨0, 0, none⟩ = some (.int .i64 m)) → Calls Tryd.prog 38 #[.string (str l), .string ⟨#[46]⟩] w fun e w' => e = .returned (.slice (some ⟨w.heap.size, 0, none⟩) (spl 46 l).length (spl 46 l).length) ∧ Ps w' w.heap.size (spl 46 l) ∧ Below w.heap.size w w') := fun w hm => split_ex 46 l w hl hm
  have hmem : Hid (∀ p ∈ spl 46 l, p.length ≤ 100000000) := fun p hp => Nat.le_trans (spl_mem 46 l p hp).2.1 hl
  have hF : Hid (four l = if (spl 46 l).length = 4 then fo 0 [0, 0] (spl 46 l) else none) := rfl
  have hsz : Hid ((spl 46 l).length ≤ 100000001) := by show _ ≤ _; rw [spl_length]; have : l.count 46 ≤ l.length := List.count_le_length; omega
  obtain ⟨P, hP⟩ : ∃ P, P = spl 46 l := ⟨_, rfl⟩
  obtain ⟨R, hR⟩ : ∃ R, R = four l := ⟨_, rfl⟩
  rw [← hP] at HS hmem hF hsz
  rw [← hR] at hF ⊢
  obtain ⟨n, hn⟩ : ∃ n, n = P.length := ⟨_, rfl⟩
  rw [← hn] at HS hF
  have hn9 : n ≤ 100000001 := by rw [hn]; exact hsz.out
  have HN := Lib.hid hn
  clear hP hR hn
  by_cases h4 : n = 4
  · have hni : ((n : Int) != 4) = false := by simp; omega
    have hF2 : Hid (R = fo 0 [0, 0] P) := by show _ = _; rw [hF.out, if_pos h4]
    clear hF
    go_enter Tryd.func43, Tryd.ntmps43
    go_wp2_with (first
    | ((with_reducible show wpList _ _ _ (⟨some 2, .alloc _, _, _, _, _⟩ :: _) _ _); refine wp_new _ rfl 67 rfl _ type67 ?_; intro w1 g2 B1 F1; simp only [Act.put, List.setIfInBounds_toArray, List.set_cons_zero, List.set_cons_succ]; have HM := len_of (HT.out.kept F1.below); have hk1 := kept_of F1.below)
    | (go_at_call 38; with_reducible refine (HS.out w1 HM).mono ?_; rintro e w3 ⟨rfl, hps, hb3⟩; have hk3 := hk1.step hb3; have B3 := B1.kept hb3; have HP := Lib.hid hps; clear hps)
    | ((with_reducible show wpList _ _ _ (⟨some 17, .build _ _, _, _, _, _⟩ :: _) _ _); refine wp_build0 _ rfl 67 rfl _ (build67 _) ?_; simp only [Act.put, List.setIfInBounds_toArray, List.set_cons_zero, List.set_cons_succ])
    | ((with_reducible show wpList _ _ _ (⟨some 5, .alloc _, _, _, _, _⟩ :: _) _ _); refine wp_new _ rfl 67 rfl _ type67 ?_; intro w4 g5 B4 F4; simp only [Act.put, List.setIfInBounds_toArray, List.set_cons_zero, List.set_cons_succ])
    | ((with_reducible show wpList _ _ _ (⟨none, .store 67 (.tmp 5) _, _, _, _, _⟩ :: _) _ _); refine wp_putAll _ rfl 67 (.tmp 5) (.tmp 17) rfl g5 67 _ (vhs [0, 0]) rfl rfl B4 rfl size67 (Hs_one _) ?_; intro w5 B5 U5; simp only [Act.put]))
    have hB5 : Hid (∀ wr, Upd g5 w5 wr → Below w3.heap.size w3 wr) := fun wr hu => (F4.below.trans (U5.below (Nat.le_of_eq F4.is.symm))).trans (hu.below (Nat.le_of_eq F4.is.symm))
    have hg2 : Hid (g2 = w.heap.size) := F1.is
    have htb : Hid (w1.heap.size < w3.heap.size) := HP.out.1
    have HK3 := Lib.hid hk3
    have HB3 := Lib.hid B3
    clear F1 F4 U5 HS HM hk1 hk3 B3
    go_loopw [20] (fun i wr => ∃ (k : Nat) (xs : List Nat), k ≤ 4 ∧ i = .int .i64 (k : Int) ∧ Upd g5 w5 wr ∧ Blk wr g5 67 (vhs xs) ∧ Two k xs ∧ fo k xs (P.drop k) = R) (fun i _ => 4 - (intOf i).toNat)
    case atStart => exact ⟨0, [0, 0], by omega, rfl, Upd.refl _ _, B5, two_start, hF2.out.symm⟩
    case round =>
      obtain ⟨k, xs, hk, rfl, hup, hblk, htwo, hR⟩ := hrel
      have hbw := hB5.out wr hup
      have hpr := HP.out.below hbw htb.out (Nat.le_refl _)
      have HKr := Lib.hid (HK3.out.step hbw)
      have HBr := Lib.hid (HB3.out.kept hbw)
      clear B5
      by_cases hlt : k < 4
      · have hki : (k : Int) < (n : Int) := by omega
        obtain ⟨p, hp⟩ : ∃ p, P[k]? = some p := ⟨_, List.getElem?_eq_getElem (by rw [← HN.out]; omega)⟩
        have hcell := hpr.at_ hp
        have hpl := hmem.out p (List.mem_of_getElem? hp)
        have hsz1 := str_size p
        have hem := str_empty p
        have V := value10 p wr hpl
        rw [valV_pair] at V
        have hdrop : P.drop k = p :: P.drop (k + 1) := by
          have hk' : k < P.length := by rw [← HN.out]; omega
          rw [List.drop_eq_getElem_cons hk']
          congr 1
          rw [List.getElem?_eq_getElem hk'] at hp
          exact Option.some.inj hp
        rw [hdrop, fo] at hR
        have hoct : Hid (oct p = if p = [] ∨ (1 < p.length ∧ p.getD 0 0 = 48) then none else (val 10 0 p).bind fun n => if n ≤ 255 then some n else none) := rfl
        have h0 : ∀ h, ((str p)[0]'h).toNat = (p.getD 0 0).toNat := fun h => str_at p 0 (by rw [← str_size]; exact h) h
        obtain ⟨S, hS⟩ : ∃ S, S = p.length := ⟨_, rfl⟩
        rw [← hS] at hsz1 hoct hpl
        obtain ⟨m, hm⟩ : ∃ m, m = (p.getD 0 0).toNat := ⟨_, rfl⟩
        rw [← hm] at h0
        have HR := Lib.hid hR
        have HUp := Lib.hid (And.intro hup (And.intro hblk htwo))
        have HX := Lib.hid (And.intro hS (And.intro hm hdrop))
        clear hpr hR hup hbw hdrop hS hm hp
        cases hv : val 10 0 p with
        | none =>
          rw [hv] at V
          have HV : Hid (Calls Tryd.prog 39 #[.string (str p), .int .u64 10] wr fun e w' => e = .returned (.tuple #[.int .u64 0, .bool false]) ∧ w' = wr) := V
          have hno : Hid (R = none) := by
            show _ = _
            rw [← HR.out, hoct.out, hv]
            split <;> rfl
          clear V hv
          go_wp2_with (first
            | (go_at_call 39; with_reducible refine HV.out.mono ?_; rintro e w7 ⟨rfl, rfl⟩)
            | ((with_reducible show wpList _ _ _ (⟨some 51, .build _ _, _, _, _, _⟩ :: _) _ _); refine wp_build0 _ rfl 67 rfl _ (build67 _) ?_; simp only [Act.put, List.setIfInBounds_toArray, List.set_cons_zero, List.set_cons_succ])
            | ((with_reducible show wpList _ _ _ (⟨none, .store 67 (.tmp 2) _, _, _, _, _⟩ :: _) _ _); refine wp_putAll _ rfl 67 (.tmp 2) (.tmp 51) rfl g2 67 _ (vhs [0, 0]) rfl rfl HBr.out rfl size67 (Hs_one _) ?_; intro w9 B9 U9; simp only [Act.put]))
          all_goals exact ret_cell2 2 3 67 rfl g2 (vhs [0, 0]) _ rfl B9.whole Tryd.underlying67 rfl size67 rfl (.bool false) rfl ⟨by rw [hno.out]; rfl, HKr.out.base (U9.below (Nat.le_of_eq hg2.out.symm))⟩
        | some x =>
          rw [hv] at V
          have HV : Hid (Calls Tryd.prog 39 #[.string (str p), .int .u64 10] wr fun e w' => e = .returned (.tuple #[.int .u64 (x : Int), .bool true]) ∧ w' = wr) := V
          have hx9 : x ≤ 4294967296 := val_le 10 p 0 x (by omega) hv
          have hov : Hid (oct p = if p = [] ∨ (1 < S ∧ p.getD 0 0 = 48) then none else if x ≤ 255 then some x else none) := by show _ = _; rw [hoct.out, hv]; rfl
          clear V hv hoct
          by_cases he : p = []
          · have hem2 : (str p).toList.isEmpty = true := by rw [hem]; simp [he]
            have hS0 : ¬ (1 : Int) < (S : Int) := by rw [HX.out.1, he]; simp
            have hno : Hid (R = none) := by
              show _ = _
              rw [← HR.out, hov.out, if_pos (.inl he)]
              rfl
            clear hem he
            go_wp2_with (first
              | (go_at_call 39; with_reducible refine HV.out.mono ?_; rintro e w7 ⟨rfl, rfl⟩)
              | ((with_reducible show wpList _ _ _ (⟨some 51, .build _ _, _, _, _, _⟩ :: _) _ _); refine wp_build0 _ rfl 67 rfl _ (build67 _) ?_; simp only [Act.put, List.setIfInBounds_toArray, List.set_cons_zero, List.set_cons_succ])
              | ((with_reducible show wpList _ _ _ (⟨none, .store 67 (.tmp 2) _, _, _, _, _⟩ :: _) _ _); refine wp_putAll _ rfl 67 (.tmp 2) (.tmp 51) rfl g2 67 _ (vhs [0, 0]) rfl rfl HBr.out rfl size67 (Hs_one _) ?_; intro w9 B9 U9; simp only [Act.put]))
            refine ret_cell2 2 3 67 rfl g2 (vhs [0, 0]) _ rfl B9.whole Tryd.underlying67 rfl size67 rfl (.bool false) rfl ⟨?_, ?_⟩
            · rw [hno.out]
              rfl
            · exact HKr.out.base (U9.below (Nat.le_of_eq hg2.out.symm))
          · have hem2 : (str p).toList.isEmpty = false := by rw [hem]; simp [he]
            have hS0 : (0 : Int) < (S : Int) := by
              have : 0 < p.length := List.length_pos_iff.2 he
              have := HX.out.1
              omega
            by_cases hn1 : 1 < S ∧ p.getD 0 0 = 48
            · have hS1 : (1 : Int) < (S : Int) := by omega
              have hm48 : ((m : Int) == 48) = true := by rw [HX.out.2.1, hn1.2]; rfl
              have hno : Hid (R = none) := by
                show _ = _
                rw [← HR.out, hov.out, if_pos (.inr hn1)]
                rfl
              clear hem he hn1
              go_wp2_with (first
                | (go_at_call 39; with_reducible refine HV.out.mono ?_; rintro e w7 ⟨rfl, rfl⟩)
                | ((with_reducible show wpList _ _ _ (⟨some 51, .build _ _, _, _, _, _⟩ :: _) _ _); refine wp_build0 _ rfl 67 rfl _ (build67 _) ?_; simp only [Act.put, List.setIfInBounds_toArray, List.set_cons_zero, List.set_cons_succ])
                | ((with_reducible show wpList _ _ _ (⟨none, .store 67 (.tmp 2) _, _, _, _, _⟩ :: _) _ _); refine wp_putAll _ rfl 67 (.tmp 2) (.tmp 51) rfl g2 67 _ (vhs [0, 0]) rfl rfl HBr.out rfl size67 (Hs_one _) ?_; intro w9 B9 U9; simp only [Act.put]))
              refine ret_cell2 2 3 67 rfl g2 (vhs [0, 0]) _ rfl B9.whole Tryd.underlying67 rfl size67 rfl (.bool false) rfl ⟨?_, ?_⟩
              · rw [hno.out]
                rfl
              · exact HKr.out.base (U9.below (Nat.le_of_eq hg2.out.symm))
            · have hov2 : Hid (oct p = if x ≤ 255 then some x else none) := by
                show _ = _
                rw [hov.out, if_neg (by rintro (h | h); (· exact he h); exact hn1 h)]
              clear hov
              by_cases hx255 : x ≤ 255
              · have hxb : ¬ (255 : Int) < (x : Int) := by omega
                have hst := HUp.out.2.2.step hlt hx255
                obtain ⟨h, hh⟩ : ∃ h, h = k / 2 := ⟨_, rfl⟩
                have hq : ((k : Int).tdiv 2) = (h : Int) := by rw [hh]; rfl
                have hh2 : h < 2 := by omega
                have hget := HUp.out.2.1.cell (vhs_at xs h (by rw [HUp.out.2.2.len]; exact hh2))
                have hfr := HUp.out.2.1.frozen h
                obtain ⟨y, hy⟩ : ∃ y, y = xs.getD h 0 := ⟨_, rfl⟩
                rw [← hh] at hst
                rw [← hy] at hget hst
                have hy9 := hst.2
                have hw1 : IntKind.u16.wrap ((y : Int) * 256) = ((y * 256 : Nat) : Int) := by rw [IntKind.wrap_u16]; omega
                have hw2 : IntKind.u16.wrap (x : Int) = (x : Int) := by rw [IntKind.wrap_u16]; omega
                have hor := orH y x hy9 hx255
                obtain ⟨q, hq'⟩ : ∃ q, q = y * 256 := ⟨_, rfl⟩
                obtain ⟨z, hz⟩ : ∃ z, z = y * 256 + x := ⟨_, rfl⟩
                rw [← hq'] at hw1
                rw [← hz, ← hq'] at hor
                have HZ := Lib.hid (And.intro hst.1 (And.intro hh (And.intro hy hz)))
                have hyes : Hid (fo (k + 1) (stp k xs x) (P.drop (k + 1)) = R) := by
                  show _ = _
                  rw [← HR.out, hov2.out, if_pos hx255]
                  rfl
                have hnext : Hid (∀ k', k' = k + 1 → Upd g5 w5 (wr.setCell ⟨g5, h, none⟩ (.int .u16 (z : Int))) ∧ Blk (wr.setCell ⟨g5, h, none⟩ (.int .u16 (z : Int))) g5 67 (vhs (stp k xs x))) := fun k' _ => by
                  refine ⟨HUp.out.1.trans (Upd.setCell _ _ _ _), ?_⟩
                  have h1 := HUp.out.2.1.set h (.int .u16 (z : Int))
                  rw [vhs_set] at h1
                  rw [stp, ← HZ.out.2.1, ← HZ.out.2.2.1, ← HZ.out.2.2.2]
                  exact h1
                by_cases hS1' : 1 < S
                · have hS1 : (1 : Int) < (S : Int) := by omega
                  have hm48 : ((m : Int) == 48) = false := by
                    have : m ≠ 48 := fun e => hn1 ⟨hS1', UInt8.toNat_inj.1 (by rw [← HX.out.2.1, e]; rfl)⟩
                    simp
                    omega
                  clear hem he hn1 hst hh hy hq' hz hov2 hblk htwo HUp HR
                  go_wp2_with (first
                    | (go_at_call 39; with_reducible refine HV.out.mono ?_; rintro e w7 ⟨rfl, rfl⟩))
                  go_roundw
                  case rel => exact ⟨k + 1, stp k xs x, by omega, by go_num, (hnext.out _ rfl).1, (hnext.out _ rfl).2, HZ.out.1, hyes.out⟩
                  case measure => simp [intOf]; omega
                · have hS1 : ¬ (1 : Int) < (S : Int) := by omega
                  clear hem he hn1 hst hh hy hq' hz hov2 hblk htwo HUp HR
                  go_wp2_with (first
                    | (go_at_call 39; with_reducible refine HV.out.mono ?_; rintro e w7 ⟨rfl, rfl⟩))
                  go_roundw
                  case rel => exact ⟨k + 1, stp k xs x, by omega, by go_num, (hnext.out _ rfl).1, (hnext.out _ rfl).2, HZ.out.1, hyes.out⟩
                  case measure => simp [intOf]; omega
              · have hxb : (255 : Int) < (x : Int) := by omega
                have hno : Hid (R = none) := by
                  show _ = _
                  rw [← HR.out, hov2.out, if_neg hx255]
                  rfl
                by_cases hS1' : 1 < S
                · have hS1 : (1 : Int) < (S : Int) := by omega
                  have hm48 : ((m : Int) == 48) = false := by
                    have : m ≠ 48 := fun e => hn1 ⟨hS1', UInt8.toNat_inj.1 (by rw [← HX.out.2.1, e]; rfl)⟩
                    simp
                    omega
                  clear hem he hn1 hov2
                  go_wp2_with (first
                    | (go_at_call 39; with_reducible refine HV.out.mono ?_; rintro e w7 ⟨rfl, rfl⟩)
                    | ((with_reducible show wpList _ _ _ (⟨some 51, .build _ _, _, _, _, _⟩ :: _) _ _); refine wp_build0 _ rfl 67 rfl _ (build67 _) ?_; simp only [Act.put, List.setIfInBounds_toArray, List.set_cons_zero, List.set_cons_succ])
                    | ((with_reducible show wpList _ _ _ (⟨none, .store 67 (.tmp 2) _, _, _, _, _⟩ :: _) _ _); refine wp_putAll _ rfl 67 (.tmp 2) (.tmp 51) rfl g2 67 _ (vhs [0, 0]) rfl rfl HBr.out rfl size67 (Hs_one _) ?_; intro w9 B9 U9; simp only [Act.put]))
                  refine ret_cell2 2 3 67 rfl g2 (vhs [0, 0]) _ rfl B9.whole Tryd.underlying67 rfl size67 rfl (.bool false) rfl ⟨?_, ?_⟩
                  · rw [hno.out]
                    rfl
                  · exact HKr.out.base (U9.below (Nat.le_of_eq hg2.out.symm))
                · have hS1 : ¬ (1 : Int) < (S : Int) := by omega
                  clear hem he hn1 hov2
                  go_wp2_with (first
                    | (go_at_call 39; with_reducible refine HV.out.mono ?_; rintro e w7 ⟨rfl, rfl⟩)
                    | ((with_reducible show wpList _ _ _ (⟨some 51, .build _ _, _, _, _, _⟩ :: _) _ _); refine wp_build0 _ rfl 67 rfl _ (build67 _) ?_; simp only [Act.put, List.setIfInBounds_toArray, List.set_cons_zero, List.set_cons_succ])
                    | ((with_reducible show wpList _ _ _ (⟨none, .store 67 (.tmp 2) _, _, _, _, _⟩ :: _) _ _); refine wp_putAll _ rfl 67 (.tmp 2) (.tmp 51) rfl g2 67 _ (vhs [0, 0]) rfl rfl HBr.out rfl size67 (Hs_one _) ?_; intro w9 B9 U9; simp only [Act.put]))
                  refine ret_cell2 2 3 67 rfl g2 (vhs [0, 0]) _ rfl B9.whole Tryd.underlying67 rfl size67 rfl (.bool false) rfl ⟨?_, ?_⟩
                  · rw [hno.out]
                    rfl
                  · exact HKr.out.base (U9.below (Nat.le_of_eq hg2.out.symm))
      · have hk' : Hid (k = 4) := by show k = 4; omega
        have hki : ¬ (k : Int) < (n : Int) := by omega
        have hyes : Hid (R = some xs) := by
          show _ = _
          rw [← hR, hk'.out, List.drop_eq_nil_of_le (by rw [← HN.out]; omega)]
          rfl
        have htl := htwo.len
        have hs67 := Lib.hid (size67' xs htl)
        have hsl : Hid ((vhs xs).length = (vhs [0, 0]).length) := by show _ = _; rw [Hs_len, htl]; rfl
        have hrg := Lib.hid hblk.whole
        clear hk hlt hR hpr hbw
        go_wp2_with (first
          | ((with_reducible show wpList _ _ _ (⟨some 64, .load 67 _, _, _, _, _⟩ :: _) _ _); refine wp_get _ rfl 67 (.tmp 5) rfl g5 0 (vhs xs) _ rfl hrg.out Tryd.underlying67 rfl hs67.out ?_; simp only [Act.put, List.setIfInBounds_toArray, List.set_cons_zero, List.set_cons_succ])
          | ((with_reducible show wpList _ _ _ (⟨none, .store 67 (.tmp 2) _, _, _, _, _⟩ :: _) _ _); refine wp_putAll _ rfl 67 (.tmp 2) (.tmp 64) rfl g2 67 _ (vhs xs) rfl rfl HBr.out hsl.out hs67.out (Hs_one _) ?_; intro w9 B9 U9; simp only [Act.put]))
        refine ret_cell2 2 3 67 rfl g2 (vhs xs) _ rfl B9.whole Tryd.underlying67 rfl hs67.out rfl (.bool true) rfl ⟨?_, ?_⟩
        · rw [hyes.out]
          rfl
        · exact HKr.out.base (U9.below (Nat.le_of_eq hg2.out.symm))
  · have hni : ((n : Int) != 4) = true := by simp; omega
    have hF2 : Hid (R = none) := by show _ = _; rw [hF.out, if_neg h4]
    clear hF
    go_enter Tryd.func43, Tryd.ntmps43
    go_wp2_with (first
    | ((with_reducible show wpList _ _ _ (⟨some 2, .alloc _, _, _, _, _⟩ :: _) _ _); refine wp_new _ rfl 67 rfl _ type67 ?_; intro w1 g2 B1 F1; simp only [Act.put, List.setIfInBounds_toArray, List.set_cons_zero, List.set_cons_succ]; have HM := len_of (HT.out.kept F1.below); have hk1 := kept_of F1.below)
    | (go_at_call 38; with_reducible refine (HS.out w1 HM).mono ?_; rintro e w3 ⟨rfl, hps, hb3⟩; have hk3 := hk1.step hb3; have B3 := B1.kept hb3; have HP := Lib.hid hps; clear hps)
    | ((with_reducible show wpList _ _ _ (⟨some 16, .build _ _, _, _, _, _⟩ :: _) _ _); refine wp_build0 _ rfl 67 rfl _ (build67 _) ?_; simp only [Act.put, List.setIfInBounds_toArray, List.set_cons_zero, List.set_cons_succ])
    | ((with_reducible show wpList _ _ _ (⟨none, .store 67 (.tmp 2) _, _, _, _, _⟩ :: _) _ _); refine wp_putAll _ rfl 67 (.tmp 2) (.tmp 16) rfl g2 67 _ (vhs [0, 0]) rfl rfl B3 rfl size67 (Hs_one _) ?_; intro w9 B9 U9; simp only [Act.put]))
    refine ret_cell2 2 3 67 rfl g2 (vhs [0, 0]) _ rfl B9.whole Tryd.underlying67 rfl size67 rfl (.bool false) rfl ⟨?_, ?_⟩
    · rw [hF2.out]
      rfl
    · exact hk3.base (U9.below (by rw [F1.is]; exact Nat.le_refl _))

end Go.Proofs.YtcfgcakmffkpmaaDoor
