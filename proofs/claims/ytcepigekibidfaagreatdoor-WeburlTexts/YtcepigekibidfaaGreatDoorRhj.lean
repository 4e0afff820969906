/-
  What transeptref07.piece and four answer; nothing that was there turns. Condition: texts of at most 100000000 bytes.
-/
import Derived.Test.YtcepigekibidfaaGreatDoorRhi
namespace Go.Proofs.YtcepigekibidfaaGreatDoor
open Go.RowKit

theorem Ps.kept8 {w w' : World} {g : Nat} {ps : List (List UInt8)} (h : Ps w g ps) (hb : Below w.heap.size w w') : Ps w' g ps :=
  ⟨by have h1 := h.1; have h2 := hb.size; omega, fun j p hj => (hb.cell (p := ⟨g, j, none⟩) h.1).trans (h.2 j p hj)⟩
theorem pc_r (l : List UInt8) (v : Nat) (b : Bool) (hv : v = (rv 16 0 l).getD 0) (hb : b = (rv 16 0 l).isSome) : (pc l).isSome = (b && decide (1 ≤ l.length) && decide (l.length ≤ 4)) ∧ ∀ n, pc l = some n → v % 65536 = n := by
  have h1 := val_rv 16 (by decide) l 0 (by decide)
  have h0 : val 16 (min 0 4294967296) l = val 16 0 l := rfl
  rw [h0] at h1
  have hlt := fun n h => pc_lt l n h
  unfold pc at hlt ⊢
  by_cases hc : l = [] ∨ 4 < l.length
  · rw [if_pos hc]
    refine ⟨?_, fun n h => by cases h⟩
    rcases hc with rfl | hc
    · simp
    · have e : decide (l.length ≤ 4) = false := by simp; omega
      rw [e, Bool.and_false]
      rfl
  · rw [if_neg hc] at hlt ⊢
    have e1 : decide (1 ≤ l.length) = true := by
      have : l ≠ [] := fun e => hc (.inl e)
      have := List.length_pos_iff.2 this
      simp; omega
    have e2 : decide (l.length ≤ 4) = true := by simp; omega
    rw [e1, e2, Bool.and_true, Bool.and_true, h1, hb]
    rw [h1] at hlt
    cases hr : rv 16 0 l with
    | none => exact ⟨rfl, fun n h => by cases h⟩
    | some m =>
      refine ⟨rfl, fun n h => ?_⟩
      rw [hr] at hv hlt
      have h2 : min m 4294967296 = n := by simpa using h
      have h3 := hlt (min m 4294967296) rfl
      have h4 : v = m := hv
      omega
set_option maxHeartbeats 2000000 in
theorem rpiece_any (l : List UInt8) (w : World) (hl : l.length ≤ 100000000) : Calls Tryz.prog 106 #[.string (str l)] w fun e w' => ∃ v : Nat, e = .returned (.tuple #[.int .u16 (v : Int), .bool (pc l).isSome]) ∧ (∀ n, pc l = some n → v = n) ∧ w' = w := by
  have V : ∀ W, Calls Tryz.prog 108 #[.string (str l), .int .u64 16] W fun e w' => e = .returned (valV (rv 16 0 l)) ∧ w' = W := fun W => rbased_any l 16 (by decide) W hl
  rw [valV_pair] at V
  obtain ⟨v, hv⟩ : ∃ v, v = (rv 16 0 l).getD 0 := ⟨_, rfl⟩
  obtain ⟨b, hb⟩ : ∃ v, v = (rv 16 0 l).isSome := ⟨_, rfl⟩
  obtain ⟨h1, h2⟩ := pc_r l v b hv hb
  rw [← hv, ← hb] at V
  have HV := Lib.hid V
  have H2 := Lib.hid h2
  have hsz := str_size l
  obtain ⟨S, hS⟩ : ∃ S, S = l.length := ⟨_, rfl⟩
  obtain ⟨P, hP⟩ : ∃ S, S = (pc l).isSome := ⟨_, rfl⟩
  rw [← hS] at hsz h1
  rw [← hP] at h1 ⊢
  obtain ⟨q, hq⟩ : ∃ q, q = v % 65536 := ⟨_, rfl⟩
  have hqi : (v : Int) % 65536 = (q : Int) := by omega
  have hqi' : Int.tmod (v : Int) 65536 = (q : Int) := by
    have : Int.tmod (v : Int) 65536 = ((v % 65536 : Nat) : Int) := rfl
    omega
  have hq9 : q < 65536 := by omega
  have hcv : ∀ W : World, (convert 97 61 (.int .u64 (q : Int))).run Tryz.prog W = .ok (.int .u16 (q : Int)) W := fun W => by
    have hw : IntKind.u16.wrap (q : Int) = (q : Int) := by rw [IntKind.wrap_u16]; omega
    simp [convert, run_underlying Tryz.underlying97, run_underlying Tryz.underlying61, Conv.intToInt, hw]
  have hres : Hid (∀ n, pc l = some n → q = n) := fun n h => by rw [hq]; exact H2.out n h
  clear hv hb V h2 H2 hS hP hq hl
  have G : ∀ c1 c2 : Bool, decide (1 ≤ S) = c1 → decide (S ≤ 4) = c2 → Calls Tryz.prog 106 #[.string (str l)] w fun e w' => ∃ v : Nat, e = .returned (.tuple #[.int .u16 (v : Int), .bool P]) ∧ (∀ n, pc l = some n → v = n) ∧ w' = w := by
    intro c1 c2 e1 e2
    rw [e1, e2] at h1
    have d1 : decide ((1 : Int) ≤ (S : Int)) = c1 := by rw [← e1]; simp; omega
    have d2 : decide ((S : Int) ≤ 4) = c2 := by rw [← e2]; simp; omega
    have HP := Lib.hid h1
    clear h1 e1 e2
    cases b <;> cases c1 <;> cases c2
    all_goals
      go_enter Tryz.func106, Tryz.ntmps106
      go_wp2_with (go_at_call 108; (with_reducible refine (HV.out _).mono ?_); rintro e w1 ⟨rfl, rfl⟩)
      go_ret2
      refine ⟨q, ?_, hres.out, rfl⟩
      rw [HP.out]
      try rfl
  exact G _ _ rfl rfl
theorem oct_some (p : List UInt8) (n : Nat) (h : rv 10 0 p = some n) (hne : p ≠ []) (h255 : n ≤ 255) (hz : ¬ (1 < p.length ∧ p.getD 0 0 = 48)) : oct p = some n := by
  have h1 := val_rv 10 (by decide) p 0 (by decide)
  have h0 : val 10 (min 0 4294967296) p = val 10 0 p := rfl
  rw [h0, h] at h1
  unfold oct
  rw [if_neg (fun hh => hh.elim hne hz), h1]
  show (if min n 4294967296 ≤ 255 then some (min n 4294967296) else none) = _
  rw [if_pos (by omega), show min n 4294967296 = n by omega]
theorem oct_no1 (p : List UInt8) (h : rv 10 0 p = none) : oct p = none := by
  have h1 := val_rv 10 (by decide) p 0 (by decide)
  have h0 : val 10 (min 0 4294967296) p = val 10 0 p := rfl
  rw [h0, h] at h1
  unfold oct
  rw [h1]
  split <;> rfl
theorem oct_no2 (p : List UInt8) (h : p = []) : oct p = none := by
  unfold oct
  rw [if_pos (.inl h)]
theorem oct_no3 (p : List UInt8) (n : Nat) (h : rv 10 0 p = some n) (h255 : 255 < n) : oct p = none := by
  have h1 := val_rv 10 (by decide) p 0 (by decide)
  have h0 : val 10 (min 0 4294967296) p = val 10 0 p := rfl
  rw [h0, h] at h1
  unfold oct
  rw [h1]
  split
  · rfl
  · show (if min n 4294967296 ≤ 255 then _ else _) = _
    rw [if_neg (by omega)]
theorem oct_no4 (p : List UInt8) (h : 1 < p.length ∧ p.getD 0 0 = 48) : oct p = none := by
  unfold oct
  rw [if_pos (.inr h)]
theorem fo_no : ∀ (ps : List (List UInt8)) (k : Nat) (xs : List Nat), (∃ p ∈ ps, oct p = none) → fo k xs ps = none
  | [], _, _, h => by obtain ⟨p, hp, _⟩ := h; cases hp
  | p :: r, k, xs, h => by
    rw [fo]
    cases ho : oct p with
    | none => rfl
    | some n =>
      obtain ⟨q, hq, e⟩ := h
      rcases List.mem_cons.1 hq with rfl | hq
      · rw [e] at ho; cases ho
      · exact fo_no r _ _ ⟨q, hq, e⟩
theorem four_no (l p : List UInt8) (hp : p ∈ spl 46 l) (h : oct p = none) : four l = none := by
  unfold four
  split
  · exact fo_no _ _ _ ⟨p, hp, h⟩
  · rfl
theorem four_len (l : List UInt8) (h : (spl 46 l).length ≠ 4) : four l = none := by
  unfold four
  rw [if_neg h]
theorem four_yes (l : List UInt8) (L : List Nat) (h4 : (spl 46 l).length = 4) (h : ∀ j p, (spl 46 l)[j]? = some p → oct p = some (L.getD j 0)) : four l = some [L.getD 0 0 * 256 + L.getD 1 0, L.getD 2 0 * 256 + L.getD 3 0] := by
  unfold four
  rw [if_pos h4]
  generalize spl 46 l = P at h4 h
  match P, h4 with
  | [a, b, c, d], _ =>
    have h0 := h 0 a rfl
    have h1 := h 1 b rfl
    have h2 := h 2 c rfl
    have h3 := h 3 d rfl
    simp [fo, stp, h0, h1, h2, h3]
/-- What four leaves. -/
def FourR (R : Option (List Nat)) (w : World) (e : Ending) (w' : World) : Prop :=
  (match R with
  | none => e = .returned (.tuple #[.slice none 0 0, .bool false])
  | some xs => ∃ A c, e = .returned (.tuple #[.slice A 2 c, .bool true]) ∧ Hs w' w'.heap.size A 2 xs) ∧ Below w.heap.size w w'
theorem ownH_made (w : World) (base : Nat) (hb : base ≤ w.heap.size) : OwnH (w.alloc (.cells #[] 61)) base (.slice (some ⟨w.heap.size, 0, none⟩) 0 0) 0 [] :=
  World.ownsRow_made _ _ _ hb (by decide) rfl
theorem getD_app (L : List Nat) (n i j : Nat) (hL : L.length = i) : (L ++ [n]).getD j 0 = if j = i then n else L.getD j 0 := by
  by_cases h : j = i
  · subst h
    rw [if_pos rfl, List.getD_eq_getElem?_getD, ← hL]
    simp
  · rw [if_neg h, List.getD_eq_getElem?_getD, List.getD_eq_getElem?_getD]
    by_cases h2 : j < i
    · rw [List.getElem?_append_left (by omega)]
    · rw [List.getElem?_eq_none (by rw [List.length_append, hL]; simp; omega), List.getElem?_eq_none (by omega)]
set_option maxHeartbeats 8000000 in
set_option maxRecDepth 100000 in
theorem rfour_any (l : List UInt8) (w : World) (hl : l.length ≤ 100000000) : Calls Tryz.prog 107 #[.string (str l)] w (FourR (four l) w) := by
  have HS : Hid (Calls Tryz.prog 73 #[.string (str l), .int .u8 46] w fun e w' => ∃ g c, e = .returned (.slice (some ⟨g, 0, none⟩) (spl 46 l).length c) ∧ (spl 46 l).length ≤ c ∧ Ps w' g (spl 46 l) ∧ Below w.heap.size w w') := rsplit_one l 46 w hl
  have hno := four_no l
  have hln := four_len l
  have hys := four_yes l
  have hmem := fun p => spl_mem 46 l p
  have hkl := spl_length 46 l
  have hcl := List.count_le_length (a := (46 : UInt8)) (l := l)
  generalize four l = R at hno hln hys ⊢
  generalize spl 46 l = P at HS hno hln hys hmem hkl
  have hne : 1 ≤ P.length := by omega
  obtain ⟨N, hN⟩ : ∃ N, P.length = N := ⟨_, rfl⟩
  rw [hN] at HS hln hys hkl hne
  have HB : Hid (R = none → ∀ w', Kept w w' → FourR R w (.returned (.tuple #[.slice none 0 0, .bool false])) w') := fun h w' hk => by rw [h]; exact ⟨rfl, hk⟩
  have HN := Lib.hid (And.intro hno hln)
  have HY := Lib.hid hys
  have HV : Hid (∀ p, p ∈ P → ∀ W, Calls Tryz.prog 108 #[.string (str p), .int .u64 10] W fun e w' => e = .returned (valV (rv 10 0 p)) ∧ w' = W) := fun p hp W => rbased_any p 10 (by decide) W (by have := (hmem p hp).2.1; omega)
  have HL : Hid (∀ p, p ∈ P → p.length ≤ 100000000) := fun p hp => by have := (hmem p hp).2.1; omega
  have hNl : N ≤ 100000001 := by omega
  clear hno hln hys hmem hkl hcl hl
  have hPN := Lib.hid hN
  clear hN
  go_enter Tryz.func107, Tryz.ntmps107
  go_wp2_with (go_at_call 73; (with_reducible refine HS.out.mono ?_); (rintro e w1 ⟨g, c, rfl, hc, hps, hb⟩; have k1 : Kept w w1 := hb; have HPs := Lib.hid hps; clear hps hb))
  have hown0 : OwnH (w1.alloc (.cells #[] 61)) w1.heap.size (.slice (some ⟨w1.heap.size, 0, none⟩) 0 0) 0 [] := ownH_made w1 w1.heap.size (Nat.le_refl _)
  have hHs0 : Hid (Hs (w1.alloc (.cells #[] 61)) (w1.alloc (.cells #[] 61)).heap.size (some ⟨w1.heap.size, 0, none⟩) 0 []) := ⟨rfl, fun h => absurd h (Nat.lt_irrefl _)⟩
  go_loopw [6, 5] (fun i v wr => ∃ (i0 : Nat) (A : Option Addr) (c0 : Nat) (L : List Nat), i0 ≤ N ∧ i = .int .i64 (i0 : Int) ∧ v = .slice A i0 c0 ∧ OwnH wr w1.heap.size (.slice A i0 c0) i0 L ∧ Hs wr wr.heap.size A i0 L ∧ Kept w1 wr ∧ (i0 = 0 ∨ N = 4) ∧ (∀ j p, j < i0 → P[j]? = some p → oct p = some (L.getD j 0)) ∧ ∀ x ∈ L, x ≤ 255) (fun i _ _ => N - (intOf i).toNat)
  case atStart => exact ⟨0, _, 0, [], by omega, rfl, rfl, hown0, hHs0.out, (Kept.refl w1).alloc _, .inl rfl, fun j p hj => absurd hj (Nat.not_lt_zero _), fun x hx => by cases hx⟩
  case round =>
    obtain ⟨i0, A, c0, L, hi, rfl, rfl, hown, hHs, hkp, h04, hoc, h255⟩ := hrel
    clear hown0 hHs0
    have HOwn := Lib.hid hown
    have HHs := Lib.hid hHs
    have hLl := Lib.hid hown.len
    have HO := Lib.hid (And.intro h04 (And.intro hoc h255))
    have hbs : Hid (w1.heap.size ≤ wr.heap.size) := hkp.size
    have HK := Lib.hid hkp
    have hPs2 := HPs.out.kept8 hkp
    have HPs2 := Lib.hid hPs2
    clear hown hHs h04 hoc h255 hkp hPs2
    by_cases hlt : i0 < N
    · have hiN : (i0 : Int) < (N : Int) := by omega
      obtain ⟨p, hp⟩ : ∃ p, P[i0]? = some p := ⟨_, List.getElem?_eq_getElem (by rw [hPN.out]; exact hlt)⟩
      have hcell := HPs2.out.at_ hp
      have hpm := List.mem_of_getElem? hp
      have hV := HV.out p hpm
      have hpl := HL.out p hpm
      have hnp := HN.out.1 p hpm
      have HP := Lib.hid hp
      clear hp hpm
      have hkw : Hid (Kept w wr) := k1.step HK.out
      cases ho : rv 10 0 p with
      | none =>
        rw [ho] at hV
        have HM : Hid (∀ W, Calls Tryz.prog 108 #[.string (str p), .int .u64 10] W fun e w' => e = .returned (.tuple #[.int .u64 0, .bool false]) ∧ w' = W) := hV
        have HF := Lib.hid (HB.out (hnp (oct_no1 p ho)) wr hkw.out)
        clear hV hnp ho
        go_wp2_with (go_at_call 108; (with_reducible refine (HM.out _).mono ?_); rintro e w3 ⟨rfl, rfl⟩)
        go_ret2
        exact HF.out
      | some n =>
        rw [ho] at hV
        have HM : Hid (∀ W, Calls Tryz.prog 108 #[.string (str p), .int .u64 10] W fun e w' => e = .returned (.tuple #[.int .u64 (n : Int), .bool true]) ∧ w' = W) := hV
        have hnl := rv_le 10 p 0 n (by omega) ho
        have hpsz := str_size p
        have he0 := str_empty p
        obtain ⟨SP, hSP⟩ : ∃ S, S = p.length := ⟨_, rfl⟩
        by_cases hpe : p = []
        · have he1 : (str p).toList.isEmpty = true := by rw [he0]; simp [hpe]
          have HF := Lib.hid (HB.out (hnp (oct_no2 p hpe)) wr hkw.out)
          clear hV hnp ho hpe he0 hSP hpsz
          go_wp2_with (go_at_call 108; (with_reducible refine (HM.out _).mono ?_); rintro e w3 ⟨rfl, rfl⟩)
          go_ret2
          exact HF.out
        · have he1 : (str p).toList.isEmpty = false := by rw [he0]; simp [hpe]
          clear he0
          by_cases hn : 255 < n
          · have hn1 : (255 : Int) < (n : Int) := by omega
            have HF := Lib.hid (HB.out (hnp (oct_no3 p n ho hn)) wr hkw.out)
            clear hV hnp ho hpe hSP hpsz hn
            go_wp2_with (go_at_call 108; (with_reducible refine (HM.out _).mono ?_); rintro e w3 ⟨rfl, rfl⟩)
            go_ret2
            exact HF.out
          · have hn1 : ¬ (255 : Int) < (n : Int) := by omega
            have hp0 : ∀ h, ((str p)[0]'h).toNat = (p.getD 0 0).toNat := fun h => str_at p 0 (by rw [str_size] at h; exact h) h
            obtain ⟨b, hb⟩ : ∃ b, b = (p.getD 0 0).toNat := ⟨_, rfl⟩
            rw [← hb] at hp0
            have h48 : b = 48 ↔ p.getD 0 0 = 48 := by
              rw [hb]
              constructor
              · intro h; exact UInt8.toNat.inj h
              · intro h; rw [h]; rfl
            rw [← hSP] at hpsz hpl
            by_cases hlen : 1 < SP ∧ b = 48
            · have hl1 : (1 : Int) < (SP : Int) := by omega
              have hb1 : ((b : Int) == 48) = true := by simp; omega
              have HF := Lib.hid (HB.out (hnp (oct_no4 p ⟨by rw [← hSP]; exact hlen.1, h48.1 hlen.2⟩)) wr hkw.out)
              clear hV hnp ho hpe hSP hb h48 hlen hn
              go_wp2_with (go_at_call 108; (with_reducible refine (HM.out _).mono ?_); rintro e w3 ⟨rfl, rfl⟩)
              go_ret2
              exact HF.out
            · have hoct : Hid (oct p = some n) := oct_some p n ho hpe (by omega) (fun h => hlen ⟨by rw [hSP]; exact h.1, h48.2 h.2⟩)
              have hcv : ∀ W : World, (convert 97 61 (.int .u64 (n : Int))).run Tryz.prog W = .ok (.int .u16 (n : Int)) W := fun W => by
                have hw : IntKind.u16.wrap (n : Int) = (n : Int) := by rw [IntKind.wrap_u16]; omega
                simp [convert, run_underlying Tryz.underlying97, run_underlying Tryz.underlying61, Conv.intToInt, hw]
              have hsplit : ((1 : Int) < (SP : Int) ∧ ((b : Int) == 48) = false) ∨ ¬ (1 : Int) < (SP : Int) := by
                by_cases h : 1 < SP
                · refine .inl ⟨by omega, ?_⟩
                  have : b ≠ 48 := fun e => hlen ⟨h, e⟩
                  simp; omega
                · exact .inr (by omega)
              have HF : Hid (N ≠ 4 → FourR R w (.returned (.tuple #[.slice none 0 0, .bool false])) wr) := fun h => HB.out (HN.out.2 h) wr hkw.out
              have hn255 : Hid (n ≤ 255) := by show _ ≤ _; omega
              have Hlit : Hid (Hs (wr.alloc (.cells #[.int .u16 (n : Int)] 61)) (wr.heap.size + 1) (some ⟨wr.heap.size, 0, none⟩) 1 [n]) := Hs.lit wr [n] _ rfl 1 rfl
              clear hV hnp ho hpe hSP hb h48 hlen hn
              by_cases hN4 : N = 4
              · have hN4b : ((N : Int) != 4) = false := by simp [hN4]
                have HN4 := Lib.hid hN4
                clear hN4
                rcases hsplit with ⟨hl1, hb1⟩ | hl1
                all_goals
                  go_wp2_with (first
                    | (go_at_call 108; (with_reducible refine (HM.out _).mono ?_); rintro e w3 ⟨rfl, rfl⟩)
                    | ((with_reducible show wpList _ _ _ (⟨some 64, .call _, _, _, _, _⟩ :: _) _ _); refine wp_appH _ rfl (.tmp 60) (.tmp 63) rfl w1.heap.size _ i0 L rfl (HOwn.out.alloc _) _ _ 1 1 [n] rfl Hlit.out (by have := HN4.out; omega) (by simp; have := hbs.out; omega) (i0 + 1) (L ++ [n]) rfl rfl ?_; intro A4 c4 w4 hc4 hHs4 hown4 hb4 hkb4; simp only [Act.put, List.setIfInBounds_toArray, List.set_cons_zero, List.set_cons_succ]))
                  go_roundw
                  case rel =>
                    refine ⟨i0 + 1, A4, c4, L ++ [n], by omega, by go_num, rfl, hown4, hHs4, (HK.out.alloc _).base hb4, .inr HN4.out, fun j q hj hq => ?_, fun x hx => ?_⟩
                    · rw [getD_app L n i0 j hLl.out]
                      by_cases hji : j = i0
                      · rw [if_pos hji]
                        rw [hji, HP.out] at hq
                        cases hq
                        exact hoct.out
                      · rw [if_neg hji]
                        exact HO.out.2.1 j q (by omega) hq
                    · rcases List.mem_append.1 hx with hx | hx
                      · exact HO.out.2.2 x hx
                      · rw [List.mem_singleton.1 hx]; exact hn255.out
                  case measure => simp [intOf]; omega
              · have hN4b : ((N : Int) != 4) = true := by simp; omega
                have HF2 := Lib.hid (HF.out hN4)
                clear hN4
                rcases hsplit with ⟨hl1, hb1⟩ | hl1
                all_goals
                  go_wp2_with (go_at_call 108; (with_reducible refine (HM.out _).mono ?_); rintro e w3 ⟨rfl, rfl⟩)
                  go_ret2
                  exact HF2.out
    · have hiN : ¬ (i0 : Int) < (N : Int) := by omega
      have hN4 : N = 4 := by
        rcases HO.out.1 with h | h
        · omega
        · exact h
      have hi4 : i0 = 4 := by omega
      obtain ⟨b, off, hA, hbl, h0⟩ := HHs.out.at_ (k := 0) (by omega)
      have h1 := HHs.out.get hA (k := 1) (by omega)
      have h2 := HHs.out.get hA (k := 2) (by omega)
      have h3 := HHs.out.get hA (k := 3) (by omega)
      have hL4 : L.length = 4 := by rw [hLl.out, hi4]
      have hx : ∀ j, L.getD j 0 ≤ 255 := fun j => by
        by_cases hj : j < L.length
        · exact HO.out.2.2 _ (by rw [List.getD_eq_getElem?_getD, List.getElem?_eq_getElem hj]; exact List.getElem_mem hj)
        · rw [List.getD_eq_getElem?_getD, List.getElem?_eq_none (by omega)]; exact Nat.zero_le _
      have hR := Lib.hid (HY.out L hN4 (fun j q hq => HO.out.2.1 j q (by have := (List.getElem?_eq_some_iff.1 hq).1; have e := hPN.out; omega) hq))
      have x0 := hx 0
      have x1 := hx 1
      have x2 := hx 2
      have x3 := hx 3
      unfold vh at h0 h1 h2 h3
      obtain ⟨o0, e0⟩ : ∃ o, o = L.getD 0 0 := ⟨_, rfl⟩
      obtain ⟨o1, e1⟩ : ∃ o, o = L.getD 1 0 := ⟨_, rfl⟩
      obtain ⟨o2, e2⟩ : ∃ o, o = L.getD 2 0 := ⟨_, rfl⟩
      obtain ⟨o3, e3⟩ : ∃ o, o = L.getD 3 0 := ⟨_, rfl⟩
      rw [← e0, ← e1, ← e2, ← e3] at hR
      rw [← e0] at h0 x0
      rw [← e1] at h1 x1
      rw [← e2] at h2 x2
      rw [← e3] at h3 x3
      rw [Nat.add_zero] at h0
      clear e0 e1 e2 e3 hx hL4 hlt HO hi HHs HOwn hLl
      subst hA hi4 hN4
      obtain ⟨p0, q0⟩ : ∃ p, p = o0 * 256 := ⟨_, rfl⟩
      obtain ⟨p1, q1⟩ : ∃ p, p = o2 * 256 := ⟨_, rfl⟩
      have m0 : (o0 : Int) * 256 = (p0 : Int) := by omega
      have m1 : (o2 : Int) * 256 = (p1 : Int) := by omega
      have w0 : IntKind.u16.wrap (p0 : Int) = (p0 : Int) := by rw [IntKind.wrap_u16]; omega
      have w1' : IntKind.u16.wrap (p1 : Int) = (p1 : Int) := by rw [IntKind.wrap_u16]; omega
      obtain ⟨y0, r0⟩ : ∃ p, p = p0 + o1 := ⟨_, rfl⟩
      obtain ⟨y1, r1⟩ : ∃ p, p = p1 + o3 := ⟨_, rfl⟩
      have s0 : (p0 : Int) + (o1 : Int) = (y0 : Int) := by omega
      have s1 : (p1 : Int) + (o3 : Int) = (y1 : Int) := by omega
      have v0 : IntKind.u16.wrap (y0 : Int) = (y0 : Int) := by rw [IntKind.wrap_u16]; omega
      have v1 : IntKind.u16.wrap (y1 : Int) = (y1 : Int) := by rw [IntKind.wrap_u16]; omega
      rw [← q0, ← q1, ← r0, ← r1] at hR
      have hkw : Hid (Kept w wr) := k1.step HK.out
      have HC := Lib.hid (And.intro hbl (And.intro h0 (And.intro h1 (And.intro h2 h3))))
      clear q0 q1 r0 r1 h0 h1 h2 h3 hbl HN HY HB HV HL HS
      go_wp2_with fail
      refine wp_region_held_drew (S := fun W => Kept wr W) (by kernel_rfl) ((Kept.refl wr).step (Below.refl _ _).drew) (fun hS => ?_)
      refine wpAnyH_take (i := 0) (oi := ⟨some 65, _, _, _, _, _⟩) (v := ?vz0) rfl (by kernel_rfl) (by kernel_rfl) (by kernel_rfl) (fun _ _ _ h => h) (Or.inl ⟨by rfl, ?yz0⟩) hS ?rz0
      case yz0 => intro W hW; go_simp; first | done | with_reducible rfl
      simp only [Act.put, List.setIfInBounds_toArray, List.set_cons_zero, List.set_cons_succ]
      refine wpAnyH_take (i := 1) (oi := ⟨some 66, _, _, _, _, _⟩) (v := ?vz1) rfl (by kernel_rfl) (by kernel_rfl) (by kernel_rfl) (fun _ _ _ h => h) (Or.inl ⟨by rfl, ?yz1⟩) hS ?rz1
      case yz1 => intro W hW; go_simp; first | done | with_reducible rfl
      simp only [Act.put, List.setIfInBounds_toArray, List.set_cons_zero, List.set_cons_succ]
      refine wpAnyH_take (i := 2) (oi := ⟨some 67, _, _, _, _, _⟩) (v := ?vz2) rfl (by kernel_rfl) (by kernel_rfl) (by kernel_rfl) (fun _ _ _ h => h) (Or.inl ⟨by rfl, ?yz2⟩) hS ?rz2
      case yz2 => intro W hW; have hc := (hW.cell (p := ⟨b, off, none⟩) HC.out.1).trans HC.out.2.1; go_simp; first | done | with_reducible rfl
      simp only [Act.put, List.setIfInBounds_toArray, List.set_cons_zero, List.set_cons_succ]
      refine wpAnyH_take (i := 3) (oi := ⟨some 68, _, _, _, _, _⟩) (v := ?vz3) rfl (by kernel_rfl) (by kernel_rfl) (by kernel_rfl) (fun _ _ _ h => h) (Or.inl ⟨by rfl, ?yz3⟩) hS ?rz3
      case yz3 => intro W hW; go_simp; first | done | with_reducible rfl
      simp only [Act.put, List.setIfInBounds_toArray, List.set_cons_zero, List.set_cons_succ]
      refine wpAnyH_take (i := 4) (oi := ⟨some 69, _, _, _, _, _⟩) (v := ?vz4) rfl (by kernel_rfl) (by kernel_rfl) (by kernel_rfl) (fun _ _ _ h => h) (Or.inl ⟨by rfl, ?yz4⟩) hS ?rz4
      case yz4 => intro W hW; go_simp; first | done | with_reducible rfl
      simp only [Act.put, List.setIfInBounds_toArray, List.set_cons_zero, List.set_cons_succ]
      refine wpAnyH_take (i := 5) (oi := ⟨some 70, _, _, _, _, _⟩) (v := ?vz5) rfl (by kernel_rfl) (by kernel_rfl) (by kernel_rfl) (fun _ _ _ h => h) (Or.inl ⟨by rfl, ?yz5⟩) hS ?rz5
      case yz5 => intro W hW; go_simp; first | done | with_reducible rfl
      simp only [Act.put, List.setIfInBounds_toArray, List.set_cons_zero, List.set_cons_succ]
      refine wpAnyH_take (i := 6) (oi := ⟨some 71, _, _, _, _, _⟩) (v := ?vz6) rfl (by kernel_rfl) (by kernel_rfl) (by kernel_rfl) (fun _ _ _ h => h) (Or.inl ⟨by rfl, ?yz6⟩) hS ?rz6
      case yz6 => intro W hW; have hc := (hW.cell (p := ⟨b, off + 1, none⟩) HC.out.1).trans HC.out.2.2.1; go_simp; first | done | with_reducible rfl
      simp only [Act.put, List.setIfInBounds_toArray, List.set_cons_zero, List.set_cons_succ]
      refine wpAnyH_take (i := 7) (oi := ⟨some 72, _, _, _, _, _⟩) (v := ?vz7) rfl (by kernel_rfl) (by kernel_rfl) (by kernel_rfl) (fun _ _ _ h => h) (Or.inl ⟨by rfl, ?yz7⟩) hS ?rz7
      case yz7 => intro W hW; go_simp; first | done | with_reducible rfl
      simp only [Act.put, List.setIfInBounds_toArray, List.set_cons_zero, List.set_cons_succ]
      refine wpAnyH_take (i := 8) (oi := ⟨some 73, _, _, _, _, _⟩) (v := ?vz8) rfl (by kernel_rfl) (by kernel_rfl) (by kernel_rfl) (fun _ _ _ h => h) (Or.inl ⟨by rfl, ?yz8⟩) hS ?rz8
      case yz8 => intro W hW; go_simp; first | done | with_reducible rfl
      simp only [Act.put, List.setIfInBounds_toArray, List.set_cons_zero, List.set_cons_succ]
      refine wpAnyH_take (i := 9) (oi := ⟨some 74, _, _, _, _, _⟩) (v := ?vz9) rfl (by kernel_rfl) (by kernel_rfl) (by kernel_rfl) (fun _ _ _ h => h) (Or.inl ⟨by rfl, ?yz9⟩) hS ?rz9
      case yz9 => intro W hW; go_simp; first | done | with_reducible rfl
      simp only [Act.put, List.setIfInBounds_toArray, List.set_cons_zero, List.set_cons_succ]
      refine wpAnyH_take (i := 10) (oi := ⟨some 75, _, _, _, _, _⟩) (v := ?vz10) rfl (by kernel_rfl) (by kernel_rfl) (by kernel_rfl) (fun _ _ _ h => h) (Or.inl ⟨by rfl, ?yz10⟩) hS ?rz10
      case yz10 => intro W hW; have hc := (hW.cell (p := ⟨b, off + 2, none⟩) HC.out.1).trans HC.out.2.2.2.1; go_simp; first | done | with_reducible rfl
      simp only [Act.put, List.setIfInBounds_toArray, List.set_cons_zero, List.set_cons_succ]
      refine wpAnyH_take (i := 11) (oi := ⟨some 76, _, _, _, _, _⟩) (v := ?vz11) rfl (by kernel_rfl) (by kernel_rfl) (by kernel_rfl) (fun _ _ _ h => h) (Or.inl ⟨by rfl, ?yz11⟩) hS ?rz11
      case yz11 => intro W hW; go_simp; first | done | with_reducible rfl
      simp only [Act.put, List.setIfInBounds_toArray, List.set_cons_zero, List.set_cons_succ]
      refine wpAnyH_take (i := 12) (oi := ⟨some 77, _, _, _, _, _⟩) (v := ?vz12) rfl (by kernel_rfl) (by kernel_rfl) (by kernel_rfl) (fun _ _ _ h => h) (Or.inl ⟨by rfl, ?yz12⟩) hS ?rz12
      case yz12 => intro W hW; go_simp; first | done | with_reducible rfl
      simp only [Act.put, List.setIfInBounds_toArray, List.set_cons_zero, List.set_cons_succ]
      refine wpAnyH_take (i := 13) (oi := ⟨some 78, _, _, _, _, _⟩) (v := ?vz13) rfl (by kernel_rfl) (by kernel_rfl) (by kernel_rfl) (fun _ _ _ h => h) (Or.inl ⟨by rfl, ?yz13⟩) hS ?rz13
      case yz13 => intro W hW; go_simp; first | done | with_reducible rfl
      simp only [Act.put, List.setIfInBounds_toArray, List.set_cons_zero, List.set_cons_succ]
      refine wpAnyH_take (i := 14) (oi := ⟨some 79, _, _, _, _, _⟩) (v := ?vz14) rfl (by kernel_rfl) (by kernel_rfl) (by kernel_rfl) (fun _ _ _ h => h) (Or.inl ⟨by rfl, ?yz14⟩) hS ?rz14
      case yz14 => intro W hW; have hc := (hW.cell (p := ⟨b, off + 3, none⟩) HC.out.1).trans HC.out.2.2.2.2; go_simp; first | done | with_reducible rfl
      simp only [Act.put, List.setIfInBounds_toArray, List.set_cons_zero, List.set_cons_succ]
      refine wpAnyH_take (i := 15) (oi := ⟨some 80, _, _, _, _, _⟩) (v := ?vz15) rfl (by kernel_rfl) (by kernel_rfl) (by kernel_rfl) (fun _ _ _ h => h) (Or.inl ⟨by rfl, ?yz15⟩) hS ?rz15
      case yz15 => intro W hW; go_simp; first | done | with_reducible rfl
      simp only [Act.put, List.setIfInBounds_toArray, List.set_cons_zero, List.set_cons_succ]
      refine wpAnyH_ready (rs := [16]) (by kernel_rfl) (by simp) ?_
      refine (AllReadyH.cons (o := ⟨some 81, _, _, _, _, _⟩) rfl (fun K hK => ?_) AllReadyH.nil)
      go_simp
      refine hK.out _ _ (hS.alloc _) (fun _ => ?_)
      clear hK K
      have hS2 := hS.alloc (.cells #[.int .u16 (y0 : Int), .int .u16 (y1 : Int)] 61)
      have HLt : Hid (Hs (wr.drew.alloc (.cells #[.int .u16 (y0 : Int), .int .u16 (y1 : Int)] 61)) (wr.drew.alloc (.cells #[.int .u16 (y0 : Int), .int .u16 (y1 : Int)] 61)).heap.size (some ⟨wr.drew.heap.size, 0, none⟩) 2 [y0, y1]) := by
        have e : (wr.drew.alloc (.cells #[.int .u16 (y0 : Int), .int .u16 (y1 : Int)] 61)).heap.size = wr.drew.heap.size + 1 := by simp
        show Hs _ _ _ _ _
        rw [e]
        exact Hs.lit wr.drew [y0, y1] _ rfl 2 rfl
      clear hS
      have hS := hS2
      clear hS2
      refine wpAnyH_take (i := 17) (oi := ⟨some 2, _, _, _, _, _⟩) (v := ?vz17) rfl (by kernel_rfl) (by kernel_rfl) (by kernel_rfl) (fun _ _ _ h => h) (Or.inl ⟨by rfl, ?yz17⟩) hS ?rz17
      case yz17 => intro W hW; go_simp; first | done | with_reducible rfl
      simp only [Act.put, List.setIfInBounds_toArray, List.set_cons_zero, List.set_cons_succ]
      refine wpAnyH_take (i := 18) (oi := ⟨some 3, _, _, _, _, _⟩) (v := ?vz18) rfl (by kernel_rfl) (by kernel_rfl) (by kernel_rfl) (fun _ _ _ h => h) (Or.inl ⟨by rfl, ?yz18⟩) hS ?rz18
      case yz18 => intro W hW; go_simp; first | done | with_reducible rfl
      simp only [Act.put, List.setIfInBounds_toArray, List.set_cons_zero, List.set_cons_succ]
      refine wpAnyH_done (by kernel_rfl) ?_ _
      go_wp2_with fail
      go_ret2
      rw [hR.out]
      exact ⟨⟨_, _, rfl, HLt.out⟩, hkw.out.step hS⟩
end Go.Proofs.YtcepigekibidfaaGreatDoor
