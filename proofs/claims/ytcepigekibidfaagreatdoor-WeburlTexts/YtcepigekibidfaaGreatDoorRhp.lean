/-
  What transeptref07.Parse answers: what the program's own does; nothing that was there turns. Condition: texts of at most 1000000 bytes.
-/
import Derived.Test.YtcepigekibidfaaGreatDoorRhn
import Derived.Test.YtcepigekibidfaaGreatDoorGs
import Derived.Test.YtcepigekibidfaaGreatDoorWfp
namespace Go.Proofs.YtcepigekibidfaaGreatDoor
open Go.RowKit

theorem jn_lt : ∀ (ps : List (List UInt8)) (room A n : Nat), ps.length ≤ room → (A + 1) * 256 ^ room ≤ 4294967296 → jn room A ps = some n → n < 4294967296
  | [], room, A, n, _, h, e => by
    rw [jn] at e
    cases e
    have : (A + 1) * 1 ≤ (A + 1) * 256 ^ room := Nat.mul_le_mul_left _ (Nat.one_le_pow _ _ (by decide))
    omega
  | [p], room, A, n, _, h, e => by
    rw [jn] at e
    obtain ⟨m, _, e⟩ := Option.bind_eq_some_iff.1 e
    split at e
    · cases e
      rw [Nat.add_mul, Nat.one_mul] at h
      omega
    · cases e
  | p :: q :: r, room, A, n, hl, h, e => by
    rw [jn] at e
    obtain ⟨m, _, e⟩ := Option.bind_eq_some_iff.1 e
    split at e
    · refine jn_lt (q :: r) (room - 1) (A * 256 + m) n (by simp only [List.length_cons] at hl ⊢; omega) ?_ e
      have h1 : room = (room - 1) + 1 := by simp only [List.length_cons] at hl; omega
      rw [h1, Nat.pow_succ] at h
      have h2 : (A * 256 + m + 1) * 256 ^ (room - 1) ≤ (A * 256 + 256) * 256 ^ (room - 1) := Nat.mul_le_mul_right _ (by omega)
      have h3 : (A + 1) * (256 ^ (room - 1) * 256) = (A * 256 + 256) * 256 ^ (room - 1) := by rw [Nat.mul_comm (256 ^ (room - 1)) 256, ← Nat.mul_assoc, Nat.add_mul, Nat.one_mul]
      omega
    · cases e
theorem ip4_lt (l : List UInt8) : (ip4 l).1 < 4294967296 := by
  unfold ip4
  split
  · cases hj : joinS (prt l) with
    | none => decide
    | some n =>
      unfold joinS at hj
      split at hj
      · cases hj
      · exact jn_lt (prt l) 4 0 n (by omega) (by decide) hj
  · decide
theorem suf_one (m : List UInt8) (c x : UInt8) : Lib.hasSuffix (m ++ [x]) [c] = decide (x = c) := by
  unfold Lib.hasSuffix
  by_cases h : x = c
  · subst h
    rw [decide_eq_true rfl, List.isSuffixOf_iff_suffix]
    exact ⟨m, rfl⟩
  · rw [decide_eq_false h, Bool.eq_false_iff]
    intro hh
    rw [List.isSuffixOf_iff_suffix] at hh
    obtain ⟨t, e⟩ := hh
    have := (List.append_inj' e rfl).2
    exact h (by simpa using this.symm)
set_option maxHeartbeats 8000000 in
set_option maxRecDepth 100000 in
theorem rp_a (l : List UInt8) (S S1 b : Nat) (he : (str l).toList.isEmpty = false) (hg0 : ∀ h, ((str l)[0]'h).toNat = 91) (hS1 : (S : Int) - 1 = (S1 : Int)) (hS2 : S1 < S) (hg1 : ∀ h, ((str l)[S1]'h).toNat = b) (hb : ((b : Int) != 93) = true) (w : World) (hsz : (str l).size = S) (hS : S ≤ 100000000) : Calls Tryz.prog 30 #[.string (str l)] w fun e w' => e = .returned (.tuple #[.string ⟨#[]⟩, .int .i64 7]) ∧ Below w.heap.size w w' := by
    go_enter Tryz.func30, Tryz.ntmps30
    go_wp2_with fail
    go_ret2
    exact ⟨rfl, Below.refl _ _⟩
set_option maxHeartbeats 8000000 in
set_option maxRecDepth 100000 in
theorem rp_b (l : List UInt8) (S S1 b : Nat) (he : (str l).toList.isEmpty = false) (hg0 : ∀ h, ((str l)[0]'h).toNat = 91) (hS1 : (S : Int) - 1 = (S1 : Int)) (hS2 : S1 < S) (hg1 : ∀ h, ((str l)[S1]'h).toNat = b) (hb : ((b : Int) != 93) = false) (hS3 : 1 ≤ S1) (t : List UInt8) (ht : (str l).extract 1 S1 = str t) (HI : Hid (∀ W, Calls Tryz.prog 48 #[.string (str t)] W fun e w' => e = .returned (.tuple #[.agg (vhs zero8).toArray, .int .i64 7]) ∧ Below W.heap.size W w')) (w : World) (hsz : (str l).size = S) (hS : S ≤ 100000000) : Calls Tryz.prog 30 #[.string (str l)] w fun e w' => e = .returned (.tuple #[.string ⟨#[]⟩, .int .i64 7]) ∧ Below w.heap.size w w' := by
    have hA : zero8.length = 8 := rfl
    go_enter Tryz.func30, Tryz.ntmps30
    go_wp2_with (first
      | (go_at_call 48; (with_reducible refine (HI.out _).mono ?_); (rintro e w1 ⟨rfl, hb1⟩; have k1 : Kept w w1 := hb1; clear hb1))
      | ((with_reducible show wpList _ _ _ (⟨some 4, .alloc _, _, _, _, _⟩ :: _) _ _); refine wp_new _ rfl 62 rfl _ type38 ?_; intro w2 g4 B4 F4; simp only [Act.put, List.setIfInBounds_toArray, List.set_cons_zero, List.set_cons_succ])
      | ((with_reducible show wpList _ _ _ (⟨none, .store 62 (.tmp 4) (.tmp 33), _, _, _, _⟩ :: _) _ _); refine wp_putAll _ rfl 62 (.tmp 4) (.tmp 33) rfl g4 62 _ (vhs zero8) rfl rfl B4 rfl (size38' zero8 hA) (Hs_one _) ?_; intro w3 B3 U3; simp only [Act.put]; have k3 : Kept w w3 := (k1.step F4.below).base (U3.below (by rw [F4.is]; exact k1.size))))
    go_ret2
    exact ⟨rfl, k3⟩
set_option maxHeartbeats 8000000 in
set_option maxRecDepth 100000 in
theorem rp_c (l : List UInt8) (S S1 b : Nat) (he : (str l).toList.isEmpty = false) (hg0 : ∀ h, ((str l)[0]'h).toNat = 91) (hS1 : (S : Int) - 1 = (S1 : Int)) (hS2 : S1 < S) (hg1 : ∀ h, ((str l)[S1]'h).toNat = b) (hb : ((b : Int) != 93) = false) (hS3 : 1 ≤ S1) (t : List UInt8) (ht : (str l).extract 1 S1 = str t) (A : List Nat) (hA : A.length = 8) (HI : Hid (∀ W, Calls Tryz.prog 48 #[.string (str t)] W fun e w' => e = .returned (.tuple #[.agg (vhs A).toArray, .int .i64 0]) ∧ Below W.heap.size W w')) (T X Y : List UInt8) (HT : Hid (∀ W, Calls Tryz.prog 49 #[.agg (vhs A).toArray] W fun e w' => e = .returned (.string (str T)) ∧ Below W.heap.size W w')) (b1 : ⟨#[91]⟩ ++ str T = str X) (b2 : str X ++ ⟨#[93]⟩ = str Y) (r1 : ¬ (9223372036854775807 : Nat) < 1 + (str T).size) (r2 : ¬ (9223372036854775807 : Nat) < (str X).size + 1) (w : World) (hsz : (str l).size = S) (hS : S ≤ 100000000) : Calls Tryz.prog 30 #[.string (str l)] w fun e w' => e = .returned (.tuple #[.string (str Y), .int .i64 0]) ∧ Below w.heap.size w w' := by
    go_enter Tryz.func30, Tryz.ntmps30
    go_wp2_with (first
      | (go_at_call 48; (with_reducible refine (HI.out _).mono ?_); (rintro e w1 ⟨rfl, hb1⟩; have k1 : Kept w w1 := hb1; clear hb1))
      | ((with_reducible show wpList _ _ _ (⟨some 4, .alloc _, _, _, _, _⟩ :: _) _ _); refine wp_new _ rfl 62 rfl _ type38 ?_; intro w2 g4 B4 F4; simp only [Act.put, List.setIfInBounds_toArray, List.set_cons_zero, List.set_cons_succ])
      | ((with_reducible show wpList _ _ _ (⟨none, .store 62 (.tmp 4) (.tmp 33), _, _, _, _⟩ :: _) _ _); refine wp_putAll _ rfl 62 (.tmp 4) (.tmp 33) rfl g4 62 _ (vhs A) rfl rfl B4 (by rw [Hs_len, Hs_len, hA]; rfl) (size38' A hA) (Hs_one _) ?_; intro w3 B3 U3; simp only [Act.put]; have k3 : Kept w w3 := (k1.step F4.below).base (U3.below (by rw [F4.is]; exact k1.size)))
      | ((with_reducible show wpList _ _ _ (⟨some 38, .load 62 (.tmp 4), _, _, _, _⟩ :: _) _ _); refine wp_get _ rfl 62 (.tmp 4) rfl g4 0 (vhs A) _ rfl B3.whole Tryz.underlying62 rfl (size38' A hA) ?_; simp only [Act.put, List.setIfInBounds_toArray, List.set_cons_zero, List.set_cons_succ])
      | (go_at_call 49; (with_reducible refine (HT.out _).mono ?_); (rintro e w5 ⟨rfl, hb5⟩; have k5 := k3.step hb5; clear hb5)))
    go_ret2
    exact ⟨rfl, k5⟩
theorem lowerB_is (c : UInt8) : Lib.lowerB c = if 65 ≤ c.toNat ∧ c.toNat ≤ 90 then c + 32 else c := by
  refine u8_all (P := fun c => Lib.lowerB c = if 65 ≤ c.toNat ∧ c.toNat ≤ 90 then c + 32 else c) ?_ c
  decide +kernel
theorem low_more (d : List UInt8) (k : Nat) (hk : k < d.length) : low (d.take (k + 1)) = low (d.take k) ++ [Lib.lowerB (d.getD k 0)] := by
  rw [List.take_add_one, List.getElem?_eq_getElem hk, List.getD_eq_getElem?_getD, List.getElem?_eq_getElem hk]
  unfold low Lib.toLowerA
  rw [List.map_append]
  rfl
/-- What a name tells, byte by byte. -/
theorem nam_bad (d : List UInt8) (k : Nat) (hk : k < d.length) (h : okc (d.getD k 0) = false) : nam d = ([], true) := by
  unfold nam
  have : may d = false := by
    unfold may
    have h2 : d.all okc = false := by
      rw [Bool.eq_false_iff]
      intro ha
      have := List.all_eq_true.1 ha _ (getD_mem8 d k hk)
      rw [h] at this
      cases this
    rw [h2]
    rfl
  rw [this]
  rfl
set_option maxHeartbeats 8000000 in
set_option maxRecDepth 100000 in
theorem rp_d (l d : List UInt8) (S N : Nat) (w : World) (hN : N = d.length) (hN2 : N ≤ 1000000) (hsz : (str l).size = S) (hS : S ≤ 100000000) (hfst : (str l).toList.isEmpty = true ∨ ((str l).toList.isEmpty = false ∧ ∃ b : Nat, (∀ h, ((str l)[0]'h).toNat = b) ∧ ((b : Int) == 91) = false ∧ 1 ≤ S)) (HD : ∀ W, Calls Tryz.prog 50 #[.string (str l)] W fun e w' => e = .returned (.string (str d)) ∧ Below W.heap.size W w') : Calls Tryz.prog 30 #[.string (str l)] w fun e w' => e = .returned (prsV (nam d)) ∧ Below w.heap.size w w' := by
  have hdz := str_size d
  have hgb : Hid (∀ k, k < N → ∀ h, ((str d)[k]'h).toNat = (d.getD k 0).toNat) := fun k hk h => str_at d k (by omega) h
  have hsu : Hid (∀ k, k < N → low (d.take (k + 1)) = low (d.take k) ++ [Lib.lowerB (d.getD k 0)]) := fun k hk => low_more d k (by omega)
  have hle : Hid (∀ k, (low (d.take k)).length ≤ N) := fun k => by rw [low_length, List.length_take]; omega
  have hfull : Hid (d.take N = d) := by show _ = _; rw [hN, List.take_length]
  have HBAD : Hid (∀ k, k < N → okc (d.getD k 0) = false → Ending.returned (.tuple #[.string ⟨#[]⟩, .int .i64 7]) = .returned (prsV (nam d))) := fun k hk h => by rw [nam_bad d k (by omega) h]; rfl
  have hend : Hid ((∀ j, j < N → okc (d.getD j 0) = true) → d.all okc = true) := fun h => by
    rw [List.all_eq_true]
    intro c hc
    obtain ⟨k, hk, e⟩ := List.getElem_of_mem hc
    have := h k (by omega)
    rw [List.getD_eq_getElem?_getD, List.getElem?_eq_getElem hk] at this
    rw [← e]
    exact this
  have hlow : Hid ((low d).length = N) := by show _ = _; rw [low_length, hN]
  have H4 : Hid (∀ W, Calls Tryz.prog 52 #[.string (str (low d))] W fun e w' => e = .returned (ip4V (ip4 (low d))) ∧ Below W.heap.size W w') := fun W => rip4_any (low d) W (by rw [low_length]; omega)
  have HEND : Hid (d.all okc = true → (d = [] → Ending.returned (.tuple #[.string ⟨#[]⟩, .int .i64 7]) = .returned (prsV (nam d))) ∧ (d ≠ [] → if (ip4 (low d)).2.2 then Ending.returned (.tuple #[.string ⟨#[]⟩, .int .i64 7]) = .returned (prsV (nam d)) else if (ip4 (low d)).2.1 then Ending.returned (.tuple #[.string (str (text4 (ip4 (low d)).1)), .int .i64 0]) = .returned (prsV (nam d)) else Ending.returned (.tuple #[.string (str (low d)), .int .i64 0]) = .returned (prsV (nam d)))) := fun h => by
    constructor
    · intro e
      subst e
      rfl
    · intro e
      have hm : may d = true := by unfold may; rw [h, decide_eq_true e]; rfl
      unfold nam
      rw [if_pos hm]
      split
      · rfl
      · split <;> rfl
  rw [← hN] at hdz
  clear hN
  generalize prsV (nam d) = RES at HBAD HEND ⊢
  rcases hfst with he0 | ⟨he0, b0, hg0, hb0, hS1⟩
  · have HD1 := Lib.hid HD
    go_enter Tryz.func30, Tryz.ntmps30
    go_wp2_with (go_at_call 50; (with_reducible refine (HD1.out _).mono ?_); (rintro e w1 ⟨rfl, hb1⟩; have k1 : Kept w w1 := hb1; clear hb1))
    go_loopw [8, 7] (fun i v wr => ∃ k : Nat, k ≤ N ∧ i = .int .i64 (k : Int) ∧ v = .string (str (low (d.take k))) ∧ Kept w wr ∧ ∀ j, j < k → okc (d.getD j 0) = true) (fun i _ _ => N - (intOf i).toNat)
    case atStart => exact ⟨0, by omega, rfl, rfl, k1, fun j hj => absurd hj (Nat.not_lt_zero _)⟩
    case round =>
      obtain ⟨k, hk, rfl, rfl, hkp, hj⟩ := hrel
      have HJ := Lib.hid (And.intro hkp hj)
      clear hkp hj k1
      have hL := hle.out k
      by_cases hlt : k < N
      · have hkN : (k : Int) < (N : Int) := by omega
        have HG := hgb.out k hlt
        have HSu := hsu.out k hlt
        obtain ⟨c, hc⟩ : ∃ c, c = d.getD k 0 := ⟨_, rfl⟩
        have HC := Lib.hid hc
        rw [← hc] at HG HSu
        obtain ⟨m, hm⟩ : ∃ m, m = c.toNat := ⟨_, rfl⟩
        rw [← hm] at HG
        have hm9 : m < 256 := by rw [hm]; exact c.toNat_lt
        have hB : ∀ W, Calls Tryz.prog 51 #[.int .u8 (m : Int)] W fun e w' => e = .returned (.bool (!okc c)) ∧ w' = W := fun W => by rw [hm]; exact rbad_any c W
        obtain ⟨A, hA⟩ : ∃ X, X = low (d.take k) := ⟨_, rfl⟩
        obtain ⟨Y, hY⟩ : ∃ X, X = low (d.take (k + 1)) := ⟨_, rfl⟩
        rw [← hA] at HSu hL ⊢
        rw [← hY] at HSu
        have HY := Lib.hid hY
        have sA : (str A).size ≤ 100000000 := by rw [str_size]; omega
        have hlb : Lib.lowerB c = if 65 ≤ c.toNat ∧ c.toNat ≤ 90 then c + 32 else c := lowerB_is c
        cases ho : okc c with
        | false =>
          rw [ho] at hB
          have HB : Hid (∀ W, Calls Tryz.prog 51 #[.int .u8 (m : Int)] W fun e w' => e = .returned (.bool true) ∧ w' = W) := hB
          have hF := HBAD.out k hlt (by rw [← HC.out]; exact ho)
          clear hB hc hm hA hY HSu hlb ho
          go_wp2_with (go_at_call 51; (with_reducible refine (HB.out _).mono ?_); rintro e w2 ⟨rfl, rfl⟩)
          go_ret2
          exact ⟨hF, HJ.out.1⟩
        | true =>
          rw [ho] at hB
          have HB : Hid (∀ W, Calls Tryz.prog 51 #[.int .u8 (m : Int)] W fun e w' => e = .returned (.bool false) ∧ w' = W) := hB
          have HO : Hid (∀ j, j < k + 1 → okc (d.getD j 0) = true) := fun j hj => by
            by_cases e : j = k
            · rw [e, ← HC.out]; exact ho
            · exact HJ.out.2 j (by omega)
          rw [← hm] at hlb
          by_cases hup : 65 ≤ m ∧ m ≤ 90
          · have c1 : decide ((65 : Int) ≤ (m : Int)) = true := by simp; omega
            have c2 : decide ((m : Int) ≤ 90) = true := by simp; omega
            rw [if_pos hup] at hlb
            obtain ⟨m2, hm2⟩ : ∃ m2, m2 = m + 32 := ⟨_, rfl⟩
            have e2 : (c + 32).toNat = m2 := by
              rw [UInt8.toNat_add, hm2, hm]
              show (c.toNat + 32) % 256 = _
              omega
            have hm2i : (m : Int) + 32 = (m2 : Int) := by omega
            have hm2w : IntKind.u8.wrap (m2 : Int) = (m2 : Int) := by rw [IntKind.wrap_u8]; omega
            rw [hlb] at HSu
            have aY : str A ++ str [c + 32] = str Y := by rw [HSu]; exact str_add _ _
            have hrun := run_oneb wr m2 (c + 32) e2.symm
            have s1 : (str [c + 32]).size = 1 := str_size _
            clear hB hc hm hA hY HSu hlb ho hup hm2 e2
            generalize c + 32 = cc at aY hrun s1
            go_wp2_with (go_at_call 51; (with_reducible refine (HB.out _).mono ?_); rintro e w2 ⟨rfl, rfl⟩)
            go_roundw
            case rel => exact ⟨k + 1, by omega, by go_num, by rw [HY.out], HJ.out.1.alloc _, HO.out⟩
            case measure => simp [intOf]; omega
          · rw [if_neg hup] at hlb
            rw [hlb] at HSu
            have aY : str A ++ str [c] = str Y := by rw [HSu]; exact str_add _ _
            have hrun := run_oneb wr m c hm
            have s1 : (str [c]).size = 1 := str_size _
            clear hB hc hm hA hY HSu hlb ho
            by_cases h65 : 65 ≤ m
            · have c1 : decide ((65 : Int) ≤ (m : Int)) = true := by simp; omega
              have c2 : decide ((m : Int) ≤ 90) = false := by simp; omega
              clear hup
              go_wp2_with (go_at_call 51; (with_reducible refine (HB.out _).mono ?_); rintro e w2 ⟨rfl, rfl⟩)
              go_roundw
              case rel => exact ⟨k + 1, by omega, by go_num, by rw [HY.out], HJ.out.1.alloc _, HO.out⟩
              case measure => simp [intOf]; omega
            · have c1 : decide ((65 : Int) ≤ (m : Int)) = false := by simp; omega
              clear hup
              go_wp2_with (go_at_call 51; (with_reducible refine (HB.out _).mono ?_); rintro e w2 ⟨rfl, rfl⟩)
              go_roundw
              case rel => exact ⟨k + 1, by omega, by go_num, by rw [HY.out], HJ.out.1.alloc _, HO.out⟩
              case measure => simp [intOf]; omega
      · have hkN : ¬ (k : Int) < (N : Int) := by omega
        have hkN2 : k = N := by omega
        have hall := hend.out (fun j hj => HJ.out.2 j (by omega))
        have hlk : low (d.take k) = low d := by rw [hkN2, hfull.out]
        rw [hlk]
        have hF := HEND.out hall
        have hLl := hlow.out
        have R4 : Hid (∀ W, Calls Tryz.prog 52 #[.string (str (low d))] W fun e w' => e = .returned (ip4V (ip4 (low d))) ∧ Below W.heap.size W w') := H4.out
        have hlt4 := ip4_lt (low d)
        have hem := str_empty (low d)
        have hne : low d = [] ↔ d = [] := by
          constructor
          · intro e
            have := congrArg List.length e
            rw [low_length] at this
            exact List.eq_nil_of_length_eq_zero this
          · intro e; rw [e]; rfl
        obtain ⟨L, hLd⟩ : ∃ L, L = low d := ⟨_, rfl⟩
        rw [← hLd] at hF R4 hlt4 hem hne hLl ⊢
        have hk3 := Lib.hid HJ.out.1
        clear hlk hall hlt hL hk HJ hLd hkN2
        by_cases hd0 : d = []
        · have he : (str L).toList.isEmpty = true := by rw [hem]; simp [hne.2 hd0]
          have hF1 := Lib.hid (hF.1 hd0)
          clear hem hne hF hd0
          go_wp2_with fail
          go_ret2
          exact ⟨hF1.out, hk3.out⟩
        · have he : (str L).toList.isEmpty = false := by rw [hem]; exact decide_eq_false (fun h => hd0 (hne.1 h))
          have hF1 := hF.2 hd0
          clear hem hne hF hd0
          obtain ⟨⟨n, is, er⟩, hr⟩ : ∃ r, r = ip4 L := ⟨_, rfl⟩
          rw [← hr] at R4 hF1 hlt4
          clear hr
          cases er with
          | true =>
            have R5 : Hid (∀ W, Calls Tryz.prog 52 #[.string (str L)] W fun e w' => e = .returned (.tuple #[.int .u32 (n : Int), .bool is, .int .i64 7]) ∧ Below W.heap.size W w') := R4.out
            have hF2 := Lib.hid hF1
            clear hF1 R4 hlt4
            go_wp2_with (go_at_call 52; (with_reducible refine (R5.out _).mono ?_); (rintro e w6 ⟨rfl, hb6⟩; have k6 : Kept w w6 := hk3.out.step hb6; clear hb6))
            go_ret2
            exact ⟨hF2.out, k6⟩
          | false =>
            have R5 : Hid (∀ W, Calls Tryz.prog 52 #[.string (str L)] W fun e w' => e = .returned (.tuple #[.int .u32 (n : Int), .bool is, .int .i64 0]) ∧ Below W.heap.size W w') := R4.out
            have hF2 := Lib.hid hF1
            have RT : Hid (∀ W, Calls Tryz.prog 53 #[.int .u32 (n : Int)] W fun e w' => e = .returned (.string (str (text4 n))) ∧ Below W.heap.size W w') := fun W => text4_any n hlt4 W
            clear hF1 R4 hlt4
            cases is with
            | true =>
              go_wp2_with (first
                | (go_at_call 52; (with_reducible refine (R5.out _).mono ?_); (rintro e w6 ⟨rfl, hb6⟩; have k6 : Kept w w6 := hk3.out.step hb6; clear hb6))
                | (go_at_call 53; (with_reducible refine (RT.out _).mono ?_); (rintro e w7 ⟨rfl, hb7⟩; have k7 := k6.step hb7; clear hb7)))
              go_ret2
              exact ⟨hF2.out, k7⟩
            | false =>
              go_wp2_with (go_at_call 52; (with_reducible refine (R5.out _).mono ?_); (rintro e w6 ⟨rfl, hb6⟩; have k6 : Kept w w6 := hk3.out.step hb6; clear hb6))
              go_ret2
              exact ⟨hF2.out, k6⟩
  · have HD1 := Lib.hid HD
    go_enter Tryz.func30, Tryz.ntmps30
    go_wp2_with (go_at_call 50; (with_reducible refine (HD1.out _).mono ?_); (rintro e w1 ⟨rfl, hb1⟩; have k1 : Kept w w1 := hb1; clear hb1))
    go_loopw [8, 7] (fun i v wr => ∃ k : Nat, k ≤ N ∧ i = .int .i64 (k : Int) ∧ v = .string (str (low (d.take k))) ∧ Kept w wr ∧ ∀ j, j < k → okc (d.getD j 0) = true) (fun i _ _ => N - (intOf i).toNat)
    case atStart => exact ⟨0, by omega, rfl, rfl, k1, fun j hj => absurd hj (Nat.not_lt_zero _)⟩
    case round =>
      obtain ⟨k, hk, rfl, rfl, hkp, hj⟩ := hrel
      have HJ := Lib.hid (And.intro hkp hj)
      clear hkp hj k1
      have hL := hle.out k
      by_cases hlt : k < N
      · have hkN : (k : Int) < (N : Int) := by omega
        have HG := hgb.out k hlt
        have HSu := hsu.out k hlt
        obtain ⟨c, hc⟩ : ∃ c, c = d.getD k 0 := ⟨_, rfl⟩
        have HC := Lib.hid hc
        rw [← hc] at HG HSu
        obtain ⟨m, hm⟩ : ∃ m, m = c.toNat := ⟨_, rfl⟩
        rw [← hm] at HG
        have hm9 : m < 256 := by rw [hm]; exact c.toNat_lt
        have hB : ∀ W, Calls Tryz.prog 51 #[.int .u8 (m : Int)] W fun e w' => e = .returned (.bool (!okc c)) ∧ w' = W := fun W => by rw [hm]; exact rbad_any c W
        obtain ⟨A, hA⟩ : ∃ X, X = low (d.take k) := ⟨_, rfl⟩
        obtain ⟨Y, hY⟩ : ∃ X, X = low (d.take (k + 1)) := ⟨_, rfl⟩
        rw [← hA] at HSu hL ⊢
        rw [← hY] at HSu
        have HY := Lib.hid hY
        have sA : (str A).size ≤ 100000000 := by rw [str_size]; omega
        have hlb : Lib.lowerB c = if 65 ≤ c.toNat ∧ c.toNat ≤ 90 then c + 32 else c := lowerB_is c
        cases ho : okc c with
        | false =>
          rw [ho] at hB
          have HB : Hid (∀ W, Calls Tryz.prog 51 #[.int .u8 (m : Int)] W fun e w' => e = .returned (.bool true) ∧ w' = W) := hB
          have hF := HBAD.out k hlt (by rw [← HC.out]; exact ho)
          clear hB hc hm hA hY HSu hlb ho
          go_wp2_with (go_at_call 51; (with_reducible refine (HB.out _).mono ?_); rintro e w2 ⟨rfl, rfl⟩)
          go_ret2
          exact ⟨hF, HJ.out.1⟩
        | true =>
          rw [ho] at hB
          have HB : Hid (∀ W, Calls Tryz.prog 51 #[.int .u8 (m : Int)] W fun e w' => e = .returned (.bool false) ∧ w' = W) := hB
          have HO : Hid (∀ j, j < k + 1 → okc (d.getD j 0) = true) := fun j hj => by
            by_cases e : j = k
            · rw [e, ← HC.out]; exact ho
            · exact HJ.out.2 j (by omega)
          rw [← hm] at hlb
          by_cases hup : 65 ≤ m ∧ m ≤ 90
          · have c1 : decide ((65 : Int) ≤ (m : Int)) = true := by simp; omega
            have c2 : decide ((m : Int) ≤ 90) = true := by simp; omega
            rw [if_pos hup] at hlb
            obtain ⟨m2, hm2⟩ : ∃ m2, m2 = m + 32 := ⟨_, rfl⟩
            have e2 : (c + 32).toNat = m2 := by
              rw [UInt8.toNat_add, hm2, hm]
              show (c.toNat + 32) % 256 = _
              omega
            have hm2i : (m : Int) + 32 = (m2 : Int) := by omega
            have hm2w : IntKind.u8.wrap (m2 : Int) = (m2 : Int) := by rw [IntKind.wrap_u8]; omega
            rw [hlb] at HSu
            have aY : str A ++ str [c + 32] = str Y := by rw [HSu]; exact str_add _ _
            have hrun := run_oneb wr m2 (c + 32) e2.symm
            have s1 : (str [c + 32]).size = 1 := str_size _
            clear hB hc hm hA hY HSu hlb ho hup hm2 e2
            generalize c + 32 = cc at aY hrun s1
            go_wp2_with (go_at_call 51; (with_reducible refine (HB.out _).mono ?_); rintro e w2 ⟨rfl, rfl⟩)
            go_roundw
            case rel => exact ⟨k + 1, by omega, by go_num, by rw [HY.out], HJ.out.1.alloc _, HO.out⟩
            case measure => simp [intOf]; omega
          · rw [if_neg hup] at hlb
            rw [hlb] at HSu
            have aY : str A ++ str [c] = str Y := by rw [HSu]; exact str_add _ _
            have hrun := run_oneb wr m c hm
            have s1 : (str [c]).size = 1 := str_size _
            clear hB hc hm hA hY HSu hlb ho
            by_cases h65 : 65 ≤ m
            · have c1 : decide ((65 : Int) ≤ (m : Int)) = true := by simp; omega
              have c2 : decide ((m : Int) ≤ 90) = false := by simp; omega
              clear hup
              go_wp2_with (go_at_call 51; (with_reducible refine (HB.out _).mono ?_); rintro e w2 ⟨rfl, rfl⟩)
              go_roundw
              case rel => exact ⟨k + 1, by omega, by go_num, by rw [HY.out], HJ.out.1.alloc _, HO.out⟩
              case measure => simp [intOf]; omega
            · have c1 : decide ((65 : Int) ≤ (m : Int)) = false := by simp; omega
              clear hup
              go_wp2_with (go_at_call 51; (with_reducible refine (HB.out _).mono ?_); rintro e w2 ⟨rfl, rfl⟩)
              go_roundw
              case rel => exact ⟨k + 1, by omega, by go_num, by rw [HY.out], HJ.out.1.alloc _, HO.out⟩
              case measure => simp [intOf]; omega
      · have hkN : ¬ (k : Int) < (N : Int) := by omega
        have hkN2 : k = N := by omega
        have hall := hend.out (fun j hj => HJ.out.2 j (by omega))
        have hlk : low (d.take k) = low d := by rw [hkN2, hfull.out]
        rw [hlk]
        have hF := HEND.out hall
        have hLl := hlow.out
        have R4 : Hid (∀ W, Calls Tryz.prog 52 #[.string (str (low d))] W fun e w' => e = .returned (ip4V (ip4 (low d))) ∧ Below W.heap.size W w') := H4.out
        have hlt4 := ip4_lt (low d)
        have hem := str_empty (low d)
        have hne : low d = [] ↔ d = [] := by
          constructor
          · intro e
            have := congrArg List.length e
            rw [low_length] at this
            exact List.eq_nil_of_length_eq_zero this
          · intro e; rw [e]; rfl
        obtain ⟨L, hLd⟩ : ∃ L, L = low d := ⟨_, rfl⟩
        rw [← hLd] at hF R4 hlt4 hem hne hLl ⊢
        have hk3 := Lib.hid HJ.out.1
        clear hlk hall hlt hL hk HJ hLd hkN2
        by_cases hd0 : d = []
        · have he : (str L).toList.isEmpty = true := by rw [hem]; simp [hne.2 hd0]
          have hF1 := Lib.hid (hF.1 hd0)
          clear hem hne hF hd0
          go_wp2_with fail
          go_ret2
          exact ⟨hF1.out, hk3.out⟩
        · have he : (str L).toList.isEmpty = false := by rw [hem]; exact decide_eq_false (fun h => hd0 (hne.1 h))
          have hF1 := hF.2 hd0
          clear hem hne hF hd0
          obtain ⟨⟨n, is, er⟩, hr⟩ : ∃ r, r = ip4 L := ⟨_, rfl⟩
          rw [← hr] at R4 hF1 hlt4
          clear hr
          cases er with
          | true =>
            have R5 : Hid (∀ W, Calls Tryz.prog 52 #[.string (str L)] W fun e w' => e = .returned (.tuple #[.int .u32 (n : Int), .bool is, .int .i64 7]) ∧ Below W.heap.size W w') := R4.out
            have hF2 := Lib.hid hF1
            clear hF1 R4 hlt4
            go_wp2_with (go_at_call 52; (with_reducible refine (R5.out _).mono ?_); (rintro e w6 ⟨rfl, hb6⟩; have k6 : Kept w w6 := hk3.out.step hb6; clear hb6))
            go_ret2
            exact ⟨hF2.out, k6⟩
          | false =>
            have R5 : Hid (∀ W, Calls Tryz.prog 52 #[.string (str L)] W fun e w' => e = .returned (.tuple #[.int .u32 (n : Int), .bool is, .int .i64 0]) ∧ Below W.heap.size W w') := R4.out
            have hF2 := Lib.hid hF1
            have RT : Hid (∀ W, Calls Tryz.prog 53 #[.int .u32 (n : Int)] W fun e w' => e = .returned (.string (str (text4 n))) ∧ Below W.heap.size W w') := fun W => text4_any n hlt4 W
            clear hF1 R4 hlt4
            cases is with
            | true =>
              go_wp2_with (first
                | (go_at_call 52; (with_reducible refine (R5.out _).mono ?_); (rintro e w6 ⟨rfl, hb6⟩; have k6 : Kept w w6 := hk3.out.step hb6; clear hb6))
                | (go_at_call 53; (with_reducible refine (RT.out _).mono ?_); (rintro e w7 ⟨rfl, hb7⟩; have k7 := k6.step hb7; clear hb7)))
              go_ret2
              exact ⟨hF2.out, k7⟩
            | false =>
              go_wp2_with (go_at_call 52; (with_reducible refine (R5.out _).mono ?_); (rintro e w6 ⟨rfl, hb6⟩; have k6 : Kept w w6 := hk3.out.step hb6; clear hb6))
              go_ret2
              exact ⟨hF2.out, k6⟩
end Go.Proofs.YtcepigekibidfaaGreatDoor
