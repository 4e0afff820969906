/-
  What transeptlaw09.TokenCuts answers: true; nothing that was there turns. Condition: texts of at most 10000000 bytes.
-/
import Derived.Test.YtpkjebagpolfgaaDoorTk
namespace Go.Proofs.YtpkjebagpolfgaaDoor
open Go.RowKit
set_option linter.unusedVariables false

/-- Texts with commas between. -/
def jt : List (List UInt8) → List UInt8
  | [] => []
  | [p] => p
  | p :: q :: r => p ++ 44 :: jt (q :: r)
theorem jt_snoc (q : List UInt8) : ∀ (L : List (List UInt8)), L ≠ [] → jt (L ++ [q]) = jt L ++ [44] ++ q := by
  intro L
  induction L with
  | nil => intro h; exact absurd rfl h
  | cons p r ih =>
    intro _
    cases r with
    | nil => simp [jt]
    | cons x r =>
      have h := ih (by simp)
      rw [List.cons_append, List.cons_append, jt, ← List.cons_append, h, jt]
      simp
/-- A part as it is: no quote, no comma, no blank at its ends. -/
def Prt (p : List UInt8) : Prop := (∀ c ∈ p, c ≠ 34 ∧ c ≠ 44) ∧ tg p = p
theorem prts_jt : ∀ L : List (List UInt8), L ≠ [] → (∀ p ∈ L, Prt p) → prts (jt L) = L := by
  intro L
  induction L with
  | nil => intro h; exact absurd rfl h
  | cons p r ih =>
    intro _ h
    obtain ⟨h1, h2⟩ := h p List.mem_cons_self
    cases r with
    | nil =>
      have e : jt [p] = p ++ [] := (List.append_nil p).symm
      rw [e]
      unfold prts
      rw [pt_out [] p [] h1]
      simp [pt, h2]
    | cons x r =>
      have hx := ih (by simp) (fun q hq => h q (List.mem_cons_of_mem _ hq))
      have e : jt (p :: x :: r) = p ++ 44 :: jt (x :: r) := rfl
      rw [e]
      unfold prts
      rw [pt_out _ p [] h1, pt, if_neg (by decide), if_pos rfl]
      unfold prts at hx
      rw [hx]
      simp [h2]
theorem pt_plain : ∀ (s cur : List UInt8), (∀ c ∈ s, c ≠ 34) → (∀ c ∈ cur, c ≠ 34 ∧ c ≠ 44) → (pt s 0 cur).length = s.count 44 + 1 ∧ (∀ p ∈ pt s 0 cur, Prt p) ∧ ∀ p ∈ pt s 0 cur, p.length ≤ cur.length + s.length := by
  intro s
  induction s with
  | nil =>
    intro cur _ hc
    simp only [pt, List.length_singleton, List.count_nil, List.mem_singleton, forall_eq]
    exact ⟨trivial, ⟨fun c h => hc c (tS_mem _ _ _ h), tS_tS _ _⟩, by have := tS_len cur G2; unfold tg; simpa using this⟩
  | cons c s ih =>
    intro cur hs hc
    have h34 := hs c List.mem_cons_self
    have hs' : ∀ x ∈ s, x ≠ 34 := fun x hx => hs x (List.mem_cons_of_mem _ hx)
    rw [pt, if_neg h34]
    by_cases h44 : c = 44
    · rw [if_pos h44]
      obtain ⟨h1, h2, h3⟩ := ih [] hs' (fun x hx => by cases hx)
      refine ⟨by rw [List.length_cons, h1, h44, List.count_cons_self], fun p hp => ?_, fun p hp => ?_⟩
      · rcases List.mem_cons.1 hp with rfl | hp
        · exact ⟨fun c h => hc c (tS_mem _ _ _ h), tS_tS _ _⟩
        · exact h2 p hp
      · rcases List.mem_cons.1 hp with rfl | hp
        · have := tS_len cur G2
          unfold tg
          simp only [List.length_cons]
          omega
        · have := h3 p hp
          simp only [List.length_cons, List.length_nil] at this ⊢
          omega
    · rw [if_neg h44]
      obtain ⟨h1, h2, h3⟩ := ih (cur ++ [c]) hs' (fun x hx => by
        rcases List.mem_append.1 hx with hx | hx
        · exact hc x hx
        · rw [List.mem_singleton] at hx; subst hx; exact ⟨h34, h44⟩)
      refine ⟨by rw [h1, List.count_cons_of_ne (by simpa using h44)], h2, fun p hp => ?_⟩
      have := h3 p hp
      simp only [List.length_append, List.length_cons, List.length_nil] at this ⊢
      omega
theorem prts_cuts (s : List UInt8) (h : ∀ c ∈ s, c ≠ 34) : (prts s).length = s.count 44 + 1 ∧ prts (jt (prts s)) = prts s ∧ ∀ p ∈ prts s, p.length ≤ s.length := by
  obtain ⟨h1, h2, h3⟩ := pt_plain s [] h (fun x hx => by cases hx)
  exact ⟨h1, prts_jt _ (fun e => by have := prts_pos s; rw [e] at this; simp at this) h2, fun p hp => by have := h3 p hp; simpa using this⟩
theorem jt_len (B : Nat) : ∀ L : List (List UInt8), (∀ p ∈ L, p.length ≤ B) → (jt L).length ≤ L.length * (B + 1) := by
  intro L
  induction L with
  | nil => intro _; simp [jt]
  | cons p r ih =>
    intro h
    have hp := h p List.mem_cons_self
    cases r with
    | nil => simp only [jt, List.length_singleton]; omega
    | cons x r =>
      have := ih (fun q hq => h q (List.mem_cons_of_mem _ hq))
      simp only [jt, List.length_append, List.length_cons] at this ⊢
      rw [Nat.add_mul _ 1 (B + 1)]
      omega
theorem jt_take (L : List (List UInt8)) (k : Nat) (hk : k < L.length) (h0 : 0 < k) : jt (L.take (k + 1)) = jt (L.take k) ++ [44] ++ L.getD k [] := by
  have e : L.take (k + 1) = L.take k ++ [L.getD k []] := by
    rw [List.take_add_one, row_at L k hk]
    rfl
  rw [e, jt_snoc _ _ (by
    intro e2
    have := congrArg List.length e2
    rw [List.length_take, List.length_nil] at this
    omega)]
theorem jt_first (L : List (List UInt8)) (hk : 0 < L.length) : jt (L.take 1) = L.getD 0 [] := by
  cases L with
  | nil => simp at hk
  | cons p r => rfl
theorem cnt_drop (s : List UInt8) (k : Nat) (hk : k < s.length) : (s.take (k + 1)).count 44 = (s.take k).count 44 + if s.getD k 0 = 44 then 1 else 0 := by
  rw [List.take_add_one, List.count_append, List.getD_eq_getElem?_getD, List.getElem?_eq_getElem hk]
  congr 1
  by_cases h : s[k] = 44 <;> simp [h]
set_option maxHeartbeats 2000000 in
set_option maxRecDepth 100000 in
theorem cuts_any9 (s : List UInt8) (w : World) (hs : s.length ≤ 1048576) : Calls Tryd.prog 7 #[.string (str s)] w fun e w' => e = .returned (.bool true) ∧ Below w.heap.size w w' := by
  have H0 : Hid (∀ w', Calls Tryd.prog 10 #[] w' fun e w2 => e = .returned (.bool true) ∧ Below w'.heap.size w' w2) := fun w' => shown_any w'
  have hsz := str_size s
  have hgb : Hid (∀ k, k < s.length → ∀ h, ((str s)[k]'h).toNat = (s.getD k 0).toNat) := fun k hk h => str_at s k hk h
  have hall : Hid ((∀ k, k < s.length → s.getD k 0 ≠ 34) → ∀ c ∈ s, c ≠ 34) := fun h c hc => by
    obtain ⟨k, hk, rfl⟩ := List.getElem_of_mem hc
    have := h k hk
    rw [List.getD_eq_getElem?_getD, List.getElem?_eq_getElem hk] at this
    exact this
  have hcn : Hid (∀ k, k < s.length → (s.take (k + 1)).count 44 = (s.take k).count 44 + if s.getD k 0 = 44 then 1 else 0) := fun k hk => cnt_drop s k hk
  have hcl : Hid (∀ k, (s.take k).count 44 ≤ k) := fun k => by have h1 := List.count_le_length (a := (44 : UInt8)) (l := s.take k); have h2 := List.length_take_le k s; omega
  have hfull : Hid ((s.take s.length).count 44 = s.count 44) := by show _ = _; rw [List.take_length]
  have HC : Hid ((∀ c ∈ s, c ≠ 34) → (prts s).length = s.count 44 + 1 ∧ prts (jt (prts s)) = prts s ∧ ∀ p ∈ prts s, p.length ≤ s.length) := prts_cuts s
  have HP : Hid (∀ w', Calls Tryd.prog 25 #[.string (str s)] w' fun e w2 => ∃ g c, e = .returned (.slice (some ⟨g, 0, none⟩) (prts s).length c) ∧ (prts s).length ≤ c ∧ Ps w2 g (prts s) ∧ Below w'.heap.size w' w2) := fun w' => parts_any s w' (by omega) (by have := pt_len s 0 []; unfold prts; omega)
  have hPl : (prts s).length ≤ 1048577 := by have := pt_len s 0 []; unfold prts; omega
  obtain ⟨P, hP⟩ : ∃ P, P = prts s := ⟨_, rfl⟩
  rw [← hP] at HC HP hPl
  have HT : Hid (prts (jt P) = P → (jt P).length ≤ 4611686018427387904 → ∀ w', Calls Tryd.prog 25 #[.string (str (jt P))] w' fun e w2 => ∃ g c, e = .returned (.slice (some ⟨g, 0, none⟩) P.length c) ∧ P.length ≤ c ∧ Ps w2 g P ∧ Below w'.heap.size w' w2) := fun h hl w' => by
    have e := parts_any (jt P) w' hl (by rw [h]; omega)
    rw [h] at e
    exact e
  have HSm : Hid (∀ g h c d w', Ps w' g P → Ps w' h P → P.length ≤ c → P.length ≤ d → Calls Tryd.prog 24 #[.slice (some ⟨g, 0, none⟩) P.length c, .slice (some ⟨h, 0, none⟩) P.length d] w' fun e w2 => e = .returned (.bool true) ∧ Below w'.heap.size w' w2) := fun g h c d w' h1 h2 h3 h4 => by
    have := same_any P P (some ⟨g, 0, none⟩) (some ⟨h, 0, none⟩) c d w' (ps_same (c := c) h1) (ps_same (c := c) h2) h3 h4 (by omega)
    rwa [decide_eq_true rfl] at this
  have hrow : Hid (∀ k, k < P.length → P[k]? = some (P.getD k [])) := fun k hk => row_at P k hk
  have hj1 : Hid (∀ k, k < P.length → 0 < k → jt (P.take (k + 1)) = jt (P.take k) ++ [44] ++ P.getD k []) := fun k hk h0 => jt_take P k hk h0
  have hj0 : Hid (0 < P.length → jt (P.take 1) = P.getD 0 []) := fun h => jt_first P h
  have hjl : Hid ((∀ p ∈ P, p.length ≤ s.length) → (∀ k, (jt (P.take k)).length ≤ 1048577 * 1048577) ∧ ∀ k, (P.getD k []).length ≤ 1048576) := fun h => ⟨fun k => by
    have h1 := jt_len s.length (P.take k) (fun p hp => h p (List.mem_of_mem_take hp))
    have h2 : (P.take k).length ≤ 1048577 := by rw [List.length_take]; omega
    exact Nat.le_trans h1 (Nat.mul_le_mul h2 (by omega)), fun k => by
    rw [List.getD_eq_getElem?_getD]
    cases e : P[k]? with
    | none => simp
    | some p => exact Nat.le_trans (h p (List.mem_of_getElem? e)) hs⟩
  have hjf : Hid (jt (P.take P.length) = jt P) := by show _ = _; rw [List.take_length]
  obtain ⟨N, hN⟩ : ∃ N, N = P.length := ⟨_, rfl⟩
  rw [← hN] at HP HT HSm hrow hj1 hj0 hjf hPl HC
  obtain ⟨S, hS⟩ : ∃ S, S = s.length := ⟨_, rfl⟩
  rw [← hS] at hsz hs hgb hall hcn hfull
  have HSl : Hid (S = s.length) := hS
  clear hS hP hN
  go_enter Tryd.func7, Tryd.ntmps7
  go_wp2_with (go_at_call 10; (with_reducible refine (H0.out _).mono ?_); (rintro e w1 ⟨rfl, hb⟩; have K1 := Lib.hid ((Kept.refl w).step hb); clear hb))
  go_loop [4] (fun i => ∃ k : Nat, k ≤ S ∧ i = .int .i64 (k : Int) ∧ ∀ j, j < k → s.getD j 0 ≠ 34) (fun i => S - (intOf i).toNat)
  case atStart => exact ⟨0, by omega, rfl, fun j h => absurd h (by omega)⟩
  case round =>
    obtain ⟨k, hk, rfl, hA⟩ := hrel
    have HA := Lib.hid hA
    clear hA
    by_cases hlt : k < S
    · have hkS : (k : Int) < (S : Int) := by omega
      have HG := hgb.out k hlt
      obtain ⟨c, hc⟩ : ∃ c, c = s.getD k 0 := ⟨_, rfl⟩
      rw [← hc] at HG
      have i34 := uInj 34 34 rfl c
      obtain ⟨b, hbb⟩ : ∃ b, b = c.toNat := ⟨_, rfl⟩
      rw [← hbb] at HG i34
      have HCc := Lib.hid hc
      clear hbb hc
      by_cases h : b = 34
      · have c0 : ((b : Int) == 34) = true := by simp; omega
        clear h i34
        go_wp2_with fail
        go_ret
        exact ⟨rfl, K1.out⟩
      · have c0 : ((b : Int) == 34) = false := by simp; omega
        have HX : Hid (c ≠ 34) := fun e => h (i34.2 e)
        clear h i34
        go_wp2_with fail
        go_round
        case rel => exact ⟨k + 1, by omega, by go_num, fun j hj => by
          by_cases e : j = k
          · subst e; rw [← HCc.out]; exact HX.out
          · exact HA.out j (by omega)⟩
        case measure => simp [intOf]; omega
    · have hkS : ¬ (k : Int) < (S : Int) := by omega
      obtain ⟨hcnt, hpj, hpl⟩ := HC.out (hall.out fun j hj => HA.out j (by omega))
      obtain ⟨hjk, hgk⟩ := hjl.out hpl
      have HCnt := Lib.hid hcnt
      have HJK := Lib.hid hjk
      have HGK := Lib.hid hgk
      have HT' := Lib.hid (HT.out hpj (by rw [← hjf.out]; exact Nat.le_trans (hjk N) (by decide)))
      clear hcnt hpj hpl hjk hgk hlt HA HC HT hall hjl
      go_wp2_with (go_at_call 25; (with_reducible refine (HP.out _).mono ?_); (rintro e w2 ⟨g1, d1, rfl, hd1, hps1, hb⟩; have K2 := Lib.hid (K1.out.step hb); have P1 := Lib.hid hps1; have D1 := Lib.hid hd1; clear hb hps1 hd1))
      go_loop [8, 6] (fun i t => ∃ k : Nat, k ≤ N ∧ i = .int .i64 (k : Int) ∧ t = .string (str (jt (P.take k)))) (fun i _ => N - (intOf i).toNat)
      case atStart => exact ⟨0, by omega, rfl, rfl⟩
      case round =>
        obtain ⟨k, hk, rfl, rfl⟩ := hrel
        by_cases hlt : k < N
        · have hkS : (k : Int) < (N : Int) := by omega
          have hcell := P1.out.at_ (hrow.out k hlt)
          have hq := HGK.out k
          have hz := HJK.out k
          by_cases h0 : 0 < k
          · have h0i : (0 : Int) < (k : Int) := by omega
            have hj := hj1.out k hlt h0
            obtain ⟨X, hX⟩ : ∃ X, X = P.getD k [] := ⟨_, rfl⟩
            obtain ⟨J, hJ⟩ : ∃ J, J = jt (P.take k) := ⟨_, rfl⟩
            rw [← hX] at hcell hq hj
            rw [← hJ] at hz hj ⊢
            obtain ⟨J1, hJ1⟩ : ∃ Y, Y = J ++ [44] := ⟨_, rfl⟩
            have e1 : str J ++ (⟨#[44]⟩ : ByteArray) = str J1 := by rw [hJ1]; exact str_add _ [44]
            obtain ⟨Y, hY⟩ : ∃ Y, Y = J1 ++ X := ⟨_, rfl⟩
            have e2 : str J1 ++ str X = str Y := by rw [hY]; exact str_add _ _
            have HY : Hid (jt (P.take (k + 1)) = Y) := by show _ = _; rw [hj, hY, hJ1]
            have q1 : ¬ (9223372036854775807 : Nat) < (str J).size + 1 := by rw [str_size]; omega
            have q2 : ¬ (9223372036854775807 : Nat) < (str J1).size + (str X).size := by rw [str_size, str_size, hJ1]; simp; omega
            clear hX hJ hJ1 hY hj hq hz h0
            go_wp2_with fail
            go_round
            case rel => exact ⟨k + 1, by omega, by go_num, by rw [HY.out]⟩
            case measure => simp [intOf]; omega
          · obtain rfl : k = 0 := by omega
            have hj := hj0.out hlt
            obtain ⟨X, hX⟩ : ∃ X, X = P.getD 0 [] := ⟨_, rfl⟩
            rw [← hX] at hcell hj hq
            have e2 : (⟨#[]⟩ : ByteArray) ++ str X = str X := str_add [] X
            have e0 : str (jt (P.take 0)) = ⟨#[]⟩ := rfl
            have HY : Hid (jt (P.take 1) = X) := hj
            have q1 : ¬ (9223372036854775807 : Nat) < 0 + (str X).size := by rw [str_size]; omega
            have q2 : ¬ (9223372036854775807 : Nat) < (str X).size := by rw [str_size]; omega
            rw [e0]
            clear hX hj hq hz h0 e0
            go_wp2_with fail
            go_round
            case rel => exact ⟨1, by omega, by go_num, by rw [HY.out]⟩
            case measure => simp [intOf]; omega
        · have hkS : ¬ (k : Int) < (N : Int) := by omega
          have hkN : k = N := by omega
          rw [hkN, hjf.out]
          clear hlt hk hkN hkS
          have hNN : ¬ (N : Int) < (N : Int) := by omega
          go_wp2_with fail
          go_loop [9, 7] (fun i n => ∃ k : Nat, k ≤ S ∧ i = .int .i64 (k : Int) ∧ n = .int .i64 (((s.take k).count 44 : Nat) : Int)) (fun i _ => S - (intOf i).toNat)
          case atStart => exact ⟨0, by omega, rfl, rfl⟩
          case round =>
            obtain ⟨k, hk, rfl, rfl⟩ := hrel
            by_cases hlt : k < S
            · have hkS : (k : Int) < (S : Int) := by omega
              have HG := hgb.out k hlt
              have hc1 := hcn.out k hlt
              have hc2 := hcl.out k
              obtain ⟨c, hc⟩ : ∃ c, c = s.getD k 0 := ⟨_, rfl⟩
              rw [← hc] at HG hc1
              have i44 := uInj 44 44 rfl c
              obtain ⟨b, hbb⟩ : ∃ b, b = c.toNat := ⟨_, rfl⟩
              rw [← hbb] at HG i44
              clear hbb hc
              obtain ⟨m, hm⟩ : ∃ m, m = (s.take k).count 44 := ⟨_, rfl⟩
              rw [← hm] at hc1 hc2 ⊢
              clear hm
              by_cases h : b = 44
              · have c0 : ((b : Int) == 44) = true := by simp; omega
                rw [if_pos (i44.1 h)] at hc1
                have HX := Lib.hid hc1
                have hwr : IntKind.i64.wrap ((m : Int) + 1) = (m : Int) + 1 := by rw [IntKind.wrap_i64]; omega
                clear h i44 hc1
                go_wp2_with fail
                go_round
                case rel => exact ⟨k + 1, by omega, by go_num, by rw [HX.out]; rfl⟩
                case measure => simp [intOf]; omega
              · have c0 : ((b : Int) == 44) = false := by simp; omega
                rw [if_neg (fun e => h (i44.2 e))] at hc1
                have HX := Lib.hid hc1
                clear h i44 hc1
                go_wp2_with fail
                go_round
                case rel => exact ⟨k + 1, by omega, by go_num, by rw [HX.out]; rfl⟩
                case measure => simp [intOf]; omega
            · have hkS : ¬ (k : Int) < (S : Int) := by omega
              have hkN : k = S := by omega
              rw [hkN, hfull.out]
              have hSS : ¬ (S : Int) < (S : Int) := by omega
              have hcc := HCnt.out
              obtain ⟨m, hm⟩ : ∃ m, m = s.count 44 := ⟨_, rfl⟩
              rw [← hm] at hcc ⊢
              have hwr : IntKind.i64.wrap ((m : Int) + 1) = (N : Int) := by rw [IntKind.wrap_i64]; omega
              clear hlt hk hkN hkS hm hcc
              go_wp2_with (first
                | (go_at_call 25; (with_reducible refine (HT'.out _).mono ?_); (rintro e w3 ⟨g2, d2, rfl, hd2, hps2, hb⟩; have K3 := Lib.hid (K2.out.step hb); have P2 := Lib.hid hps2; have D2 := Lib.hid hd2; have P3 := Lib.hid (P1.out.kept hb); clear hb hps2 hd2))
                | (go_at_call 24; (with_reducible refine (HSm.out _ _ _ _ _ P2.out P3.out D2.out D1.out).mono ?_); (rintro e w4 ⟨rfl, hb⟩; have K4 := Lib.hid (K3.out.step hb); clear hb)))
              go_ret
              exact ⟨rfl, K4.out⟩
end Go.Proofs.YtpkjebagpolfgaaDoor
