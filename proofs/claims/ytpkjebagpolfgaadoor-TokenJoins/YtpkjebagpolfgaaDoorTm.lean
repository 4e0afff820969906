/-
  What transeptlaw09.TokenJoins answers: true; nothing that was there turns. Condition: texts of at most 2^47 bytes.
-/
import Derived.Test.YtpkjebagpolfgaaDoorTk
namespace Go.Proofs.YtpkjebagpolfgaaDoor
open Go.RowKit
set_option linter.unusedVariables false

/-- The slice A holds n texts. -/
def Tv (w : World) (A : Option Addr) (n : Nat) (L : List (List UInt8)) : Prop := L.length = n ∧ ∀ (j : Nat) (p : List UInt8), L[j]? = some p → ∃ b off, A = some ⟨b, off, none⟩ ∧ b < w.heap.size ∧ w.cell? ⟨b, off + j, none⟩ = some (.string (str p))
/-- The slice A holds n answers. -/
def Lv (w : World) (A : Option Addr) (n : Nat) (L : List Bool) : Prop := L.length = n ∧ ∀ (j : Nat) (p : Bool), L[j]? = some p → ∃ b off, A = some ⟨b, off, none⟩ ∧ b < w.heap.size ∧ w.cell? ⟨b, off + j, none⟩ = some (.bool p)
/-- The text J has the names so far as its parts, whatever stands behind it. -/
def Jn (N : List (List UInt8)) (J : List UInt8) : Prop := (N = [] ∧ J = []) ∨ ∃ M p cur, N = M ++ [p] ∧ tg cur = p ∧ ∀ r, pt (J ++ r) 0 [] = M ++ pt r 0 cur
theorem piece (a p b : List UInt8) (hp : nmb p = true) (ha : ∀ c ∈ a, G2.contains c = true) (hb : ∀ c ∈ b, G2.contains c = true) : tg (a ++ p ++ b) = p ∧ ∀ c ∈ a ++ p ++ b, c ≠ 34 ∧ c ≠ 44 := by
  have hg : ∀ c, G2.contains c = true → c ≠ 34 ∧ c ≠ 44 := fun c h => by
    have : c = 9 ∨ c = 32 := by simpa [G2] using h
    rcases this with rfl | rfl <;> decide
  refine ⟨?_, fun c hc => ?_⟩
  · have := tS_app a p b G2 ha hb
    unfold tg
    rw [this]
    exact nmb_tg hp
  · rcases List.mem_append.1 hc with hc | hc
    · rcases List.mem_append.1 hc with hc | hc
      · exact hg c (ha c hc)
      · exact ⟨(inN_facts c (nmb_mem hp c hc)).2.2.2.1, (inN_facts c (nmb_mem hp c hc)).2.2.2.2.1⟩
    · exact hg c (hb c hc)
theorem Jn.zero {J : List UInt8} (h : Jn [] J) (a p b : List UInt8) (hp : nmb p = true) (ha : ∀ c ∈ a, G2.contains c = true) (hb : ∀ c ∈ b, G2.contains c = true) : Jn ([] ++ [p]) (J ++ a ++ p ++ b) := by
  have hJ : J = [] := by
    rcases h with ⟨_, h⟩ | ⟨M, x, cur, h, _⟩
    · exact h
    · simp at h
  subst hJ
  obtain ⟨h1, h2⟩ := piece a p b hp ha hb
  refine .inr ⟨[], p, a ++ p ++ b, rfl, h1, fun r => ?_⟩
  rw [List.nil_append, pt_out r _ [] h2]
  rfl
theorem Jn.more {N : List (List UInt8)} {J : List UInt8} (h : Jn N J) (hne : N ≠ []) (a p b : List UInt8) (hp : nmb p = true) (ha : ∀ c ∈ a, G2.contains c = true) (hb : ∀ c ∈ b, G2.contains c = true) : Jn (N ++ [p]) (J ++ [44] ++ a ++ p ++ b) := by
  rcases h with ⟨h, _⟩ | ⟨M, x, cur, rfl, h1, h2⟩
  · exact absurd h hne
  · obtain ⟨g1, g2⟩ := piece a p b hp ha hb
    refine .inr ⟨M ++ [x], p, a ++ p ++ b, rfl, g1, fun r => ?_⟩
    have e : J ++ [44] ++ a ++ p ++ b ++ r = J ++ (44 :: ((a ++ p ++ b) ++ r)) := by simp
    rw [e, h2, pt, if_neg (by decide), if_pos rfl, pt_out r _ [] g2, h1]
    simp
theorem Jn.parts {N : List (List UInt8)} {J : List UInt8} (h : Jn N J) (hne : N ≠ []) : prts J = N := by
  rcases h with ⟨h, _⟩ | ⟨M, x, cur, rfl, h1, h2⟩
  · exact absurd h hne
  · have := h2 []
    rw [List.append_nil] at this
    unfold prts
    rw [this]
    simp [pt, h1]
theorem Jn.empty {J : List UInt8} (h : Jn [] J) : J = [] := by
  rcases h with ⟨_, h⟩ | ⟨M, x, cur, h, _⟩
  · exact h
  · simp at h
theorem parts_nil (w : World) : Calls Tryd.prog 25 #[.string ⟨#[]⟩] w fun e w2 => ∃ g c, e = .returned (.slice (some ⟨g, 0, none⟩) 1 c) ∧ 1 ≤ c ∧ Ps w2 g [[]] ∧ Below w.heap.size w w2 := by
  have e : prts [] = [[]] := by decide
  have h := parts_any [] w (by simp) (by rw [e]; simp)
  rw [e] at h
  exact h
theorem own_ps {w : World} {base n : Nat} {A : Option Addr} {c : Nat} {L : List (List UInt8)} (h : OwnT w base (.slice A n c) n L) (hn : 0 < n) : n ≤ c ∧ ∀ (j : Nat) (x : List UInt8), L[j]? = some x → ∃ g, A = some ⟨g, 0, none⟩ ∧ w.cell? ⟨g, j, none⟩ = some (vstr x) := by
  obtain ⟨A', c', he, hc, _, hf⟩ := h.form
  cases he
  obtain ⟨g, rfl, _, _, hcell⟩ := hf (by omega)
  exact ⟨hc, fun j x hj => ⟨g, rfl, hcell j x hj⟩⟩
set_option maxHeartbeats 16000000 in
set_option maxRecDepth 100000 in
theorem joins_any9 (Z : List (List UInt8)) (Bl : List Bool) (A B : Option Addr) (n0 c0 m0 d0 : Nat) (w : World) (hz : Tv w A n0 Z) (hbl : Lv w B m0 Bl) (hnc : n0 ≤ c0) (hmd : m0 ≤ d0) (hn0m : n0 ≤ 9223372036854775807) (hm0m : m0 ≤ 9223372036854775807) (hlim : ∀ p ∈ Z, p.length ≤ 140737488351232) : Calls Tryd.prog 5 #[.slice A n0 c0, .slice B m0 d0] w fun e w' => e = .returned (.bool true) ∧ Below w.heap.size w w' := by
  have H0 : Hid (∀ w', Calls Tryd.prog 10 #[] w' fun e w2 => e = .returned (.bool true) ∧ Below w'.heap.size w' w2) := fun w' => shown_any w'
  have hpart : Hid (∀ J N, prts J = N → J.length ≤ 4611686018427387904 → N.length ≤ 50 → ∀ w', Calls Tryd.prog 25 #[.string (str J)] w' fun e w2 => ∃ g c, e = .returned (.slice (some ⟨g, 0, none⟩) N.length c) ∧ N.length ≤ c ∧ Ps w2 g N ∧ Below w'.heap.size w' w2) := fun J N h h1 h2 w' => by
    have e := parts_any J w' h1 (by rw [h]; omega)
    rw [h] at e
    exact e
  have hsame : Hid (∀ N A1 c1, N.length = N.length → N.length ≤ c1 → N.length ≤ 50 → ∀ g c w', Ps w' g N → (∀ (j : Nat) (x : List UInt8), N[j]? = some x → ∃ g', A1 = some ⟨g', 0, none⟩ ∧ w'.cell? ⟨g', j, none⟩ = some (vstr x)) → N.length ≤ c → Calls Tryd.prog 24 #[.slice (some ⟨g, 0, none⟩) N.length c, .slice A1 N.length c1] w' fun e w2 => e = .returned (.bool true) ∧ Below w'.heap.size w' w2) := fun N A1 c1 _ h1 h2 g c w' hp hq hc => by
    have := same_any N N (some ⟨g, 0, none⟩) A1 c c1 w' (ps_same (c := c) hp) hq hc h1 (by omega)
    rwa [decide_eq_true rfl] at this
  have hsame2 : Hid (∀ N A1 c1 {k : Nat}, N.length = k → k ≤ c1 → k ≤ 50 → ∀ g c w', Ps w' g N → (∀ (j : Nat) (x : List UInt8), N[j]? = some x → ∃ g', A1 = some ⟨g', 0, none⟩ ∧ w'.cell? ⟨g', j, none⟩ = some (vstr x)) → k ≤ c → Calls Tryd.prog 24 #[.slice (some ⟨g, 0, none⟩) k c, .slice A1 k c1] w' fun e w2 => e = .returned (.bool true) ∧ Below w'.heap.size w' w2) := fun N A1 c1 k hk => by
    subst hk
    exact hsame.out N A1 c1 rfl
  clear hsame
  have HP0 : Hid (∀ w', Calls Tryd.prog 25 #[.string ⟨#[]⟩] w' fun e w2 => ∃ g c, e = .returned (.slice (some ⟨g, 0, none⟩) 1 c) ∧ 1 ≤ c ∧ Ps w2 g [[]] ∧ Below w'.heap.size w' w2) := parts_nil
  have HS0 : Hid (∀ g h c w', Ps w' g [[]] → Ps w' h [[]] → 1 ≤ c → Calls Tryd.prog 24 #[.slice (some ⟨g, 0, none⟩) 1 c, .slice (some ⟨h, 0, none⟩) 1 1] w' fun e w2 => e = .returned (.bool true) ∧ Below w'.heap.size w' w2) := fun g h c w' h1 h2 h3 => hsame2.out [[]] (some ⟨h, 0, none⟩) 1 rfl (by decide) (by decide) g c w' h1 (ps_same (c := c) h2) h3
  have hrow : Hid (∀ k, k < n0 → ∃ p b off, Z[k]? = some p ∧ p.length ≤ 140737488351232 ∧ A = some ⟨b, off, none⟩ ∧ b < w.heap.size ∧ w.cell? ⟨b, off + k, none⟩ = some (.string (str p))) := fun k hk => by
    have h1 := row_at Z k (by rw [hz.1]; exact hk)
    obtain ⟨b, off, e1, e2, e3⟩ := hz.2 k _ h1
    exact ⟨_, b, off, h1, hlim _ (List.mem_of_getElem? h1), e1, e2, e3⟩
  have hboo : Hid (∀ k, k < m0 → ∃ p b off, B = some ⟨b, off, none⟩ ∧ b < w.heap.size ∧ w.cell? ⟨b, off + k, none⟩ = some (.bool p)) := fun k hk => by
    obtain ⟨p, hp⟩ : ∃ p, Bl[k]? = some p := ⟨Bl[k]'(by rw [hbl.1]; exact hk), List.getElem?_eq_getElem _⟩
    obtain ⟨b, off, e1, e2, e3⟩ := hbl.2 k _ hp
    exact ⟨p, b, off, e1, e2, e3⟩
  have HN11 : Hid (∀ p, p.length ≤ 140737488351232 → ∀ w', Calls Tryd.prog 11 #[.string (str p)] w' fun e w2 => e = .returned (.bool (nmb p)) ∧ w2 = w') := fun p h w' => name_any p w' (by omega)
  have hjz : Hid (∀ J p a b, Jn [] J → nmb p = true → (∀ c ∈ a, G2.contains c = true) → (∀ c ∈ b, G2.contains c = true) → Jn ([] ++ [p]) (J ++ a ++ p ++ b)) := fun J p a b h h1 h2 h3 => h.zero a p b h1 h2 h3
  have hjm : Hid (∀ N J p a b, Jn N J → N ≠ [] → nmb p = true → (∀ c ∈ a, G2.contains c = true) → (∀ c ∈ b, G2.contains c = true) → Jn (N ++ [p]) (J ++ [44] ++ a ++ p ++ b)) := fun N J p a b h h0 h1 h2 h3 => h.more h0 a p b h1 h2 h3
  have hcA : n0 ≤ c0 := hnc
  have hcB : m0 ≤ d0 := hmd
  clear hz hbl hlim hnc hmd
  go_enter Tryd.func5, Tryd.ntmps5
  go_wp2_with (go_at_call 10; (with_reducible refine (H0.out _).mono ?_); (rintro e w1 ⟨rfl, hb⟩; have K1 := Lib.hid ((Kept.refl w).step hb); clear hb))
  go_loopw [8, 7, 6] (fun i t v wr => ∃ (k n : Nat) (J : List UInt8) (A1 : Option Addr) (c1 : Nat) (names : List (List UInt8)), k ≤ 50 ∧ i = .int .i64 (k : Int) ∧ t = .string (str J) ∧ v = .slice A1 n c1 ∧ OwnT wr w.heap.size (.slice A1 n c1) n names ∧ Kept w wr ∧ Jn names J ∧ J.length ≤ k * (140737488351232 + 4) ∧ n ≤ k) (fun i _ _ _ => 50 - (intOf i).toNat)
  case atStart => exact ⟨0, 0, [], none, 0, [], by omega, rfl, rfl, rfl, ownT_nil _ _, K1.out, .inl ⟨rfl, rfl⟩, by simp, by omega⟩
  case round =>
    obtain ⟨k, n, J, A1, c1, names, hk, rfl, rfl, rfl, hown, hkp, hj, hJ5, hnk⟩ := hrel
    have Hlen := Lib.hid hown.len
    have HOwn := Lib.hid hown
    have HK := Lib.hid hkp
    have HJ := Lib.hid hj
    have hbs : Hid (w.heap.size ≤ wr.heap.size) := hkp.size
    have hJl : Hid (J.length ≤ 4611686018427387904) := by
      show _ ≤ _
      have := Nat.mul_le_mul_right (140737488351232 + 4) hk
      omega
    have hn5 : Hid (n ≤ 50) := by show _ ≤ _; omega
    have hcell : Hid (∀ {b off k v}, b < w.heap.size → w.cell? ⟨b, off + k, none⟩ = some v → wr.cell? ⟨b, off + k, none⟩ = some v) := fun {b off k v} h1 h2 => (hkp.cell (p := ⟨b, off + k, none⟩) h1).trans h2
    clear hown hkp hj K1
    by_cases hlt : k < n0
    · have hkS : (k : Int) < (n0 : Int) := by omega
      by_cases h50 : k < 50
      · have hk5 : (k : Int) < 50 := by omega
        obtain ⟨p, b, off, hzk, hpl, rfl, hbw, hc⟩ := hrow.out k hlt
        have hc1 := hcell.out hbw hc
        have HN := HN11.out p hpl wr
        cases hq : nmb p
        · rw [hq] at HN
          have HN' := Lib.hid HN
          have hJ6 : Hid (J.length ≤ (k + 1) * (140737488351232 + 4)) := by show _ ≤ _; rw [Nat.add_mul]; exact Nat.le_trans hJ5 (Nat.le_add_right _ _)
          clear hq HN hbw hc hzk hpl hJ5
          go_wp2_with (go_at_call 11; (with_reducible refine HN'.out.mono ?_); (rintro e wn ⟨rfl, hwn⟩; subst wn))
          go_roundw
          case rel => exact ⟨k + 1, n, J, A1, c1, names, by omega, by go_num, rfl, rfl, HOwn.out, HK.out, HJ.out, hJ6.out, by omega⟩
          case measure => simp [intOf]; omega
        · rw [hq] at HN
          have HN' := Lib.hid HN
          have HQ := Lib.hid hq
          obtain ⟨k2, hk2⟩ : ∃ k2, k2 = 2 * k := ⟨_, rfl⟩
          have e2k : (2 : Int) * (k : Int) = (k2 : Int) := by omega
          have w2k : IntKind.i64.wrap (k2 : Int) = (k2 : Int) := by rw [IntKind.wrap_i64]; omega
          have hk2s : k2 ≤ 100 := by omega
          have hpl' := Lib.hid hpl
          have hJ5' := Lib.hid hJ5
          clear hq HN hbw hc hzk hk2 hpl hJ5
          by_cases hnz : n = 0
          · have hgt : ¬ (0 : Int) < (n : Int) := by omega
            have hnm : Hid (names = []) := List.eq_nil_of_length_eq_zero (by rw [Hlen.out]; exact hnz)
            clear hnz
            by_cases hm1 : k < m0
            · have hm1i : (k : Int) < (m0 : Int) := by omega
              obtain ⟨v1, bb, ob, hBe, hbw, hc⟩ := hboo.out k hm1
              have hcb1 := hcell.out hbw hc
              clear hbw hc
              subst hBe
              by_cases hm2 : k2 < m0
              · have hm2i : (k2 : Int) < (m0 : Int) := by omega
                obtain ⟨v2, bb2, ob2, hBe2, hbw2, hc2⟩ := hboo.out k2 hm2
                have hcb2 := hcell.out hbw2 hc2
                clear hbw2 hc2
                obtain ⟨rfl, rfl⟩ : bb = bb2 ∧ ob = ob2 := by injection hBe2 with h; injection h with h1 h2; exact ⟨h1, h2⟩
                clear hBe2
                clear hm1 hm2
                cases v1
                · cases v2
                  · obtain ⟨J3, hJ3⟩ : ∃ Y, Y = J ++ p := ⟨_, rfl⟩
                    have eJ3 : str J ++ str p = str J3 := by rw [hJ3]; exact str_add _ p
                    have qJ3 : ¬ (9223372036854775807 : Nat) < (str J).size + (str p).size := by
                      have h1 := hJl.out
                      have h2 := hpl'.out
                      rw [str_size, str_size]
                      simp
                      omega
                    have HX : Hid (Jn (names ++ [p]) J3) := by
                      show Jn _ _
                      have hJ0 := HJ.out
                      rw [hnm.out] at hJ0 ⊢
                      have h := hjz.out J p [] [] hJ0 HQ.out (by decide) (by decide)
                      rw [hJ3]
                      simpa using h
                    have HL : Hid (J3.length ≤ (k + 1) * (140737488351232 + 4)) := by
                      show _ ≤ _
                      have h1 := hJ5'.out
                      have h2 := hpl'.out
                      rw [Nat.add_mul, hJ3]
                      simp
                      omega
                    clear hJ3
                    go_wp2_with (first
                      | (go_at_call 11; (with_reducible refine HN'.out.mono ?_); (rintro e wn ⟨rfl, hwn⟩; subst wn))
                      | ((with_reducible show wpList _ _ _ (⟨some 71, .call _, _, _, _, _⟩ :: _) _ _); refine wp_appT _ rfl (.tmp 65) (.tmp 70) rfl w.heap.size _ n names rfl (HOwn.out.alloc _) wr.heap.size 0 1 1 [p] rfl rfl (lit_one _ _ _ rfl) (by have := hn5.out; omega) (by simp; have := hbs.out; omega) (n + 1) rfl ?_; intro A4 c4 w4 hc4 hown4 hb4 hkb4 hgr4; simp only [Act.put, List.setIfInBounds_toArray, List.set_cons_zero, List.set_cons_succ]))
                    go_roundw
                    case rel => exact ⟨k + 1, n + 1, J3, A4, c4, names ++ [p], by omega, by go_num, rfl, rfl, hown4, (HK.out.alloc _).base hb4, HX.out, HL.out, by omega⟩
                    case measure => simp [intOf]; omega
                  · obtain ⟨J3, hJ3⟩ : ∃ Y, Y = J ++ p := ⟨_, rfl⟩
                    have eJ3 : str J ++ str p = str J3 := by rw [hJ3]; exact str_add _ p
                    have qJ3 : ¬ (9223372036854775807 : Nat) < (str J).size + (str p).size := by
                      have h1 := hJl.out
                      have h2 := hpl'.out
                      rw [str_size, str_size]
                      simp
                      omega
                    obtain ⟨J4, hJ4⟩ : ∃ Y, Y = J3 ++ [32] := ⟨_, rfl⟩
                    have eJ4 : str J3 ++ (⟨#[32]⟩ : ByteArray) = str J4 := by rw [hJ4]; exact str_add _ [32]
                    have qJ4 : ¬ (9223372036854775807 : Nat) < (str J3).size + 1 := by
                      have h1 := hJl.out
                      have h2 := hpl'.out
                      rw [str_size, hJ3]
                      simp
                      omega
                    have HX : Hid (Jn (names ++ [p]) J4) := by
                      show Jn _ _
                      have hJ0 := HJ.out
                      rw [hnm.out] at hJ0 ⊢
                      have h := hjz.out J p [] [32] hJ0 HQ.out (by decide) (by decide)
                      rw [hJ4, hJ3]
                      simpa using h
                    have HL : Hid (J4.length ≤ (k + 1) * (140737488351232 + 4)) := by
                      show _ ≤ _
                      have h1 := hJ5'.out
                      have h2 := hpl'.out
                      rw [Nat.add_mul, hJ4, hJ3]
                      simp
                      omega
                    clear hJ3 hJ4
                    go_wp2_with (first
                      | (go_at_call 11; (with_reducible refine HN'.out.mono ?_); (rintro e wn ⟨rfl, hwn⟩; subst wn))
                      | ((with_reducible show wpList _ _ _ (⟨some 71, .call _, _, _, _, _⟩ :: _) _ _); refine wp_appT _ rfl (.tmp 65) (.tmp 70) rfl w.heap.size _ n names rfl (HOwn.out.alloc _) wr.heap.size 0 1 1 [p] rfl rfl (lit_one _ _ _ rfl) (by have := hn5.out; omega) (by simp; have := hbs.out; omega) (n + 1) rfl ?_; intro A4 c4 w4 hc4 hown4 hb4 hkb4 hgr4; simp only [Act.put, List.setIfInBounds_toArray, List.set_cons_zero, List.set_cons_succ]))
                    go_roundw
                    case rel => exact ⟨k + 1, n + 1, J4, A4, c4, names ++ [p], by omega, by go_num, rfl, rfl, hown4, (HK.out.alloc _).base hb4, HX.out, HL.out, by omega⟩
                    case measure => simp [intOf]; omega
                · cases v2
                  · obtain ⟨J2, hJ2⟩ : ∃ Y, Y = J ++ [32, 9] := ⟨_, rfl⟩
                    have eJ2 : str J ++ (⟨#[32, 9]⟩ : ByteArray) = str J2 := by rw [hJ2]; exact str_add _ [32, 9]
                    have qJ2 : ¬ (9223372036854775807 : Nat) < (str J).size + 2 := by
                      have h1 := hJl.out
                      have h2 := hpl'.out
                      rw [str_size]
                      simp
                      omega
                    obtain ⟨J3, hJ3⟩ : ∃ Y, Y = J2 ++ p := ⟨_, rfl⟩
                    have eJ3 : str J2 ++ str p = str J3 := by rw [hJ3]; exact str_add _ p
                    have qJ3 : ¬ (9223372036854775807 : Nat) < (str J2).size + (str p).size := by
                      have h1 := hJl.out
                      have h2 := hpl'.out
                      rw [str_size, str_size, hJ2]
                      simp
                      omega
                    have HX : Hid (Jn (names ++ [p]) J3) := by
                      show Jn _ _
                      have hJ0 := HJ.out
                      rw [hnm.out] at hJ0 ⊢
                      have h := hjz.out J p [32, 9] [] hJ0 HQ.out (by decide) (by decide)
                      rw [hJ3, hJ2]
                      simpa using h
                    have HL : Hid (J3.length ≤ (k + 1) * (140737488351232 + 4)) := by
                      show _ ≤ _
                      have h1 := hJ5'.out
                      have h2 := hpl'.out
                      rw [Nat.add_mul, hJ3, hJ2]
                      simp
                      omega
                    clear hJ2 hJ3
                    go_wp2_with (first
                      | (go_at_call 11; (with_reducible refine HN'.out.mono ?_); (rintro e wn ⟨rfl, hwn⟩; subst wn))
                      | ((with_reducible show wpList _ _ _ (⟨some 71, .call _, _, _, _, _⟩ :: _) _ _); refine wp_appT _ rfl (.tmp 65) (.tmp 70) rfl w.heap.size _ n names rfl (HOwn.out.alloc _) wr.heap.size 0 1 1 [p] rfl rfl (lit_one _ _ _ rfl) (by have := hn5.out; omega) (by simp; have := hbs.out; omega) (n + 1) rfl ?_; intro A4 c4 w4 hc4 hown4 hb4 hkb4 hgr4; simp only [Act.put, List.setIfInBounds_toArray, List.set_cons_zero, List.set_cons_succ]))
                    go_roundw
                    case rel => exact ⟨k + 1, n + 1, J3, A4, c4, names ++ [p], by omega, by go_num, rfl, rfl, hown4, (HK.out.alloc _).base hb4, HX.out, HL.out, by omega⟩
                    case measure => simp [intOf]; omega
                  · obtain ⟨J2, hJ2⟩ : ∃ Y, Y = J ++ [32, 9] := ⟨_, rfl⟩
                    have eJ2 : str J ++ (⟨#[32, 9]⟩ : ByteArray) = str J2 := by rw [hJ2]; exact str_add _ [32, 9]
                    have qJ2 : ¬ (9223372036854775807 : Nat) < (str J).size + 2 := by
                      have h1 := hJl.out
                      have h2 := hpl'.out
                      rw [str_size]
                      simp
                      omega
                    obtain ⟨J3, hJ3⟩ : ∃ Y, Y = J2 ++ p := ⟨_, rfl⟩
                    have eJ3 : str J2 ++ str p = str J3 := by rw [hJ3]; exact str_add _ p
                    have qJ3 : ¬ (9223372036854775807 : Nat) < (str J2).size + (str p).size := by
                      have h1 := hJl.out
                      have h2 := hpl'.out
                      rw [str_size, str_size, hJ2]
                      simp
                      omega
                    obtain ⟨J4, hJ4⟩ : ∃ Y, Y = J3 ++ [32] := ⟨_, rfl⟩
                    have eJ4 : str J3 ++ (⟨#[32]⟩ : ByteArray) = str J4 := by rw [hJ4]; exact str_add _ [32]
                    have qJ4 : ¬ (9223372036854775807 : Nat) < (str J3).size + 1 := by
                      have h1 := hJl.out
                      have h2 := hpl'.out
                      rw [str_size, hJ3, hJ2]
                      simp
                      omega
                    have HX : Hid (Jn (names ++ [p]) J4) := by
                      show Jn _ _
                      have hJ0 := HJ.out
                      rw [hnm.out] at hJ0 ⊢
                      have h := hjz.out J p [32, 9] [32] hJ0 HQ.out (by decide) (by decide)
                      rw [hJ4, hJ3, hJ2]
                      simpa using h
                    have HL : Hid (J4.length ≤ (k + 1) * (140737488351232 + 4)) := by
                      show _ ≤ _
                      have h1 := hJ5'.out
                      have h2 := hpl'.out
                      rw [Nat.add_mul, hJ4, hJ3, hJ2]
                      simp
                      omega
                    clear hJ2 hJ3 hJ4
                    go_wp2_with (first
                      | (go_at_call 11; (with_reducible refine HN'.out.mono ?_); (rintro e wn ⟨rfl, hwn⟩; subst wn))
                      | ((with_reducible show wpList _ _ _ (⟨some 71, .call _, _, _, _, _⟩ :: _) _ _); refine wp_appT _ rfl (.tmp 65) (.tmp 70) rfl w.heap.size _ n names rfl (HOwn.out.alloc _) wr.heap.size 0 1 1 [p] rfl rfl (lit_one _ _ _ rfl) (by have := hn5.out; omega) (by simp; have := hbs.out; omega) (n + 1) rfl ?_; intro A4 c4 w4 hc4 hown4 hb4 hkb4 hgr4; simp only [Act.put, List.setIfInBounds_toArray, List.set_cons_zero, List.set_cons_succ]))
                    go_roundw
                    case rel => exact ⟨k + 1, n + 1, J4, A4, c4, names ++ [p], by omega, by go_num, rfl, rfl, hown4, (HK.out.alloc _).base hb4, HX.out, HL.out, by omega⟩
                    case measure => simp [intOf]; omega
              · have hm2i : ¬ (k2 : Int) < (m0 : Int) := by omega
                clear hm1 hm2
                cases v1
                · obtain ⟨J3, hJ3⟩ : ∃ Y, Y = J ++ p := ⟨_, rfl⟩
                  have eJ3 : str J ++ str p = str J3 := by rw [hJ3]; exact str_add _ p
                  have qJ3 : ¬ (9223372036854775807 : Nat) < (str J).size + (str p).size := by
                    have h1 := hJl.out
                    have h2 := hpl'.out
                    rw [str_size, str_size]
                    simp
                    omega
                  have HX : Hid (Jn (names ++ [p]) J3) := by
                    show Jn _ _
                    have hJ0 := HJ.out
                    rw [hnm.out] at hJ0 ⊢
                    have h := hjz.out J p [] [] hJ0 HQ.out (by decide) (by decide)
                    rw [hJ3]
                    simpa using h
                  have HL : Hid (J3.length ≤ (k + 1) * (140737488351232 + 4)) := by
                    show _ ≤ _
                    have h1 := hJ5'.out
                    have h2 := hpl'.out
                    rw [Nat.add_mul, hJ3]
                    simp
                    omega
                  clear hJ3
                  go_wp2_with (first
                    | (go_at_call 11; (with_reducible refine HN'.out.mono ?_); (rintro e wn ⟨rfl, hwn⟩; subst wn))
                    | ((with_reducible show wpList _ _ _ (⟨some 71, .call _, _, _, _, _⟩ :: _) _ _); refine wp_appT _ rfl (.tmp 65) (.tmp 70) rfl w.heap.size _ n names rfl (HOwn.out.alloc _) wr.heap.size 0 1 1 [p] rfl rfl (lit_one _ _ _ rfl) (by have := hn5.out; omega) (by simp; have := hbs.out; omega) (n + 1) rfl ?_; intro A4 c4 w4 hc4 hown4 hb4 hkb4 hgr4; simp only [Act.put, List.setIfInBounds_toArray, List.set_cons_zero, List.set_cons_succ]))
                  go_roundw
                  case rel => exact ⟨k + 1, n + 1, J3, A4, c4, names ++ [p], by omega, by go_num, rfl, rfl, hown4, (HK.out.alloc _).base hb4, HX.out, HL.out, by omega⟩
                  case measure => simp [intOf]; omega
                · obtain ⟨J2, hJ2⟩ : ∃ Y, Y = J ++ [32, 9] := ⟨_, rfl⟩
                  have eJ2 : str J ++ (⟨#[32, 9]⟩ : ByteArray) = str J2 := by rw [hJ2]; exact str_add _ [32, 9]
                  have qJ2 : ¬ (9223372036854775807 : Nat) < (str J).size + 2 := by
                    have h1 := hJl.out
                    have h2 := hpl'.out
                    rw [str_size]
                    simp
                    omega
                  obtain ⟨J3, hJ3⟩ : ∃ Y, Y = J2 ++ p := ⟨_, rfl⟩
                  have eJ3 : str J2 ++ str p = str J3 := by rw [hJ3]; exact str_add _ p
                  have qJ3 : ¬ (9223372036854775807 : Nat) < (str J2).size + (str p).size := by
                    have h1 := hJl.out
                    have h2 := hpl'.out
                    rw [str_size, str_size, hJ2]
                    simp
                    omega
                  have HX : Hid (Jn (names ++ [p]) J3) := by
                    show Jn _ _
                    have hJ0 := HJ.out
                    rw [hnm.out] at hJ0 ⊢
                    have h := hjz.out J p [32, 9] [] hJ0 HQ.out (by decide) (by decide)
                    rw [hJ3, hJ2]
                    simpa using h
                  have HL : Hid (J3.length ≤ (k + 1) * (140737488351232 + 4)) := by
                    show _ ≤ _
                    have h1 := hJ5'.out
                    have h2 := hpl'.out
                    rw [Nat.add_mul, hJ3, hJ2]
                    simp
                    omega
                  clear hJ2 hJ3
                  go_wp2_with (first
                    | (go_at_call 11; (with_reducible refine HN'.out.mono ?_); (rintro e wn ⟨rfl, hwn⟩; subst wn))
                    | ((with_reducible show wpList _ _ _ (⟨some 71, .call _, _, _, _, _⟩ :: _) _ _); refine wp_appT _ rfl (.tmp 65) (.tmp 70) rfl w.heap.size _ n names rfl (HOwn.out.alloc _) wr.heap.size 0 1 1 [p] rfl rfl (lit_one _ _ _ rfl) (by have := hn5.out; omega) (by simp; have := hbs.out; omega) (n + 1) rfl ?_; intro A4 c4 w4 hc4 hown4 hb4 hkb4 hgr4; simp only [Act.put, List.setIfInBounds_toArray, List.set_cons_zero, List.set_cons_succ]))
                  go_roundw
                  case rel => exact ⟨k + 1, n + 1, J3, A4, c4, names ++ [p], by omega, by go_num, rfl, rfl, hown4, (HK.out.alloc _).base hb4, HX.out, HL.out, by omega⟩
                  case measure => simp [intOf]; omega
            · have hm1i : ¬ (k : Int) < (m0 : Int) := by omega
              · have hm2i : ¬ (k2 : Int) < (m0 : Int) := by omega
                clear hm1
                obtain ⟨J3, hJ3⟩ : ∃ Y, Y = J ++ p := ⟨_, rfl⟩
                have eJ3 : str J ++ str p = str J3 := by rw [hJ3]; exact str_add _ p
                have qJ3 : ¬ (9223372036854775807 : Nat) < (str J).size + (str p).size := by
                  have h1 := hJl.out
                  have h2 := hpl'.out
                  rw [str_size, str_size]
                  simp
                  omega
                have HX : Hid (Jn (names ++ [p]) J3) := by
                  show Jn _ _
                  have hJ0 := HJ.out
                  rw [hnm.out] at hJ0 ⊢
                  have h := hjz.out J p [] [] hJ0 HQ.out (by decide) (by decide)
                  rw [hJ3]
                  simpa using h
                have HL : Hid (J3.length ≤ (k + 1) * (140737488351232 + 4)) := by
                  show _ ≤ _
                  have h1 := hJ5'.out
                  have h2 := hpl'.out
                  rw [Nat.add_mul, hJ3]
                  simp
                  omega
                clear hJ3
                go_wp2_with (first
                  | (go_at_call 11; (with_reducible refine HN'.out.mono ?_); (rintro e wn ⟨rfl, hwn⟩; subst wn))
                  | ((with_reducible show wpList _ _ _ (⟨some 71, .call _, _, _, _, _⟩ :: _) _ _); refine wp_appT _ rfl (.tmp 65) (.tmp 70) rfl w.heap.size _ n names rfl (HOwn.out.alloc _) wr.heap.size 0 1 1 [p] rfl rfl (lit_one _ _ _ rfl) (by have := hn5.out; omega) (by simp; have := hbs.out; omega) (n + 1) rfl ?_; intro A4 c4 w4 hc4 hown4 hb4 hkb4 hgr4; simp only [Act.put, List.setIfInBounds_toArray, List.set_cons_zero, List.set_cons_succ]))
                go_roundw
                case rel => exact ⟨k + 1, n + 1, J3, A4, c4, names ++ [p], by omega, by go_num, rfl, rfl, hown4, (HK.out.alloc _).base hb4, HX.out, HL.out, by omega⟩
                case measure => simp [intOf]; omega
          · have hgt : (0 : Int) < (n : Int) := by omega
            have hnm : Hid (names ≠ []) := fun e => hnz (by rw [← Hlen.out, e]; rfl)
            clear hnz
            by_cases hm1 : k < m0
            · have hm1i : (k : Int) < (m0 : Int) := by omega
              obtain ⟨v1, bb, ob, hBe, hbw, hc⟩ := hboo.out k hm1
              have hcb1 := hcell.out hbw hc
              clear hbw hc
              subst hBe
              by_cases hm2 : k2 < m0
              · have hm2i : (k2 : Int) < (m0 : Int) := by omega
                obtain ⟨v2, bb2, ob2, hBe2, hbw2, hc2⟩ := hboo.out k2 hm2
                have hcb2 := hcell.out hbw2 hc2
                clear hbw2 hc2
                obtain ⟨rfl, rfl⟩ : bb = bb2 ∧ ob = ob2 := by injection hBe2 with h; injection h with h1 h2; exact ⟨h1, h2⟩
                clear hBe2
                clear hm1 hm2
                cases v1
                · cases v2
                  · obtain ⟨J1, hJ1⟩ : ∃ Y, Y = J ++ [44] := ⟨_, rfl⟩
                    have eJ1 : str J ++ (⟨#[44]⟩ : ByteArray) = str J1 := by rw [hJ1]; exact str_add _ [44]
                    have qJ1 : ¬ (9223372036854775807 : Nat) < (str J).size + 1 := by
                      have h1 := hJl.out
                      have h2 := hpl'.out
                      rw [str_size]
                      simp
                      omega
                    obtain ⟨J3, hJ3⟩ : ∃ Y, Y = J1 ++ p := ⟨_, rfl⟩
                    have eJ3 : str J1 ++ str p = str J3 := by rw [hJ3]; exact str_add _ p
                    have qJ3 : ¬ (9223372036854775807 : Nat) < (str J1).size + (str p).size := by
                      have h1 := hJl.out
                      have h2 := hpl'.out
                      rw [str_size, str_size, hJ1]
                      simp
                      omega
                    have HX : Hid (Jn (names ++ [p]) J3) := by
                      show Jn _ _
                      have h := hjm.out names J p [] [] HJ.out hnm.out HQ.out (by decide) (by decide)
                      rw [hJ3, hJ1]
                      simpa using h
                    have HL : Hid (J3.length ≤ (k + 1) * (140737488351232 + 4)) := by
                      show _ ≤ _
                      have h1 := hJ5'.out
                      have h2 := hpl'.out
                      rw [Nat.add_mul, hJ3, hJ1]
                      simp
                      omega
                    clear hJ1 hJ3
                    go_wp2_with (first
                      | (go_at_call 11; (with_reducible refine HN'.out.mono ?_); (rintro e wn ⟨rfl, hwn⟩; subst wn))
                      | ((with_reducible show wpList _ _ _ (⟨some 71, .call _, _, _, _, _⟩ :: _) _ _); refine wp_appT _ rfl (.tmp 65) (.tmp 70) rfl w.heap.size _ n names rfl (HOwn.out.alloc _) wr.heap.size 0 1 1 [p] rfl rfl (lit_one _ _ _ rfl) (by have := hn5.out; omega) (by simp; have := hbs.out; omega) (n + 1) rfl ?_; intro A4 c4 w4 hc4 hown4 hb4 hkb4 hgr4; simp only [Act.put, List.setIfInBounds_toArray, List.set_cons_zero, List.set_cons_succ]))
                    go_roundw
                    case rel => exact ⟨k + 1, n + 1, J3, A4, c4, names ++ [p], by omega, by go_num, rfl, rfl, hown4, (HK.out.alloc _).base hb4, HX.out, HL.out, by omega⟩
                    case measure => simp [intOf]; omega
                  · obtain ⟨J1, hJ1⟩ : ∃ Y, Y = J ++ [44] := ⟨_, rfl⟩
                    have eJ1 : str J ++ (⟨#[44]⟩ : ByteArray) = str J1 := by rw [hJ1]; exact str_add _ [44]
                    have qJ1 : ¬ (9223372036854775807 : Nat) < (str J).size + 1 := by
                      have h1 := hJl.out
                      have h2 := hpl'.out
                      rw [str_size]
                      simp
                      omega
                    obtain ⟨J3, hJ3⟩ : ∃ Y, Y = J1 ++ p := ⟨_, rfl⟩
                    have eJ3 : str J1 ++ str p = str J3 := by rw [hJ3]; exact str_add _ p
                    have qJ3 : ¬ (9223372036854775807 : Nat) < (str J1).size + (str p).size := by
                      have h1 := hJl.out
                      have h2 := hpl'.out
                      rw [str_size, str_size, hJ1]
                      simp
                      omega
                    obtain ⟨J4, hJ4⟩ : ∃ Y, Y = J3 ++ [32] := ⟨_, rfl⟩
                    have eJ4 : str J3 ++ (⟨#[32]⟩ : ByteArray) = str J4 := by rw [hJ4]; exact str_add _ [32]
                    have qJ4 : ¬ (9223372036854775807 : Nat) < (str J3).size + 1 := by
                      have h1 := hJl.out
                      have h2 := hpl'.out
                      rw [str_size, hJ3, hJ1]
                      simp
                      omega
                    have HX : Hid (Jn (names ++ [p]) J4) := by
                      show Jn _ _
                      have h := hjm.out names J p [] [32] HJ.out hnm.out HQ.out (by decide) (by decide)
                      rw [hJ4, hJ3, hJ1]
                      simpa using h
                    have HL : Hid (J4.length ≤ (k + 1) * (140737488351232 + 4)) := by
                      show _ ≤ _
                      have h1 := hJ5'.out
                      have h2 := hpl'.out
                      rw [Nat.add_mul, hJ4, hJ3, hJ1]
                      simp
                      omega
                    clear hJ1 hJ3 hJ4
                    go_wp2_with (first
                      | (go_at_call 11; (with_reducible refine HN'.out.mono ?_); (rintro e wn ⟨rfl, hwn⟩; subst wn))
                      | ((with_reducible show wpList _ _ _ (⟨some 71, .call _, _, _, _, _⟩ :: _) _ _); refine wp_appT _ rfl (.tmp 65) (.tmp 70) rfl w.heap.size _ n names rfl (HOwn.out.alloc _) wr.heap.size 0 1 1 [p] rfl rfl (lit_one _ _ _ rfl) (by have := hn5.out; omega) (by simp; have := hbs.out; omega) (n + 1) rfl ?_; intro A4 c4 w4 hc4 hown4 hb4 hkb4 hgr4; simp only [Act.put, List.setIfInBounds_toArray, List.set_cons_zero, List.set_cons_succ]))
                    go_roundw
                    case rel => exact ⟨k + 1, n + 1, J4, A4, c4, names ++ [p], by omega, by go_num, rfl, rfl, hown4, (HK.out.alloc _).base hb4, HX.out, HL.out, by omega⟩
                    case measure => simp [intOf]; omega
                · cases v2
                  · obtain ⟨J1, hJ1⟩ : ∃ Y, Y = J ++ [44] := ⟨_, rfl⟩
                    have eJ1 : str J ++ (⟨#[44]⟩ : ByteArray) = str J1 := by rw [hJ1]; exact str_add _ [44]
                    have qJ1 : ¬ (9223372036854775807 : Nat) < (str J).size + 1 := by
                      have h1 := hJl.out
                      have h2 := hpl'.out
                      rw [str_size]
                      simp
                      omega
                    obtain ⟨J2, hJ2⟩ : ∃ Y, Y = J1 ++ [32, 9] := ⟨_, rfl⟩
                    have eJ2 : str J1 ++ (⟨#[32, 9]⟩ : ByteArray) = str J2 := by rw [hJ2]; exact str_add _ [32, 9]
                    have qJ2 : ¬ (9223372036854775807 : Nat) < (str J1).size + 2 := by
                      have h1 := hJl.out
                      have h2 := hpl'.out
                      rw [str_size, hJ1]
                      simp
                      omega
                    obtain ⟨J3, hJ3⟩ : ∃ Y, Y = J2 ++ p := ⟨_, rfl⟩
                    have eJ3 : str J2 ++ str p = str J3 := by rw [hJ3]; exact str_add _ p
                    have qJ3 : ¬ (9223372036854775807 : Nat) < (str J2).size + (str p).size := by
                      have h1 := hJl.out
                      have h2 := hpl'.out
                      rw [str_size, str_size, hJ2, hJ1]
                      simp
                      omega
                    have HX : Hid (Jn (names ++ [p]) J3) := by
                      show Jn _ _
                      have h := hjm.out names J p [32, 9] [] HJ.out hnm.out HQ.out (by decide) (by decide)
                      rw [hJ3, hJ2, hJ1]
                      simpa using h
                    have HL : Hid (J3.length ≤ (k + 1) * (140737488351232 + 4)) := by
                      show _ ≤ _
                      have h1 := hJ5'.out
                      have h2 := hpl'.out
                      rw [Nat.add_mul, hJ3, hJ2, hJ1]
                      simp
                      omega
                    clear hJ1 hJ2 hJ3
                    go_wp2_with (first
                      | (go_at_call 11; (with_reducible refine HN'.out.mono ?_); (rintro e wn ⟨rfl, hwn⟩; subst wn))
                      | ((with_reducible show wpList _ _ _ (⟨some 71, .call _, _, _, _, _⟩ :: _) _ _); refine wp_appT _ rfl (.tmp 65) (.tmp 70) rfl w.heap.size _ n names rfl (HOwn.out.alloc _) wr.heap.size 0 1 1 [p] rfl rfl (lit_one _ _ _ rfl) (by have := hn5.out; omega) (by simp; have := hbs.out; omega) (n + 1) rfl ?_; intro A4 c4 w4 hc4 hown4 hb4 hkb4 hgr4; simp only [Act.put, List.setIfInBounds_toArray, List.set_cons_zero, List.set_cons_succ]))
                    go_roundw
                    case rel => exact ⟨k + 1, n + 1, J3, A4, c4, names ++ [p], by omega, by go_num, rfl, rfl, hown4, (HK.out.alloc _).base hb4, HX.out, HL.out, by omega⟩
                    case measure => simp [intOf]; omega
                  · obtain ⟨J1, hJ1⟩ : ∃ Y, Y = J ++ [44] := ⟨_, rfl⟩
                    have eJ1 : str J ++ (⟨#[44]⟩ : ByteArray) = str J1 := by rw [hJ1]; exact str_add _ [44]
                    have qJ1 : ¬ (9223372036854775807 : Nat) < (str J).size + 1 := by
                      have h1 := hJl.out
                      have h2 := hpl'.out
                      rw [str_size]
                      simp
                      omega
                    obtain ⟨J2, hJ2⟩ : ∃ Y, Y = J1 ++ [32, 9] := ⟨_, rfl⟩
                    have eJ2 : str J1 ++ (⟨#[32, 9]⟩ : ByteArray) = str J2 := by rw [hJ2]; exact str_add _ [32, 9]
                    have qJ2 : ¬ (9223372036854775807 : Nat) < (str J1).size + 2 := by
                      have h1 := hJl.out
                      have h2 := hpl'.out
                      rw [str_size, hJ1]
                      simp
                      omega
                    obtain ⟨J3, hJ3⟩ : ∃ Y, Y = J2 ++ p := ⟨_, rfl⟩
                    have eJ3 : str J2 ++ str p = str J3 := by rw [hJ3]; exact str_add _ p
                    have qJ3 : ¬ (9223372036854775807 : Nat) < (str J2).size + (str p).size := by
                      have h1 := hJl.out
                      have h2 := hpl'.out
                      rw [str_size, str_size, hJ2, hJ1]
                      simp
                      omega
                    obtain ⟨J4, hJ4⟩ : ∃ Y, Y = J3 ++ [32] := ⟨_, rfl⟩
                    have eJ4 : str J3 ++ (⟨#[32]⟩ : ByteArray) = str J4 := by rw [hJ4]; exact str_add _ [32]
                    have qJ4 : ¬ (9223372036854775807 : Nat) < (str J3).size + 1 := by
                      have h1 := hJl.out
                      have h2 := hpl'.out
                      rw [str_size, hJ3, hJ2, hJ1]
                      simp
                      omega
                    have HX : Hid (Jn (names ++ [p]) J4) := by
                      show Jn _ _
                      have h := hjm.out names J p [32, 9] [32] HJ.out hnm.out HQ.out (by decide) (by decide)
                      rw [hJ4, hJ3, hJ2, hJ1]
                      simpa using h
                    have HL : Hid (J4.length ≤ (k + 1) * (140737488351232 + 4)) := by
                      show _ ≤ _
                      have h1 := hJ5'.out
                      have h2 := hpl'.out
                      rw [Nat.add_mul, hJ4, hJ3, hJ2, hJ1]
                      simp
                      omega
                    clear hJ1 hJ2 hJ3 hJ4
                    go_wp2_with (first
                      | (go_at_call 11; (with_reducible refine HN'.out.mono ?_); (rintro e wn ⟨rfl, hwn⟩; subst wn))
                      | ((with_reducible show wpList _ _ _ (⟨some 71, .call _, _, _, _, _⟩ :: _) _ _); refine wp_appT _ rfl (.tmp 65) (.tmp 70) rfl w.heap.size _ n names rfl (HOwn.out.alloc _) wr.heap.size 0 1 1 [p] rfl rfl (lit_one _ _ _ rfl) (by have := hn5.out; omega) (by simp; have := hbs.out; omega) (n + 1) rfl ?_; intro A4 c4 w4 hc4 hown4 hb4 hkb4 hgr4; simp only [Act.put, List.setIfInBounds_toArray, List.set_cons_zero, List.set_cons_succ]))
                    go_roundw
                    case rel => exact ⟨k + 1, n + 1, J4, A4, c4, names ++ [p], by omega, by go_num, rfl, rfl, hown4, (HK.out.alloc _).base hb4, HX.out, HL.out, by omega⟩
                    case measure => simp [intOf]; omega
              · have hm2i : ¬ (k2 : Int) < (m0 : Int) := by omega
                clear hm1 hm2
                cases v1
                · obtain ⟨J1, hJ1⟩ : ∃ Y, Y = J ++ [44] := ⟨_, rfl⟩
                  have eJ1 : str J ++ (⟨#[44]⟩ : ByteArray) = str J1 := by rw [hJ1]; exact str_add _ [44]
                  have qJ1 : ¬ (9223372036854775807 : Nat) < (str J).size + 1 := by
                    have h1 := hJl.out
                    have h2 := hpl'.out
                    rw [str_size]
                    simp
                    omega
                  obtain ⟨J3, hJ3⟩ : ∃ Y, Y = J1 ++ p := ⟨_, rfl⟩
                  have eJ3 : str J1 ++ str p = str J3 := by rw [hJ3]; exact str_add _ p
                  have qJ3 : ¬ (9223372036854775807 : Nat) < (str J1).size + (str p).size := by
                    have h1 := hJl.out
                    have h2 := hpl'.out
                    rw [str_size, str_size, hJ1]
                    simp
                    omega
                  have HX : Hid (Jn (names ++ [p]) J3) := by
                    show Jn _ _
                    have h := hjm.out names J p [] [] HJ.out hnm.out HQ.out (by decide) (by decide)
                    rw [hJ3, hJ1]
                    simpa using h
                  have HL : Hid (J3.length ≤ (k + 1) * (140737488351232 + 4)) := by
                    show _ ≤ _
                    have h1 := hJ5'.out
                    have h2 := hpl'.out
                    rw [Nat.add_mul, hJ3, hJ1]
                    simp
                    omega
                  clear hJ1 hJ3
                  go_wp2_with (first
                    | (go_at_call 11; (with_reducible refine HN'.out.mono ?_); (rintro e wn ⟨rfl, hwn⟩; subst wn))
                    | ((with_reducible show wpList _ _ _ (⟨some 71, .call _, _, _, _, _⟩ :: _) _ _); refine wp_appT _ rfl (.tmp 65) (.tmp 70) rfl w.heap.size _ n names rfl (HOwn.out.alloc _) wr.heap.size 0 1 1 [p] rfl rfl (lit_one _ _ _ rfl) (by have := hn5.out; omega) (by simp; have := hbs.out; omega) (n + 1) rfl ?_; intro A4 c4 w4 hc4 hown4 hb4 hkb4 hgr4; simp only [Act.put, List.setIfInBounds_toArray, List.set_cons_zero, List.set_cons_succ]))
                  go_roundw
                  case rel => exact ⟨k + 1, n + 1, J3, A4, c4, names ++ [p], by omega, by go_num, rfl, rfl, hown4, (HK.out.alloc _).base hb4, HX.out, HL.out, by omega⟩
                  case measure => simp [intOf]; omega
                · obtain ⟨J1, hJ1⟩ : ∃ Y, Y = J ++ [44] := ⟨_, rfl⟩
                  have eJ1 : str J ++ (⟨#[44]⟩ : ByteArray) = str J1 := by rw [hJ1]; exact str_add _ [44]
                  have qJ1 : ¬ (9223372036854775807 : Nat) < (str J).size + 1 := by
                    have h1 := hJl.out
                    have h2 := hpl'.out
                    rw [str_size]
                    simp
                    omega
                  obtain ⟨J2, hJ2⟩ : ∃ Y, Y = J1 ++ [32, 9] := ⟨_, rfl⟩
                  have eJ2 : str J1 ++ (⟨#[32, 9]⟩ : ByteArray) = str J2 := by rw [hJ2]; exact str_add _ [32, 9]
                  have qJ2 : ¬ (9223372036854775807 : Nat) < (str J1).size + 2 := by
                    have h1 := hJl.out
                    have h2 := hpl'.out
                    rw [str_size, hJ1]
                    simp
                    omega
                  obtain ⟨J3, hJ3⟩ : ∃ Y, Y = J2 ++ p := ⟨_, rfl⟩
                  have eJ3 : str J2 ++ str p = str J3 := by rw [hJ3]; exact str_add _ p
                  have qJ3 : ¬ (9223372036854775807 : Nat) < (str J2).size + (str p).size := by
                    have h1 := hJl.out
                    have h2 := hpl'.out
                    rw [str_size, str_size, hJ2, hJ1]
                    simp
                    omega
                  have HX : Hid (Jn (names ++ [p]) J3) := by
                    show Jn _ _
                    have h := hjm.out names J p [32, 9] [] HJ.out hnm.out HQ.out (by decide) (by decide)
                    rw [hJ3, hJ2, hJ1]
                    simpa using h
                  have HL : Hid (J3.length ≤ (k + 1) * (140737488351232 + 4)) := by
                    show _ ≤ _
                    have h1 := hJ5'.out
                    have h2 := hpl'.out
                    rw [Nat.add_mul, hJ3, hJ2, hJ1]
                    simp
                    omega
                  clear hJ1 hJ2 hJ3
                  go_wp2_with (first
                    | (go_at_call 11; (with_reducible refine HN'.out.mono ?_); (rintro e wn ⟨rfl, hwn⟩; subst wn))
                    | ((with_reducible show wpList _ _ _ (⟨some 71, .call _, _, _, _, _⟩ :: _) _ _); refine wp_appT _ rfl (.tmp 65) (.tmp 70) rfl w.heap.size _ n names rfl (HOwn.out.alloc _) wr.heap.size 0 1 1 [p] rfl rfl (lit_one _ _ _ rfl) (by have := hn5.out; omega) (by simp; have := hbs.out; omega) (n + 1) rfl ?_; intro A4 c4 w4 hc4 hown4 hb4 hkb4 hgr4; simp only [Act.put, List.setIfInBounds_toArray, List.set_cons_zero, List.set_cons_succ]))
                  go_roundw
                  case rel => exact ⟨k + 1, n + 1, J3, A4, c4, names ++ [p], by omega, by go_num, rfl, rfl, hown4, (HK.out.alloc _).base hb4, HX.out, HL.out, by omega⟩
                  case measure => simp [intOf]; omega
            · have hm1i : ¬ (k : Int) < (m0 : Int) := by omega
              · have hm2i : ¬ (k2 : Int) < (m0 : Int) := by omega
                clear hm1
                obtain ⟨J1, hJ1⟩ : ∃ Y, Y = J ++ [44] := ⟨_, rfl⟩
                have eJ1 : str J ++ (⟨#[44]⟩ : ByteArray) = str J1 := by rw [hJ1]; exact str_add _ [44]
                have qJ1 : ¬ (9223372036854775807 : Nat) < (str J).size + 1 := by
                  have h1 := hJl.out
                  have h2 := hpl'.out
                  rw [str_size]
                  simp
                  omega
                obtain ⟨J3, hJ3⟩ : ∃ Y, Y = J1 ++ p := ⟨_, rfl⟩
                have eJ3 : str J1 ++ str p = str J3 := by rw [hJ3]; exact str_add _ p
                have qJ3 : ¬ (9223372036854775807 : Nat) < (str J1).size + (str p).size := by
                  have h1 := hJl.out
                  have h2 := hpl'.out
                  rw [str_size, str_size, hJ1]
                  simp
                  omega
                have HX : Hid (Jn (names ++ [p]) J3) := by
                  show Jn _ _
                  have h := hjm.out names J p [] [] HJ.out hnm.out HQ.out (by decide) (by decide)
                  rw [hJ3, hJ1]
                  simpa using h
                have HL : Hid (J3.length ≤ (k + 1) * (140737488351232 + 4)) := by
                  show _ ≤ _
                  have h1 := hJ5'.out
                  have h2 := hpl'.out
                  rw [Nat.add_mul, hJ3, hJ1]
                  simp
                  omega
                clear hJ1 hJ3
                go_wp2_with (first
                  | (go_at_call 11; (with_reducible refine HN'.out.mono ?_); (rintro e wn ⟨rfl, hwn⟩; subst wn))
                  | ((with_reducible show wpList _ _ _ (⟨some 71, .call _, _, _, _, _⟩ :: _) _ _); refine wp_appT _ rfl (.tmp 65) (.tmp 70) rfl w.heap.size _ n names rfl (HOwn.out.alloc _) wr.heap.size 0 1 1 [p] rfl rfl (lit_one _ _ _ rfl) (by have := hn5.out; omega) (by simp; have := hbs.out; omega) (n + 1) rfl ?_; intro A4 c4 w4 hc4 hown4 hb4 hkb4 hgr4; simp only [Act.put, List.setIfInBounds_toArray, List.set_cons_zero, List.set_cons_succ]))
                go_roundw
                case rel => exact ⟨k + 1, n + 1, J3, A4, c4, names ++ [p], by omega, by go_num, rfl, rfl, hown4, (HK.out.alloc _).base hb4, HX.out, HL.out, by omega⟩
                case measure => simp [intOf]; omega
      · have hk5 : ¬ (k : Int) < 50 := by omega
        clear hlt h50
        clear hcA hcB
        by_cases hn0 : n = 0
        · subst hn0
          have hne : ((0 : Int) == 0) = true := rfl
          have hnm : names = [] := List.eq_nil_of_length_eq_zero Hlen.out
          have hJ0 : J = [] := by have := HJ.out; rw [hnm] at this; exact this.empty
          have e0 : str J = ⟨#[]⟩ := by rw [hJ0]; rfl
          rw [e0]
          clear e0 hJ0 hnm
          go_wp2_with (first
            | (go_at_call 25; (with_reducible refine (HP0.out _).mono ?_); (rintro e w5 ⟨g, c, rfl, hc, hps, hb⟩; have K5 := Lib.hid ((HK.out.alloc (.cells #[.string ⟨#[]⟩] 9)).step hb); have P5 := Lib.hid hps; have C5 := Lib.hid hc; have Q5 := Lib.hid ((Ps.new wr [[]] #[.string ⟨#[]⟩] rfl).kept hb); clear hb hps hc))
            | (go_at_call 24; (with_reducible refine (HS0.out _ _ _ _ P5.out Q5.out C5.out).mono ?_); (rintro e w6 ⟨rfl, hb⟩; have K6 := Lib.hid (K5.out.step hb); clear hb)))
          go_ret
          exact ⟨rfl, K6.out⟩
        · have hne : ((n : Int) == 0) = false := by simp; omega
          have hnm : names ≠ [] := fun e => hn0 (by rw [← Hlen.out, e]; rfl)
          have hpj := HJ.out.parts hnm
          have HP := Lib.hid (hpart.out J names hpj hJl.out (by rw [Hlen.out]; exact hn5.out))
          obtain ⟨hnc, hcells⟩ := own_ps HOwn.out (by omega)
          have HS := Lib.hid (hsame2.out names A1 c1 Hlen.out hnc hn5.out)
          have HCl := Lib.hid hcells
          have hnl := Hlen.out
          clear hn0 hnm hpj hnc hcells
          rw [hnl] at HP
          clear hnl
          go_wp2_with (first
            | (go_at_call 25; (with_reducible refine (HP.out _).mono ?_); (rintro e w5 ⟨g, c, rfl, hc, hps, hb⟩; have K5 := Lib.hid (HK.out.step hb); have P5 := Lib.hid hps; have C5 := Lib.hid hc; have Q5 : Hid (∀ (j : Nat) (x : List UInt8), names[j]? = some x → ∃ g, A1 = some ⟨g, 0, none⟩ ∧ w5.cell? ⟨g, j, none⟩ = some (vstr x)) := (fun j x hj => by obtain ⟨g', e1, e2⟩ := HCl.out j x hj; exact ⟨g', e1, (hb.cell (p := ⟨g', j, none⟩) (cell_lt e2)).trans e2⟩); clear hb hps hc))
            | (go_at_call 24; (with_reducible refine (HS.out _ _ _ P5.out Q5.out C5.out).mono ?_); (rintro e w6 ⟨rfl, hb⟩; have K6 := Lib.hid (K5.out.step hb); clear hb)))
          go_ret
          exact ⟨rfl, K6.out⟩
    · have hkS : ¬ (k : Int) < (n0 : Int) := by omega
      clear hlt
      clear hcA hcB
      by_cases hn0 : n = 0
      · subst hn0
        have hne : ((0 : Int) == 0) = true := rfl
        have hnm : names = [] := List.eq_nil_of_length_eq_zero Hlen.out
        have hJ0 : J = [] := by have := HJ.out; rw [hnm] at this; exact this.empty
        have e0 : str J = ⟨#[]⟩ := by rw [hJ0]; rfl
        rw [e0]
        clear e0 hJ0 hnm
        go_wp2_with (first
          | (go_at_call 25; (with_reducible refine (HP0.out _).mono ?_); (rintro e w5 ⟨g, c, rfl, hc, hps, hb⟩; have K5 := Lib.hid ((HK.out.alloc (.cells #[.string ⟨#[]⟩] 9)).step hb); have P5 := Lib.hid hps; have C5 := Lib.hid hc; have Q5 := Lib.hid ((Ps.new wr [[]] #[.string ⟨#[]⟩] rfl).kept hb); clear hb hps hc))
          | (go_at_call 24; (with_reducible refine (HS0.out _ _ _ _ P5.out Q5.out C5.out).mono ?_); (rintro e w6 ⟨rfl, hb⟩; have K6 := Lib.hid (K5.out.step hb); clear hb)))
        go_ret
        exact ⟨rfl, K6.out⟩
      · have hne : ((n : Int) == 0) = false := by simp; omega
        have hnm : names ≠ [] := fun e => hn0 (by rw [← Hlen.out, e]; rfl)
        have hpj := HJ.out.parts hnm
        have HP := Lib.hid (hpart.out J names hpj hJl.out (by rw [Hlen.out]; exact hn5.out))
        obtain ⟨hnc, hcells⟩ := own_ps HOwn.out (by omega)
        have HS := Lib.hid (hsame2.out names A1 c1 Hlen.out hnc hn5.out)
        have HCl := Lib.hid hcells
        have hnl := Hlen.out
        clear hn0 hnm hpj hnc hcells
        rw [hnl] at HP
        clear hnl
        go_wp2_with (first
          | (go_at_call 25; (with_reducible refine (HP.out _).mono ?_); (rintro e w5 ⟨g, c, rfl, hc, hps, hb⟩; have K5 := Lib.hid (HK.out.step hb); have P5 := Lib.hid hps; have C5 := Lib.hid hc; have Q5 : Hid (∀ (j : Nat) (x : List UInt8), names[j]? = some x → ∃ g, A1 = some ⟨g, 0, none⟩ ∧ w5.cell? ⟨g, j, none⟩ = some (vstr x)) := (fun j x hj => by obtain ⟨g', e1, e2⟩ := HCl.out j x hj; exact ⟨g', e1, (hb.cell (p := ⟨g', j, none⟩) (cell_lt e2)).trans e2⟩); clear hb hps hc))
          | (go_at_call 24; (with_reducible refine (HS.out _ _ _ P5.out Q5.out C5.out).mono ?_); (rintro e w6 ⟨rfl, hb⟩; have K6 := Lib.hid (K5.out.step hb); clear hb)))
        go_ret
        exact ⟨rfl, K6.out⟩
end Go.Proofs.YtpkjebagpolfgaaDoor
