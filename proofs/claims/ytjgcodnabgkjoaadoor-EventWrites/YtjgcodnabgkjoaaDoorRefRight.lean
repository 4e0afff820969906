/-
  What the document's own Right (transeptref05.Right) answers; nothing that was there turns. Condition: texts of at most a million bytes.
-/
import Derived.Test.YtjgcodnabgkjoaaDoorRefLet
namespace Go.Proofs.YtjgcodnabgkjoaaDoor
open Go.RowKit

set_option maxHeartbeats 4000000 in
set_option maxRecDepth 100000 in
theorem refRight_any (e : Ev) (he : EvOk e) (hsz : ∀ t ∈ e.ts, t.length ≤ 1000000) (w : World) :
    Calls Tryd.prog 16 #[.agg (evc e).toArray] w fun r w' => r = .returned (.bool (rightE e)) ∧ Below w.heap.size w w' := by
  obtain ⟨R, hR⟩ : ∃ R, R = rightE e := ⟨_, rfl⟩
  rw [← hR]
  by_cases hin : 1 ≤ e.kind ∧ e.kind ≤ 14
  · obtain ⟨k, hk⟩ : ∃ k : Nat, e.kind = (k : Int) := ⟨e.kind.toNat, by omega⟩
    have hkn : e.kind.toNat = k := by omega
    have hk0 : 0 < k := by omega
    have hk15 : k < 15 := by omega
    have hRk : R = ((((!(decide (k = 1) || decide (k = 2))) == decide (e.id ≠ 0)) && rightT (hav k).texts e.ts) && rightN (hav k).bl e.ns) := by
      have hd : decide (1 ≤ e.kind ∧ e.kind ≤ 14) = true := by simpa using hin
      rw [hR, rightE, hd, hkn, Bool.true_and, alone_fetch k hk15 hk0]
    obtain ⟨q1, q2, q3, q4, q5⟩ := shape_split k hk15 hk0
    have SH := fun W => shape_in k (by omega) (by omega) W
    have SP := fun W => split_any (shapeS k) (hav k).texts (lettersS k) q1 q2 q3 W
    have LO := letters_ok k hk15 hk0
    have hbl := (hav_ok k).2.2
    have ht4 := (hav_ok k).1
    obtain ⟨n, hn⟩ : ∃ n, n = (hav k).texts := ⟨_, rfl⟩
    obtain ⟨bl, hble⟩ : ∃ b, b = (hav k).bl := ⟨_, rfl⟩
    obtain ⟨H, hH⟩ : ∃ H, H = shapeS k := ⟨_, rfl⟩
    obtain ⟨Lt, hLt⟩ : ∃ H, H = lettersS k := ⟨_, rfl⟩
    rw [← hn, ← hble] at hRk
    rw [← hn] at SP ht4
    rw [← hble] at LO hbl
    rw [← hH] at SH SP q4
    rw [← hLt] at SP LO q5
    have zL := str_size Lt
    have kc : (evc e)[0]? = some (.int .i64 (k : Int)) := by rw [evc_kind, hk]
    have ic := evc_id e
    have xc : ∀ i, i < 4 → (evc e)[3 + i]? = some (.string (str (e.ts.getD i []))) := fun i hi => evc_text he hi
    have nc : ∀ i, i < 3 → (evc e)[7 + i]? = some (.int .i64 (e.ns.getD i 0)) := fun i hi => evc_num he hi
    have tsz : ∀ i, i < 4 → (e.ts.getD i []).length ≤ 1000000 := fun i hi => by
      rw [List.getD_eq_getElem?_getD, List.getElem?_eq_getElem (by rw [he.1]; exact hi)]
      exact hsz _ (List.getElem_mem _)
    obtain ⟨C, hC⟩ : ∃ C, C = evc e := ⟨_, rfl⟩
    rw [← hC] at kc ic xc nc ⊢
    have x3 := xc 0 (by omega)
    have x4 := xc 1 (by omega)
    have x5 := xc 2 (by omega)
    have x6 := xc 3 (by omega)
    have x7 := nc 0 (by omega)
    have x8 := nc 1 (by omega)
    have x9 := nc 2 (by omega)
    obtain ⟨ts, hts⟩ : ∃ t, t = e.ts := ⟨_, rfl⟩
    obtain ⟨ns, hns⟩ : ∃ t, t = e.ns := ⟨_, rfl⟩
    obtain ⟨i, hi⟩ : ∃ i, i = e.id := ⟨_, rfl⟩
    rw [← hts] at hRk tsz x3 x4 x5 x6
    rw [← hns] at hRk x7 x8 x9
    rw [← hi] at hRk ic
    obtain ⟨t0, ht0⟩ : ∃ t, t = ts.getD 0 [] := ⟨_, rfl⟩
    rw [← ht0] at x3
    obtain ⟨t1, ht1⟩ : ∃ t, t = ts.getD 1 [] := ⟨_, rfl⟩
    rw [← ht1] at x4
    obtain ⟨t2, ht2⟩ : ∃ t, t = ts.getD 2 [] := ⟨_, rfl⟩
    rw [← ht2] at x5
    obtain ⟨t3, ht3⟩ : ∃ t, t = ts.getD 3 [] := ⟨_, rfl⟩
    rw [← ht3] at x6
    obtain ⟨m0, hm0⟩ : ∃ t, t = ns.getD 0 0 := ⟨_, rfl⟩
    rw [← hm0] at x7
    obtain ⟨m1, hm1⟩ : ∃ t, t = ns.getD 1 0 := ⟨_, rfl⟩
    rw [← hm1] at x8
    obtain ⟨m2, hm2⟩ : ∃ t, t = ns.getD 2 0 := ⟨_, rfl⟩
    rw [← hm2] at x9
    have HTM := Lib.hid (And.intro (And.intro ht0 (And.intro ht1 (And.intro ht2 ht3))) (And.intro hm0 (And.intro hm1 hm2)))
    clear ht0 ht1 ht2 ht3 hm0 hm1 hm2
    have HK := Lib.hid hRk
    have HSH := Lib.hid SH
    have HSP := Lib.hid SP
    have HLO := Lib.hid (And.intro LO (And.intro hbl tsz))
    have hne45 : (false = true) ↔ H = [45] := ⟨fun h => (by cases h), fun h => absurd h q4⟩
    have HNE := Lib.hid hne45
    clear hRk SH SP LO hbl hC hts hns hi hn hble hH hLt q1 q2 q3 q4 xc nc tsz hkn hR hk hin hsz he hne45
    by_cases h1 : k = 1
    · subst h1
      by_cases hi0 : i = 0
      · have hi' : ((i : Int) == 0) = true := by simp; omega
        have hRf : R = (rightT n ts && rightN bl ns) := by rw [HK.out]; simp [hi0]
        have HRf := Lib.hid hRf
        clear hRf hi0
        go_enter Tryd.func16, Tryd.ntmps16
        go_wp2_with (first
          | ((with_reducible show wpList _ _ _ (⟨some 1, _, _, _, _, _⟩ :: _) _ _); refine wp_box _ rfl 24 (.tmp 0) rfl C rfl ?_; intro w1 g1 hB1 hf1; have c1 := hB1.cell kc; simp only [Act.put, List.setIfInBounds_toArray, List.set_cons_zero, List.set_cons_succ]))
        refine (HSH.out w1).mono ?_
        rintro r w1' ⟨rfl, rfl⟩
        have i1 := hB1.cell ic
        go_wp2_with (first
          | ((with_reducible show wpList _ _ _ (⟨some 15, _, _, _, _, _⟩ :: _) _ _); refine wp_eqS _ (by rfl) (.tmp 14) _ rfl H [45] rfl rfl false HNE.out ?_; simp only [Act.put, List.setIfInBounds_toArray, List.set_cons_zero, List.set_cons_succ]))
        refine (HSP.out w1).mono ?_
        rintro r w2 ⟨rfl, e2⟩
        have D2 := hB1.kept e2
        have b2 := hf1.below.trans (e2.mono hf1.below.size)
        have d3 := D2.cell x3
        have d4 := D2.cell x4
        have d5 := D2.cell x5
        have d6 := D2.cell x6
        clear hB1 hf1 e2 c1 i1
        go_wp2_with fail
        have BT : Blk (w2.alloc (.cells #[.string (str t0), .string (str t1), .string (str t2), .string (str t3)] 9)) w2.heap.size 9 [.string (str t0), .string (str t1), .string (str t2), .string (str t3)] := Blk.new _ _ _
        have D3 := D2.alloc (.cells #[.string (str t0), .string (str t1), .string (str t2), .string (str t3)] 9)
        have b3 := b2.alloc b2.size (.cells #[.string (str t0), .string (str t1), .string (str t2), .string (str t3)] 9)
        generalize hW3 : w2.alloc (.cells #[.string (str t0), .string (str t1), .string (str t2), .string (str t3)] 9) = w3 at BT D3 b3 ⊢
        generalize w2.heap.size = gt at BT ⊢
        clear hW3 D2 b2 d3 d4 d5 d6
        go_loopw [2, 7] (fun ur v wr => ∃ j : Nat, j ≤ 4 ∧ v = .int .i64 (j : Int) ∧ ur = .bool false ∧ w3 = wr ∧ Hid (∀ q, q < j → goodT n ts q = true)) (fun _ v _ => 4 - (intOf v).toNat)
        case atStart => exact ⟨0, by omega, rfl, rfl, rfl, fun q hq => by omega⟩
        case round =>
          obtain ⟨j, hj4, rfl, rfl, rfl, HA⟩ := hrel
          by_cases hlt : j < 4
          · have hlt' : (j : Int) < 4 := by omega
            have cv : w3.cell? ⟨gt, j, none⟩ = some (.string (str (ts.getD j []))) := by
              match j, hlt with
              | 0, _ => rw [← HTM.out.1.1]; exact BT.cell rfl
              | 1, _ => rw [← HTM.out.1.2.1]; exact BT.cell rfl
              | 2, _ => rw [← HTM.out.1.2.2.1]; exact BT.cell rfl
              | 3, _ => rw [← HTM.out.1.2.2.2]; exact BT.cell rfl
            have htl := HLO.out.2.2 j hlt
            obtain ⟨t, ht⟩ : ∃ t, t = ts.getD j [] := ⟨_, rfl⟩
            rw [← ht] at cv htl
            have hgd : goodT n ts j = ((decide (j < n) || decide (t = [])) && decide (t.length ≤ 4096)) := by rw [goodT, ← ht]
            have HG := Lib.hid hgd
            clear hgd ht
            have hts : (str t).size = t.length := str_size t
            have fin : ∀ b : Bool, goodT n ts j = b → b = false → R = false := fun b h1 h2 => by rw [HRf.out, rightT_false hlt (h1.trans h2)]; rfl
            have nxt : goodT n ts j = true → Hid (∀ q, q < j + 1 → goodT n ts q = true) := fun h1 => step_all HA.out h1
            have HX := Lib.hid (And.intro fin nxt)
            clear fin nxt
            by_cases hl : 4096 < t.length
            · have hl' : (4096 : Int) < (t.length : Int) := by omega
              go_wp2_with fail
              go_ret
              exact ⟨by rw [HX.out.1 _ HG.out (by simp; omega)]; rfl, b3⟩
            · have hl' : ¬ 4096 < t.length := hl
              by_cases hkn : j < n
              · have hkn' : ¬ n ≤ j := by omega
                have hgk : ((decide (j < n) || decide (t = [])) && decide (t.length ≤ 4096)) = true := by simp [hkn]; omega
                have HGK := Lib.hid hgk
                clear hgk
                go_wp2_with fail
                go_roundw
                case rel => exact ⟨j + 1, by omega, by go_num, by trivial, by trivial, HX.out.2 (HG.out.trans (HGK.out))⟩
                case measure => simp [intOf]; omega
              · have hkn' : n ≤ j := by omega
                by_cases ht0 : t = []
                · have hem : (str t).toList.isEmpty = true := by rw [str_isEmpty]; simpa using ht0
                  have hgk : ((decide (j < n) || decide (t = [])) && decide (t.length ≤ 4096)) = true := by rw [ht0]; simp
                  have HGK := Lib.hid hgk
                  clear ht0 hgk
                  go_wp2_with fail
                  go_roundw
                  case rel => exact ⟨j + 1, by omega, by go_num, by trivial, by trivial, HX.out.2 (HG.out.trans (HGK.out))⟩
                  case measure => simp [intOf]; omega
                · have hem : (str t).toList.isEmpty = false := str_nonempty ht0
                  have hgk : ((decide (j < n) || decide (t = [])) && decide (t.length ≤ 4096)) = false := by simp [hkn, ht0]
                  have HGK := Lib.hid hgk
                  clear ht0 hgk
                  go_wp2_with fail
                  go_ret
                  exact ⟨by rw [HX.out.1 _ HG.out (HGK.out)]; rfl, b3⟩
          · have hlt' : ¬ (j : Int) < 4 := by omega
            have hRn : R = rightN bl ns := by rw [HRf.out, rightT_true (fun q hq => HA.out q (by omega)), Bool.true_and]
            have HRn := Lib.hid hRn
            clear hRn
            have d7 := D3.cell x7
            have d8 := D3.cell x8
            have d9 := D3.cell x9
            go_wp2_with fail
            have BN : Blk (w3.alloc (.cells #[.int .i64 m0, .int .i64 m1, .int .i64 m2] 3)) w3.heap.size 3 [.int .i64 m0, .int .i64 m1, .int .i64 m2] := Blk.new _ _ _
            have b4 := b3.alloc b3.size (.cells #[.int .i64 m0, .int .i64 m1, .int .i64 m2] 3)
            generalize hW4 : w3.alloc (.cells #[.int .i64 m0, .int .i64 m1, .int .i64 m2] 3) = w4 at BN b4 ⊢
            generalize w3.heap.size = gn at BN ⊢
            clear hW4 D3 BT d7 d8 d9
            go_loopw [2, 9] (fun ur v wr => ∃ j : Nat, j ≤ 3 ∧ v = .int .i64 (j : Int) ∧ ur = .bool false ∧ w4 = wr ∧ Hid (∀ q, q < j → goodN bl ns q = true)) (fun _ v _ => 3 - (intOf v).toNat)
            case atStart => exact ⟨0, by omega, rfl, rfl, rfl, fun q hq => by omega⟩
            case round =>
              obtain ⟨y, hy3, rfl, rfl, rfl, HB⟩ := hrel
              by_cases hlt : y < 3
              · have hlt' : (y : Int) < 3 := by omega
                have cv : w4.cell? ⟨gn, y, none⟩ = some (.int .i64 (ns.getD y 0)) := by
                  match y, hlt with
                  | 0, _ => rw [← HTM.out.2.1]; exact BN.cell rfl
                  | 1, _ => rw [← HTM.out.2.2.1]; exact BN.cell rfl
                  | 2, _ => rw [← HTM.out.2.2.2]; exact BN.cell rfl
                obtain ⟨l1, l2⟩ := HLO.out.1 y hlt
                obtain ⟨m, hm⟩ : ∃ m, m = ns.getD y 0 := ⟨_, rfl⟩
                obtain ⟨b, hb⟩ : ∃ b, b = bl.getD y 0 := ⟨_, rfl⟩
                have hgd : goodN bl ns y = (decide (0 ≤ m) && (decide (m = 0) || decide (m < (b : Int)))) := by rw [goodN, ← hm, ← hb]
                rw [← hm] at cv
                rw [← hb] at l1 l2
                have HG := Lib.hid hgd
                clear hgd hm hb
                have fin : ∀ b : Bool, goodN bl ns y = b → b = false → R = false := fun b h1 h2 => by rw [HRn.out]; exact rightN_false hlt (h1.trans h2)
                have nxt : goodN bl ns y = true → Hid (∀ q, q < y + 1 → goodN bl ns q = true) := fun h1 => step_all HB.out h1
                have HX := Lib.hid (And.intro fin nxt)
                clear fin nxt
                by_cases hy : y < Lt.length
                · obtain ⟨mb, hmb⟩ : ∃ mb, mb = (Lt.getD y 0).toNat := ⟨_, rfl⟩
                  have hget : ∀ h, ((str Lt)[y]'h).toNat = mb := fun h => by
                    rw [hmb]
                    simp [str, List.getD, List.getElem?_eq_getElem hy, ByteArray.getElem_eq_getElem_data]
                  have hm8 : mb < 256 := by rw [hmb]; exact UInt8.toNat_lt _
                  obtain ⟨l3, l4⟩ := l1 hy
                  rw [← hmb] at l3 l4
                  have MO := fun W => most_any mb l3 hm8 W
                  obtain ⟨g, hg⟩ : ∃ g, g = moN mb := ⟨_, rfl⟩
                  rw [← hg] at MO l4
                  have hyl : (y : Int) < (Lt.length : Int) := by omega
                  have HMO := Lib.hid MO
                  clear hmb hg l1 l2 MO
                  by_cases h0 : m < 0
                  · have q0 : decide (m < 0) = true := by simpa using h0
                    have HGK : Hid ((decide (0 ≤ m) && (decide (m = 0) || decide (m < (b : Int)))) = false) := by show _ = _; simp; omega
                    go_wp2_with fail
                    refine (HMO.out w4).mono ?_
                    rintro r w5 ⟨rfl, rfl⟩
                    go_wp2_with fail
                    go_ret
                    exact ⟨by rw [HX.out.1 _ HG.out (HGK.out)]; rfl, b4⟩
                  · have q0 : decide (m < 0) = false := by simpa using h0
                    by_cases h1 : (g : Int) < m
                    · have q1 : decide ((g : Int) < m) = true := by simpa using h1
                      have HGK : Hid ((decide (0 ≤ m) && (decide (m = 0) || decide (m < (b : Int)))) = false) := by show _ = _; simp; omega
                      go_wp2_with fail
                      refine (HMO.out w4).mono ?_
                      rintro r w5 ⟨rfl, rfl⟩
                      go_wp2_with fail
                      go_ret
                      exact ⟨by rw [HX.out.1 _ HG.out (HGK.out)]; rfl, b4⟩
                    · have q1 : decide ((g : Int) < m) = false := by simpa using h1
                      have HGK : Hid ((decide (0 ≤ m) && (decide (m = 0) || decide (m < (b : Int)))) = true) := by show _ = _; simp; omega
                      go_wp2_with fail
                      refine (HMO.out w4).mono ?_
                      rintro r w5 ⟨rfl, rfl⟩
                      go_wp2_with fail
                      go_roundw
                      case rel => exact ⟨y + 1, by omega, by go_num, by trivial, by trivial, HX.out.2 (HG.out.trans (HGK.out))⟩
                      case measure => simp [intOf]; omega
                · have hyl : ¬ y < Lt.length := hy
                  have hb0 := l2 hy
                  subst hb0
                  clear l1 l2
                  by_cases h0 : m < 0
                  · have q0 : decide (m < 0) = true := by simpa using h0
                    have HGK : Hid ((decide (0 ≤ m) && (decide (m = 0) || decide (m < ((0 : Nat) : Int)))) = false) := by show _ = _; simp; omega
                    go_wp2_with fail
                    go_ret
                    exact ⟨by rw [HX.out.1 _ HG.out (HGK.out)]; rfl, b4⟩
                  · have q0 : decide (m < 0) = false := by simpa using h0
                    by_cases h1 : (0 : Int) < m
                    · have q1 : decide ((0 : Int) < m) = true := by simpa using h1
                      have HGK : Hid ((decide (0 ≤ m) && (decide (m = 0) || decide (m < ((0 : Nat) : Int)))) = false) := by show _ = _; simp; omega
                      go_wp2_with fail
                      go_ret
                      exact ⟨by rw [HX.out.1 _ HG.out (HGK.out)]; rfl, b4⟩
                    · have q1 : decide ((0 : Int) < m) = false := by simpa using h1
                      have HGK : Hid ((decide (0 ≤ m) && (decide (m = 0) || decide (m < ((0 : Nat) : Int)))) = true) := by show _ = _; simp; omega
                      go_wp2_with fail
                      go_roundw
                      case rel => exact ⟨y + 1, by omega, by go_num, by trivial, by trivial, HX.out.2 (HG.out.trans (HGK.out))⟩
                      case measure => simp [intOf]; omega
              · obtain rfl : y = 3 := by omega
                have hR1 : R = true := by rw [HRn.out]; exact rightN_true HB.out
                have HR1 := Lib.hid hR1
                clear hR1
                go_wp2_with fail
                go_ret
                exact ⟨by rw [HR1.out]; rfl, b4⟩
      · have hi' : ((i : Int) == 0) = false := by simp; omega
        have hRf : R = false := by rw [HK.out]; simp [hi0]
        have HRf := Lib.hid hRf
        clear hRf hi0
        go_enter Tryd.func16, Tryd.ntmps16
        go_wp2_with (first
          | ((with_reducible show wpList _ _ _ (⟨some 1, _, _, _, _, _⟩ :: _) _ _); refine wp_box _ rfl 24 (.tmp 0) rfl C rfl ?_; intro w1 g1 hB1 hf1; have c1 := hB1.cell kc; simp only [Act.put, List.setIfInBounds_toArray, List.set_cons_zero, List.set_cons_succ]))
        refine (HSH.out w1).mono ?_
        rintro r w1' ⟨rfl, rfl⟩
        have i1 := hB1.cell ic
        go_wp2_with (first
          | ((with_reducible show wpList _ _ _ (⟨some 15, _, _, _, _, _⟩ :: _) _ _); refine wp_eqS _ (by rfl) (.tmp 14) _ rfl H [45] rfl rfl false HNE.out ?_; simp only [Act.put, List.setIfInBounds_toArray, List.set_cons_zero, List.set_cons_succ]))
        go_ret
        exact ⟨by rw [HRf.out]; rfl, hf1.below⟩
    · by_cases h2 : k = 2
      · subst h2
        by_cases hi0 : i = 0
        · have hi' : ((i : Int) == 0) = true := by simp; omega
          have hRf : R = (rightT n ts && rightN bl ns) := by rw [HK.out]; simp [hi0]
          have HRf := Lib.hid hRf
          clear hRf hi0
          go_enter Tryd.func16, Tryd.ntmps16
          go_wp2_with (first
            | ((with_reducible show wpList _ _ _ (⟨some 1, _, _, _, _, _⟩ :: _) _ _); refine wp_box _ rfl 24 (.tmp 0) rfl C rfl ?_; intro w1 g1 hB1 hf1; have c1 := hB1.cell kc; simp only [Act.put, List.setIfInBounds_toArray, List.set_cons_zero, List.set_cons_succ]))
          refine (HSH.out w1).mono ?_
          rintro r w1' ⟨rfl, rfl⟩
          have i1 := hB1.cell ic
          go_wp2_with (first
            | ((with_reducible show wpList _ _ _ (⟨some 15, _, _, _, _, _⟩ :: _) _ _); refine wp_eqS _ (by rfl) (.tmp 14) _ rfl H [45] rfl rfl false HNE.out ?_; simp only [Act.put, List.setIfInBounds_toArray, List.set_cons_zero, List.set_cons_succ]))
          refine (HSP.out w1).mono ?_
          rintro r w2 ⟨rfl, e2⟩
          have D2 := hB1.kept e2
          have b2 := hf1.below.trans (e2.mono hf1.below.size)
          have d3 := D2.cell x3
          have d4 := D2.cell x4
          have d5 := D2.cell x5
          have d6 := D2.cell x6
          clear hB1 hf1 e2 c1 i1
          go_wp2_with fail
          have BT : Blk (w2.alloc (.cells #[.string (str t0), .string (str t1), .string (str t2), .string (str t3)] 9)) w2.heap.size 9 [.string (str t0), .string (str t1), .string (str t2), .string (str t3)] := Blk.new _ _ _
          have D3 := D2.alloc (.cells #[.string (str t0), .string (str t1), .string (str t2), .string (str t3)] 9)
          have b3 := b2.alloc b2.size (.cells #[.string (str t0), .string (str t1), .string (str t2), .string (str t3)] 9)
          generalize hW3 : w2.alloc (.cells #[.string (str t0), .string (str t1), .string (str t2), .string (str t3)] 9) = w3 at BT D3 b3 ⊢
          generalize w2.heap.size = gt at BT ⊢
          clear hW3 D2 b2 d3 d4 d5 d6
          go_loopw [2, 7] (fun ur v wr => ∃ j : Nat, j ≤ 4 ∧ v = .int .i64 (j : Int) ∧ ur = .bool false ∧ w3 = wr ∧ Hid (∀ q, q < j → goodT n ts q = true)) (fun _ v _ => 4 - (intOf v).toNat)
          case atStart => exact ⟨0, by omega, rfl, rfl, rfl, fun q hq => by omega⟩
          case round =>
            obtain ⟨j, hj4, rfl, rfl, rfl, HA⟩ := hrel
            by_cases hlt : j < 4
            · have hlt' : (j : Int) < 4 := by omega
              have cv : w3.cell? ⟨gt, j, none⟩ = some (.string (str (ts.getD j []))) := by
                match j, hlt with
                | 0, _ => rw [← HTM.out.1.1]; exact BT.cell rfl
                | 1, _ => rw [← HTM.out.1.2.1]; exact BT.cell rfl
                | 2, _ => rw [← HTM.out.1.2.2.1]; exact BT.cell rfl
                | 3, _ => rw [← HTM.out.1.2.2.2]; exact BT.cell rfl
              have htl := HLO.out.2.2 j hlt
              obtain ⟨t, ht⟩ : ∃ t, t = ts.getD j [] := ⟨_, rfl⟩
              rw [← ht] at cv htl
              have hgd : goodT n ts j = ((decide (j < n) || decide (t = [])) && decide (t.length ≤ 4096)) := by rw [goodT, ← ht]
              have HG := Lib.hid hgd
              clear hgd ht
              have hts : (str t).size = t.length := str_size t
              have fin : ∀ b : Bool, goodT n ts j = b → b = false → R = false := fun b h1 h2 => by rw [HRf.out, rightT_false hlt (h1.trans h2)]; rfl
              have nxt : goodT n ts j = true → Hid (∀ q, q < j + 1 → goodT n ts q = true) := fun h1 => step_all HA.out h1
              have HX := Lib.hid (And.intro fin nxt)
              clear fin nxt
              by_cases hl : 4096 < t.length
              · have hl' : (4096 : Int) < (t.length : Int) := by omega
                go_wp2_with fail
                go_ret
                exact ⟨by rw [HX.out.1 _ HG.out (by simp; omega)]; rfl, b3⟩
              · have hl' : ¬ 4096 < t.length := hl
                by_cases hkn : j < n
                · have hkn' : ¬ n ≤ j := by omega
                  have hgk : ((decide (j < n) || decide (t = [])) && decide (t.length ≤ 4096)) = true := by simp [hkn]; omega
                  have HGK := Lib.hid hgk
                  clear hgk
                  go_wp2_with fail
                  go_roundw
                  case rel => exact ⟨j + 1, by omega, by go_num, by trivial, by trivial, HX.out.2 (HG.out.trans (HGK.out))⟩
                  case measure => simp [intOf]; omega
                · have hkn' : n ≤ j := by omega
                  by_cases ht0 : t = []
                  · have hem : (str t).toList.isEmpty = true := by rw [str_isEmpty]; simpa using ht0
                    have hgk : ((decide (j < n) || decide (t = [])) && decide (t.length ≤ 4096)) = true := by rw [ht0]; simp
                    have HGK := Lib.hid hgk
                    clear ht0 hgk
                    go_wp2_with fail
                    go_roundw
                    case rel => exact ⟨j + 1, by omega, by go_num, by trivial, by trivial, HX.out.2 (HG.out.trans (HGK.out))⟩
                    case measure => simp [intOf]; omega
                  · have hem : (str t).toList.isEmpty = false := str_nonempty ht0
                    have hgk : ((decide (j < n) || decide (t = [])) && decide (t.length ≤ 4096)) = false := by simp [hkn, ht0]
                    have HGK := Lib.hid hgk
                    clear ht0 hgk
                    go_wp2_with fail
                    go_ret
                    exact ⟨by rw [HX.out.1 _ HG.out (HGK.out)]; rfl, b3⟩
            · have hlt' : ¬ (j : Int) < 4 := by omega
              have hRn : R = rightN bl ns := by rw [HRf.out, rightT_true (fun q hq => HA.out q (by omega)), Bool.true_and]
              have HRn := Lib.hid hRn
              clear hRn
              have d7 := D3.cell x7
              have d8 := D3.cell x8
              have d9 := D3.cell x9
              go_wp2_with fail
              have BN : Blk (w3.alloc (.cells #[.int .i64 m0, .int .i64 m1, .int .i64 m2] 3)) w3.heap.size 3 [.int .i64 m0, .int .i64 m1, .int .i64 m2] := Blk.new _ _ _
              have b4 := b3.alloc b3.size (.cells #[.int .i64 m0, .int .i64 m1, .int .i64 m2] 3)
              generalize hW4 : w3.alloc (.cells #[.int .i64 m0, .int .i64 m1, .int .i64 m2] 3) = w4 at BN b4 ⊢
              generalize w3.heap.size = gn at BN ⊢
              clear hW4 D3 BT d7 d8 d9
              go_loopw [2, 9] (fun ur v wr => ∃ j : Nat, j ≤ 3 ∧ v = .int .i64 (j : Int) ∧ ur = .bool false ∧ w4 = wr ∧ Hid (∀ q, q < j → goodN bl ns q = true)) (fun _ v _ => 3 - (intOf v).toNat)
              case atStart => exact ⟨0, by omega, rfl, rfl, rfl, fun q hq => by omega⟩
              case round =>
                obtain ⟨y, hy3, rfl, rfl, rfl, HB⟩ := hrel
                by_cases hlt : y < 3
                · have hlt' : (y : Int) < 3 := by omega
                  have cv : w4.cell? ⟨gn, y, none⟩ = some (.int .i64 (ns.getD y 0)) := by
                    match y, hlt with
                    | 0, _ => rw [← HTM.out.2.1]; exact BN.cell rfl
                    | 1, _ => rw [← HTM.out.2.2.1]; exact BN.cell rfl
                    | 2, _ => rw [← HTM.out.2.2.2]; exact BN.cell rfl
                  obtain ⟨l1, l2⟩ := HLO.out.1 y hlt
                  obtain ⟨m, hm⟩ : ∃ m, m = ns.getD y 0 := ⟨_, rfl⟩
                  obtain ⟨b, hb⟩ : ∃ b, b = bl.getD y 0 := ⟨_, rfl⟩
                  have hgd : goodN bl ns y = (decide (0 ≤ m) && (decide (m = 0) || decide (m < (b : Int)))) := by rw [goodN, ← hm, ← hb]
                  rw [← hm] at cv
                  rw [← hb] at l1 l2
                  have HG := Lib.hid hgd
                  clear hgd hm hb
                  have fin : ∀ b : Bool, goodN bl ns y = b → b = false → R = false := fun b h1 h2 => by rw [HRn.out]; exact rightN_false hlt (h1.trans h2)
                  have nxt : goodN bl ns y = true → Hid (∀ q, q < y + 1 → goodN bl ns q = true) := fun h1 => step_all HB.out h1
                  have HX := Lib.hid (And.intro fin nxt)
                  clear fin nxt
                  by_cases hy : y < Lt.length
                  · obtain ⟨mb, hmb⟩ : ∃ mb, mb = (Lt.getD y 0).toNat := ⟨_, rfl⟩
                    have hget : ∀ h, ((str Lt)[y]'h).toNat = mb := fun h => by
                      rw [hmb]
                      simp [str, List.getD, List.getElem?_eq_getElem hy, ByteArray.getElem_eq_getElem_data]
                    have hm8 : mb < 256 := by rw [hmb]; exact UInt8.toNat_lt _
                    obtain ⟨l3, l4⟩ := l1 hy
                    rw [← hmb] at l3 l4
                    have MO := fun W => most_any mb l3 hm8 W
                    obtain ⟨g, hg⟩ : ∃ g, g = moN mb := ⟨_, rfl⟩
                    rw [← hg] at MO l4
                    have hyl : (y : Int) < (Lt.length : Int) := by omega
                    have HMO := Lib.hid MO
                    clear hmb hg l1 l2 MO
                    by_cases h0 : m < 0
                    · have q0 : decide (m < 0) = true := by simpa using h0
                      have HGK : Hid ((decide (0 ≤ m) && (decide (m = 0) || decide (m < (b : Int)))) = false) := by show _ = _; simp; omega
                      go_wp2_with fail
                      refine (HMO.out w4).mono ?_
                      rintro r w5 ⟨rfl, rfl⟩
                      go_wp2_with fail
                      go_ret
                      exact ⟨by rw [HX.out.1 _ HG.out (HGK.out)]; rfl, b4⟩
                    · have q0 : decide (m < 0) = false := by simpa using h0
                      by_cases h1 : (g : Int) < m
                      · have q1 : decide ((g : Int) < m) = true := by simpa using h1
                        have HGK : Hid ((decide (0 ≤ m) && (decide (m = 0) || decide (m < (b : Int)))) = false) := by show _ = _; simp; omega
                        go_wp2_with fail
                        refine (HMO.out w4).mono ?_
                        rintro r w5 ⟨rfl, rfl⟩
                        go_wp2_with fail
                        go_ret
                        exact ⟨by rw [HX.out.1 _ HG.out (HGK.out)]; rfl, b4⟩
                      · have q1 : decide ((g : Int) < m) = false := by simpa using h1
                        have HGK : Hid ((decide (0 ≤ m) && (decide (m = 0) || decide (m < (b : Int)))) = true) := by show _ = _; simp; omega
                        go_wp2_with fail
                        refine (HMO.out w4).mono ?_
                        rintro r w5 ⟨rfl, rfl⟩
                        go_wp2_with fail
                        go_roundw
                        case rel => exact ⟨y + 1, by omega, by go_num, by trivial, by trivial, HX.out.2 (HG.out.trans (HGK.out))⟩
                        case measure => simp [intOf]; omega
                  · have hyl : ¬ y < Lt.length := hy
                    have hb0 := l2 hy
                    subst hb0
                    clear l1 l2
                    by_cases h0 : m < 0
                    · have q0 : decide (m < 0) = true := by simpa using h0
                      have HGK : Hid ((decide (0 ≤ m) && (decide (m = 0) || decide (m < ((0 : Nat) : Int)))) = false) := by show _ = _; simp; omega
                      go_wp2_with fail
                      go_ret
                      exact ⟨by rw [HX.out.1 _ HG.out (HGK.out)]; rfl, b4⟩
                    · have q0 : decide (m < 0) = false := by simpa using h0
                      by_cases h1 : (0 : Int) < m
                      · have q1 : decide ((0 : Int) < m) = true := by simpa using h1
                        have HGK : Hid ((decide (0 ≤ m) && (decide (m = 0) || decide (m < ((0 : Nat) : Int)))) = false) := by show _ = _; simp; omega
                        go_wp2_with fail
                        go_ret
                        exact ⟨by rw [HX.out.1 _ HG.out (HGK.out)]; rfl, b4⟩
                      · have q1 : decide ((0 : Int) < m) = false := by simpa using h1
                        have HGK : Hid ((decide (0 ≤ m) && (decide (m = 0) || decide (m < ((0 : Nat) : Int)))) = true) := by show _ = _; simp; omega
                        go_wp2_with fail
                        go_roundw
                        case rel => exact ⟨y + 1, by omega, by go_num, by trivial, by trivial, HX.out.2 (HG.out.trans (HGK.out))⟩
                        case measure => simp [intOf]; omega
                · obtain rfl : y = 3 := by omega
                  have hR1 : R = true := by rw [HRn.out]; exact rightN_true HB.out
                  have HR1 := Lib.hid hR1
                  clear hR1
                  go_wp2_with fail
                  go_ret
                  exact ⟨by rw [HR1.out]; rfl, b4⟩
        · have hi' : ((i : Int) == 0) = false := by simp; omega
          have hRf : R = false := by rw [HK.out]; simp [hi0]
          have HRf := Lib.hid hRf
          clear hRf hi0
          go_enter Tryd.func16, Tryd.ntmps16
          go_wp2_with (first
            | ((with_reducible show wpList _ _ _ (⟨some 1, _, _, _, _, _⟩ :: _) _ _); refine wp_box _ rfl 24 (.tmp 0) rfl C rfl ?_; intro w1 g1 hB1 hf1; have c1 := hB1.cell kc; simp only [Act.put, List.setIfInBounds_toArray, List.set_cons_zero, List.set_cons_succ]))
          refine (HSH.out w1).mono ?_
          rintro r w1' ⟨rfl, rfl⟩
          have i1 := hB1.cell ic
          go_wp2_with (first
            | ((with_reducible show wpList _ _ _ (⟨some 15, _, _, _, _, _⟩ :: _) _ _); refine wp_eqS _ (by rfl) (.tmp 14) _ rfl H [45] rfl rfl false HNE.out ?_; simp only [Act.put, List.setIfInBounds_toArray, List.set_cons_zero, List.set_cons_succ]))
          go_ret
          exact ⟨by rw [HRf.out]; rfl, hf1.below⟩
      · have k1 : ((k : Int) == 1) = false := by simp; omega
        have k2 : ((k : Int) == 2) = false := by simp; omega
        by_cases hi0 : i = 0
        · have hi' : ((i : Int) == 0) = true := by simp; omega
          have hRf : R = false := by rw [HK.out]; simp [h1, h2, hi0]
          have HRf := Lib.hid hRf
          clear hRf hi0
          go_enter Tryd.func16, Tryd.ntmps16
          go_wp2_with (first
            | ((with_reducible show wpList _ _ _ (⟨some 1, _, _, _, _, _⟩ :: _) _ _); refine wp_box _ rfl 24 (.tmp 0) rfl C rfl ?_; intro w1 g1 hB1 hf1; have c1 := hB1.cell kc; simp only [Act.put, List.setIfInBounds_toArray, List.set_cons_zero, List.set_cons_succ]))
          refine (HSH.out w1).mono ?_
          rintro r w1' ⟨rfl, rfl⟩
          have i1 := hB1.cell ic
          go_wp2_with (first
            | ((with_reducible show wpList _ _ _ (⟨some 15, _, _, _, _, _⟩ :: _) _ _); refine wp_eqS _ (by rfl) (.tmp 14) _ rfl H [45] rfl rfl false HNE.out ?_; simp only [Act.put, List.setIfInBounds_toArray, List.set_cons_zero, List.set_cons_succ]))
          go_ret
          exact ⟨by rw [HRf.out]; rfl, hf1.below⟩
        · have hi' : ((i : Int) == 0) = false := by simp; omega
          have hRf : R = (rightT n ts && rightN bl ns) := by rw [HK.out]; simp [h1, h2, hi0]
          have HRf := Lib.hid hRf
          clear hRf hi0
          go_enter Tryd.func16, Tryd.ntmps16
          go_wp2_with (first
            | ((with_reducible show wpList _ _ _ (⟨some 1, _, _, _, _, _⟩ :: _) _ _); refine wp_box _ rfl 24 (.tmp 0) rfl C rfl ?_; intro w1 g1 hB1 hf1; have c1 := hB1.cell kc; simp only [Act.put, List.setIfInBounds_toArray, List.set_cons_zero, List.set_cons_succ]))
          refine (HSH.out w1).mono ?_
          rintro r w1' ⟨rfl, rfl⟩
          have i1 := hB1.cell ic
          go_wp2_with (first
            | ((with_reducible show wpList _ _ _ (⟨some 15, _, _, _, _, _⟩ :: _) _ _); refine wp_eqS _ (by rfl) (.tmp 14) _ rfl H [45] rfl rfl false HNE.out ?_; simp only [Act.put, List.setIfInBounds_toArray, List.set_cons_zero, List.set_cons_succ]))
          refine (HSP.out w1).mono ?_
          rintro r w2 ⟨rfl, e2⟩
          have D2 := hB1.kept e2
          have b2 := hf1.below.trans (e2.mono hf1.below.size)
          have d3 := D2.cell x3
          have d4 := D2.cell x4
          have d5 := D2.cell x5
          have d6 := D2.cell x6
          clear hB1 hf1 e2 c1 i1
          go_wp2_with fail
          have BT : Blk (w2.alloc (.cells #[.string (str t0), .string (str t1), .string (str t2), .string (str t3)] 9)) w2.heap.size 9 [.string (str t0), .string (str t1), .string (str t2), .string (str t3)] := Blk.new _ _ _
          have D3 := D2.alloc (.cells #[.string (str t0), .string (str t1), .string (str t2), .string (str t3)] 9)
          have b3 := b2.alloc b2.size (.cells #[.string (str t0), .string (str t1), .string (str t2), .string (str t3)] 9)
          generalize hW3 : w2.alloc (.cells #[.string (str t0), .string (str t1), .string (str t2), .string (str t3)] 9) = w3 at BT D3 b3 ⊢
          generalize w2.heap.size = gt at BT ⊢
          clear hW3 D2 b2 d3 d4 d5 d6
          go_loopw [2, 7] (fun ur v wr => ∃ j : Nat, j ≤ 4 ∧ v = .int .i64 (j : Int) ∧ ur = .bool false ∧ w3 = wr ∧ Hid (∀ q, q < j → goodT n ts q = true)) (fun _ v _ => 4 - (intOf v).toNat)
          case atStart => exact ⟨0, by omega, rfl, rfl, rfl, fun q hq => by omega⟩
          case round =>
            obtain ⟨j, hj4, rfl, rfl, rfl, HA⟩ := hrel
            by_cases hlt : j < 4
            · have hlt' : (j : Int) < 4 := by omega
              have cv : w3.cell? ⟨gt, j, none⟩ = some (.string (str (ts.getD j []))) := by
                match j, hlt with
                | 0, _ => rw [← HTM.out.1.1]; exact BT.cell rfl
                | 1, _ => rw [← HTM.out.1.2.1]; exact BT.cell rfl
                | 2, _ => rw [← HTM.out.1.2.2.1]; exact BT.cell rfl
                | 3, _ => rw [← HTM.out.1.2.2.2]; exact BT.cell rfl
              have htl := HLO.out.2.2 j hlt
              obtain ⟨t, ht⟩ : ∃ t, t = ts.getD j [] := ⟨_, rfl⟩
              rw [← ht] at cv htl
              have hgd : goodT n ts j = ((decide (j < n) || decide (t = [])) && decide (t.length ≤ 4096)) := by rw [goodT, ← ht]
              have HG := Lib.hid hgd
              clear hgd ht
              have hts : (str t).size = t.length := str_size t
              have fin : ∀ b : Bool, goodT n ts j = b → b = false → R = false := fun b h1 h2 => by rw [HRf.out, rightT_false hlt (h1.trans h2)]; rfl
              have nxt : goodT n ts j = true → Hid (∀ q, q < j + 1 → goodT n ts q = true) := fun h1 => step_all HA.out h1
              have HX := Lib.hid (And.intro fin nxt)
              clear fin nxt
              by_cases hl : 4096 < t.length
              · have hl' : (4096 : Int) < (t.length : Int) := by omega
                go_wp2_with fail
                go_ret
                exact ⟨by rw [HX.out.1 _ HG.out (by simp; omega)]; rfl, b3⟩
              · have hl' : ¬ 4096 < t.length := hl
                by_cases hkn : j < n
                · have hkn' : ¬ n ≤ j := by omega
                  have hgk : ((decide (j < n) || decide (t = [])) && decide (t.length ≤ 4096)) = true := by simp [hkn]; omega
                  have HGK := Lib.hid hgk
                  clear hgk
                  go_wp2_with fail
                  go_roundw
                  case rel => exact ⟨j + 1, by omega, by go_num, by trivial, by trivial, HX.out.2 (HG.out.trans (HGK.out))⟩
                  case measure => simp [intOf]; omega
                · have hkn' : n ≤ j := by omega
                  by_cases ht0 : t = []
                  · have hem : (str t).toList.isEmpty = true := by rw [str_isEmpty]; simpa using ht0
                    have hgk : ((decide (j < n) || decide (t = [])) && decide (t.length ≤ 4096)) = true := by rw [ht0]; simp
                    have HGK := Lib.hid hgk
                    clear ht0 hgk
                    go_wp2_with fail
                    go_roundw
                    case rel => exact ⟨j + 1, by omega, by go_num, by trivial, by trivial, HX.out.2 (HG.out.trans (HGK.out))⟩
                    case measure => simp [intOf]; omega
                  · have hem : (str t).toList.isEmpty = false := str_nonempty ht0
                    have hgk : ((decide (j < n) || decide (t = [])) && decide (t.length ≤ 4096)) = false := by simp [hkn, ht0]
                    have HGK := Lib.hid hgk
                    clear ht0 hgk
                    go_wp2_with fail
                    go_ret
                    exact ⟨by rw [HX.out.1 _ HG.out (HGK.out)]; rfl, b3⟩
            · have hlt' : ¬ (j : Int) < 4 := by omega
              have hRn : R = rightN bl ns := by rw [HRf.out, rightT_true (fun q hq => HA.out q (by omega)), Bool.true_and]
              have HRn := Lib.hid hRn
              clear hRn
              have d7 := D3.cell x7
              have d8 := D3.cell x8
              have d9 := D3.cell x9
              go_wp2_with fail
              have BN : Blk (w3.alloc (.cells #[.int .i64 m0, .int .i64 m1, .int .i64 m2] 3)) w3.heap.size 3 [.int .i64 m0, .int .i64 m1, .int .i64 m2] := Blk.new _ _ _
              have b4 := b3.alloc b3.size (.cells #[.int .i64 m0, .int .i64 m1, .int .i64 m2] 3)
              generalize hW4 : w3.alloc (.cells #[.int .i64 m0, .int .i64 m1, .int .i64 m2] 3) = w4 at BN b4 ⊢
              generalize w3.heap.size = gn at BN ⊢
              clear hW4 D3 BT d7 d8 d9
              go_loopw [2, 9] (fun ur v wr => ∃ j : Nat, j ≤ 3 ∧ v = .int .i64 (j : Int) ∧ ur = .bool false ∧ w4 = wr ∧ Hid (∀ q, q < j → goodN bl ns q = true)) (fun _ v _ => 3 - (intOf v).toNat)
              case atStart => exact ⟨0, by omega, rfl, rfl, rfl, fun q hq => by omega⟩
              case round =>
                obtain ⟨y, hy3, rfl, rfl, rfl, HB⟩ := hrel
                by_cases hlt : y < 3
                · have hlt' : (y : Int) < 3 := by omega
                  have cv : w4.cell? ⟨gn, y, none⟩ = some (.int .i64 (ns.getD y 0)) := by
                    match y, hlt with
                    | 0, _ => rw [← HTM.out.2.1]; exact BN.cell rfl
                    | 1, _ => rw [← HTM.out.2.2.1]; exact BN.cell rfl
                    | 2, _ => rw [← HTM.out.2.2.2]; exact BN.cell rfl
                  obtain ⟨l1, l2⟩ := HLO.out.1 y hlt
                  obtain ⟨m, hm⟩ : ∃ m, m = ns.getD y 0 := ⟨_, rfl⟩
                  obtain ⟨b, hb⟩ : ∃ b, b = bl.getD y 0 := ⟨_, rfl⟩
                  have hgd : goodN bl ns y = (decide (0 ≤ m) && (decide (m = 0) || decide (m < (b : Int)))) := by rw [goodN, ← hm, ← hb]
                  rw [← hm] at cv
                  rw [← hb] at l1 l2
                  have HG := Lib.hid hgd
                  clear hgd hm hb
                  have fin : ∀ b : Bool, goodN bl ns y = b → b = false → R = false := fun b h1 h2 => by rw [HRn.out]; exact rightN_false hlt (h1.trans h2)
                  have nxt : goodN bl ns y = true → Hid (∀ q, q < y + 1 → goodN bl ns q = true) := fun h1 => step_all HB.out h1
                  have HX := Lib.hid (And.intro fin nxt)
                  clear fin nxt
                  by_cases hy : y < Lt.length
                  · obtain ⟨mb, hmb⟩ : ∃ mb, mb = (Lt.getD y 0).toNat := ⟨_, rfl⟩
                    have hget : ∀ h, ((str Lt)[y]'h).toNat = mb := fun h => by
                      rw [hmb]
                      simp [str, List.getD, List.getElem?_eq_getElem hy, ByteArray.getElem_eq_getElem_data]
                    have hm8 : mb < 256 := by rw [hmb]; exact UInt8.toNat_lt _
                    obtain ⟨l3, l4⟩ := l1 hy
                    rw [← hmb] at l3 l4
                    have MO := fun W => most_any mb l3 hm8 W
                    obtain ⟨g, hg⟩ : ∃ g, g = moN mb := ⟨_, rfl⟩
                    rw [← hg] at MO l4
                    have hyl : (y : Int) < (Lt.length : Int) := by omega
                    have HMO := Lib.hid MO
                    clear hmb hg l1 l2 MO
                    by_cases h0 : m < 0
                    · have q0 : decide (m < 0) = true := by simpa using h0
                      have HGK : Hid ((decide (0 ≤ m) && (decide (m = 0) || decide (m < (b : Int)))) = false) := by show _ = _; simp; omega
                      go_wp2_with fail
                      refine (HMO.out w4).mono ?_
                      rintro r w5 ⟨rfl, rfl⟩
                      go_wp2_with fail
                      go_ret
                      exact ⟨by rw [HX.out.1 _ HG.out (HGK.out)]; rfl, b4⟩
                    · have q0 : decide (m < 0) = false := by simpa using h0
                      by_cases h1 : (g : Int) < m
                      · have q1 : decide ((g : Int) < m) = true := by simpa using h1
                        have HGK : Hid ((decide (0 ≤ m) && (decide (m = 0) || decide (m < (b : Int)))) = false) := by show _ = _; simp; omega
                        go_wp2_with fail
                        refine (HMO.out w4).mono ?_
                        rintro r w5 ⟨rfl, rfl⟩
                        go_wp2_with fail
                        go_ret
                        exact ⟨by rw [HX.out.1 _ HG.out (HGK.out)]; rfl, b4⟩
                      · have q1 : decide ((g : Int) < m) = false := by simpa using h1
                        have HGK : Hid ((decide (0 ≤ m) && (decide (m = 0) || decide (m < (b : Int)))) = true) := by show _ = _; simp; omega
                        go_wp2_with fail
                        refine (HMO.out w4).mono ?_
                        rintro r w5 ⟨rfl, rfl⟩
                        go_wp2_with fail
                        go_roundw
                        case rel => exact ⟨y + 1, by omega, by go_num, by trivial, by trivial, HX.out.2 (HG.out.trans (HGK.out))⟩
                        case measure => simp [intOf]; omega
                  · have hyl : ¬ y < Lt.length := hy
                    have hb0 := l2 hy
                    subst hb0
                    clear l1 l2
                    by_cases h0 : m < 0
                    · have q0 : decide (m < 0) = true := by simpa using h0
                      have HGK : Hid ((decide (0 ≤ m) && (decide (m = 0) || decide (m < ((0 : Nat) : Int)))) = false) := by show _ = _; simp; omega
                      go_wp2_with fail
                      go_ret
                      exact ⟨by rw [HX.out.1 _ HG.out (HGK.out)]; rfl, b4⟩
                    · have q0 : decide (m < 0) = false := by simpa using h0
                      by_cases h1 : (0 : Int) < m
                      · have q1 : decide ((0 : Int) < m) = true := by simpa using h1
                        have HGK : Hid ((decide (0 ≤ m) && (decide (m = 0) || decide (m < ((0 : Nat) : Int)))) = false) := by show _ = _; simp; omega
                        go_wp2_with fail
                        go_ret
                        exact ⟨by rw [HX.out.1 _ HG.out (HGK.out)]; rfl, b4⟩
                      · have q1 : decide ((0 : Int) < m) = false := by simpa using h1
                        have HGK : Hid ((decide (0 ≤ m) && (decide (m = 0) || decide (m < ((0 : Nat) : Int)))) = true) := by show _ = _; simp; omega
                        go_wp2_with fail
                        go_roundw
                        case rel => exact ⟨y + 1, by omega, by go_num, by trivial, by trivial, HX.out.2 (HG.out.trans (HGK.out))⟩
                        case measure => simp [intOf]; omega
                · obtain rfl : y = 3 := by omega
                  have hR1 : R = true := by rw [HRn.out]; exact rightN_true HB.out
                  have HR1 := Lib.hid hR1
                  clear hR1
                  go_wp2_with fail
                  go_ret
                  exact ⟨by rw [HR1.out]; rfl, b4⟩
  · have hRf : R = false := by
      rw [hR, rightE]
      simp
      omega
    have SH := fun W => shape_out e.kind hin W
    have kc := evc_kind e
    obtain ⟨C, hC⟩ : ∃ C, C = evc e := ⟨_, rfl⟩
    rw [← hC] at kc ⊢
    generalize e.kind = K at *
    rw [hRf]
    have HSH := Lib.hid SH
    clear hC hR hRf SH
    go_enter Tryd.func16, Tryd.ntmps16
    go_wp2_with (first
      | ((with_reducible show wpList _ _ _ (⟨some 1, _, _, _, _, _⟩ :: _) _ _); refine wp_box _ rfl 24 (.tmp 0) rfl C rfl ?_; intro w1 g1 hB1 hf1; have c1 := hB1.cell kc; simp only [Act.put, List.setIfInBounds_toArray, List.set_cons_zero, List.set_cons_succ]))
    refine (HSH.out w1).mono ?_
    rintro r w1' ⟨rfl, rfl⟩
    go_wp2_with (first
      | ((with_reducible show wpList _ _ _ (⟨some 15, _, _, _, _, _⟩ :: _) _ _); refine wp_eqS _ (by rfl) (.tmp 14) _ rfl [45] [45] rfl rfl true (by simp) ?_; simp only [Act.put, List.setIfInBounds_toArray, List.set_cons_zero, List.set_cons_succ]))
    go_ret
    exact ⟨rfl, hf1.below⟩
end Go.Proofs.YtjgcodnabgkjoaaDoor
