/-
  The walk of transeptlaw07.HostShort: true, for every address of eight pieces and two numbers; nothing that was there turns. Condition: the library's tables.
-/
import Derived.Test.YtcfgcakmffkpmaaDoorShw
import Derived.Test.YtcfgcakmffkpmaaDoorArg
import Derived.Test.YtcfgcakmffkpmaaDoorTxs
import Derived.Test.YtcfgcakmffkpmaaDoorWmt
namespace Go.Proofs.YtcfgcakmffkpmaaDoor
open Go.RowKit

theorem i64_and7 (n : Int) : bits .and .i64 n 7 = n % 8 := by
  have h1 : (BitVec.ofInt 64 7).toNat = 2 ^ 3 - 1 := by decide
  have key : (BitVec.ofInt 64 n &&& BitVec.ofInt 64 7).toNat = (n % ((2 ^ 64 : Nat) : Int)).toNat % 2 ^ 3 := by
    rw [BitVec.toNat_and, BitVec.toNat_ofInt, h1, Nat.and_two_pow_sub_one_eq_mod]
  show IntKind.i64.wrap ((BitVec.ofInt 64 n &&& BitVec.ofInt 64 7).toNat : Nat) = n % 8
  rw [key, IntKind.wrap_i64]
  omega
theorem freshS_ne {w w' : World} {g b : Nat} {t : TypeId} {C : List Value} (h : Fresh w w' g) (hb : Blk w b t C) : b ≠ g := by
  have := hb.lt
  have := h.is
  omega
theorem freshS_ge {w0 w w' : World} {g : Nat} (h : Fresh w w' g) (hk : Kept w0 w) : w0.heap.size ≤ g := by
  have := hk.size
  have := h.is
  omega
theorem sixS_is (l : List UInt8) (a : List Nat) (h : ip6 l = some a) (w : World) (hl : l.length ≤ 10000000) (ht : Tabs w) : Calls Tryd.prog 17 #[.string (str l)] w fun e w' => e = .returned (.tuple #[.agg (vhs a).toArray, .int .i64 0]) ∧ Below w.heap.size w w' := by
  have := six_any l w hl ht
  rw [h] at this
  exact this
theorem sixS_none (l : List UInt8) (h : ip6 l = none) (w : World) (hl : l.length ≤ 10000000) (ht : Tabs w) : Calls Tryd.prog 17 #[.string (str l)] w fun e w' => e = .returned (.tuple #[.agg (vhs zero8).toArray, .int .i64 7]) ∧ Below w.heap.size w w' := by
  have := six_any l w hl ht
  rw [h] at this
  exact this
theorem az_in (a : List Nat) (p t k : Nat) (h : p ≤ k ∧ k < t) : vhs (az a p t (k + 1)) = (vhs (az a p t k)).set k (.int .u16 0) := by
  rw [az, if_pos h, ← vhs_set]
  rfl
theorem az_out (a : List Nat) (p t k : Nat) (h : ¬ (p ≤ k ∧ k < t)) : az a p t (k + 1) = az a p t k := by rw [az, if_neg h]

set_option maxHeartbeats 16000000 in
set_option maxRecDepth 100000 in
theorem short_walk (a : List Nat) (ha : a.length = 8 ∧ ∀ x ∈ a, x < 65536) (n1 n2 : Int) (w : World) (ht : Tabs w) :
    Calls Tryd.prog 8 #[.agg (vhs a).toArray, .int .i64 n1, .int .i64 n2] w fun e w' => e = .returned (.bool true) ∧ Below w.heap.size w w' := by
  have hxx : Hid (∀ i, a.getD i 0 < 65536) := fun i => getD_lt a ha.2 i
  have HT := Lib.hid ht
  have HSh : Hid (∀ w', Kept w w' → Calls Tryd.prog 9 #[] w' fun e w2 => e = .returned (.bool true) ∧ Below w'.heap.size w' w2) := fun w' hk => shown_any w' (HT.out.kp hk)
  obtain ⟨f, hf⟩ : ∃ f : Nat → List UInt8, f = fun j => hexL (a.getD j 0) := ⟨_, rfl⟩
  have hf4 : Hid (∀ j, (f j).length ≤ 4) := fun j => by rw [hf]; exact hexL_len4 _ (hxx.out j)
  have HB : Hid (∀ (k n : Nat), n = a.getD k 0 → ∀ w', Calls Tryd.prog 13 #[.int .i64 (n : Int), .int .i64 16] w' fun e w2 => e = .returned (.string (str (f k))) ∧ Below w'.heap.size w' w2) := fun k n hn w' => by
    have h9 := hxx.out k
    have h := based_any n 16 (by omega) (by omega) (by omega) w'
    rw [bsd_hexL, hn] at h
    rw [hf]
    exact hn ▸ h
  obtain ⟨p, hp, hp8⟩ : ∃ p : Nat, bits .and .i64 n1 7 = (p : Int) ∧ p < 8 := ⟨(n1 % 8).toNat, by rw [i64_and7]; omega, by omega⟩
  obtain ⟨r, hr⟩ : ∃ q : Nat, bits .and .i64 n2 65535 = (q : Int) ∧ q < 65536 := ⟨(n2 % 65536).toNat, by rw [i64_and65535]; omega, by omega⟩
  obtain ⟨hr, hr9⟩ := hr
  obtain ⟨d, hd⟩ : ∃ d, d = 8 - p := ⟨_, rfl⟩
  have hdi : (8 : Int) - (p : Int) = (d : Int) := by omega
  obtain ⟨e, he⟩ : ∃ e, e = r % d := ⟨_, rfl⟩
  have hed : e < d := by rw [he]; exact Nat.mod_lt _ (by omega)
  have hei : (r : Int) % (d : Int) = (e : Int) := by rw [he]; rfl
  have hei2 : (r : Int).tmod (d : Int) = (e : Int) := by rw [he]; rfl
  obtain ⟨n, hn⟩ : ∃ n, n = 1 + e := ⟨_, rfl⟩
  have hni : (1 : Int) + (e : Int) = (n : Int) := by omega
  obtain ⟨t, ht'⟩ : ∃ t, t = p + n := ⟨_, rfl⟩
  have hti : (p : Int) + (n : Int) = (t : Int) := by omega
  have hd0 : ¬ (d : Int) = 0 := by omega
  have hd0' : ¬ d = 0 := by omega
  have hpt : p < t := by omega
  have ht8 : t ≤ 8 := by omega
  have he8 : e < 8 := by omega
  have hn8 : n ≤ 8 := by omega
  have hd8 : d ≤ 8 := by omega
  have HE := Lib.hid (And.intro hd (And.intro he (And.intro hn (And.intro ht' hed))))
  have HA := Lib.hid (And.intro ha hf)
  clear ha hf ht hd he hn ht' hed
  go_enter Tryd.func8, Tryd.ntmps8
  go_wp2_with (first
    | ((with_reducible show wpList _ _ _ (⟨some 3, .box _ _, _, _, _, _⟩ :: _) _ _); refine wp_box _ rfl 38 _ rfl (vhs a) rfl ?_; intro w1 g1 B1 F1; simp only [Act.put, List.setIfInBounds_toArray, List.set_cons_zero, List.set_cons_succ]; have hk1 := kept_of F1.below; have HGi := Lib.hid F1.is)
    | (go_at_call 9; with_reducible refine (HSh.out w1 hk1).mono ?_; rintro e w2 ⟨rfl, hb2⟩; have hk2 := hk1.step hb2; have B2 := Lib.hid (B1.kept hb2); clear hb2))
  have HGe : Hid (w.heap.size ≤ g1) := Nat.le_of_eq HGi.out.symm
  clear B1 F1 hk1 HGi
  go_loopw [9, 8] (fun i y wr => ∃ (k : Nat), k ≤ 8 ∧ i = .int .i64 (k : Int) ∧ y = .string (str (tg f p t k)) ∧ Kept w wr ∧ Blk wr g1 38 (vhs (az a p t k))) (fun i _ _ => 8 - (intOf i).toNat)
  case atStart => exact ⟨0, by omega, rfl, rfl, hk2, B2.out⟩
  case round =>
    obtain ⟨k, hk, rfl, rfl, hkw, hbk⟩ := hrel
    clear hk2 B2
    have hXl := tg_len f hf4.out p t k
    obtain ⟨X, hX⟩ : ∃ X, X = tg f p t k := ⟨_, rfl⟩
    rw [← hX] at hXl ⊢
    have sX : (str X).size ≤ 40 := by rw [str_size]; omega
    have HX := Lib.hid hX
    have HBk := Lib.hid hbk
    clear hX hbk
    by_cases hlt : k < 8
    · have hki : (k : Int) < 8 := by omega
      by_cases hgap : p ≤ k ∧ k < t
      · have hpk : p ≤ k := hgap.1
        have hkt : k < t := hgap.2
        have haz := az_in a p t k hgap
        have hln : k < (vhs (az a p t k)).length := by rw [Hs_len, az_len, HA.out.1.1]; exact hlt
        have HLn := Lib.hid hln
        have HAz := Lib.hid haz
        have hst : tg f p t (k + 1) = if k = p then X ++ [58, 58] else X := by rw [tg, if_pos hgap, ← HX.out]
        clear haz hln
        by_cases hkp : k = p
        · have hkb : ((k : Int) == (p : Int)) = true := by simp; omega
          obtain ⟨Y, hY⟩ : ∃ Y, Y = X ++ [58, 58] := ⟨_, rfl⟩
          have a1 : str X ++ (⟨#[58, 58]⟩ : ByteArray) = str Y := put2 X 58 58 Y hY
          have hY2 : Hid (Y = tg f p t (k + 1)) := by show _ = _; rw [hst, if_pos hkp, hY]
          have HG := Lib.hid (And.intro hgap hkp)
          clear hgap hkp hst hY
          go_wp2_with ((with_reducible show wpList _ _ _ (⟨none, .store 37 (.tmp 40) _, _, _, _, _⟩ :: _) _ _); refine wp_set _ rfl 37 (.tmp 40) (.const (.int .u16 0)) rfl g1 k 38 _ _ rfl rfl rfl rfl HBk.out HLn.out size37 ?_; intro w5 B5 U5; simp only [Act.put]; have hk5 := hkw.base (U5.below HGe.out); have B5' := Lib.hid B5; clear U5 B5)
          go_roundw
          case rel => exact ⟨k + 1, by omega, by go_num, by rw [hY2.out], hk5, by rw [HAz.out]; exact B5'.out⟩
          case measure => simp [intOf]; omega
        · have hkb : ((k : Int) == (p : Int)) = false := by simp; omega
          have hY2 : Hid (X = tg f p t (k + 1)) := by show _ = _; rw [hst, if_neg hkp]
          have HG := Lib.hid (And.intro hgap hkp)
          clear hgap hkp hst
          go_wp2_with ((with_reducible show wpList _ _ _ (⟨none, .store 37 (.tmp 40) _, _, _, _, _⟩ :: _) _ _); refine wp_set _ rfl 37 (.tmp 40) (.const (.int .u16 0)) rfl g1 k 38 _ _ rfl rfl rfl rfl HBk.out HLn.out size37 ?_; intro w5 B5 U5; simp only [Act.put]; have hk5 := hkw.base (U5.below HGe.out); have B5' := Lib.hid B5; clear U5 B5)
          go_roundw
          case rel => exact ⟨k + 1, by omega, by go_num, by rw [← hY2.out], hk5, by rw [HAz.out]; exact B5'.out⟩
          case measure => simp [intOf]; omega
      · have hst := tg_step f p t k hgap
        rw [← HX.out] at hst
        have HSt := Lib.hid hst
        have haz := az_out a p t k hgap
        obtain ⟨n0, hn⟩ : ∃ n, n = a.getD k 0 := ⟨_, rfl⟩
        have hg : (vhs (az a p t k))[k]? = some (.int .u16 (n0 : Int)) := by
          rw [vhs_at _ k (by rw [az_len, HA.out.1.1]; exact hlt), az_get, if_neg (by omega), hn]
        have hn9 := hxx.out k
        rw [← hn] at hn9
        have hcell := HBk.out.cell hg
        have HBn := Lib.hid (HB.out k n0 hn)
        have hfk4 := hf4.out k
        obtain ⟨fk, hfk⟩ : ∃ X, X = f k := ⟨_, rfl⟩
        rw [← hfk] at hfk4 HBn
        have sfk : (str fk).size ≤ 4 := by rw [str_size]; omega
        have HFk := Lib.hid hfk
        have HAz := Lib.hid haz
        clear hst haz hn hg hfk
        by_cases hpk : p ≤ k
        · have hktb : ¬ k < t := by omega
          have HG := Lib.hid hgap
          clear hgap
          by_cases hXn : X = []
          · have hxn : ((str X).toList != (⟨#[]⟩ : ByteArray).toList) = false := ne_no X hXn
            have hxn2 : ((str X).toList == []) = true := by rw [toList_str, hXn]; rfl
            have hsep : sep X = false := by rw [hXn]; rfl
            have HXn := Lib.hid hXn
            clear hXn
            obtain ⟨Z, hZ⟩ : ∃ Z, Z = X ++ fk := ⟨_, rfl⟩
            have a2 : str X ++ str fk = str Z := by rw [hZ]; exact str_add _ _
            have hZ2 : Hid (Z = tg f p t (k + 1)) := by
              show _ = _
              rw [HSt.out, hsep, if_neg (by decide), hZ, ← HFk.out]
            clear hZ hsep
            go_wp2_with (go_at_call 13; with_reducible refine (HBn.out wr).mono ?_; rintro e w5 ⟨rfl, hb5⟩; have hk5 := hkw.step hb5; have hb5' := HBk.out.kept hb5; clear hb5)
            go_roundw
            case rel => exact ⟨k + 1, by omega, by go_num, by rw [hZ2.out], hk5, by rw [HAz.out]; exact hb5'⟩
            case measure => simp [intOf]; omega
          · have hxn : ((str X).toList != (⟨#[]⟩ : ByteArray).toList) = true := ne_yes X hXn
            have hxn2 : ((str X).toList == []) = false := by rw [toList_str]; simpa using hXn
            obtain ⟨xl, hxl⟩ : ∃ q, q = X.length := ⟨_, rfl⟩
            have hxl1 : 1 ≤ xl := by rw [hxl]; exact List.length_pos_iff.2 hXn
            have hxl9 : xl ≤ 40 := by omega
            have sXl : (str X).size = xl := by rw [str_size, hxl]
            obtain ⟨x1, hx1⟩ : ∃ q, q = xl - 1 := ⟨_, rfl⟩
            have hx1i : (xl : Int) - 1 = (x1 : Int) := by omega
            have hx1l : x1 < xl := by omega
            have hg : ∀ h, ((str X)[x1]'h).toNat = (X.getD x1 0).toNat := fun h => str_at X x1 (by rw [← hxl]; exact hx1l) h
            obtain ⟨c, hc⟩ : ∃ c, c = X.getD x1 0 := ⟨_, rfl⟩
            obtain ⟨m, hm⟩ : ∃ m, m = c.toNat := ⟨_, rfl⟩
            rw [← hc, ← hm] at hg
            have hm9 : m < 256 := by rw [hm]; exact c.toNat_lt
            have hcl : c = X.getD (X.length - 1) 0 := by rw [← hxl, ← hx1]; exact hc
            by_cases h58 : c = 58
            · have hmb : ((m : Int) != 58) = false := by rw [hm, h58]; rfl
              have hsep := sep_no X c hXn hcl h58
              obtain ⟨Z, hZ⟩ : ∃ Z, Z = X ++ fk := ⟨_, rfl⟩
              have a2 : str X ++ str fk = str Z := by rw [hZ]; exact str_add _ _
              have hZ2 : Hid (Z = tg f p t (k + 1)) := by
                show _ = _
                rw [HSt.out, hsep, if_neg (by decide), hZ, ← HFk.out]
              clear hZ hsep hm h58 hXn hcl hc hx1 hxl
              go_wp2_with (go_at_call 13; with_reducible refine (HBn.out wr).mono ?_; rintro e w5 ⟨rfl, hb5⟩; have hk5 := hkw.step hb5; have hb5' := HBk.out.kept hb5; clear hb5)
              go_roundw
              case rel => exact ⟨k + 1, by omega, by go_num, by rw [hZ2.out], hk5, by rw [HAz.out]; exact hb5'⟩
              case measure => simp [intOf]; omega
            · have hmb : ((m : Int) != 58) = true := u8_nb hm h58
              have hsep := sep_yes X c hXn hcl h58
              obtain ⟨Y, hY⟩ : ∃ Y, Y = X ++ [58] := ⟨_, rfl⟩
              have a1 : str X ++ (⟨#[58]⟩ : ByteArray) = str Y := put1 X 58 Y hY
              have sY : (str Y).size ≤ 41 := by rw [str_size, hY]; simp; omega
              obtain ⟨Z, hZ⟩ : ∃ Z, Z = Y ++ fk := ⟨_, rfl⟩
              have a2 : str Y ++ str fk = str Z := by rw [hZ]; exact str_add _ _
              have hZ2 : Hid (Z = tg f p t (k + 1)) := by
                show _ = _
                rw [HSt.out, hsep, if_pos rfl, hZ, ← HFk.out, hY]
              clear hZ hsep hY hm h58 hXn hcl hc hx1 hxl
              go_wp2_with (go_at_call 13; with_reducible refine (HBn.out wr).mono ?_; rintro e w5 ⟨rfl, hb5⟩; have hk5 := hkw.step hb5; have hb5' := HBk.out.kept hb5; clear hb5)
              go_roundw
              case rel => exact ⟨k + 1, by omega, by go_num, by rw [hZ2.out], hk5, by rw [HAz.out]; exact hb5'⟩
              case measure => simp [intOf]; omega
        · have HG := Lib.hid hgap
          clear hgap
          by_cases hXn : X = []
          · have hxn : ((str X).toList != (⟨#[]⟩ : ByteArray).toList) = false := ne_no X hXn
            have hxn2 : ((str X).toList == []) = true := by rw [toList_str, hXn]; rfl
            have hsep : sep X = false := by rw [hXn]; rfl
            have HXn := Lib.hid hXn
            clear hXn
            obtain ⟨Z, hZ⟩ : ∃ Z, Z = X ++ fk := ⟨_, rfl⟩
            have a2 : str X ++ str fk = str Z := by rw [hZ]; exact str_add _ _
            have hZ2 : Hid (Z = tg f p t (k + 1)) := by
              show _ = _
              rw [HSt.out, hsep, if_neg (by decide), hZ, ← HFk.out]
            clear hZ hsep
            go_wp2_with (go_at_call 13; with_reducible refine (HBn.out wr).mono ?_; rintro e w5 ⟨rfl, hb5⟩; have hk5 := hkw.step hb5; have hb5' := HBk.out.kept hb5; clear hb5)
            go_roundw
            case rel => exact ⟨k + 1, by omega, by go_num, by rw [hZ2.out], hk5, by rw [HAz.out]; exact hb5'⟩
            case measure => simp [intOf]; omega
          · have hxn : ((str X).toList != (⟨#[]⟩ : ByteArray).toList) = true := ne_yes X hXn
            have hxn2 : ((str X).toList == []) = false := by rw [toList_str]; simpa using hXn
            obtain ⟨xl, hxl⟩ : ∃ q, q = X.length := ⟨_, rfl⟩
            have hxl1 : 1 ≤ xl := by rw [hxl]; exact List.length_pos_iff.2 hXn
            have hxl9 : xl ≤ 40 := by omega
            have sXl : (str X).size = xl := by rw [str_size, hxl]
            obtain ⟨x1, hx1⟩ : ∃ q, q = xl - 1 := ⟨_, rfl⟩
            have hx1i : (xl : Int) - 1 = (x1 : Int) := by omega
            have hx1l : x1 < xl := by omega
            have hg : ∀ h, ((str X)[x1]'h).toNat = (X.getD x1 0).toNat := fun h => str_at X x1 (by rw [← hxl]; exact hx1l) h
            obtain ⟨c, hc⟩ : ∃ c, c = X.getD x1 0 := ⟨_, rfl⟩
            obtain ⟨m, hm⟩ : ∃ m, m = c.toNat := ⟨_, rfl⟩
            rw [← hc, ← hm] at hg
            have hm9 : m < 256 := by rw [hm]; exact c.toNat_lt
            have hcl : c = X.getD (X.length - 1) 0 := by rw [← hxl, ← hx1]; exact hc
            by_cases h58 : c = 58
            · have hmb : ((m : Int) != 58) = false := by rw [hm, h58]; rfl
              have hsep := sep_no X c hXn hcl h58
              obtain ⟨Z, hZ⟩ : ∃ Z, Z = X ++ fk := ⟨_, rfl⟩
              have a2 : str X ++ str fk = str Z := by rw [hZ]; exact str_add _ _
              have hZ2 : Hid (Z = tg f p t (k + 1)) := by
                show _ = _
                rw [HSt.out, hsep, if_neg (by decide), hZ, ← HFk.out]
              clear hZ hsep hm h58 hXn hcl hc hx1 hxl
              go_wp2_with (go_at_call 13; with_reducible refine (HBn.out wr).mono ?_; rintro e w5 ⟨rfl, hb5⟩; have hk5 := hkw.step hb5; have hb5' := HBk.out.kept hb5; clear hb5)
              go_roundw
              case rel => exact ⟨k + 1, by omega, by go_num, by rw [hZ2.out], hk5, by rw [HAz.out]; exact hb5'⟩
              case measure => simp [intOf]; omega
            · have hmb : ((m : Int) != 58) = true := u8_nb hm h58
              have hsep := sep_yes X c hXn hcl h58
              obtain ⟨Y, hY⟩ : ∃ Y, Y = X ++ [58] := ⟨_, rfl⟩
              have a1 : str X ++ (⟨#[58]⟩ : ByteArray) = str Y := put1 X 58 Y hY
              have sY : (str Y).size ≤ 41 := by rw [str_size, hY]; simp; omega
              obtain ⟨Z, hZ⟩ : ∃ Z, Z = Y ++ fk := ⟨_, rfl⟩
              have a2 : str Y ++ str fk = str Z := by rw [hZ]; exact str_add _ _
              have hZ2 : Hid (Z = tg f p t (k + 1)) := by
                show _ = _
                rw [HSt.out, hsep, if_pos rfl, hZ, ← HFk.out, hY]
              clear hZ hsep hY hm h58 hXn hcl hc hx1 hxl
              go_wp2_with (go_at_call 13; with_reducible refine (HBn.out wr).mono ?_; rintro e w5 ⟨rfl, hb5⟩; have hk5 := hkw.step hb5; have hb5' := HBk.out.kept hb5; clear hb5)
              go_roundw
              case rel => exact ⟨k + 1, by omega, by go_num, by rw [hZ2.out], hk5, by rw [HAz.out]; exact hb5'⟩
              case measure => simp [intOf]; omega
    · have hki : ¬ (k : Int) < 8 := by omega
      have hk8 : k = 8 := by omega
      have hX8 : X = tg (fun j => hexL (a.getD j 0)) p t 8 := by rw [HX.out, hk8, HA.out.2]
      obtain ⟨A, hA⟩ : ∃ A, A = az a p t 8 := ⟨_, rfl⟩
      have hbA := HBk.out
      rw [hk8, ← hA] at hbA
      have hAl : A.length = 8 := by rw [hA, az_len, HA.out.1.1]
      have hAx : ∀ x ∈ A, x < 65536 := by rw [hA]; exact az_lt a p t 8 HA.out.1.2
      have h6 : ip6 X = some A := by rw [hX8, hA]; exact ip6_short a HA.out.1.1 HA.out.1.2 p t hpt ht8
      have h6n : ip6 (X ++ [58, 58]) = none := by rw [hX8]; exact ip6_short2 a p t hpt ht8
      obtain ⟨S, hS⟩ : ∃ S, S = brk A := ⟨_, rfl⟩
      obtain ⟨T6, hT6⟩ : ∃ S, S = text6 A := ⟨_, rfl⟩
      have hSt : S = [91] ++ T6 ++ [93] := by rw [hS, hT6]; rfl
      obtain ⟨Q1, hQ1⟩ : ∃ Y, Y = [91] ++ X := ⟨_, rfl⟩
      obtain ⟨Q2, hQ2⟩ : ∃ Y, Y = Q1 ++ [93] := ⟨_, rfl⟩
      obtain ⟨Q3, hQ3⟩ : ∃ Y, Y = X ++ [58, 58] := ⟨_, rfl⟩
      obtain ⟨Q4, hQ4⟩ : ∃ Y, Y = [91] ++ T6 := ⟨_, rfl⟩
      have a1 : (⟨#[91]⟩ : ByteArray) ++ str X = str Q1 := by rw [hQ1]; exact str_add [91] X
      have a2 : str Q1 ++ (⟨#[93]⟩ : ByteArray) = str Q2 := put1 Q1 93 Q2 hQ2
      have a3 : str X ++ (⟨#[58, 58]⟩ : ByteArray) = str Q3 := put2 X 58 58 Q3 hQ3
      have a4 : (⟨#[91]⟩ : ByteArray) ++ str T6 = str Q4 := by rw [hQ4]; exact str_add [91] T6
      have a5 : str Q4 ++ (⟨#[93]⟩ : ByteArray) = str S := put1 Q4 93 S (by rw [hSt, hQ4])
      have hT6l : T6.length ≤ 40 := by
        rw [hT6, ← tg_text6 A hAl]
        exact tg_len _ (fun j => hexL_len4 _ (getD_lt A hAx j)) _ _ 8
      have sT6 : (str T6).size ≤ 40 := by rw [str_size]; exact hT6l
      have sQ1 : (str Q1).size ≤ 41 := by rw [str_size, hQ1]; simp; omega
      have sQ4 : (str Q4).size ≤ 41 := by rw [str_size, hQ4]; simp; omega
      have hprs : prs Q2 = (S, false) := by rw [hQ2, hQ1, prs_six, h6, hS]
      have hse : ((str S).toList == (str S).toList) = true := by simp
      have HS1 : Hid (∀ w', Kept w w' → Calls Tryd.prog 17 #[.string (str X)] w' fun e w2 => e = .returned (.tuple #[.agg (vhs A).toArray, .int .i64 0]) ∧ Below w'.heap.size w' w2) := fun w' hw => sixS_is X A h6 w' (by omega) (HT.out.kp hw)
      have HS2 : Hid (∀ w', Kept w w' → Calls Tryd.prog 17 #[.string (str Q3)] w' fun e w2 => e = .returned (.tuple #[.agg (vhs zero8).toArray, .int .i64 7]) ∧ Below w'.heap.size w' w2) := fun w' hw => sixS_none Q3 (by rw [hQ3]; exact h6n) w' (by rw [hQ3]; simp; omega) (HT.out.kp hw)
      have HPr : Hid (∀ w', Kept w w' → Calls Tryd.prog 10 #[.string (str Q2)] w' fun e w2 => e = .returned (.tuple #[.string (str S), .int .i64 0]) ∧ Below w'.heap.size w' w2) := fun w' hw => parse_is Q2 S false hprs w' (by rw [hQ2, hQ1]; simp; omega) (HT.out.kp hw)
      have HTx : Hid (∀ w', Calls Tryd.prog 19 #[.agg (vhs A).toArray] w' fun e w2 => e = .returned (.string (str T6)) ∧ Below w'.heap.size w' w2) := fun w' => by rw [hT6]; exact text6_any A hAl hAx w'
      have HL8 := Lib.hid hAl
      have HSz : Hid ((Tryd.prog.info? 38).map (·.size) = some (vhs A).length) := size38' A HL8.out
      have HLn : Hid ((vhs A).length = (vhs zero8).length) := by show _ = _; rw [Hs_len, HL8.out]; rfl
      have A0 := Lib.hid hbA
      clear hS hT6 hSt hQ1 hQ2 hQ3 hQ4 hprs h6 h6n hAx hAl hbA hA hX8 hk8 hT6l
      go_wp2_with (first
        | (go_at_call 17; first
          | (with_reducible refine (HS1.out wr hkw).mono ?_; rintro e w5 ⟨rfl, hb5⟩; have hk5 := hkw.step hb5; have A5 := A0.out.kept hb5; clear hb5)
          | (with_reducible refine (HS2.out w8 hk8).mono ?_; rintro e w9 ⟨rfl, hb9⟩; have hk9 := hk8.step hb9; have A9 := A8.kept hb9; have X9 := X8.kept hb9; clear hb9))
        | ((with_reducible show wpList _ _ _ (⟨some 10, .alloc _, _, _, _, _⟩ :: _) _ _); refine wp_new _ rfl 38 rfl _ type38 ?_; intro w6 g2 B6 F6; simp only [Act.put, List.setIfInBounds_toArray, List.set_cons_zero, List.set_cons_succ]; have hk6 := hk5.step F6.below; have A6 := A5.kept F6.below; have n6 := freshS_ne F6 A5; have z6 := freshS_ge F6 hk5; clear F6)
        | ((with_reducible show wpList _ _ _ (⟨none, .store 38 (.tmp 10) _, _, _, _, _⟩ :: _) _ _); refine wp_putAll _ rfl 38 (.tmp 10) (.tmp 68) rfl g2 38 _ (vhs A) rfl rfl B6 HLn.out HSz.out (Hs_one _) ?_; intro w7 X7 U7; simp only [Act.put]; have hk7 := hk6.base (U7.below z6); have A7 := A6.upd U7 n6; clear U7)
        | (go_at_call 10; with_reducible refine (HPr.out w7 hk7).mono ?_; rintro e w8 ⟨rfl, hb8⟩; have hk8 := hk7.step hb8; have A8 := A7.kept hb8; have X8 := X7.kept hb8; clear hb8)
        | ((with_reducible show wpList _ _ _ (⟨some 14, .alloc _, _, _, _, _⟩ :: _) _ _); refine wp_new _ rfl 38 rfl _ type38 ?_; intro w10 g3 B10 F10; simp only [Act.put, List.setIfInBounds_toArray, List.set_cons_zero, List.set_cons_succ]; have hk10 := hk9.step F10.below; have A10 := A9.kept F10.below; have X10 := X9.kept F10.below; have n10 := freshS_ne F10 A9; have m10 := freshS_ne F10 X9; have z10 := freshS_ge F10 hk9; clear F10)
        | ((with_reducible show wpList _ _ _ (⟨none, .store 38 (.tmp 14) _, _, _, _, _⟩ :: _) _ _); refine wp_putAll _ rfl 38 (.tmp 14) (.tmp 81) rfl g3 38 _ (vhs zero8) rfl rfl B10 rfl size38 (Hs_one _) ?_; intro w11 Y11 U11; simp only [Act.put]; have hk11 := hk10.base (U11.below z10); have A11 := A10.upd U11 n10; have X11 := X10.upd U11 m10; clear U11)
        | ((with_reducible show wpList _ _ _ (⟨some 85, .load 38 _, _, _, _, _⟩ :: _) _ _); refine wp_getG _ rfl (.tmp 10) rfl g2 A HL8.out rfl X11 ?_; simp only [Act.put, List.setIfInBounds_toArray, List.set_cons_zero, List.set_cons_succ])
        | ((with_reducible show wpList _ _ _ (⟨some 86, .load 38 _, _, _, _, _⟩ :: _) _ _); refine wp_getG _ rfl (.tmp 3) rfl g1 A HL8.out rfl A11 ?_; simp only [Act.put, List.setIfInBounds_toArray, List.set_cons_zero, List.set_cons_succ])
        | ((with_reducible show wpList _ _ _ (⟨some 87, .binOp .eql 38 _ _ _, _, _, _, _⟩ :: _) _ _); refine wp_eqA _ rfl (.tmp 85) (.tmp 86) rfl A HL8.out rfl rfl ?_; simp only [Act.put, List.setIfInBounds_toArray, List.set_cons_zero, List.set_cons_succ])
        | ((with_reducible show wpList _ _ _ (⟨some 99, .load 38 _, _, _, _, _⟩ :: _) _ _); refine wp_getG _ rfl (.tmp 3) rfl g1 A HL8.out rfl A11 ?_; simp only [Act.put, List.setIfInBounds_toArray, List.set_cons_zero, List.set_cons_succ])
        | (go_at_call 19; with_reducible refine (HTx.out w11).mono ?_; rintro e w12 ⟨rfl, hb12⟩; have hk12 := hk11.step hb12; clear hb12))
      go_ret
      exact ⟨rfl, hk12⟩
end Go.Proofs.YtcfgcakmffkpmaaDoor
