/-
  The walk of transeptlaw07.HostEights: true, for every address of eight pieces; nothing that was there turns. Condition: the library's tables.
-/
import Derived.Test.YtcfgcakmffkpmaaDoorShw
import Derived.Test.YtcfgcakmffkpmaaDoorBas
import Derived.Test.YtcfgcakmffkpmaaDoorArg
import Derived.Test.YtcfgcakmffkpmaaDoorEim
namespace Go.Proofs.YtcfgcakmffkpmaaDoor
open Go.RowKit

theorem put_one (X : List UInt8) (c : UInt8) (Y : List UInt8) (h : Y = X ++ [c]) : str X ++ (⟨#[c]⟩ : ByteArray) = str Y := by rw [h]; exact str_add X [c]
theorem run_byte (w : World) (m : Nat) (c : UInt8) (h : m = c.toNat) : (convert 39 9 (.slice (some ⟨w.heap.size, 0, none⟩) 1 1)).run Tryd.prog (w.alloc (.cells #[.int .u8 (m : Int)] 5)) = .ok (.string (str [c])) (w.alloc (.cells #[.int .u8 (m : Int)] 5)) := run_str _ _ _ 1 1 [c] (bs_of w m c h)
theorem jc_le (f : Nat → List UInt8) (h : ∀ j, (f j).length ≤ 4) : ∀ k, (jc f k).length ≤ 5 * k
  | 0 => by simp [jc]
  | k + 1 => by
    have := jc_le f h k
    have := h k
    rw [jc]
    split
    · simp; omega
    · simp; omega
theorem fresh_ne {w w' : World} {g b : Nat} {t : TypeId} {C : List Value} (h : Fresh w w' g) (hb : Blk w b t C) : b ≠ g := by
  have := hb.lt
  have := h.is
  omega
theorem fresh_ge {w0 w w' : World} {g : Nat} (h : Fresh w w' g) (hk : Kept w0 w) : w0.heap.size ≤ g := by
  have := hk.size
  have := h.is
  omega
theorem six_is (l : List UInt8) (a : List Nat) (h : ip6 l = some a) (w : World) (hl : l.length ≤ 10000000) (ht : Tabs w) : Calls Tryd.prog 17 #[.string (str l)] w fun e w' => e = .returned (.tuple #[.agg (vhs a).toArray, .int .i64 0]) ∧ Below w.heap.size w w' := by
  have := six_any l w hl ht
  rw [h] at this
  exact this
theorem str_mid (T : List UInt8) : (str ([91] ++ T ++ [93])).extract 1 (([91] ++ T ++ [93]).length - 1) = str T := by
  apply ByteArray.ext
  rw [ByteArray.data_extract]
  apply Array.ext'
  simp [str, List.extract]
theorem u8_ne {m : Nat} {c : UInt8} (hm : m = c.toNat) (h : ¬ c = 58) : ((m : Int) == 58) = false := by
  rw [beq_eq_false_iff_ne]
  intro e
  apply h
  have : c.toNat = 58 := by omega
  exact UInt8.toNat_inj.1 this
theorem take_map_succ (P : List UInt8) (j : Nat) (h : j < P.length) : (P.take (j + 1)).map uc = (P.take j).map uc ++ [uc (P.getD j 0)] := by
  rw [List.take_add_one, List.map_append, List.getElem?_eq_getElem h]
  simp [List.getD, List.getElem?_eq_getElem h]

set_option maxHeartbeats 16000000 in
set_option maxRecDepth 100000 in
theorem eights_walk (a : List Nat) (ha : a.length = 8 ∧ ∀ x ∈ a, x < 65536) (w : World) (ht : Tabs w) :
    Calls Tryd.prog 5 #[.agg (vhs a).toArray] w fun e w' => e = .returned (.bool true) ∧ Below w.heap.size w w' := by
  have hxx : Hid (∀ i, a.getD i 0 < 65536) := fun i => by
    rw [List.getD_eq_getElem?_getD]
    cases h : a[i]? with
    | none => simp
    | some y => exact ha.2 y (List.mem_of_getElem? h)
  have HT := Lib.hid ht
  have HSh : Hid (∀ w', Kept w w' → Calls Tryd.prog 9 #[] w' fun e w2 => e = .returned (.bool true) ∧ Below w'.heap.size w' w2) := fun w' hk => shown_any w' (HT.out.kp hk)
  have hget : Hid (∀ k, k < 8 → (vhs a)[k]? = some (.int .u16 ((a.getD k 0 : Nat) : Int))) := fun k hk => vhs_at a k (by omega)
  obtain ⟨f, hf⟩ : ∃ f : Nat → List UInt8, f = fun j => hexL (a.getD j 0) := ⟨_, rfl⟩
  obtain ⟨u, hu⟩ : ∃ f : Nat → List UInt8, f = fun j => up4 (a.getD j 0) := ⟨_, rfl⟩
  have hf4 : ∀ j, (f j).length ≤ 4 := fun j => by rw [hf]; exact hexL_len4 _ (hxx.out j)
  have hf1 : ∀ j, 1 ≤ (f j).length := fun j => by rw [hf]; exact hexL_pos _
  have hu4 : ∀ j, (u j).length = 4 := fun j => by rw [hu]; show (up4 _).length = 4; unfold up4; rw [List.length_map]; exact pad_len _ (hxx.out j)
  have HFL := Lib.hid (And.intro (And.intro hf4 hf1) (And.intro (jc_le f hf4) (jc_le u (fun j => by rw [hu4]; omega))))
  have HB : Hid (∀ (k n : Nat), n = a.getD k 0 → ∀ w', Calls Tryd.prog 13 #[.int .i64 (n : Int), .int .i64 16] w' fun e w2 => e = .returned (.string (str (f k))) ∧ Below w'.heap.size w' w2) := fun k n hn w' => by
    have h9 := hxx.out k
    have h := based_any n 16 (by omega) (by omega) (by omega) w'
    rw [bsd_hexL, hn] at h
    rw [hf]
    exact hn ▸ h
  have HPad : Hid (∀ k n, n = a.getD k 0 → pad n = ([48, 48, 48] ++ f k).drop (([48, 48, 48] ++ f k).length - 4)) := fun k n hn => by rw [hf, hn]; rfl
  have HUp : Hid (∀ k n, n = a.getD k 0 → (pad n).map uc = u k) := fun k n hn => by rw [hu, hn]; rfl
  have HA := Lib.hid (And.intro ha (And.intro hf hu))
  clear ha hf hu hf4 hf1 hu4 ht
  go_enter Tryd.func5, Tryd.ntmps5
  go_wp2_with (first
    | ((with_reducible show wpList _ _ _ (⟨some 1, .box _ _, _, _, _, _⟩ :: _) _ _); refine wp_box _ rfl 38 _ rfl (vhs a) rfl ?_; intro w1 g1 B1 F1; simp only [Act.put, List.setIfInBounds_toArray, List.set_cons_zero, List.set_cons_succ]; have hk1 := kept_of F1.below; have HGi := Lib.hid F1.is)
    | (go_at_call 9; with_reducible refine (HSh.out w1 hk1).mono ?_; rintro e w2 ⟨rfl, hb2⟩; have hk2 := hk1.step hb2; have B2 := Lib.hid (B1.kept hb2); clear hb2))
  clear B1 F1 hk1
  have HGe : Hid (w.heap.size ≤ g1) := Nat.le_of_eq HGi.out.symm
  clear HGi
  go_loopw [6, 4, 5] (fun i x y wr => ∃ (k : Nat), k ≤ 8 ∧ i = .int .i64 (k : Int) ∧ x = .string (str (jc f k)) ∧ y = .string (str (jc u k)) ∧ Kept w wr ∧ Blk wr g1 38 (vhs a)) (fun i _ _ _ => 8 - (intOf i).toNat)
  case atStart => exact ⟨0, by omega, rfl, rfl, rfl, hk2, B2.out⟩
  case round =>
    obtain ⟨k, hk, rfl, rfl, rfl, hkw, hbk⟩ := hrel
    clear hk2 B2
    have hfl := HFL.out.2.1 k
    have hul := HFL.out.2.2 k
    obtain ⟨FF, hFF⟩ : ∃ X, X = jc f k := ⟨_, rfl⟩
    obtain ⟨UU, hUU⟩ : ∃ X, X = jc u k := ⟨_, rfl⟩
    rw [← hFF] at hfl ⊢
    rw [← hUU] at hul ⊢
    have sF : (str FF).size ≤ 40 := by rw [str_size]; omega
    have sU : (str UU).size ≤ 40 := by rw [str_size]; omega
    by_cases hlt : k < 8
    · have hki : (k : Int) < 8 := by omega
      obtain ⟨n, hn⟩ : ∃ n, n = a.getD k 0 := ⟨_, rfl⟩
      have hg := hget.out k hlt
      have hn9 := hxx.out k
      rw [← hn] at hg hn9
      have hcell := hbk.cell hg
      have HBk := Lib.hid (HB.out k n hn)
      have hP0 := HPad.out k n hn
      have hfk4 := HFL.out.1.1 k
      have hfk1 := HFL.out.1.2 k
      obtain ⟨fk, hfk⟩ : ∃ X, X = f k := ⟨_, rfl⟩
      rw [← hfk] at hP0 hfk4 hfk1 HBk
      obtain ⟨P0, hP0'⟩ : ∃ X, X = [48, 48, 48] ++ fk := ⟨_, rfl⟩
      obtain ⟨P, hP⟩ : ∃ X, X = pad n := ⟨_, rfl⟩
      have hPl : P.length = 4 := by rw [hP]; exact pad_len n hn9
      rw [← hP0', ← hP] at hP0
      obtain ⟨pl, hpl⟩ : ∃ q, q = P0.length := ⟨_, rfl⟩
      obtain ⟨pq, hpq⟩ : ∃ q, q = pl - 4 := ⟨_, rfl⟩
      have hpl2 : pl = 3 + fk.length := by rw [hpl, hP0']; simp; omega
      have hpli : (pl : Int) - 4 = (pq : Int) := by omega
      have a4 : (⟨#[48, 48, 48]⟩ : ByteArray) ++ str fk = str P0 := by rw [hP0']; exact str_add [48, 48, 48] fk
      have sP0 : (str P0).size = pl := by rw [str_size, hpl]
      have sfk : (str fk).size ≤ 4 := by rw [str_size]; omega
      have hpl7 : pl ≤ 7 ∧ pq ≤ pl := by omega
      have hex : (str P0).extract pq pl = str P := by
        rw [hP0, hpq, hpl]
        exact str_drop P0 _ _ rfl (by omega)
      have sP : (str P).size = 4 := by rw [str_size, hPl]
      have hgP : Hid (∀ j, j < 4 → ∀ h, ((str P)[j]'h).toNat = (P.getD j 0).toNat) := fun j hj h => str_at P j (by rw [hPl]; exact hj) h
      have hc16 : Hid (∀ j, j < 4 → ∃ d, d < 16 ∧ P.getD j 0 = hx d) := fun j hj => by
        refine pad_mem n hn9 _ ?_
        rw [← hP, List.getD, List.getElem?_eq_getElem (by omega)]
        exact List.getElem_mem _
      have hPu : P.map uc = u k := by rw [hP]; exact HUp.out k n hn
      have HNn := Lib.hid hn
      have HK := Lib.hid (And.intro hPl (And.intro hPu (And.intro hFF (And.intro hUU hfk))))
      have hbk' := Lib.hid hbk
      clear hP0 hP0' hP hPl hpl hpq hpl2 hn hFF hUU hfk hPu hg hbk
      by_cases h0 : 0 < k
      · have hk0 : (0 : Int) < (k : Int) := by omega
        obtain ⟨V, hV⟩ : ∃ X, X = FF ++ [58] := ⟨_, rfl⟩
        obtain ⟨VU, hVU⟩ : ∃ X, X = UU ++ [58] := ⟨_, rfl⟩
        have a1 : str FF ++ (⟨#[58]⟩ : ByteArray) = str V := put_one FF 58 V hV
        have a2 : str UU ++ (⟨#[58]⟩ : ByteArray) = str VU := put_one UU 58 VU hVU
        have sV : (str V).size ≤ 41 := by rw [str_size, hV]; simp; omega
        have sVU : (str VU).size ≤ 41 := by rw [str_size, hVU]; simp; omega
        have HV : Hid (V = jc f k ++ (if k = 0 then [] else [58])) := by show _ = _; rw [hV, HK.out.2.2.1, if_neg (by omega)]
        have HVU : Hid (VU = jc u k ++ (if k = 0 then [] else [58])) := by show _ = _; rw [hVU, HK.out.2.2.2.1, if_neg (by omega)]
        have hk0n : Hid (0 < k) := by assumption
        have lVU : Hid (VU.length ≤ 41) := by show _ ≤ _; rw [hVU]; simp; omega
        clear hV hVU h0
        obtain ⟨F2, hF2⟩ : ∃ X, X = V ++ fk := ⟨_, rfl⟩
        have a3 : str V ++ str fk = str F2 := by rw [hF2]; exact str_add _ _
        have hF2' : Hid (F2 = jc f (k + 1)) := by show _ = _; rw [hF2, HV.out, jc, HK.out.2.2.2.2]
        have hcells : ∀ w', Kept wr w' → w'.cell? ⟨g1, k, none⟩ = some (.int .u16 (n : Int)) := fun w' hw' => by
          have h1 := hbk'.out.kept (show Below _ _ _ from hw')
          exact h1.cell (by have := hget.out k hlt; rw [HNn.out]; exact this)
        clear hF2
        go_wp2_with (go_at_call 13; first
          | (with_reducible refine (HBk.out wr).mono ?_; rintro e w5 ⟨rfl, hb5⟩; have hk5 := hkw.step hb5; have hc5 := hcells w5 (kept_of hb5); have hb5' := Lib.hid (hbk'.out.kept hb5))
          | (with_reducible refine (HBk.out w5).mono ?_; rintro e w6 ⟨rfl, hb6⟩; have hk6 := hk5.step hb6; have hb6' := Lib.hid (hb5'.out.kept hb6)))
        clear a4 hex hcell hki hcells hpli hpl7 sP0 sfk sF sU hfk4 hfk1 hfl hul HBk a3
        try clear a1
        try clear a2
        go_loopw [8, 5] (fun i y wr => ∃ (j : Nat) (R : List UInt8), j ≤ 4 ∧ i = .int .i64 (j : Int) ∧ y = .string (str R) ∧ R = VU ++ (P.take j).map uc ∧ Kept w wr ∧ Blk wr g1 38 (vhs a)) (fun i _ _ => 4 - (intOf i).toNat)
        case atStart => exact ⟨0, VU, by omega, rfl, rfl, by simp, hk6, hb6'.out⟩
        case round =>
          obtain ⟨j, R, hj, rfl, rfl, hR, hkr, hbr⟩ := hrel
          clear hk6 hb6' hk5 hb5' hc5
          have sR : (str R).size ≤ 45 := by
            have h1 := lVU.out
            rw [str_size, hR]
            simp
            omega
          have HR := Lib.hid hR
          have HBR := Lib.hid hbr
          clear hR hbr
          by_cases hlj : j < 4
          · have hji : (j : Int) < 4 := by omega
            have hgj := hgP.out j hlj
            obtain ⟨c, hc⟩ : ∃ c, c = P.getD j 0 := ⟨_, rfl⟩
            obtain ⟨m, hm⟩ : ∃ m, m = c.toNat := ⟨_, rfl⟩
            rw [← hc, ← hm] at hgj
            have hm9 : m < 256 := by rw [hm]; exact c.toNat_lt
            obtain ⟨d, hd⟩ : ∃ d, d = uc c := ⟨_, rfl⟩
            obtain ⟨R1, hR1⟩ : ∃ X, X = R ++ [d] := ⟨_, rfl⟩
            have a5 : str R ++ str [d] = str R1 := by rw [hR1]; exact str_add _ _
            have s1 : (str [d]).size = 1 := str_size _
            have HR1 : Hid (R1 = VU ++ (P.take (j + 1)).map uc) := by
              show _ = _
              rw [hR1, HR.out, take_map_succ P j (by rw [HK.out.1]; exact hlj), hd, hc]
              simp
            by_cases h97 : 97 ≤ m
            · have c1 : decide ((97 : Int) ≤ (m : Int)) = true := by simp; omega
              obtain ⟨x, hxm⟩ : ∃ x, x = m - 32 := ⟨_, rfl⟩
              have hxi : (m : Int) - 32 = (x : Int) := by omega
              have hxw : IntKind.u8.wrap (x : Int) = (x : Int) := by rw [IntKind.wrap_u8]; omega
              have hxd : x = d.toNat := by
                rw [hd]
                unfold uc
                rw [if_pos (by omega), toNat_ofNat_lt _ (by omega)]
                omega
              have hx9 : x < 256 := by omega
              have hrun := run_byte wr x d hxd
              clear hc hm hd hR1 hxm hxd h97
              go_wp2_with fail
              go_roundw
              case rel => exact ⟨j + 1, R1, by omega, by go_num, rfl, HR1.out, hkr.alloc _, HBR.out.alloc _⟩
              case measure => simp [intOf]; omega
            · have c1 : decide ((97 : Int) ≤ (m : Int)) = false := by simp; omega
              have hmd : m = d.toNat := by
                rw [hd]
                unfold uc
                rw [if_neg (by omega)]
                exact hm
              have hrun := run_byte wr m d hmd
              clear hc hm hd hR1 hmd h97
              go_wp2_with fail
              go_roundw
              case rel => exact ⟨j + 1, R1, by omega, by go_num, rfl, HR1.out, hkr.alloc _, HBR.out.alloc _⟩
              case measure => simp [intOf]; omega
          · have hji : ¬ (j : Int) < 4 := by omega
            have hj4 : Hid (R = jc u (k + 1)) := by
              show _ = _
              rw [HR.out, HVU.out, List.take_of_length_le (by rw [HK.out.1]; omega), HK.out.2.1, jc]
            go_wp2_with fail
            go_roundw
            case rel => exact ⟨k + 1, by omega, by go_num, by rw [hF2'.out], by rw [hj4.out], hkr, HBR.out⟩
            case measure => simp [intOf]; omega
      · have hk0 : decide ((0 : Int) < (k : Int)) = false := by simp; omega
        obtain ⟨V, hV⟩ : ∃ X, X = FF := ⟨_, rfl⟩
        obtain ⟨VU, hVU⟩ : ∃ X, X = UU := ⟨_, rfl⟩
        have HV : Hid (V = jc f k ++ (if k = 0 then [] else [58])) := by show _ = _; rw [hV, HK.out.2.2.1, if_pos (by omega)]; simp
        have HVU : Hid (VU = jc u k ++ (if k = 0 then [] else [58])) := by show _ = _; rw [hVU, HK.out.2.2.2.1, if_pos (by omega)]; simp
        have lVU : Hid (VU.length ≤ 41) := by show _ ≤ _; rw [hVU]; omega
        rw [← hV, ← hVU]
        rw [← hV] at sF
        rw [← hVU] at sU
        have H0 := Lib.hid h0
        clear hV hVU h0
        obtain ⟨F2, hF2⟩ : ∃ X, X = V ++ fk := ⟨_, rfl⟩
        have a3 : str V ++ str fk = str F2 := by rw [hF2]; exact str_add _ _
        have hF2' : Hid (F2 = jc f (k + 1)) := by show _ = _; rw [hF2, HV.out, jc, HK.out.2.2.2.2]
        have hcells : ∀ w', Kept wr w' → w'.cell? ⟨g1, k, none⟩ = some (.int .u16 (n : Int)) := fun w' hw' => by
          have h1 := hbk'.out.kept (show Below _ _ _ from hw')
          exact h1.cell (by have := hget.out k hlt; rw [HNn.out]; exact this)
        clear hF2
        go_wp2_with (go_at_call 13; first
          | (with_reducible refine (HBk.out wr).mono ?_; rintro e w5 ⟨rfl, hb5⟩; have hk5 := hkw.step hb5; have hc5 := hcells w5 (kept_of hb5); have hb5' := Lib.hid (hbk'.out.kept hb5))
          | (with_reducible refine (HBk.out w5).mono ?_; rintro e w6 ⟨rfl, hb6⟩; have hk6 := hk5.step hb6; have hb6' := Lib.hid (hb5'.out.kept hb6)))
        clear a4 hex hcell hki hcells hpli hpl7 sP0 sfk sF sU hfk4 hfk1 hfl hul HBk a3
        try clear a1
        try clear a2
        go_loopw [8, 5] (fun i y wr => ∃ (j : Nat) (R : List UInt8), j ≤ 4 ∧ i = .int .i64 (j : Int) ∧ y = .string (str R) ∧ R = VU ++ (P.take j).map uc ∧ Kept w wr ∧ Blk wr g1 38 (vhs a)) (fun i _ _ => 4 - (intOf i).toNat)
        case atStart => exact ⟨0, VU, by omega, rfl, rfl, by simp, hk6, hb6'.out⟩
        case round =>
          obtain ⟨j, R, hj, rfl, rfl, hR, hkr, hbr⟩ := hrel
          clear hk6 hb6' hk5 hb5' hc5
          have sR : (str R).size ≤ 45 := by
            have h1 := lVU.out
            rw [str_size, hR]
            simp
            omega
          have HR := Lib.hid hR
          have HBR := Lib.hid hbr
          clear hR hbr
          by_cases hlj : j < 4
          · have hji : (j : Int) < 4 := by omega
            have hgj := hgP.out j hlj
            obtain ⟨c, hc⟩ : ∃ c, c = P.getD j 0 := ⟨_, rfl⟩
            obtain ⟨m, hm⟩ : ∃ m, m = c.toNat := ⟨_, rfl⟩
            rw [← hc, ← hm] at hgj
            have hm9 : m < 256 := by rw [hm]; exact c.toNat_lt
            obtain ⟨d, hd⟩ : ∃ d, d = uc c := ⟨_, rfl⟩
            obtain ⟨R1, hR1⟩ : ∃ X, X = R ++ [d] := ⟨_, rfl⟩
            have a5 : str R ++ str [d] = str R1 := by rw [hR1]; exact str_add _ _
            have s1 : (str [d]).size = 1 := str_size _
            have HR1 : Hid (R1 = VU ++ (P.take (j + 1)).map uc) := by
              show _ = _
              rw [hR1, HR.out, take_map_succ P j (by rw [HK.out.1]; exact hlj), hd, hc]
              simp
            by_cases h97 : 97 ≤ m
            · have c1 : decide ((97 : Int) ≤ (m : Int)) = true := by simp; omega
              obtain ⟨x, hxm⟩ : ∃ x, x = m - 32 := ⟨_, rfl⟩
              have hxi : (m : Int) - 32 = (x : Int) := by omega
              have hxw : IntKind.u8.wrap (x : Int) = (x : Int) := by rw [IntKind.wrap_u8]; omega
              have hxd : x = d.toNat := by
                rw [hd]
                unfold uc
                rw [if_pos (by omega), toNat_ofNat_lt _ (by omega)]
                omega
              have hx9 : x < 256 := by omega
              have hrun := run_byte wr x d hxd
              clear hc hm hd hR1 hxm hxd h97
              go_wp2_with fail
              go_roundw
              case rel => exact ⟨j + 1, R1, by omega, by go_num, rfl, HR1.out, hkr.alloc _, HBR.out.alloc _⟩
              case measure => simp [intOf]; omega
            · have c1 : decide ((97 : Int) ≤ (m : Int)) = false := by simp; omega
              have hmd : m = d.toNat := by
                rw [hd]
                unfold uc
                rw [if_neg (by omega)]
                exact hm
              have hrun := run_byte wr m d hmd
              clear hc hm hd hR1 hmd h97
              go_wp2_with fail
              go_roundw
              case rel => exact ⟨j + 1, R1, by omega, by go_num, rfl, HR1.out, hkr.alloc _, HBR.out.alloc _⟩
              case measure => simp [intOf]; omega
          · have hji : ¬ (j : Int) < 4 := by omega
            have hj4 : Hid (R = jc u (k + 1)) := by
              show _ = _
              rw [HR.out, HVU.out, List.take_of_length_le (by rw [HK.out.1]; omega), HK.out.2.1, jc]
            go_wp2_with fail
            go_roundw
            case rel => exact ⟨k + 1, by omega, by go_num, by rw [hF2'.out], by rw [hj4.out], hkr, HBR.out⟩
            case measure => simp [intOf]; omega
    · have hki : ¬ (k : Int) < 8 := by omega
      have hk8 : k = 8 := by omega
      rw [hk8] at hFF hUU
      have h6f : ip6 FF = some a := by
        rw [hFF]
        refine ip6_of_full a HA.out.1.1 f ?_ ?_ ?_ ?_ <;> rw [HA.out.2.1]
        · exact fun j => hexL_ne _
        · exact fun j => hexL_no58 _
        · exact fun j => hexL_no46 _
        · exact fun j _ => pc_hexL _ (hxx.out j)
      have h6u : ip6 UU = some a := by
        rw [hUU]
        refine ip6_of_full a HA.out.1.1 u ?_ ?_ ?_ ?_ <;> rw [HA.out.2.2]
        · exact fun j => up4_ne _ (hxx.out j)
        · exact fun j => up4_not _ (hxx.out j) _ (by decide)
        · exact fun j => up4_not _ (hxx.out j) _ (by decide)
        · exact fun j _ => pc_up4 _ (hxx.out j)
      obtain ⟨S, hS⟩ : ∃ S, S = brk a := ⟨_, rfl⟩
      obtain ⟨T6, hT6⟩ : ∃ S, S = text6 a := ⟨_, rfl⟩
      have h6t : ip6 T6 = some a := by rw [hT6]; exact ip6_text6 a HA.out.1.1 HA.out.1.2
      have hSt : S = [91] ++ T6 ++ [93] := by rw [hS, hT6]; rfl
      obtain ⟨hd1, hd2, hd3, hd4⟩ := eights a HA.out.1.1
      have hFx : hxs (fun j => a.getD j 0) 8 = FF := by rw [hFF, hxs_jc, HA.out.2.1]
      rw [hFx, ← hS] at hd3
      rw [← hS] at hd1 hd2 hd4
      obtain ⟨Q1, hQ1⟩ : ∃ X, X = [91] ++ UU := ⟨_, rfl⟩
      obtain ⟨Q2, hQ2⟩ : ∃ X, X = Q1 ++ [93] := ⟨_, rfl⟩
      have a1 : (⟨#[91]⟩ : ByteArray) ++ str UU = str Q1 := by rw [hQ1]; exact str_add [91] UU
      have a2 : str Q1 ++ (⟨#[93]⟩ : ByteArray) = str Q2 := put_one Q1 93 Q2 hQ2
      have sQ1 : (str Q1).size ≤ 41 := by rw [str_size, hQ1]; simp; omega
      have hprs : prs Q2 = (S, false) := by rw [hQ2, hQ1, prs_six, h6u, hS]
      have HS1 : Hid (∀ w', Kept w w' → Calls Tryd.prog 17 #[.string (str FF)] w' fun e w2 => e = .returned (.tuple #[.agg (vhs a).toArray, .int .i64 0]) ∧ Below w'.heap.size w' w2) := fun w' hw => six_is FF a h6f w' (by omega) (HT.out.kp hw)
      have HS2 : Hid (∀ w', Kept w w' → Calls Tryd.prog 17 #[.string (str UU)] w' fun e w2 => e = .returned (.tuple #[.agg (vhs a).toArray, .int .i64 0]) ∧ Below w'.heap.size w' w2) := fun w' hw => six_is UU a h6u w' (by omega) (HT.out.kp hw)
      have HS3 : Hid (∀ w', Kept w w' → Calls Tryd.prog 17 #[.string (str T6)] w' fun e w2 => e = .returned (.tuple #[.agg (vhs a).toArray, .int .i64 0]) ∧ Below w'.heap.size w' w2) := fun w' hw => six_is T6 a h6t w' (by have := congrArg List.length hSt; simp at this; omega) (HT.out.kp hw)
      have HPr : Hid (∀ w', Kept w w' → Calls Tryd.prog 10 #[.string (str Q2)] w' fun e w2 => e = .returned (.tuple #[.string (str S), .int .i64 0]) ∧ Below w'.heap.size w' w2) := fun w' hw => parse_is Q2 S false hprs w' (by rw [hQ2, hQ1]; simp; omega) (HT.out.kp hw)
      obtain ⟨sl, hsl⟩ : ∃ q, q = S.length := ⟨_, rfl⟩
      obtain ⟨fl, hfl2⟩ : ∃ q, q = FF.length := ⟨_, rfl⟩
      obtain ⟨CN, hCN⟩ : ∃ q, q = S.count 58 := ⟨_, rfl⟩
      obtain ⟨DN, hDN⟩ : ∃ q, q = dbl S := ⟨_, rfl⟩
      have hCl : CN ≤ sl := by rw [hCN, hsl]; exact List.count_le_length
      rw [← hsl] at hd3 hd4
      rw [← hfl2] at hd3 hfl
      rw [← hDN, ← hCN] at hd2
      rw [← hDN] at hd1
      obtain ⟨s1, hs1⟩ : ∃ q, q = sl - 1 := ⟨_, rfl⟩
      have hs1i : (sl : Int) - 1 = (s1 : Int) := by omega
      have sS : (str S).size = sl := by rw [str_size, hsl]
      have sFF : (str FF).size = fl := by rw [str_size, hfl2]
      have hex : (str S).extract 1 s1 = str T6 := by
        rw [hs1, hsl, hSt]
        exact str_mid T6
      have hs19 : s1 ≤ sl ∧ 1 ≤ s1 := by omega
      have hsl9 : sl ≤ 42 := by omega
      have h4i : ¬ (sl : Int) < 4 := by omega
      have hgS : Hid (∀ j, j < sl → ∀ h, ((str S)[j]'h).toNat = (S.getD j 0).toNat) := fun j hj h => str_at S j (by rw [← hsl]; exact hj) h
      have hl3 : decide ((sl : Int) ≤ (fl : Int) + 2) = true := by simp; omega
      have hfl9 : fl ≤ 40 := by omega
      have HL8 := Lib.hid (HA.out.1.1)
      have HSz : Hid ((Tryd.prog.info? 38).map (·.size) = some (vhs a).length) := size38' a HL8.out
      have HLn : Hid ((vhs a).length = (vhs zero8).length) := by show _ = _; rw [Hs_len, HL8.out]; rfl
      have HN := Lib.hid (And.intro hsl (And.intro hCN hDN))
      have HD := Lib.hid (And.intro hd1 (And.intro hd2 (And.intro hd3 hd4)))
      clear hsl hfl2 hCN hDN hs1 hSt hS hT6 h6f h6u h6t hQ1 hQ2 hprs hFF hUU hFx hk8 hd1 hd2 hd3 hd4
      have A0 := Lib.hid hbk
      clear hbk
      go_wp2_with (first
        | (go_at_call 17; first
          | (with_reducible refine (HS1.out wr hkw).mono ?_; rintro e w5 ⟨rfl, hb5⟩; have hk5 := hkw.step hb5; have A5 := A0.out.kept hb5; clear hb5)
          | (with_reducible refine (HS2.out w7 hk7).mono ?_; rintro e w8 ⟨rfl, hb8⟩; have hk8 := hk7.step hb8; have A8 := A7.kept hb8; have X8 := X7.kept hb8; clear hb8)
          | (with_reducible refine (HS3.out w11 hk11).mono ?_; rintro e w12 ⟨rfl, hb12⟩; have hk12 := hk11.step hb12; have A12 := A11.kept hb12; clear hb12))
        | (go_at_call 10; with_reducible refine (HPr.out w10 hk10).mono ?_; rintro e w11 ⟨rfl, hb11⟩; have hk11 := hk10.step hb11; have A11 := A10.kept hb11; have X11 := X10.kept hb11; have Y11 := Y10.kept hb11; clear hb11)
        | ((with_reducible show wpList _ _ _ (⟨some 10, .alloc _, _, _, _, _⟩ :: _) _ _); refine wp_new _ rfl 38 rfl _ type38 ?_; intro w6 g2 B6 F6; simp only [Act.put, List.setIfInBounds_toArray, List.set_cons_zero, List.set_cons_succ]; have hk6 := hk5.step F6.below; have A6 := A5.kept F6.below; have n6 := fresh_ne F6 A5; have z6 := fresh_ge F6 hk5; clear F6)
        | ((with_reducible show wpList _ _ _ (⟨none, .store 38 (.tmp 10) _, _, _, _, _⟩ :: _) _ _); refine wp_putAll _ rfl 38 (.tmp 10) (.tmp 69) rfl g2 38 _ (vhs a) rfl rfl B6 HLn.out HSz.out (Hs_one _) ?_; intro w7 X7 U7; simp only [Act.put]; have hk7 := hk6.base (U7.below z6); have A7 := A6.upd U7 n6; clear U7)
        | ((with_reducible show wpList _ _ _ (⟨some 12, .alloc _, _, _, _, _⟩ :: _) _ _); refine wp_new _ rfl 38 rfl _ type38 ?_; intro w9 g3 B9 F9; simp only [Act.put, List.setIfInBounds_toArray, List.set_cons_zero, List.set_cons_succ]; have hk9 := hk8.step F9.below; have A9 := A8.kept F9.below; have X9 := X8.kept F9.below; have n9 := fresh_ne F9 A8; have m9 := fresh_ne F9 X8; have z9 := fresh_ge F9 hk8; clear F9)
        | ((with_reducible show wpList _ _ _ (⟨none, .store 38 (.tmp 12) _, _, _, _, _⟩ :: _) _ _); refine wp_putAll _ rfl 38 (.tmp 12) (.tmp 74) rfl g3 38 _ (vhs a) rfl rfl B9 HLn.out HSz.out (Hs_one _) ?_; intro w10 Y10 U10; simp only [Act.put]; have hk10 := hk9.base (U10.below z9); have A10 := A9.upd U10 n9; have X10 := X9.upd U10 m9; clear U10)
        | ((with_reducible show wpList _ _ _ (⟨some 94, .load 38 _, _, _, _, _⟩ :: _) _ _); refine wp_getG _ rfl (.tmp 10) rfl g2 a HL8.out rfl X11 ?_; simp only [Act.put, List.setIfInBounds_toArray, List.set_cons_zero, List.set_cons_succ])
        | ((with_reducible show wpList _ _ _ (⟨some 95, .load 38 _, _, _, _, _⟩ :: _) _ _); refine wp_getG _ rfl (.tmp 1) rfl g1 a HL8.out rfl A11 ?_; simp only [Act.put, List.setIfInBounds_toArray, List.set_cons_zero, List.set_cons_succ])
        | ((with_reducible show wpList _ _ _ (⟨some 96, .binOp .neq 38 _ _ _, _, _, _, _⟩ :: _) _ _); refine wp_neA _ rfl (.tmp 94) (.tmp 95) rfl a HL8.out rfl rfl ?_; simp only [Act.put, List.setIfInBounds_toArray, List.set_cons_zero, List.set_cons_succ])
        | ((with_reducible show wpList _ _ _ (⟨some 99, .load 38 _, _, _, _, _⟩ :: _) _ _); refine wp_getG _ rfl (.tmp 12) rfl g3 a HL8.out rfl Y11 ?_; simp only [Act.put, List.setIfInBounds_toArray, List.set_cons_zero, List.set_cons_succ])
        | ((with_reducible show wpList _ _ _ (⟨some 100, .load 38 _, _, _, _, _⟩ :: _) _ _); refine wp_getG _ rfl (.tmp 1) rfl g1 a HL8.out rfl A11 ?_; simp only [Act.put, List.setIfInBounds_toArray, List.set_cons_zero, List.set_cons_succ])
        | ((with_reducible show wpList _ _ _ (⟨some 101, .binOp .neq 38 _ _ _, _, _, _, _⟩ :: _) _ _); refine wp_neA _ rfl (.tmp 99) (.tmp 100) rfl a HL8.out rfl rfl ?_; simp only [Act.put, List.setIfInBounds_toArray, List.set_cons_zero, List.set_cons_succ])
        | ((with_reducible show wpList _ _ _ (⟨some 16, .alloc _, _, _, _, _⟩ :: _) _ _); refine wp_new _ rfl 38 rfl _ type38 ?_; intro w13 g4 B13 F13; simp only [Act.put, List.setIfInBounds_toArray, List.set_cons_zero, List.set_cons_succ]; have hk13 := hk12.step F13.below; have A13 := A12.kept F13.below; have n13 := fresh_ne F13 A12; have z13 := fresh_ge F13 hk12; clear F13)
        | ((with_reducible show wpList _ _ _ (⟨none, .store 38 (.tmp 16) _, _, _, _, _⟩ :: _) _ _); refine wp_putAll _ rfl 38 (.tmp 16) (.tmp 115) rfl g4 38 _ (vhs a) rfl rfl B13 HLn.out HSz.out (Hs_one _) ?_; intro w14 Z14 U14; simp only [Act.put]; have hk14 := hk13.base (U14.below z13); have A14 := A13.upd U14 n13; clear U14))
      have A15 := Lib.hid A14
      have Z15 := Lib.hid Z14
      have hk15 := Lib.hid hk14
      clear A14 Z14 hk14 A13 B13 hk13 n13 z13 A12 hk12 A11 X11 Y11 hk11 A10 X10 Y10 hk10 A9 X9 B9 hk9 n9 m9 z9 A8 X8 hk8 A7 X7 hk7 A6 B6 hk6 n6 z6 A5 hk5 hkw A0 hex a1 a2 sQ1 sF sU hfl hul hs1i hs19 h4i
      go_loop [20, 18, 19] (fun i x y => ∃ (q cc dd : Nat), q ≤ sl ∧ i = .int .i64 (q : Int) ∧ x = .int .i64 (cc : Int) ∧ y = .int .i64 (dd : Int) ∧ cc + (S.drop q).count 58 = CN ∧ dd + dbl (S.drop q) = DN) (fun i _ _ => sl - (intOf i).toNat)
      case atStart => exact ⟨0, 0, 0, by omega, rfl, rfl, rfl, by rw [HN.out.2.1]; simp, by rw [HN.out.2.2]; simp⟩
      case round =>
        obtain ⟨q, cc, dd, hq, rfl, rfl, rfl, hcc, hdd⟩ := hrel
        have hcc9 : cc ≤ 42 := by omega
        have hdd9 : dd ≤ 1 := by have := HD.out.1; omega
        by_cases hql : q < sl
        · have hqi : (q : Int) < (sl : Int) := by omega
          have hg := hgS.out q hql
          have hsl := HN.out.1
          have hdr : S.drop q = S.getD q 0 :: S.drop (q + 1) := by
            have hq' : q < S.length := by omega
            rw [List.drop_eq_getElem_cons hq']
            simp [List.getD, List.getElem?_eq_getElem hq']
          obtain ⟨c, hc⟩ : ∃ c, c = S.getD q 0 := ⟨_, rfl⟩
          obtain ⟨m, hm⟩ : ∃ m, m = c.toNat := ⟨_, rfl⟩
          rw [← hc, ← hm] at hg
          rw [← hc] at hdr
          rw [hdr, List.count_cons] at hcc
          rw [hdr, dbl] at hdd
          clear hdr hc
          by_cases h58 : c = 58
          · have h58b : ((m : Int) == 58) = true := by rw [hm, h58]; rfl
            rw [h58, if_pos (by decide)] at hcc
            by_cases hq2 : q + 1 < sl
            · have hq2i : (q : Int) + 1 < (sl : Int) := by omega
              have hg2 := hgS.out (q + 1) hq2
              have hdr2 : (S.drop (q + 1)).head? = some (S.getD (q + 1) 0) := by
                have hq' : q + 1 < S.length := by omega
                rw [List.head?_drop, List.getElem?_eq_getElem hq']
                simp [List.getD, List.getElem?_eq_getElem hq']
              obtain ⟨c2, hc2⟩ : ∃ c, c = S.getD (q + 1) 0 := ⟨_, rfl⟩
              obtain ⟨m2, hm2⟩ : ∃ m, m = c2.toNat := ⟨_, rfl⟩
              rw [← hc2, ← hm2] at hg2
              rw [← hc2] at hdr2
              rw [hdr2] at hdd
              clear hdr2 hc2 hsl
              by_cases h582 : c2 = 58
              · have h582b : ((m2 : Int) == 58) = true := by rw [hm2, h582]; rfl
                rw [if_pos ⟨h58, by rw [h582]⟩] at hdd
                have HQ := Lib.hid (And.intro hcc hdd)
                clear hcc hdd hm hm2 h58 h582
                go_wp2_with fail
                go_round
                case rel => exact ⟨q + 1, cc + 1, dd + 1, by omega, by go_num, by go_num, by go_num, by have := HQ.out.1; omega, by have := HQ.out.2; omega⟩
                case measure => simp [intOf]; omega
              · have h582b : ((m2 : Int) == 58) = false := u8_ne hm2 h582
                rw [if_neg (fun e => h582 (Option.some.inj e.2))] at hdd
                have HQ := Lib.hid (And.intro hcc hdd)
                clear hcc hdd hm hm2 h58 h582
                go_wp2_with fail
                go_round
                case rel => exact ⟨q + 1, cc + 1, dd, by omega, by go_num, by go_num, rfl, by have := HQ.out.1; omega, by have := HQ.out.2; omega⟩
                case measure => simp [intOf]; omega
            · have hq2i : ¬ (q : Int) + 1 < (sl : Int) := by omega
              have hnil : S.drop (q + 1) = [] := List.drop_eq_nil_of_le (by omega)
              rw [if_neg (fun e => by have := e.2; rw [hnil] at this; simp at this)] at hdd
              have HQ := Lib.hid (And.intro hcc hdd)
              clear hcc hdd hm h58 hnil hsl
              go_wp2_with fail
              go_round
              case rel => exact ⟨q + 1, cc + 1, dd, by omega, by go_num, by go_num, rfl, by have := HQ.out.1; omega, by have := HQ.out.2; omega⟩
              case measure => simp [intOf]; omega
          · have h58b : ((m : Int) == 58) = false := u8_ne hm h58
            rw [if_neg (by simpa using h58)] at hcc
            rw [if_neg (fun e => h58 e.1)] at hdd
            have HQ := Lib.hid (And.intro hcc hdd)
            clear hcc hdd hm h58 hsl
            go_wp2_with fail
            go_round
            case rel => exact ⟨q + 1, cc, dd, by omega, by go_num, rfl, rfl, by have := HQ.out.1; omega, by have := HQ.out.2; omega⟩
            case measure => simp [intOf]; omega
        · have hqi : ¬ (q : Int) < (sl : Int) := by omega
          have hnil : S.drop q = [] := List.drop_eq_nil_of_le (by have := HN.out.1; omega)
          rw [hnil] at hcc hdd
          have hcc : cc = CN := hcc
          have hdd : dd = DN := hdd
          have h1 := HD.out.1
          have h2 := HD.out.2.1
          have c1 : decide ((dd : Int) ≤ 1) = true := by simp; omega
          by_cases h1b : dd = 1
          · have c2 : ((dd : Int) == 1) = true := by rw [h1b]; rfl
            have HQ := Lib.hid h1b
            clear hcc hdd h1 h2 h1b hnil
            go_wp2_with (first
              | ((with_reducible show wpList _ _ _ (⟨some 149, .load 38 _, _, _, _, _⟩ :: _) _ _); refine wp_getG _ rfl (.tmp 16) rfl g4 a HL8.out rfl Z15.out ?_; simp only [Act.put, List.setIfInBounds_toArray, List.set_cons_zero, List.set_cons_succ])
              | ((with_reducible show wpList _ _ _ (⟨some 150, .load 38 _, _, _, _, _⟩ :: _) _ _); refine wp_getG _ rfl (.tmp 1) rfl g1 a HL8.out rfl A15.out ?_; simp only [Act.put, List.setIfInBounds_toArray, List.set_cons_zero, List.set_cons_succ])
              | ((with_reducible show wpList _ _ _ (⟨some 151, .binOp .eql 38 _ _ _, _, _, _, _⟩ :: _) _ _); refine wp_eqA _ rfl (.tmp 149) (.tmp 150) rfl a HL8.out rfl rfl ?_; simp only [Act.put, List.setIfInBounds_toArray, List.set_cons_zero, List.set_cons_succ]))
            go_ret
            exact ⟨rfl, hk15.out⟩
          · have c2 : ((dd : Int) == 1) = false := by simp; omega
            have c3 : ((cc : Int) == 7) = true := by simp; omega
            have HQ := Lib.hid h1b
            clear hcc hdd h1 h2 h1b hnil
            go_wp2_with (first
              | ((with_reducible show wpList _ _ _ (⟨some 149, .load 38 _, _, _, _, _⟩ :: _) _ _); refine wp_getG _ rfl (.tmp 16) rfl g4 a HL8.out rfl Z15.out ?_; simp only [Act.put, List.setIfInBounds_toArray, List.set_cons_zero, List.set_cons_succ])
              | ((with_reducible show wpList _ _ _ (⟨some 150, .load 38 _, _, _, _, _⟩ :: _) _ _); refine wp_getG _ rfl (.tmp 1) rfl g1 a HL8.out rfl A15.out ?_; simp only [Act.put, List.setIfInBounds_toArray, List.set_cons_zero, List.set_cons_succ])
              | ((with_reducible show wpList _ _ _ (⟨some 151, .binOp .eql 38 _ _ _, _, _, _, _⟩ :: _) _ _); refine wp_eqA _ rfl (.tmp 149) (.tmp 150) rfl a HL8.out rfl rfl ?_; simp only [Act.put, List.setIfInBounds_toArray, List.set_cons_zero, List.set_cons_succ]))
            go_ret
            exact ⟨rfl, hk15.out⟩
end Go.Proofs.YtcfgcakmffkpmaaDoor
