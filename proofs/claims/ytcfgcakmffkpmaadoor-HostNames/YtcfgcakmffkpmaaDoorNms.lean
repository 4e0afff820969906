/-
  The walk of transeptlaw07.HostNames: true, for every text and number; nothing that was there turns. Condition: the library's tables.
-/
import Derived.Test.YtcfgcakmffkpmaaDoorShw
import Derived.Test.YtcfgcakmffkpmaaDoorNmm
import Derived.Test.YtcfgcakmffkpmaaDoorRefDec
namespace Go.Proofs.YtcfgcakmffkpmaaDoor
open Go.RowKit

theorem str_put (X : List UInt8) (c : UInt8) (Y : List UInt8) (h : Y = X ++ [c]) : str X ++ (⟨#[c]⟩ : ByteArray) = str Y := by rw [h]; exact str_add X [c]
theorem run_one (w : World) (m : Nat) (c : UInt8) (h : m = c.toNat) : (convert 39 9 (.slice (some ⟨w.heap.size, 0, none⟩) 1 1)).run Tryd.prog (w.alloc (.cells #[.int .u8 (m : Int)] 5)) = .ok (.string (str [c])) (w.alloc (.cells #[.int .u8 (m : Int)] 5)) := run_str _ _ _ 1 1 [c] (bs_of w m c h)

theorem run_one2 (w : World) (o : Obj) (m : Nat) (c : UInt8) (h : m = c.toNat) : (convert 39 9 (.slice (some ⟨w.heap.size + 1, 0, none⟩) 1 1)).run Tryd.prog ((w.alloc o).alloc (.cells #[.int .u8 (m : Int)] 5)) = .ok (.string (str [c])) ((w.alloc o).alloc (.cells #[.int .u8 (m : Int)] 5)) := by
  have h1 := run_one (w.alloc o) m c h
  have e : (w.alloc o).heap.size = w.heap.size + 1 := by simp
  rw [e] at h1
  exact h1

set_option maxHeartbeats 16000000 in
set_option maxRecDepth 100000 in
theorem names_walk (S0 : List UInt8) (hS : S0.length ≤ 9223372036854775807) (n2 : Int) (w : World) (ht : Tabs w) :
    Calls Tryd.prog 6 #[.string (str S0), .int .i64 n2] w fun e w' => e = .returned (.bool true) ∧ Below w.heap.size w w' := by
  obtain ⟨j, hj, hj1, hj2⟩ : ∃ j : Nat, min (S0.length : Int) 100 = (j : Int) ∧ j ≤ S0.length ∧ j ≤ 100 := ⟨min S0.length 100, by omega, by omega, by omega⟩
  obtain ⟨l, hl⟩ : ∃ l, l = S0.take j := ⟨_, rfl⟩
  have hll : l.length = j := by rw [hl, List.length_take]; omega
  have hxl : (str S0).extract 0 j = str l := by rw [hl]; exact str_take S0 j
  have hs0 := str_size S0
  have hsl := str_size l
  rw [hll] at hsl
  have hgb : Hid (∀ k, k < j → ∀ h, ((str l)[k]'h).toNat = (l.getD k 0).toNat) := fun k hk h => str_at l k (by rw [hll]; exact hk) h
  have HT := Lib.hid ht
  have HSh := Lib.hid (shown_any w ht)
  have HB : Hid (∀ u : Nat, u < 16 → ∀ w', Calls Tryd.prog 13 #[.int .i64 (u : Int), .int .i64 16] w' fun e w2 => e = .returned (.string (str [hx u])) ∧ Below w'.heap.size w' w2) := fun u hu w' => by
    have h := based_any u 16 (by omega) (by omega) (by omega) w'
    rw [bsd_lt hu] at h
    exact h
  clear hl ht hll
  go_enter Tryd.func6, Tryd.ntmps6
  go_wp2_with (first
    | (go_at_call 9; with_reducible refine HSh.out.mono ?_; rintro e w1 ⟨rfl, hk1⟩))
  go_loopw [8, 6, 7] (fun i a t wr => ∃ (k : Nat) (TT U WW : List UInt8), k ≤ j ∧ i = .int .i64 (k : Int) ∧ a = .string (str WW) ∧ t = .string (str TT) ∧ Nms TT U WW ∧ TT.length ≤ 3 * k ∧ WW.length ≤ k ∧ Kept w wr) (fun i _ _ _ => j - (intOf i).toNat)
  case atStart => exact ⟨0, [], [], [], by omega, rfl, rfl, rfl, Nms.start, by simp, by simp, hk1⟩
  case round =>
    obtain ⟨k, TT, U, WW, hk, rfl, rfl, rfl, hnm, hTl, hWl, hkw⟩ := hrel
    clear hk1
    have sT : (str TT).size ≤ 300 := by rw [str_size]; omega
    have sW : (str WW).size ≤ 100 := by rw [str_size]; omega
    have HNm := Lib.hid hnm
    clear hnm
    by_cases hlt : k < j
    · have hki : (k : Int) < (j : Int) := by omega
      have hg := hgb.out k hlt
      obtain ⟨c, hc⟩ : ∃ c, c = l.getD k 0 := ⟨_, rfl⟩
      obtain ⟨m, hm⟩ : ∃ m, m = c.toNat := ⟨_, rfl⟩
      rw [← hc, ← hm] at hg
      have hm9 : m < 256 := by rw [hm]; exact c.toNat_lt
      have hcm : Hid (c = UInt8.ofNat m) := by show _ = _; rw [hm]; simp
      have hmc : Hid (m = c.toNat) := hm
      obtain ⟨q60, hq60⟩ : ∃ q, q = k % 60 := ⟨_, rfl⟩
      have hqi : (k : Int) % 60 = (q60 : Int) := by omega
      have hq609 : q60 < 60 := by omega
      obtain ⟨z, hz⟩ : ∃ z : Int, z = n2 / 2 ^ q60 := ⟨_, rfl⟩
      obtain ⟨y, hy⟩ : ∃ y : Int, bits .and .i64 (n2 / 2 ^ q60) 1 = y := ⟨_, rfl⟩
      obtain ⟨p2, hp2⟩ : ∃ q, q = k % 2 := ⟨_, rfl⟩
      have hpi : (k : Int) % 2 = (p2 : Int) := by omega
      have hrun := run_one wr m c hmc.out
      obtain ⟨W1, hW1⟩ : ∃ X, X = WW ++ [c] := ⟨_, rfl⟩
      have aW : str WW ++ str [c] = str W1 := by rw [hW1]; exact str_add _ _
      have HK := Lib.hid (And.intro hq60 (And.intro hz (And.intro hp2 hW1)))
      clear hc hm hq60 hz hp2 hW1
      have hcase : m < 45 ∨ m = 45 ∨ m = 46 ∨ m = 47 ∨ (48 ≤ m ∧ m ≤ 57) ∨ (58 ≤ m ∧ m ≤ 96) ∨ (97 ≤ m ∧ m ≤ 122) ∨ 122 < m := by omega
      rcases hcase with hr | hr | hr | hr | hr | hr | hr | hr
      · have c1 : decide ((97 : Int) ≤ (m : Int)) = false := by simp; omega
        have c3 : decide ((m : Int) < 48) = true := by simp; omega
        have c4 : decide ((57 : Int) < (m : Int)) = false := by simp; omega
        have c5 : ((m : Int) != 45) = true := by simp; omega
        have c6 : ((m : Int) != 46) = true := by simp; omega
        have HRr := Lib.hid hr
        clear hr
        go_wp2_with fail
        go_roundw
        case rel => exact ⟨k + 1, TT, U, WW, by omega, by go_num, rfl, rfl, HNm.out, by omega, by omega, hkw⟩
        case measure => simp [intOf]; omega
      · have c1 : decide ((97 : Int) ≤ (m : Int)) = false := by simp; omega
        have c3 : decide ((m : Int) < 48) = true := by simp; omega
        have c4 : decide ((57 : Int) < (m : Int)) = false := by simp; omega
        have c5 : ((m : Int) != 45) = false := by simp; omega
        have c6 : ((m : Int) != 46) = true := by simp; omega
        have hkeep := keeps m (.inl hr)
        by_cases h1 : y = 1
        · have h1b : (y == 1) = true := by simpa using h1
          obtain ⟨u, hu⟩ : ∃ u, u = m / 16 := ⟨_, rfl⟩
          obtain ⟨v, hv⟩ : ∃ v, v = m % 16 := ⟨_, rfl⟩
          have hui : (m : Int) / 16 = (u : Int) := by omega
          have hvi : (m : Int) % 16 = (v : Int) := by omega
          have hu16 : u < 16 := by omega
          have hv16 : v < 16 := by omega
          obtain ⟨V1, hV1⟩ : ∃ X, X = TT ++ [37] := ⟨_, rfl⟩
          obtain ⟨V2, hV2⟩ : ∃ X, X = V1 ++ [hx u] := ⟨_, rfl⟩
          obtain ⟨V3, hV3⟩ : ∃ X, X = V2 ++ [hx v] := ⟨_, rfl⟩
          have a1 : str TT ++ (⟨#[37]⟩ : ByteArray) = str V1 := str_put TT 37 V1 hV1
          have a2 : str V1 ++ str [hx u] = str V2 := by rw [hV2]; exact str_add _ _
          have a3 : str V2 ++ str [hx v] = str V3 := by rw [hV3]; exact str_add _ _
          have s1 : (str [c]).size = 1 := str_size _
          have s2 : (str [hx u]).size = 1 := str_size _
          have s3 : (str [hx v]).size = 1 := str_size _
          have t1 : (str V1).size ≤ 301 := by rw [str_size, hV1]; simp; omega
          have t2 : (str V2).size ≤ 302 := by rw [str_size, hV2, hV1]; simp; omega
          have hl3 : Hid (V3.length ≤ 3 * (k + 1) ∧ W1.length ≤ k + 1) := by
            constructor
            · rw [hV3, hV2, hV1]; simp; omega
            · rw [HK.out.2.2.2]; simp; omega
          have hnm2 : Hid (Nms V3 (U ++ [c]) W1) := by
            show Nms _ _ _
            rw [hV3, hV2, hV1, hu, hv, HK.out.2.2.2, hmc.out]
            exact HNm.out.code c (by rw [hcm.out]; exact hkeep.1) (by rw [hcm.out]; exact hkeep.2)
          have Bu := Lib.hid (HB.out u hu16)
          have Bv := Lib.hid (HB.out v hv16)
          have hka := hkw.alloc (.cells #[.int .u8 (m : Int)] 5)
          have HRr := Lib.hid hr
          clear hr h1 hu hv hV1 hV2 hV3 hkeep
          go_wp2_with (go_at_call 13; first
            | (with_reducible refine (Bu.out _).mono ?_; rintro e w5 ⟨rfl, hb5⟩; have hk5 := hka.step hb5; clear hb5)
            | (with_reducible refine (Bv.out w5).mono ?_; rintro e w6 ⟨rfl, hb6⟩; have hk6 := hk5.step hb6; clear hb6))
          go_roundw
          case rel => exact ⟨k + 1, V3, U ++ [c], W1, by omega, by go_num, rfl, rfl, hnm2.out, hl3.out.1, hl3.out.2, hk6⟩
          case measure => simp [intOf]; omega
        · have h1b : (y == 1) = false := by simpa using h1
          obtain ⟨V1, hV1⟩ : ∃ X, X = TT ++ [c] := ⟨_, rfl⟩
          have a1 : str TT ++ str [c] = str V1 := by rw [hV1]; exact str_add _ _
          have s1 : (str [c]).size = 1 := str_size _
          have hrun2 := run_one2 wr (.cells #[.int .u8 (m : Int)] 5) m c hmc.out
          have hl3 : Hid (V1.length ≤ 3 * (k + 1) ∧ W1.length ≤ k + 1) := by
            constructor
            · rw [hV1]; simp; omega
            · rw [HK.out.2.2.2]; simp; omega
          have hnm2 : Hid (Nms V1 (U ++ [c]) W1) := by
            show Nms _ _ _
            rw [hV1, HK.out.2.2.2]
            exact HNm.out.plain c c (by rw [hcm.out]; exact hkeep.1) (by rw [hcm.out]; exact hkeep.2)
          have HRr := Lib.hid hr
          clear hr h1 hV1 hkeep
          go_wp2_with fail
          go_roundw
          case rel => exact ⟨k + 1, V1, U ++ [c], W1, by omega, by go_num, rfl, rfl, hnm2.out, hl3.out.1, hl3.out.2, (hkw.alloc _).alloc _⟩
          case measure => simp [intOf]; omega
      · have c1 : decide ((97 : Int) ≤ (m : Int)) = false := by simp; omega
        have c3 : decide ((m : Int) < 48) = true := by simp; omega
        have c4 : decide ((57 : Int) < (m : Int)) = false := by simp; omega
        have c5 : ((m : Int) != 45) = true := by simp; omega
        have c6 : ((m : Int) != 46) = false := by simp; omega
        have hkeep := keeps m (.inr (.inl hr))
        by_cases h1 : y = 1
        · have h1b : (y == 1) = true := by simpa using h1
          obtain ⟨u, hu⟩ : ∃ u, u = m / 16 := ⟨_, rfl⟩
          obtain ⟨v, hv⟩ : ∃ v, v = m % 16 := ⟨_, rfl⟩
          have hui : (m : Int) / 16 = (u : Int) := by omega
          have hvi : (m : Int) % 16 = (v : Int) := by omega
          have hu16 : u < 16 := by omega
          have hv16 : v < 16 := by omega
          obtain ⟨V1, hV1⟩ : ∃ X, X = TT ++ [37] := ⟨_, rfl⟩
          obtain ⟨V2, hV2⟩ : ∃ X, X = V1 ++ [hx u] := ⟨_, rfl⟩
          obtain ⟨V3, hV3⟩ : ∃ X, X = V2 ++ [hx v] := ⟨_, rfl⟩
          have a1 : str TT ++ (⟨#[37]⟩ : ByteArray) = str V1 := str_put TT 37 V1 hV1
          have a2 : str V1 ++ str [hx u] = str V2 := by rw [hV2]; exact str_add _ _
          have a3 : str V2 ++ str [hx v] = str V3 := by rw [hV3]; exact str_add _ _
          have s1 : (str [c]).size = 1 := str_size _
          have s2 : (str [hx u]).size = 1 := str_size _
          have s3 : (str [hx v]).size = 1 := str_size _
          have t1 : (str V1).size ≤ 301 := by rw [str_size, hV1]; simp; omega
          have t2 : (str V2).size ≤ 302 := by rw [str_size, hV2, hV1]; simp; omega
          have hl3 : Hid (V3.length ≤ 3 * (k + 1) ∧ W1.length ≤ k + 1) := by
            constructor
            · rw [hV3, hV2, hV1]; simp; omega
            · rw [HK.out.2.2.2]; simp; omega
          have hnm2 : Hid (Nms V3 (U ++ [c]) W1) := by
            show Nms _ _ _
            rw [hV3, hV2, hV1, hu, hv, HK.out.2.2.2, hmc.out]
            exact HNm.out.code c (by rw [hcm.out]; exact hkeep.1) (by rw [hcm.out]; exact hkeep.2)
          have Bu := Lib.hid (HB.out u hu16)
          have Bv := Lib.hid (HB.out v hv16)
          have hka := hkw.alloc (.cells #[.int .u8 (m : Int)] 5)
          have HRr := Lib.hid hr
          clear hr h1 hu hv hV1 hV2 hV3 hkeep
          go_wp2_with (go_at_call 13; first
            | (with_reducible refine (Bu.out _).mono ?_; rintro e w5 ⟨rfl, hb5⟩; have hk5 := hka.step hb5; clear hb5)
            | (with_reducible refine (Bv.out w5).mono ?_; rintro e w6 ⟨rfl, hb6⟩; have hk6 := hk5.step hb6; clear hb6))
          go_roundw
          case rel => exact ⟨k + 1, V3, U ++ [c], W1, by omega, by go_num, rfl, rfl, hnm2.out, hl3.out.1, hl3.out.2, hk6⟩
          case measure => simp [intOf]; omega
        · have h1b : (y == 1) = false := by simpa using h1
          obtain ⟨V1, hV1⟩ : ∃ X, X = TT ++ [c] := ⟨_, rfl⟩
          have a1 : str TT ++ str [c] = str V1 := by rw [hV1]; exact str_add _ _
          have s1 : (str [c]).size = 1 := str_size _
          have hrun2 := run_one2 wr (.cells #[.int .u8 (m : Int)] 5) m c hmc.out
          have hl3 : Hid (V1.length ≤ 3 * (k + 1) ∧ W1.length ≤ k + 1) := by
            constructor
            · rw [hV1]; simp; omega
            · rw [HK.out.2.2.2]; simp; omega
          have hnm2 : Hid (Nms V1 (U ++ [c]) W1) := by
            show Nms _ _ _
            rw [hV1, HK.out.2.2.2]
            exact HNm.out.plain c c (by rw [hcm.out]; exact hkeep.1) (by rw [hcm.out]; exact hkeep.2)
          have HRr := Lib.hid hr
          clear hr h1 hV1 hkeep
          go_wp2_with fail
          go_roundw
          case rel => exact ⟨k + 1, V1, U ++ [c], W1, by omega, by go_num, rfl, rfl, hnm2.out, hl3.out.1, hl3.out.2, (hkw.alloc _).alloc _⟩
          case measure => simp [intOf]; omega
      · have c1 : decide ((97 : Int) ≤ (m : Int)) = false := by simp; omega
        have c3 : decide ((m : Int) < 48) = true := by simp; omega
        have c4 : decide ((57 : Int) < (m : Int)) = false := by simp; omega
        have c5 : ((m : Int) != 45) = true := by simp; omega
        have c6 : ((m : Int) != 46) = true := by simp; omega
        have HRr := Lib.hid hr
        clear hr
        go_wp2_with fail
        go_roundw
        case rel => exact ⟨k + 1, TT, U, WW, by omega, by go_num, rfl, rfl, HNm.out, by omega, by omega, hkw⟩
        case measure => simp [intOf]; omega
      · have c1 : decide ((97 : Int) ≤ (m : Int)) = false := by simp; omega
        have c3 : decide ((m : Int) < 48) = false := by simp; omega
        have c4 : decide ((57 : Int) < (m : Int)) = false := by simp; omega
        have c5 : ((m : Int) != 45) = true := by simp; omega
        have c6 : ((m : Int) != 46) = true := by simp; omega
        have hkeep := keeps m (.inr (.inr (.inl hr)))
        by_cases h1 : y = 1
        · have h1b : (y == 1) = true := by simpa using h1
          obtain ⟨u, hu⟩ : ∃ u, u = m / 16 := ⟨_, rfl⟩
          obtain ⟨v, hv⟩ : ∃ v, v = m % 16 := ⟨_, rfl⟩
          have hui : (m : Int) / 16 = (u : Int) := by omega
          have hvi : (m : Int) % 16 = (v : Int) := by omega
          have hu16 : u < 16 := by omega
          have hv16 : v < 16 := by omega
          obtain ⟨V1, hV1⟩ : ∃ X, X = TT ++ [37] := ⟨_, rfl⟩
          obtain ⟨V2, hV2⟩ : ∃ X, X = V1 ++ [hx u] := ⟨_, rfl⟩
          obtain ⟨V3, hV3⟩ : ∃ X, X = V2 ++ [hx v] := ⟨_, rfl⟩
          have a1 : str TT ++ (⟨#[37]⟩ : ByteArray) = str V1 := str_put TT 37 V1 hV1
          have a2 : str V1 ++ str [hx u] = str V2 := by rw [hV2]; exact str_add _ _
          have a3 : str V2 ++ str [hx v] = str V3 := by rw [hV3]; exact str_add _ _
          have s1 : (str [c]).size = 1 := str_size _
          have s2 : (str [hx u]).size = 1 := str_size _
          have s3 : (str [hx v]).size = 1 := str_size _
          have t1 : (str V1).size ≤ 301 := by rw [str_size, hV1]; simp; omega
          have t2 : (str V2).size ≤ 302 := by rw [str_size, hV2, hV1]; simp; omega
          have hl3 : Hid (V3.length ≤ 3 * (k + 1) ∧ W1.length ≤ k + 1) := by
            constructor
            · rw [hV3, hV2, hV1]; simp; omega
            · rw [HK.out.2.2.2]; simp; omega
          have hnm2 : Hid (Nms V3 (U ++ [c]) W1) := by
            show Nms _ _ _
            rw [hV3, hV2, hV1, hu, hv, HK.out.2.2.2, hmc.out]
            exact HNm.out.code c (by rw [hcm.out]; exact hkeep.1) (by rw [hcm.out]; exact hkeep.2)
          have Bu := Lib.hid (HB.out u hu16)
          have Bv := Lib.hid (HB.out v hv16)
          have hka := hkw.alloc (.cells #[.int .u8 (m : Int)] 5)
          have HRr := Lib.hid hr
          clear hr h1 hu hv hV1 hV2 hV3 hkeep
          go_wp2_with (go_at_call 13; first
            | (with_reducible refine (Bu.out _).mono ?_; rintro e w5 ⟨rfl, hb5⟩; have hk5 := hka.step hb5; clear hb5)
            | (with_reducible refine (Bv.out w5).mono ?_; rintro e w6 ⟨rfl, hb6⟩; have hk6 := hk5.step hb6; clear hb6))
          go_roundw
          case rel => exact ⟨k + 1, V3, U ++ [c], W1, by omega, by go_num, rfl, rfl, hnm2.out, hl3.out.1, hl3.out.2, hk6⟩
          case measure => simp [intOf]; omega
        · have h1b : (y == 1) = false := by simpa using h1
          obtain ⟨V1, hV1⟩ : ∃ X, X = TT ++ [c] := ⟨_, rfl⟩
          have a1 : str TT ++ str [c] = str V1 := by rw [hV1]; exact str_add _ _
          have s1 : (str [c]).size = 1 := str_size _
          have hrun2 := run_one2 wr (.cells #[.int .u8 (m : Int)] 5) m c hmc.out
          have hl3 : Hid (V1.length ≤ 3 * (k + 1) ∧ W1.length ≤ k + 1) := by
            constructor
            · rw [hV1]; simp; omega
            · rw [HK.out.2.2.2]; simp; omega
          have hnm2 : Hid (Nms V1 (U ++ [c]) W1) := by
            show Nms _ _ _
            rw [hV1, HK.out.2.2.2]
            exact HNm.out.plain c c (by rw [hcm.out]; exact hkeep.1) (by rw [hcm.out]; exact hkeep.2)
          have HRr := Lib.hid hr
          clear hr h1 hV1 hkeep
          go_wp2_with fail
          go_roundw
          case rel => exact ⟨k + 1, V1, U ++ [c], W1, by omega, by go_num, rfl, rfl, hnm2.out, hl3.out.1, hl3.out.2, (hkw.alloc _).alloc _⟩
          case measure => simp [intOf]; omega
      · have c1 : decide ((97 : Int) ≤ (m : Int)) = false := by simp; omega
        have c3 : decide ((m : Int) < 48) = false := by simp; omega
        have c4 : decide ((57 : Int) < (m : Int)) = true := by simp; omega
        have c5 : ((m : Int) != 45) = true := by simp; omega
        have c6 : ((m : Int) != 46) = true := by simp; omega
        have HRr := Lib.hid hr
        clear hr
        go_wp2_with fail
        go_roundw
        case rel => exact ⟨k + 1, TT, U, WW, by omega, by go_num, rfl, rfl, HNm.out, by omega, by omega, hkw⟩
        case measure => simp [intOf]; omega
      · have c1 : decide ((97 : Int) ≤ (m : Int)) = true := by simp; omega
        have c2 : decide ((m : Int) ≤ 122) = true := by simp; omega
        have c3 : decide ((m : Int) < 48) = false := by simp; omega
        have c4 : decide ((57 : Int) < (m : Int)) = true := by simp; omega
        have c5 : ((m : Int) != 45) = true := by simp; omega
        have c6 : ((m : Int) != 46) = true := by simp; omega
        have hkeep := keeps m (.inr (.inr (.inr hr)))
        by_cases h1 : y = 1
        · have h1b : (y == 1) = true := by simpa using h1
          obtain ⟨u, hu⟩ : ∃ u, u = m / 16 := ⟨_, rfl⟩
          obtain ⟨v, hv⟩ : ∃ v, v = m % 16 := ⟨_, rfl⟩
          have hui : (m : Int) / 16 = (u : Int) := by omega
          have hvi : (m : Int) % 16 = (v : Int) := by omega
          have hu16 : u < 16 := by omega
          have hv16 : v < 16 := by omega
          obtain ⟨V1, hV1⟩ : ∃ X, X = TT ++ [37] := ⟨_, rfl⟩
          obtain ⟨V2, hV2⟩ : ∃ X, X = V1 ++ [hx u] := ⟨_, rfl⟩
          obtain ⟨V3, hV3⟩ : ∃ X, X = V2 ++ [hx v] := ⟨_, rfl⟩
          have a1 : str TT ++ (⟨#[37]⟩ : ByteArray) = str V1 := str_put TT 37 V1 hV1
          have a2 : str V1 ++ str [hx u] = str V2 := by rw [hV2]; exact str_add _ _
          have a3 : str V2 ++ str [hx v] = str V3 := by rw [hV3]; exact str_add _ _
          have s1 : (str [c]).size = 1 := str_size _
          have s2 : (str [hx u]).size = 1 := str_size _
          have s3 : (str [hx v]).size = 1 := str_size _
          have t1 : (str V1).size ≤ 301 := by rw [str_size, hV1]; simp; omega
          have t2 : (str V2).size ≤ 302 := by rw [str_size, hV2, hV1]; simp; omega
          have hl3 : Hid (V3.length ≤ 3 * (k + 1) ∧ W1.length ≤ k + 1) := by
            constructor
            · rw [hV3, hV2, hV1]; simp; omega
            · rw [HK.out.2.2.2]; simp; omega
          have hnm2 : Hid (Nms V3 (U ++ [c]) W1) := by
            show Nms _ _ _
            rw [hV3, hV2, hV1, hu, hv, HK.out.2.2.2, hmc.out]
            exact HNm.out.code c (by rw [hcm.out]; exact hkeep.1) (by rw [hcm.out]; exact hkeep.2)
          have Bu := Lib.hid (HB.out u hu16)
          have Bv := Lib.hid (HB.out v hv16)
          have hka := hkw.alloc (.cells #[.int .u8 (m : Int)] 5)
          have HRr := Lib.hid hr
          clear hr h1 hu hv hV1 hV2 hV3 hkeep
          go_wp2_with (go_at_call 13; first
            | (with_reducible refine (Bu.out _).mono ?_; rintro e w5 ⟨rfl, hb5⟩; have hk5 := hka.step hb5; clear hb5)
            | (with_reducible refine (Bv.out w5).mono ?_; rintro e w6 ⟨rfl, hb6⟩; have hk6 := hk5.step hb6; clear hb6))
          go_roundw
          case rel => exact ⟨k + 1, V3, U ++ [c], W1, by omega, by go_num, rfl, rfl, hnm2.out, hl3.out.1, hl3.out.2, hk6⟩
          case measure => simp [intOf]; omega
        · by_cases hodd : p2 = 1
          · have ho : ((p2 : Int) == 1) = true := by simp; omega
            have HO := Lib.hid hodd
            clear hodd
            have h1b : (y == 1) = false := by simpa using h1
            obtain ⟨x, hxx⟩ : ∃ x, x = m - 32 := ⟨_, rfl⟩
            have hxi : (m : Int) - 32 = (x : Int) := by omega
            have hxw : IntKind.u8.wrap (x : Int) = (x : Int) := by rw [IntKind.wrap_u8]; omega
            obtain ⟨d, hd⟩ : ∃ d, d = UInt8.ofNat x := ⟨_, rfl⟩
            have hxd : Hid (x = d.toNat) := by show _ = _; rw [hd, toNat_ofNat_lt x (by omega)]
            obtain ⟨V1, hV1⟩ : ∃ X, X = TT ++ [d] := ⟨_, rfl⟩
            have a1 : str TT ++ str [d] = str V1 := by rw [hV1]; exact str_add _ _
            have s1 : (str [c]).size = 1 := str_size _
            have s2 : (str [d]).size = 1 := str_size _
            have hrun2 := run_one2 wr (.cells #[.int .u8 (m : Int)] 5) x d hxd.out
            have hkU := keepsU m hr
            have hl3 : Hid (V1.length ≤ 3 * (k + 1) ∧ W1.length ≤ k + 1) := by
              constructor
              · rw [hV1]; simp; omega
              · rw [HK.out.2.2.2]; simp; omega
            have hnm2 : Hid (Nms V1 (U ++ [d]) W1) := by
              show Nms _ _ _
              rw [hV1, HK.out.2.2.2]
              exact HNm.out.plain d c (by rw [hd, hxx]; exact hkU.1) (by rw [hd, hxx, hcm.out]; exact hkU.2)
            have HRr := Lib.hid hr
            have hx9 : x < 256 := by omega
            clear hr h1 hV1 hkeep hkU hd hxx
            go_wp2_with fail
            go_roundw
            case rel => exact ⟨k + 1, V1, U ++ [d], W1, by omega, by go_num, rfl, rfl, hnm2.out, hl3.out.1, hl3.out.2, (hkw.alloc _).alloc _⟩
            case measure => simp [intOf]; omega
          · have ho : ((p2 : Int) == 1) = false := by simp; omega
            clear hodd
            have h1b : (y == 1) = false := by simpa using h1
            obtain ⟨V1, hV1⟩ : ∃ X, X = TT ++ [c] := ⟨_, rfl⟩
            have a1 : str TT ++ str [c] = str V1 := by rw [hV1]; exact str_add _ _
            have s1 : (str [c]).size = 1 := str_size _
            have hrun2 := run_one2 wr (.cells #[.int .u8 (m : Int)] 5) m c hmc.out
            have hl3 : Hid (V1.length ≤ 3 * (k + 1) ∧ W1.length ≤ k + 1) := by
              constructor
              · rw [hV1]; simp; omega
              · rw [HK.out.2.2.2]; simp; omega
            have hnm2 : Hid (Nms V1 (U ++ [c]) W1) := by
              show Nms _ _ _
              rw [hV1, HK.out.2.2.2]
              exact HNm.out.plain c c (by rw [hcm.out]; exact hkeep.1) (by rw [hcm.out]; exact hkeep.2)
            have HRr := Lib.hid hr
            clear hr h1 hV1 hkeep
            go_wp2_with fail
            go_roundw
            case rel => exact ⟨k + 1, V1, U ++ [c], W1, by omega, by go_num, rfl, rfl, hnm2.out, hl3.out.1, hl3.out.2, (hkw.alloc _).alloc _⟩
            case measure => simp [intOf]; omega
      · have c1 : decide ((97 : Int) ≤ (m : Int)) = true := by simp; omega
        have c2 : decide ((m : Int) ≤ 122) = false := by simp; omega
        have c3 : decide ((m : Int) < 48) = false := by simp; omega
        have c4 : decide ((57 : Int) < (m : Int)) = true := by simp; omega
        have c5 : ((m : Int) != 45) = true := by simp; omega
        have c6 : ((m : Int) != 46) = true := by simp; omega
        have HRr := Lib.hid hr
        clear hr
        go_wp2_with fail
        go_roundw
        case rel => exact ⟨k + 1, TT, U, WW, by omega, by go_num, rfl, rfl, HNm.out, by omega, by omega, hkw⟩
        case measure => simp [intOf]; omega
    · have hki : ¬ (k : Int) < (j : Int) := by omega
      obtain ⟨X1, hX1⟩ : ∃ X, X = TT ++ [90] := ⟨_, rfl⟩
      obtain ⟨X2, hX2⟩ : ∃ X, X = WW ++ [122] := ⟨_, rfl⟩
      have a1 : str TT ++ (⟨#[90]⟩ : ByteArray) = str X1 := str_put TT 90 X1 hX1
      have a2 : str WW ++ (⟨#[122]⟩ : ByteArray) = str X2 := str_put WW 122 X2 hX2
      have hp : prs X1 = (X2, false) := by rw [hX1, hX2]; exact HNm.out.prs
      have hd : dom X2 = true := by rw [hX2]; exact HNm.out.dom
      have h37 := HNm.out.not37
      have hdl := dec_len TT.length TT (Nat.le_refl _)
      obtain ⟨D, hD⟩ : ∃ D, D = dec TT := ⟨_, rfl⟩
      have hneq : ((str D).toList == (⟨#[37]⟩ : ByteArray).toList) = false := by
        have e : (⟨#[37]⟩ : ByteArray).toList = [37] := toList_str [37]
        rw [e, toList_str, hD]
        simpa using h37
      have hneq3 : ((str D).toList == [37]) = false := by
        rw [toList_str, hD]
        simpa using h37
      have hneq2 : ((str D).toList != (⟨#[37]⟩ : ByteArray).toList) = true := by rw [bne, hneq]; rfl
      have HI : Hid (∀ w', Kept w w' → Calls Tryd.prog 15 #[.string (str X1), .string (str X2)] w' fun e w2 => e = .returned (.bool true) ∧ Below w'.heap.size w' w2) := fun w' hk => is_yes X1 X2 hp w' (by rw [hX1]; simp; omega) (HT.out.kp hk)
      have HD : Hid (∀ w', Kept w w' → Calls Tryd.prog 16 #[.string (str X2)] w' fun e w2 => e = .returned (.bool true) ∧ Below w'.heap.size w' w2) := fun w' hk => dom_is X2 true hd w' (by rw [hX2]; simp; omega) (HT.out.kp hk)
      have HR : Hid (∀ w', Calls Tryd.prog 18 #[.string (str TT)] w' fun e w2 => e = .returned (.string (str D)) ∧ Below w'.heap.size w' w2) := fun w' => by rw [hD]; exact refDecode_any TT w' (by omega)
      clear hX1 hX2 hp hd h37 hdl hD
      go_wp2_with (first
        | (go_at_call 15; with_reducible refine (HI.out _ hkw).mono ?_; rintro e w5 ⟨rfl, hb5⟩; have hk5 := hkw.step hb5; clear hb5)
        | (go_at_call 16; with_reducible refine (HD.out _ hk5).mono ?_; rintro e w6 ⟨rfl, hb6⟩; have hk6 := hk5.step hb6; clear hb6)
        | (go_at_call 18; with_reducible refine (HR.out _).mono ?_; rintro e w7 ⟨rfl, hb7⟩; have hk7 := hk6.step hb7; clear hb7))
      go_ret
      exact ⟨rfl, hk7⟩
end Go.Proofs.YtcfgcakmffkpmaaDoor
