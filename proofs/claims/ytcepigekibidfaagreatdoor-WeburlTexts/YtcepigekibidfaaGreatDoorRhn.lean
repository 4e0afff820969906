/-
  What transeptref07.IPv6 answers; nothing that was there turns. Condition: texts of at most 100000000 bytes.
-/
import Derived.Test.YtcepigekibidfaaGreatDoorRhm
namespace Go.Proofs.YtcepigekibidfaaGreatDoor
open Go.RowKit

theorem rspl8 (t : List UInt8) (ht : t.length ≤ 100000000) : Hid (∀ W, Calls Tryz.prog 73 #[.string (str t), .int .u8 58] W fun e w' => ∃ g c, e = .returned (.slice (some ⟨g, 0, none⟩) (spl 58 t).length c) ∧ Ps w' g (spl 58 t) ∧ Below W.heap.size W w') := fun W => (rsplit_one t 58 W ht).mono fun e w' hh => by
  obtain ⟨g, c, h1, _, h3, h4⟩ := hh
  exact ⟨g, c, h1, h3, h4⟩
theorem spl8_len (t : List UInt8) (ht : t.length ≤ 100000000) : (spl 58 t).length ≤ 100000001 ∧ ∀ p ∈ spl 58 t, p.length ≤ 100000000 := by
  refine ⟨?_, fun p hp => by have := (spl_mem 58 t p hp).2.1; omega⟩
  rw [spl_length]
  have := List.count_le_length (a := (58 : UInt8)) (l := t)
  omega
theorem rrow8 (ps : List (List UInt8)) (e : Bool) (R : Option (List Nat)) (hR : pcl e ps = R) (hn : ps.length ≤ 100000001) (hl : ∀ p ∈ ps, p.length ≤ 100000000) : ∀ g c W, Ps W g ps → Calls Tryz.prog 74 #[.slice (some ⟨g, 0, none⟩) ps.length c, .bool e] W (RowR R W) := fun g c W h => by
  rw [← hR]
  exact rrow_any ps e g c W h hn hl
theorem rip6_any (l : List UInt8) (w : World) (hl : l.length ≤ 100000000) : Calls Tryz.prog 48 #[.string (str l)] w fun e w' => e = .returned (ip6V (ip6 l)) ∧ Below w.heap.size w w' := by
  have h0 := atI_zero l
  have hempty : ∀ e : Bool, pcl e [] = some [] := fun _ => rfl
  have hnil := fun e => rrow8 [] e (some []) (hempty e) (by decide) (fun p hp => by cases hp)
  cases hf : fc l with
  | none =>
    rw [hf] at h0
    obtain ⟨y1, y2⟩ := spl8_len l hl
    rw [ip6_A l hf]
    cases hq : pcl true (spl 58 l) with
    | none =>
      exact r6_A_N3 l l l [] (spl 58 l) [] [] l.length 0 (spl 58 l).length 0 0 0 0 w rfl hl h0 rfl (rspl8 l hl) (hnil false) (rrow8 _ true none hq y1 y2)
    | some ys =>
      have hyl := (pcl_len true _ _ hq).1
      by_cases h8 : ys.length = 8
      · have e : D6 false (some []) (some ys) = some ([] ++ List.replicate (8 - 0 - ys.length) 0 ++ ys) := by
          show (if decide (0 + ys.length = 8) = true then some ([] ++ List.replicate (8 - 0 - ys.length) 0 ++ ys) else none) = _
          rw [if_pos (decide_eq_true (by omega))]
        rw [e]
        exact r6_A_O l l l [] (spl 58 l) [] ys l.length 0 (spl 58 l).length 0 ys.length ys.length 0 w rfl hl h0 rfl (rspl8 l hl) (hnil false) (rrow8 _ true _ hq y1 y2) (by omega) (by omega) (by rw [h8]; rfl) (by omega) rfl rfl _ rfl
      · have e : D6 false (some []) (some ys) = none := by
          show (if decide (0 + ys.length = 8) = true then some ([] ++ List.replicate (8 - 0 - ys.length) 0 ++ ys) else none) = _
          rw [if_neg (by rw [decide_eq_false (by omega)]; decide)]
        rw [e]
        exact r6_A_F l l l [] (spl 58 l) [] ys l.length 0 (spl 58 l).length 0 ys.length ys.length 0 w rfl hl h0 rfl (rspl8 l hl) (hnil false) (rrow8 _ true _ hq y1 y2) (by omega) (by omega) (by first | (simp; done) | (simp; omega))
  | some j =>
    rw [hf] at h0
    have hj := fc_le l j hf
    have hjS : j ≤ l.length := by omega
    have ltk : (l.take j).length ≤ 100000000 := by rw [List.length_take]; omega
    have ldr : (l.drop (j + 2)).length ≤ 100000000 := by rw [List.length_drop]; omega
    have tx := str_take l j
    have ty : (str l).extract (j + 2) l.length = str (l.drop (j + 2)) := str_drop l (j + 2) l.length rfl (by omega)
    obtain ⟨x1, x2⟩ := spl8_len (l.take j) ltk
    obtain ⟨y1, y2⟩ := spl8_len (l.drop (j + 2)) ldr
    have hD0 : ∀ xs ys : List Nat, xs.length + ys.length ≤ 7 → D6 true (some xs) (some ys) = some (xs ++ List.replicate (8 - xs.length - ys.length) 0 ++ ys) := fun xs ys h => by
      show (if decide (xs.length + ys.length ≤ 7) = true then some (xs ++ List.replicate (8 - xs.length - ys.length) 0 ++ ys) else none) = _
      rw [if_pos (decide_eq_true h)]
    have hD1 : ∀ xs ys : List Nat, ¬ xs.length + ys.length ≤ 7 → D6 true (some xs) (some ys) = none := fun xs ys h => by
      show (if decide (xs.length + ys.length ≤ 7) = true then some (xs ++ List.replicate (8 - xs.length - ys.length) 0 ++ ys) else none) = _
      rw [if_neg (by rw [decide_eq_false h]; decide)]
    by_cases hj0 : j = 0
    · have hj0i : ¬ (0 : Int) < (j : Int) := by omega
      by_cases hyt : j + 2 < l.length
      · have hyi : ((j + 2 : Nat) : Int) < (l.length : Int) := by omega
        rw [ip6_B l j hf [] (spl 58 (l.drop (j + 2))) (by rw [if_pos hj0]) (by rw [if_pos hyt]), hempty]
        cases hq : pcl true (spl 58 (l.drop (j + 2))) with
        | none => exact r6_B01_N3 l l _ [] _ [] [] l.length 0 _ 0 0 0 j w rfl hl h0 hjS hj0i (j + 2) (by omega) hyi ty rfl (rspl8 _ ldr) (hnil false) (rrow8 _ true none hq y1 y2)
        | some ys =>
          have hyl := (pcl_len true _ _ hq).1
          by_cases h7 : ([] : List Nat).length + ys.length ≤ 7
          · rw [hD0 [] ys h7]
            exact r6_B01_O l l _ [] _ [] ys l.length 0 _ 0 ys.length ys.length j w rfl hl h0 hjS hj0i (j + 2) (by omega) hyi ty rfl (rspl8 _ ldr) (hnil false) (rrow8 _ true _ hq y1 y2) (by omega) (by omega) (by rw [List.length_nil] at h7; omega) (by rw [List.length_nil] at h7; omega) rfl rfl _ rfl
          · rw [hD1 [] ys h7]
            exact r6_B01_F l l _ [] _ [] ys l.length 0 _ 0 ys.length ys.length j w rfl hl h0 hjS hj0i (j + 2) (by omega) hyi ty rfl (rspl8 _ ldr) (hnil false) (rrow8 _ true _ hq y1 y2) (by omega) (by omega) (by rw [List.length_nil] at h7; omega)
      · have hyi : ¬ ((j + 2 : Nat) : Int) < (l.length : Int) := by omega
        rw [ip6_B l j hf [] [] (by rw [if_pos hj0]) (by rw [if_neg hyt]), hempty, hempty, hD0 [] [] (by decide)]
        exact r6_B00_O l l l [] [] [] [] l.length 0 0 0 0 0 j w rfl hl h0 hjS hj0i (j + 2) (by omega) hyi rfl rfl (hnil false) (hnil true) (by omega) (by omega) (by omega) (by omega) rfl rfl _ rfl
    · have hj0i : (0 : Int) < (j : Int) := by omega
      by_cases hyt : j + 2 < l.length
      · have hyi : ((j + 2 : Nat) : Int) < (l.length : Int) := by omega
        rw [ip6_B l j hf (spl 58 (l.take j)) (spl 58 (l.drop (j + 2))) (by rw [if_neg hj0]) (by rw [if_pos hyt])]
        cases hp : pcl false (spl 58 (l.take j)) with
        | none =>
          cases hq : pcl true (spl 58 (l.drop (j + 2))) with
          | none => exact r6_B11_N1 l _ _ _ _ [] [] l.length _ _ 0 0 0 j w rfl hl h0 hjS hj0i tx (j + 2) (by omega) hyi ty (rspl8 _ ltk) (rspl8 _ ldr) (rrow8 _ false none hp x1 x2) (rrow8 _ true none hq y1 y2)
          | some ys => exact r6_B11_N2 l _ _ _ _ [] ys l.length _ _ 0 ys.length 0 j w rfl hl h0 hjS hj0i tx (j + 2) (by omega) hyi ty (rspl8 _ ltk) (rspl8 _ ldr) (rrow8 _ false none hp x1 x2) (rrow8 _ true _ hq y1 y2)
        | some xs =>
          have hxl := (pcl_len false _ _ hp).1
          cases hq : pcl true (spl 58 (l.drop (j + 2))) with
          | none => exact r6_B11_N3 l _ _ _ _ xs [] l.length _ _ xs.length 0 0 j w rfl hl h0 hjS hj0i tx (j + 2) (by omega) hyi ty (rspl8 _ ltk) (rspl8 _ ldr) (rrow8 _ false _ hp x1 x2) (rrow8 _ true none hq y1 y2)
          | some ys =>
            have hyl := (pcl_len true _ _ hq).1
            by_cases h7 : xs.length + ys.length ≤ 7
            · rw [hD0 xs ys h7]
              exact r6_B11_O l _ _ _ _ xs ys l.length _ _ xs.length ys.length (xs.length + ys.length) j w rfl hl h0 hjS hj0i tx (j + 2) (by omega) hyi ty (rspl8 _ ltk) (rspl8 _ ldr) (rrow8 _ false _ hp x1 x2) (rrow8 _ true _ hq y1 y2) (by omega) (by omega) (by omega) (by omega) rfl rfl _ rfl
            · rw [hD1 xs ys h7]
              exact r6_B11_F l _ _ _ _ xs ys l.length _ _ xs.length ys.length (xs.length + ys.length) j w rfl hl h0 hjS hj0i tx (j + 2) (by omega) hyi ty (rspl8 _ ltk) (rspl8 _ ldr) (rrow8 _ false _ hp x1 x2) (rrow8 _ true _ hq y1 y2) (by omega) (by omega) (by omega)
      · have hyi : ¬ ((j + 2 : Nat) : Int) < (l.length : Int) := by omega
        rw [ip6_B l j hf (spl 58 (l.take j)) [] (by rw [if_neg hj0]) (by rw [if_neg hyt]), hempty]
        cases hp : pcl false (spl 58 (l.take j)) with
        | none => exact r6_B10_N2 l _ l _ [] [] [] l.length _ 0 0 0 0 j w rfl hl h0 hjS hj0i tx (j + 2) (by omega) hyi (rspl8 _ ltk) rfl (rrow8 _ false none hp x1 x2) (hnil true)
        | some xs =>
          have hxl := (pcl_len false _ _ hp).1
          by_cases h7 : xs.length + ([] : List Nat).length ≤ 7
          · rw [hD0 xs [] h7]
            exact r6_B10_O l _ l _ [] xs [] l.length _ 0 xs.length 0 xs.length j w rfl hl h0 hjS hj0i tx (j + 2) (by omega) hyi (rspl8 _ ltk) rfl (rrow8 _ false _ hp x1 x2) (hnil true) (by omega) (by omega) (by rw [List.length_nil] at h7; omega) (by rw [List.length_nil] at h7; omega) rfl rfl _ rfl
          · rw [hD1 xs [] h7]
            exact r6_B10_F l _ l _ [] xs [] l.length _ 0 xs.length 0 xs.length j w rfl hl h0 hjS hj0i tx (j + 2) (by omega) hyi (rspl8 _ ltk) rfl (rrow8 _ false _ hp x1 x2) (hnil true) (by omega) (by omega) (by rw [List.length_nil] at h7; omega)
end Go.Proofs.YtcepigekibidfaaGreatDoor
