/-
  What sha.ending and sha.xored answer: new rows of bytes; nothing that was in memory turns. Condition: at most 2000000000 bytes.
-/
import Derived.Test.YtiigmpoopmnnhaaDoorMore
namespace Go.Proofs.YtiigmpoopmnnhaaDoor
open Go.RowKit

theorem own_one (w : World) (base : Nat) (c : UInt8) (hb : base ≤ w.heap.size) : Own (w.alloc (.cells #[vb c] 5)) base (.slice (some ⟨w.heap.size, 0, none⟩) 1 1) 1 [c] :=
  ⟨rfl, .inr ⟨w.heap.size, 1, #[vb c], rfl, hb, Go.heap_alloc_new w _, Nat.le_refl _, by decide, rfl, by simp [vbs]⟩⟩
theorem Own.capmax {w : World} {base n c : Nat} {A : Option Addr} {l : List UInt8} (h : Own w base (.slice A n c) n l) : c ≤ 9223372036854775807 := by
  rcases h.2 with ⟨e, _⟩ | ⟨g, cap, cur, e, _, _, _, hm, _⟩
  · injection e with _ _ e
    omega
  · injection e with _ _ e
    subst e
    exact hm
/-- What a call that makes bytes answers: a slice of n bytes l in a row of its own; nothing that was there has turned. -/
def Gives (w : World) (n : Nat) (l : List UInt8) (e : Ending) (w' : World) : Prop :=
  ∃ A c, e = .returned (.slice A n c) ∧ n ≤ c ∧ c ≤ 9223372036854775807 ∧ Bs w' w'.heap.size A n l ∧ Below w.heap.size w w'
theorem Gives.mk {w w' : World} {n : Nat} {l : List UInt8} {v : Value} (h : Own w' w.heap.size v n l) (hb : Below w.heap.size w w') : Gives w n l (.returned v) w' := by
  obtain ⟨A, c, rfl, hc, hs⟩ := h.form
  exact ⟨A, c, rfl, hc, h.capmax, hs, hb⟩
theorem byte_int (x : Nat) : ((x : Int) % 256) = ((UInt8.ofNat x).toNat : Int) := by simp

/-- The first j bytes of a number, behind those that fill up. -/
def endk (n j : Nat) : List UInt8 := 128 :: (List.replicate (zerosFor n) 0 ++ (be8 (8 * n)).take j)
theorem endk_more (n j : Nat) (h : j < 8) : endk n j ++ [UInt8.ofNat (8 * n / 2 ^ (56 - 8 * j))] = endk n (j + 1) := by
  have hl : j < (be8 (8 * n)).length := by rw [be8_length]; exact h
  have e : (be8 (8 * n))[j] = UInt8.ofNat (8 * n / 2 ^ (56 - 8 * j)) := by simp [be8]
  simp only [endk, List.take_succ_eq_append_getElem hl, e]
  simp

set_option maxHeartbeats 1000000 in
theorem ending_any (n : Nat) (w : World) (hn : n ≤ 2000000000) : Calls Tryd.prog 23 #[.int .u64 n] w fun e w' => Gives w (ending n).length (ending n) e w' := by
  go_enter Tryd.func23, Tryd.ntmps23
  go_wp2_with fail
  go_loopw [3] (fun v wr => ∃ (A : Option Addr) (N c k : Nat), v = .slice A N c ∧ N = k + 1 ∧ k ≤ zerosFor n ∧ Own wr w.heap.size (.slice A N c) N (128 :: List.replicate k 0) ∧ Below w.heap.size w wr) (fun v _ => match v with | .slice _ N _ => 100 - N | _ => 0)
  case atStart => exact ⟨_, _, _, 0, rfl, rfl, Nat.zero_le _, own_one w w.heap.size 128 (Nat.le_refl _), (Below.refl _ _).alloc (Nat.le_refl _) _⟩
  case round =>
    obtain ⟨A, N, c, k, rfl, hN, hk, hown, hbel⟩ := hrel
    have hz := zerosFor_le n
    have hsz := hbel.size
    obtain ⟨M, hM⟩ : ∃ M, M = n + N := ⟨_, rfl⟩
    have e1 : (n : Int) + (N : Int) = (M : Int) := by omega
    obtain ⟨q, hq⟩ : ∃ q, M % 64 = q := ⟨_, rfl⟩
    have e2 : (M : Int) % 64 = (q : Int) := by omega
    have lM : M ≤ 3000000000 := by omega
    have lN : N ≤ 64 := by omega
    by_cases hlt : k < zerosFor n
    · have hg := zerosFor_goes n k hlt
      have hne : ¬ q = 56 := by rw [← hq, hM, hN, show n + (k + 1) = n + 1 + k by omega]; exact hg
      have hne2 : ¬ (q : Int) = 56 := by omega
      have HK := Lib.hid (And.intro hN (And.intro hM (And.intro hq hlt)))
      clear hM hq hN hg
      go_wp2_with (at_builtin; refine wp_appS _ rfl (.tmp 13) (.tmp 14) rfl w.heap.size _ N (128 :: List.replicate k 0) rfl (hown.alloc _) (wr.heap.size + 1) _ 1 1 [0] rfl (Bs.one' _ _ _ rfl) (by omega) (by simp; omega) (N + 1) (128 :: List.replicate (k + 1) 0) rfl (by simp [List.replicate_succ']) ?_; intro A1 c1 w1 hc1 hS1 hown1 hbel1)
      go_roundw
      case rel =>
        exact ⟨A1, N + 1, c1, k + 1, rfl, by rw [HK.out.1], HK.out.2.2.2, hown1, hbel.trans (((Below.refl _ _).alloc (by omega) _).trans hbel1)⟩
      case measure => simp; omega
    · have hkz : k = zerosFor n := by omega
      subst hkz
      have hg := zerosFor_stop n
      have heq : q = 56 := by rw [← hq, hM, hN, show n + (zerosFor n + 1) = n + 1 + zerosFor n by omega]; exact hg
      subst heq
      have HK := Lib.hid (And.intro hN hM)
      have hown0 : Own wr w.heap.size (.slice A N c) N (endk n 0) := by simpa [endk] using hown
      clear hM hq hN hg hown
      go_wp2_with fail
      obtain ⟨P8, hP8⟩ : ∃ P, P = 8 * n := ⟨_, rfl⟩
      have e3 : (8 : Int) * (n : Int) = (P8 : Int) := by omega
      have lP8 : P8 ≤ 16000000000 := by omega
      have HP8 := Lib.hid hP8
      clear hP8 e1 e2 lM hlt hk
      go_loopw [3, 4] (fun v x ws => ∃ (A : Option Addr) (N c j : Nat) (i : Int), v = .slice A N c ∧ x = .int .i64 i ∧ N ≤ 64 + j ∧ j ≤ 8 ∧ i = 56 - 8 * (j : Int) ∧ Own ws w.heap.size (.slice A N c) N (endk n j) ∧ Below w.heap.size w ws) (fun _ x _ => (intOf x + 8).toNat)
      case atStart => exact ⟨A, N, c, 0, 56, rfl, rfl, by omega, by omega, by omega, hown0, hbel⟩
      case round =>
        obtain ⟨A, N, c, j, i, rfl, rfl, hN, hj, hi, hown, hbelr⟩ := hrel
        have hszr := hbelr.size
        by_cases h8 : j < 8
        · obtain ⟨sh, hsh⟩ : ∃ sh : Nat, i = (sh : Int) := ⟨56 - 8 * j, by omega⟩
          have hsj : sh = 56 - 8 * j := by omega
          subst hsh
          have ls : sh ≤ 64 := by omega
          obtain ⟨y, hy, e4⟩ : ∃ y : Nat, P8 / 2 ^ sh = y ∧ (P8 : Int) / 2 ^ sh = (y : Int) := ⟨_, rfl, by simp⟩
          have hE : endk n j ++ [UInt8.ofNat y] = endk n (j + 1) := by
            rw [← hy, hsj, HP8.out]
            exact endk_more n j h8
          have HH := Lib.hid (And.intro hi (And.intro hy hsj))
          have HE := Lib.hid hE
          clear hi hy hsj hE
          go_wp2_with (at_builtin; refine wp_appS _ rfl (.tmp 20) (.tmp 26) rfl w.heap.size _ N (endk n j) rfl (hown.alloc _) (wr.heap.size + 1) _ 1 1 [UInt8.ofNat y] rfl (Bs.one' _ _ _ (byte_int y)) (by omega) (by simp; omega) (N + 1) (endk n (j + 1)) rfl HE.out ?_; intro A1 c1 w1 hc1 hS1 hown1 hbel1)
          go_roundw
          case rel =>
            have := HH.out.1
            exact ⟨A1, N + 1, c1, j + 1, _, rfl, rfl, by omega, by omega, by omega, hown1, hbelr.trans (((Below.refl _ _).alloc (by omega) _).trans hbel1)⟩
          case measure =>
            simp [intOf]
            omega
        · have hj8 : j = 8 := by omega
          subst hj8
          have hi8 : i = -8 := by omega
          subst hi8
          clear hi
          have hN1 := hown.len
          have hE : endk n 8 = ending n := by
            simp [endk, ending, List.take_of_length_le, be8_length]
          go_wp2_with fail
          go_ret
          rw [← hE, hN1]
          exact Gives.mk hown hbelr
end Go.Proofs.YtiigmpoopmnnhaaDoor
