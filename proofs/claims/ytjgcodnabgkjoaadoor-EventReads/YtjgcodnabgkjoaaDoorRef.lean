/-
  What the document's own answers of layer 1 (transeptref01.Put, PutText, begins, Get, Text) answer; what was there stays. Conditions: texts of at most 1000000 bytes.
-/
import Derived.Test.YtjgcodnabgkjoaaDoorMem
import Derived.Test.YtjgcodnabgkjoaaDoorNumPlain
import Derived.Deep.RegionWith
namespace Go.Proofs.YtjgcodnabgkjoaaDoor
open Go.RowKit

theorem run_str1 (W : World) (b : Nat) (x : Int) (c : UInt8) (hx : x = (c.toNat : Int)) (h : W.cell? ⟨b, 0, none⟩ = some (.int .u8 x)) :
    (convert 27 9 (.slice (some ⟨b, 0, none⟩) 1 1)).run Tryd.prog W = .ok (.string (str [c])) W := by
  subst hx
  refine run_str W (b + 1) _ 1 1 [c] ⟨rfl, fun _ => ⟨b, 0, rfl, by omega, fun j u hj => ?_⟩⟩
  match j, hj with
  | 0, hj =>
    simp at hj
    subst hj
    exact h
theorem str_append (l k : List UInt8) : str l ++ str k = str (l ++ k) := by
  apply ByteArray.ext
  apply Array.ext'
  simp [str]

theorem keep1 (w w1 : World) (x : Int) (hb : Below (w.alloc (.cells #[.int .u8 x] 5)).drew.heap.size (w.alloc (.cells #[.int .u8 x] 5)).drew w1) : w1.cell? ⟨w.heap.size, 0, none⟩ = some (.int .u8 x) :=
  (hb.cell (p := ⟨w.heap.size, 0, none⟩) (by simp)).trans (by simp)

theorem fin_a (w w1 : World) (o : Obj) (hb : Below (w.alloc o).drew.heap.size (w.alloc o).drew w1) : Below w.heap.size w w1 :=
  ((Below.refl _ _).alloc (Nat.le_refl _) o).drew.trans (hb.mono (by simp))
theorem fin_b (w w1 : World) (o : Obj) (hb : Below w.drew.heap.size w.drew w1) : Below w.heap.size w (w1.alloc o) :=
  ((Below.refl w.heap.size w).drew.trans hb).alloc hb.size o

set_option maxHeartbeats 1000000 in
set_option maxRecDepth 100000 in
theorem refPut_any : ∀ (f n : Nat) (w : World), n < f → n < 18446744073709551616 →
    Calls Tryd.prog 43 #[.int .u64 n] w fun e w' => e = .returned (.string (str (leb n))) ∧ Below w.heap.size w w' := by
  intro f
  induction f with
  | zero => intro n w h; omega
  | succ f ih =>
    intro n w hf hn
    have IH := Lib.hid ih
    clear ih
    by_cases h : n < 128
    · obtain ⟨c, hc⟩ : ∃ c, c = UInt8.ofNat n := ⟨_, rfl⟩
      have hcv := fun W b => run_str1 W b n c (by rw [hc]; simp; omega)
      have HC := Lib.hid hc
      clear hc
      go_enter Tryd.func43, Tryd.ntmps43
      go_wp2_with fail
      go_ret
      exact ⟨by rw [leb_lt h, ← HC.out]; rfl, (Below.refl _ _).alloc (Nat.le_refl _) _⟩
    · obtain ⟨c, hc⟩ : ∃ c, c = UInt8.ofNat (n % 128 + 128) := ⟨_, rfl⟩
      obtain ⟨x, hx⟩ : ∃ x : Int, x = c.toNat := ⟨_, rfl⟩
      obtain ⟨q, hq⟩ : ∃ q, q = n / 128 := ⟨_, rfl⟩
      have hcv := fun W b => run_str1 W b x c hx
      have e1 : IntKind.u8.wrap (IntKind.u64.wrap (Int.tmod (n : Int) 128 + 128)) = x := by
        rw [hx, hc, IntKind.wrap_u8, IntKind.wrap_u64, Int.tmod_eq_emod_of_nonneg (by omega)]
        simp
      have e2 : IntKind.u64.wrap ((n : Int) / 128) = (q : Int) := by
        rw [IntKind.wrap_u64, hq]
        omega
      have hq1 : q < f := by omega
      have hq2 : q < 18446744073709551616 := by omega
      have hs1 : (str [c]).size = 1 := rfl
      have hs2 : (str (leb q)).size = (leb q).length := str_size _
      have hs3 := leb_len10 hq2
      have HL : Hid (leb n = c :: leb q) := by show leb n = _; rw [leb_ge (by omega), hc, hq]
      clear hc hx hq
      have IHq := Lib.hid fun W => IH.out q W hq1 hq2
      clear IH
      go_enter Tryd.func43, Tryd.ntmps43
      go_wp2_with fail
      go_region_with (go_at_call 43; refine (IHq.out _).mono ?_; rintro e w1 ⟨rfl, hb1⟩; try (have hx1 := keep1 w w1 x hb1))
      all_goals
        go_wp2_with fail
        go_ret
        refine ⟨?_, by first | exact fin_a _ _ _ hb1 | exact fin_b _ _ _ hb1⟩
        rw [HL.out]
        exact congrArg (fun s => Ending.returned (.string s)) (str_append [c] (leb q))
end Go.Proofs.YtjgcodnabgkjoaaDoor
