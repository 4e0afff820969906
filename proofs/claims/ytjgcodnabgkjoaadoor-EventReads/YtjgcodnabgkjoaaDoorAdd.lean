/-
  What number.add, slices.Clone, number.Put and number.PutText do: the bytes that they answer, in memory of their own; what was there stays. Condition: slices of at most 800000000 bytes.
-/
import Derived.Test.YtjgcodnabgkjoaaDoorMem
import Derived.Test.YtjgcodnabgkjoaaDoorNumPlain
namespace Go.Proofs.YtjgcodnabgkjoaaDoor
open Go.RowKit

theorem or_byte (m : Nat) : bits .or .u8 ((m : Int) % 256) 128 = ((UInt8.ofNat (m % 128 + 128)).toNat : Int) := by
  rw [toNat_ofNat_lt _ (by omega)]
  have h : bits .or .u8 (((m % 256 : Nat)) : Int) ((128 : Nat) : Int) = ((m % 256 ||| 128 : Nat) : Int) := by
    exact u8_or_nat _ _ (by omega) (by omega)
  have e : ((m % 256 : Nat) : Int) = (m : Int) % 256 := by omega
  rw [e] at h
  rw [show ((128 : Nat) : Int) = 128 from rfl] at h
  rw [h, or_128 _ (by omega)]
  omega
theorem low_byte (m : Nat) (h : m < 128) : (m : Int) = ((UInt8.ofNat m).toNat : Int) := by
  rw [toNat_ofNat_lt _ (by omega)]

set_option maxHeartbeats 400000 in
theorem add_any (base n : Nat) (v : Value) (l : List UInt8) (N : Nat) (w : World) (hN : N < 18446744073709551616) (hn : n ≤ 900000000)
    (h : Own w base v n l) (hb : base ≤ w.heap.size) :
    Calls Tryd.prog 50 #[v, .int .u64 N] w fun e w' => ∃ v', e = .returned v' ∧ Own w' base v' (n + (leb N).length) (l ++ leb N) ∧ Below base w w' := by
  go_enter Tryd.func50, Tryd.ntmps50
  go_wp2_with fail
  go_loopw [0, 1] (fun v x wr => ∃ (m : Nat) (pre : List UInt8), m < 18446744073709551616 ∧ x = .int .u64 m ∧ pre ++ leb m = leb N ∧ Own wr base v (n + pre.length) (l ++ pre) ∧ Below base w wr)
    (fun _ x _ => (intOf x).toNat)
  case atStart => exact ⟨N, [], hN, rfl, rfl, by simpa using h, Below.refl _ _⟩
  case round =>
    obtain ⟨m, pre, hm, rfl, hpre, hown, hbel⟩ := hrel
    have hpl : pre.length ≤ 10 := by
      have := congrArg List.length hpre
      have := leb_len10 hN
      simp at *
      omega
    have HP := Lib.hid hpre
    clear hpre h
    have hsz := hbel.size
    by_cases hlt : 127 < m
    · go_wp2_with (at_builtin; refine wp_app _ rfl (.tmp 9) (.tmp 13) rfl base _ (n + pre.length) (l ++ pre) rfl (hown.alloc _) (wr.heap.size + 1) _ 1 1 [UInt8.ofNat (m % 128 + 128)] rfl (Bs.one' _ _ _ (or_byte m)) (by omega) (by simp; omega) ?_; intro v1 w1 hown1 hbel1)
      go_roundw
      case rel =>
        refine ⟨m / 128, pre ++ [UInt8.ofNat (m % 128 + 128)], by omega, by go_num, ?_, ?_, hbel.trans (((Below.refl _ _).alloc (by omega) _).trans hbel1)⟩
        · rw [← HP.out, leb_ge (n := m) (by omega)]; simp
        · rw [List.length_append, ← List.append_assoc, List.length_singleton, ← Nat.add_assoc]; exact hown1
      case measure => simp [intOf]; omega
    · go_wp2_with (at_builtin; refine wp_app _ rfl (.tmp 15) (.tmp 18) rfl base _ (n + pre.length) (l ++ pre) rfl (hown.alloc _) (wr.heap.size + 1) _ 1 1 [UInt8.ofNat m] rfl (Bs.one' _ _ _ (low_byte m (by omega))) (by omega) (by simp; omega) ?_; intro v1 w1 hown1 hbel1)
      go_ret
      refine ⟨v1, rfl, ?_, hbel.trans (((Below.refl _ _).alloc (by omega) _).trans hbel1)⟩
      rw [← HP.out, leb_lt (n := m) (by omega), List.length_append, ← List.append_assoc, List.length_singleton, ← Nat.add_assoc]
      exact hown1

set_option maxHeartbeats 400000 in
/-- slices.Clone: the same bytes in a row of the call's own (nil stays nil). -/
theorem clone_any (A : Option Addr) (n c : Nat) (l : List UInt8) (w : World) (h : Bs w w.heap.size A n l) (hn : n ≤ 900000000) :
    Calls Tryd.prog 51 #[.slice A n c] w fun e w' => ∃ v', e = .returned v' ∧ Own w' w.heap.size v' n l ∧ Below w.heap.size w w' := by
  have hnil := fun W => Lib.run_eql_slice_nil (P := Tryd.prog) W 27 5 A n c 0 0 Tryd.underlying27
  rcases A with _ | ad
  · obtain ⟨rfl, rfl⟩ := h.nil_
    go_enter Tryd.func51, Tryd.ntmps51
    go_wp2_with fail
    go_ret
    exact ⟨_, rfl, World.ownsRow_nil _ _ _ _, Below.refl _ _⟩
  · go_enter Tryd.func51, Tryd.ntmps51
    go_wp2_with (at_builtin; refine wp_app _ rfl (.tmp 5) (.tmp 6) rfl w.heap.size _ 0 [] rfl (World.ownsRow_made _ _ _ (Nat.le_refl _) (by decide) rfl) w.heap.size _ n c l rfl (h.alloc (Nat.le_refl _) _) (by omega) (by simp) ?_; intro v1 w1 hown1 hbel1)
    go_ret
    exact ⟨v1, rfl, by simpa using hown1, ((Below.refl _ _).alloc (Nat.le_refl _) _).trans hbel1⟩

/-- What a call that writes bytes answers: a slice of n bytes l in a row of its own; nothing that was there has turned. -/
def Gives (w : World) (n : Nat) (l : List UInt8) (e : Ending) (w' : World) : Prop :=
  ∃ A c, e = .returned (.slice A n c) ∧ n ≤ c ∧ Bs w' w'.heap.size A n l ∧ Own w' w.heap.size (.slice A n c) n l ∧ Below w.heap.size w w'
theorem Gives.mk {w w' : World} {n : Nat} {l : List UInt8} {v : Value} (h : Own w' w.heap.size v n l) (hb : Below w.heap.size w w') : Gives w n l (.returned v) w' := by
  obtain ⟨A, c, rfl, hc, hs⟩ := h.form
  exact ⟨A, c, rfl, hc, hs, h, hb⟩

set_option maxHeartbeats 400000 in
theorem put_any (A : Option Addr) (n c : Nat) (l : List UInt8) (N : Nat) (w : World) (h : Bs w w.heap.size A n l) (hn : n ≤ 900000000) (hN : N < 18446744073709551616) :
    Calls Tryd.prog 38 #[.slice A n c, .int .u64 N] w (Gives w (n + (leb N).length) (l ++ leb N)) := by
  go_enter Tryd.func38, Tryd.ntmps38
  go_wp2_with fail
  refine (clone_any A n c l w h hn).mono ?_
  rintro e w1 ⟨v1, rfl, hown1, hbel1⟩
  have hz := hbel1.size
  go_wp2_with fail
  refine (add_any w.heap.size n v1 l N w1 hN hn hown1 hz).mono ?_
  rintro e w2 ⟨v2, rfl, hown2, hbel2⟩
  go_wp2_with fail
  go_ret
  exact Gives.mk hown2 (hbel1.trans hbel2)

set_option maxHeartbeats 400000 in
theorem putText_any (A : Option Addr) (n c : Nat) (l k : List UInt8) (w : World) (h : Bs w w.heap.size A n l) (hn : n ≤ 800000000) (hk : k.length ≤ 1000000) :
    Calls Tryd.prog 41 #[.slice A n c, .string (str k)] w (Gives w (n + (leb k.length).length + k.length) (l ++ leb k.length ++ k)) := by
  have hs := str_size k
  have hl := leb_len10 (n := k.length) (by omega)
  go_enter Tryd.func41, Tryd.ntmps41
  go_wp2_with fail
  refine (clone_any A n c l w h (by omega)).mono ?_
  rintro e w1 ⟨v1, rfl, hown1, hbel1⟩
  have hz1 := hbel1.size
  go_wp2_with fail
  refine (add_any w.heap.size n v1 l k.length w1 (by omega) (by omega) hown1 hz1).mono ?_
  rintro e w2 ⟨v2, rfl, hown2, hbel2⟩
  have hz2 := hbel2.size
  go_wp2_with (at_builtin; refine wp_appStr _ rfl (.tmp 10) (.tmp 11) rfl w.heap.size v2 (n + (leb k.length).length) (l ++ leb k.length) rfl hown2 k rfl (by omega) (by omega) ?_; intro v3 w3 hown3 hbel3)
  go_ret
  exact Gives.mk hown3 ((hbel1.trans hbel2).trans hbel3)
end Go.Proofs.YtjgcodnabgkjoaaDoor
