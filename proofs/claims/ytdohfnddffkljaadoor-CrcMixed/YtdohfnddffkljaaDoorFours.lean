/-
  transeptlaw02.CrcFours returns true, whatever three numbers it is called with, and turns nothing that was there. Condition: the table's cells hold what the program's text lays.
-/
import Derived.Test.YtdohfnddffkljaaDoorShown
namespace Go.Proofs.YtdohfnddffkljaaDoor
open Go.RowKit

/-- The four bytes of a number as the laws' literals lay them. -/
theorem bs_four (w : World) (b g : Nat) (hg : g = w.heap.size) (x0 x1 x2 x3 : Int) (hb : b < 4294967296) (h0 : x0 = (b : Int) % 256) (h1 : x1 = (b : Int) / 256 % 256) (h2 : x2 = (b : Int) / 65536 % 256) (h3 : x3 = (b : Int) / 16777216) :
    Bs (w.alloc (.cells #[.int .u8 x0, .int .u8 x1, .int .u8 x2, .int .u8 x3] 5)) (g + 1) (some ⟨g, 0, none⟩) 4 (four b) := by
  have e : ∀ k, ((UInt8.ofNat k).toNat : Int) = ((k % 256 : Nat) : Int) := fun k => by simp
  have := Bs.new w (four b) #[.int .u8 x0, .int .u8 x1, .int .u8 x2, .int .u8 x3] (by
    simp only [vbs, four, vb, List.map_cons, List.map_nil, e, h0, h1, h2, h3]
    rw [show ((b % 256 : Nat) : Int) = (b : Int) % 256 by omega, show ((b / 256 % 256 : Nat) : Int) = (b : Int) / 256 % 256 by omega, show ((b / 65536 % 256 : Nat) : Int) = (b : Int) / 65536 % 256 by omega, show ((b / 16777216 % 256 : Nat) : Int) = (b : Int) / 16777216 by omega]) 4 rfl
  subst hg
  simpa using this
theorem eq_dec {p q b c : Nat} (h : p = q ↔ b = c) : ∃ t : Bool, ((p : Int) == (q : Int)) = t ∧ ((b : Int) == (c : Int)) = t := by
  by_cases e : b = c
  · exact ⟨true, by simp [h.2 e], by simp [e]⟩
  · exact ⟨false, by simp; intro he; exact e (h.1 (by omega)), by simp; omega⟩

set_option maxHeartbeats 2000000 in
set_option maxRecDepth 100000 in
theorem fours_walk (a b c : Nat) (w : World) (ha : a < 4294967296) (hb : b < 4294967296) (hc : c < 4294967296) (ht : Tab w) :
    Calls Tryd.prog 6 #[.int .u32 a, .int .u32 b, .int .u32 c] w fun e w' => e = .returned (.bool true) ∧ Below w.heap.size w w' := by
  obtain ⟨d, hd⟩ : ∃ d, d = a ^^^ b := ⟨_, rfl⟩
  have e1 := u32_xor_nat a b ha hb
  rw [← hd] at e1
  have hdl : d < 4294967296 := by rw [hd]; exact xor_lt ha hb
  obtain ⟨p, hp⟩ : ∃ p, more a (four b) = p := ⟨_, rfl⟩
  obtain ⟨q, hq⟩ : ∃ q, more a (four c) = q := ⟨_, rfl⟩
  have HD : Hid (more 0 (four d) = p) := by show more 0 (four d) = p; rw [hd, ← hp]; exact (more_four0 a b ha hb).symm
  obtain ⟨t, t1, t2⟩ := eq_dec (p := p) (q := q) (b := b) (c := c) (by rw [← hp, ← hq]; exact more_four a b c ha hb hc)
  have HP := Lib.hid hp
  have HQ := Lib.hid hq
  clear hd hp hq
  go_enter Tryd.func6, Tryd.ntmps6
  go_wp2_with fail
  refine (shown_any w ht).mono ?_
  rintro e w1 ⟨rfl, hb1⟩
  have ht1 := ht.below hb1
  have hz1 := hb1.size
  go_wp2_with fail
  refine (more_of a ha (four b) p HP.out (((ht1.alloc _).alloc _).alloc _) (((bs_four w1 b w1.heap.size rfl _ _ _ _ hb rfl rfl rfl rfl).alloc (by simp) _).alloc (by simp) _) (by omega)).mono ?_
  rintro e w2 ⟨rfl, rfl⟩
  go_wp2_with fail
  refine (more_of a ha (four c) q HQ.out (((ht1.alloc _).alloc _).alloc _) ((bs_four (w1.alloc _) c (w1.heap.size + 1) (by simp) _ _ _ _ hc rfl rfl rfl rfl).alloc (by simp) _) (by omega)).mono ?_
  rintro e w2 ⟨rfl, rfl⟩
  go_wp2_with fail
  refine (more_of a ha (four b) p HP.out (((ht1.alloc _).alloc _).alloc _) (((bs_four w1 b w1.heap.size rfl _ _ _ _ hb rfl rfl rfl rfl).alloc (by simp) _).alloc (by simp) _) (by omega)).mono ?_
  rintro e w2 ⟨rfl, rfl⟩
  go_wp2_with fail
  refine (more_of 0 (by omega) (four d) p HD.out (((ht1.alloc _).alloc _).alloc _) (bs_four ((w1.alloc _).alloc _) d (w1.heap.size + 1 + 1) (by simp) _ _ _ _ hdl rfl rfl rfl rfl) (by omega)).mono ?_
  rintro e w2 ⟨rfl, rfl⟩
  go_wp2_with fail
  go_ret
  exact ⟨rfl, ((hb1.alloc hz1 _).alloc (by simp; omega) _).alloc (by simp; omega) _⟩
end Go.Proofs.YtdohfnddffkljaaDoor
