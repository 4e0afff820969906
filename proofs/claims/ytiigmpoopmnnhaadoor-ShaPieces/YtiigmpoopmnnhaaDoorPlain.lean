/-
  The mathematics of SHA-256 and of its states, over plain numbers and lists of bytes. No condition; nothing of the program.
-/
namespace Go.Proofs.YtiigmpoopmnnhaaDoor

def add (x y : Nat) : Nat := (x + y) % 4294967296
def turn (x n : Nat) : Nat := x / 2 ^ n ||| x * 2 ^ (32 - n) % 4294967296
def mixT (x a b c : Nat) : Nat := turn x a ^^^ turn x b ^^^ turn x c
def mixS (x a b c : Nat) : Nat := turn x a ^^^ turn x b ^^^ x / 2 ^ c
def ch (e f g : Nat) : Nat := (e &&& f) ^^^ ((4294967295 ^^^ e) &&& g)
def maj (a b c : Nat) : Nat := (a &&& b) ^^^ (a &&& c) ^^^ (b &&& c)
def byteAt (b : List UInt8) (i : Nat) : Nat := (b.getD i 0).toNat
/-- Four bytes as a word, the highest first. -/
def wordAt (b : List UInt8) (i : Nat) : Nat := ((byteAt b i * 256 + byteAt b (i + 1)) * 256 + byteAt b (i + 2)) * 256 + byteAt b (i + 3)
def nextW (l : List Nat) (i : Nat) : Nat := add (add (add (l.getD (i - 16) 0) (mixS (l.getD (i - 15) 0) 7 18 3)) (l.getD (i - 7) 0)) (mixS (l.getD (i - 2) 0) 17 19 10)
/-- The first i words of a block. -/
def sch (b : List UInt8) : Nat → List Nat
  | 0 => []
  | i + 1 => sch b i ++ [if i < 16 then wordAt b (4 * i) else nextW (sch b i) i]
def cubes : List Nat := [1116352408, 1899447441, 3049323471, 3921009573, 961987163, 1508970993, 2453635748, 2870763221, 3624381080, 310598401, 607225278, 1426881987, 1925078388, 2162078206, 2614888103, 3248222580, 3835390401, 4022224774, 264347078, 604807628, 770255983, 1249150122, 1555081692, 1996064986, 2554220882, 2821834349, 2952996808, 3210313671, 3336571891, 3584528711, 113926993, 338241895, 666307205, 773529912, 1294757372, 1396182291, 1695183700, 1986661051, 2177026350, 2456956037, 2730485921, 2820302411, 3259730800, 3345764771, 3516065817, 3600352804, 4094571909, 275423344, 430227734, 506948616, 659060556, 883997877, 958139571, 1322822218, 1537002063, 1747873779, 1955562222, 2024104815, 2227730452, 2361852424, 2428436474, 2756734187, 3204031479, 3329325298]
/-- The eight words. -/
structure E8 where
  (a b c d e f g h : Nat)
def E8.list (s : E8) : List Nat := [s.a, s.b, s.c, s.d, s.e, s.f, s.g, s.h]
def E8.ok (s : E8) : Prop := s.a < 4294967296 ∧ s.b < 4294967296 ∧ s.c < 4294967296 ∧ s.d < 4294967296 ∧ s.e < 4294967296 ∧ s.f < 4294967296 ∧ s.g < 4294967296 ∧ s.h < 4294967296
def tOf (s : E8) (k w : Nat) : Nat := add (add (add (add s.h (mixT s.e 6 11 25)) (ch s.e s.f s.g)) k) w
def uOf (s : E8) : Nat := add (mixT s.a 2 13 22) (maj s.a s.b s.c)
def step (s : E8) (k w : Nat) : E8 := ⟨add (tOf s k w) (uOf s), s.a, s.b, s.c, add s.d (tOf s k w), s.e, s.f, s.g⟩
def rounds (s : E8) (W : List Nat) : Nat → E8
  | 0 => s
  | i + 1 => step (rounds s W i) (cubes.getD i 0) (W.getD i 0)
def H0 : E8 := ⟨1779033703, 3144134277, 1013904242, 2773480762, 1359893119, 2600822924, 528734635, 1541459225⟩
def plus (s r : E8) : E8 := ⟨add s.a r.a, add s.b r.b, add s.c r.c, add s.d r.d, add s.e r.e, add s.f r.f, add s.g r.g, add s.h r.h⟩
/-- What a block makes of the eight words. -/
def after (s : E8) (b : List UInt8) : E8 := plus s (rounds s (sch b 64) 64)
def blk (l : List UInt8) (i : Nat) : List UInt8 := (l.drop (64 * i)).take 64
def upto (l : List UInt8) : Nat → E8
  | 0 => H0
  | i + 1 => after (upto l i) (blk l i)
def wordsOf (l : List UInt8) : E8 := upto l (l.length / 64)
def tailOf (l : List UInt8) : List UInt8 := l.drop (64 * (l.length / 64)) ++ List.replicate (64 - l.length % 64) 0
def be8 (x : Nat) : List UInt8 := (List.range 8).map fun i => UInt8.ofNat (x / 2 ^ (56 - 8 * i))
def zerosFor (n : Nat) : Nat := (119 - n % 64) % 64
def ending (n : Nat) : List UInt8 := 128 :: (List.replicate (zerosFor n) 0 ++ be8 (8 * n))
def dig (ws : List Nat) : List UInt8 := (List.range 32).map fun i => UInt8.ofNat (ws.getD (i / 4) 0 / 2 ^ (24 - 8 * (i % 4)))
def digest (l : List UInt8) : List UInt8 := dig (wordsOf (l ++ ending l.length)).list
def keyOf (k : List UInt8) : List UInt8 := if 64 < k.length then digest k else k
def full (k : List UInt8) : List UInt8 := keyOf k ++ List.replicate (64 - (keyOf k).length) 0
def xo (b : List UInt8) (m : UInt8) : List UInt8 := b.map (· ^^^ m)
def mac (k b : List UInt8) : List UInt8 := digest (xo (full k) 92 ++ digest (xo (full k) 54 ++ b))

/-! Bounds -/
theorem add_lt (x y : Nat) : add x y < 4294967296 := Nat.mod_lt _ (by omega)
theorem xor_lt {a b : Nat} (ha : a < 4294967296) (hb : b < 4294967296) : a ^^^ b < 4294967296 := Nat.xor_lt_two_pow (n := 32) ha hb
theorem and_lt {a b : Nat} (ha : a < 4294967296) : a &&& b < 4294967296 := Nat.lt_of_le_of_lt Nat.and_le_left ha
theorem div_lt {x : Nat} (n : Nat) (hx : x < 4294967296) : x / 2 ^ n < 4294967296 := Nat.lt_of_le_of_lt (Nat.div_le_self _ _) hx
theorem turn_lt {x : Nat} (n : Nat) (hx : x < 4294967296) : turn x n < 4294967296 :=
  Nat.or_lt_two_pow (n := 32) (div_lt n hx) (Nat.mod_lt _ (by omega))
theorem mixT_lt {x : Nat} (a b c : Nat) (hx : x < 4294967296) : mixT x a b c < 4294967296 := xor_lt (xor_lt (turn_lt a hx) (turn_lt b hx)) (turn_lt c hx)
theorem mixS_lt {x : Nat} (a b c : Nat) (hx : x < 4294967296) : mixS x a b c < 4294967296 := xor_lt (xor_lt (turn_lt a hx) (turn_lt b hx)) (div_lt c hx)
theorem not_lt {e : Nat} (he : e < 4294967296) : 4294967295 ^^^ e < 4294967296 := xor_lt (by omega) he
theorem ch_lt {e f g : Nat} (he : e < 4294967296) : ch e f g < 4294967296 := xor_lt (and_lt he) (and_lt (not_lt he))
theorem maj_lt {a b c : Nat} (ha : a < 4294967296) (hb : b < 4294967296) : maj a b c < 4294967296 := xor_lt (xor_lt (and_lt ha) (and_lt ha)) (and_lt hb)
theorem byteAt_lt (b : List UInt8) (i : Nat) : byteAt b i < 256 := (b.getD i 0).toNat_lt
theorem wordAt_lt (b : List UInt8) (i : Nat) : wordAt b i < 4294967296 := by
  have := byteAt_lt b i
  have := byteAt_lt b (i + 1)
  have := byteAt_lt b (i + 2)
  have := byteAt_lt b (i + 3)
  unfold wordAt
  omega
theorem nextW_lt (l : List Nat) (i : Nat) : nextW l i < 4294967296 := add_lt _ _

/-! The words of a block -/
theorem sch_length (b : List UInt8) : ∀ i, (sch b i).length = i
  | 0 => rfl
  | i + 1 => by simp [sch, sch_length b i]
theorem sch_getD_last (b : List UInt8) (i : Nat) : (sch b (i + 1)).getD i 0 = if i < 16 then wordAt b (4 * i) else nextW (sch b i) i := by
  simp [sch, List.getD, sch_length]
theorem sch_getD_old (b : List UInt8) {i j : Nat} (h : j < i) : (sch b (i + 1)).getD j 0 = (sch b i).getD j 0 := by
  simp [sch, List.getD, List.getElem?_append, sch_length, h]
theorem sch_getD (b : List UInt8) {i j : Nat} (h : j < i) : (sch b i).getD j 0 = (sch b (j + 1)).getD j 0 := by
  induction i with
  | zero => omega
  | succ i ih =>
    by_cases hj : j = i
    · subst hj
      rfl
    · rw [sch_getD_old b (by omega), ih (by omega)]
theorem sch_getD64 (b : List UInt8) {j : Nat} (h : j < 64) : (sch b 64).getD j 0 = if j < 16 then wordAt b (4 * j) else nextW (sch b 64) j := by
  rw [sch_getD b h, sch_getD_last]
  split
  · rfl
  · have e : ∀ k, k < j → (sch b j).getD k 0 = (sch b 64).getD k 0 := fun k hk => by rw [sch_getD b hk, sch_getD b (i := 64) (by omega)]
    unfold nextW
    rw [e _ (by omega), e _ (by omega), e _ (by omega), e _ (by omega)]
theorem sch_lt (b : List UInt8) {i j : Nat} (h : j < i) : (sch b i).getD j 0 < 4294967296 := by
  rw [sch_getD b h, sch_getD_last]
  split
  · exact wordAt_lt _ _
  · exact nextW_lt _ _

/-! The rounds -/
theorem step_ok {s : E8} (h : s.ok) (k w : Nat) : (step s k w).ok := ⟨add_lt _ _, h.1, h.2.1, h.2.2.1, add_lt _ _, h.2.2.2.2.1, h.2.2.2.2.2.1, h.2.2.2.2.2.2.1⟩
theorem rounds_ok {s : E8} (h : s.ok) (W : List Nat) : ∀ i, (rounds s W i).ok
  | 0 => h
  | i + 1 => step_ok (rounds_ok h W i) _ _
theorem plus_ok (s r : E8) : (plus s r).ok := ⟨add_lt _ _, add_lt _ _, add_lt _ _, add_lt _ _, add_lt _ _, add_lt _ _, add_lt _ _, add_lt _ _⟩
theorem after_ok (s : E8) (b : List UInt8) : (after s b).ok := plus_ok _ _
theorem H0_ok : H0.ok := by unfold E8.ok H0; decide
theorem upto_ok (l : List UInt8) : ∀ i, (upto l i).ok
  | 0 => H0_ok
  | _ + 1 => after_ok _ _
theorem wordsOf_ok (l : List UInt8) : (wordsOf l).ok := upto_ok _ _
theorem cubes_lt {i : Nat} (h : i < 64) : cubes.getD i 0 < 4294967296 := by
  have : ∀ i : Fin 64, cubes.getD i.val 0 < 4294967296 := by decide +kernel
  exact this ⟨i, h⟩
theorem list_length (s : E8) : s.list.length = 8 := rfl
theorem list_lt {s : E8} (h : s.ok) : ∀ x ∈ s.list, x < 4294967296 := by
  obtain ⟨h1, h2, h3, h4, h5, h6, h7, h8⟩ := h
  simp [E8.list, h1, h2, h3, h4, h5, h6, h7, h8]
theorem list_getD_lt {s : E8} (h : s.ok) (i : Nat) : s.list.getD i 0 < 4294967296 := by
  by_cases hi : i < s.list.length
  · have := list_lt h s.list[i] (List.getElem_mem hi)
    simpa [List.getD, List.getElem?_eq_getElem hi] using this
  · simp [List.getD, List.getElem?_eq_none (Nat.le_of_not_lt hi)]

/-! States -/
theorem tailOf_length (l : List UInt8) : (tailOf l).length = 64 := by
  simp only [tailOf, List.length_append, List.length_drop, List.length_replicate]
  omega
theorem blk_append (l c : List UInt8) (i : Nat) (h : 64 * (i + 1) ≤ l.length) : blk (l ++ c) i = blk l i := by
  simp only [blk]
  rw [List.drop_append, List.take_append]
  have : 64 - (l.drop (64 * i)).length = 0 := by simp; omega
  rw [this]
  simp
theorem upto_append (l c : List UInt8) : ∀ i, 64 * i ≤ l.length → upto (l ++ c) i = upto l i
  | 0, _ => rfl
  | i + 1, h => by
    simp only [upto]
    rw [upto_append l c i (by omega), blk_append l c i h]
theorem tail_take (l : List UInt8) : (tailOf l).take (l.length % 64) = l.drop (64 * (l.length / 64)) := by
  simp only [tailOf]
  rw [List.take_append_of_le_length (by simp; omega), List.take_of_length_le (by simp; omega)]
theorem tail_drop (l : List UInt8) (k : Nat) : (tailOf l).drop (l.length % 64 + k) = List.replicate (64 - l.length % 64 - k) 0 := by
  simp only [tailOf]
  rw [List.drop_append]
  have h1 : (l.drop (64 * (l.length / 64))).length = l.length % 64 := by simp; omega
  rw [List.drop_eq_nil_of_le (by omega), h1]
  simp
/-- What a piece makes of a state, where it does not pass a block's end. -/
theorem words_less (l c : List UInt8) (h : l.length % 64 + c.length < 64) : wordsOf (l ++ c) = wordsOf l := by
  simp only [wordsOf]
  have e : (l ++ c).length / 64 = l.length / 64 := by simp; omega
  rw [e]
  exact upto_append l c _ (by omega)
theorem tail_less (l c : List UInt8) (h : l.length % 64 + c.length < 64) : tailOf (l ++ c) = (tailOf l).take (l.length % 64) ++ c ++ (tailOf l).drop (l.length % 64 + c.length) := by
  rw [tail_take, tail_drop]
  simp only [tailOf]
  have e : (l ++ c).length / 64 = l.length / 64 := by simp; omega
  have e2 : (l ++ c).length % 64 = l.length % 64 + c.length := by simp; omega
  rw [e, e2, List.drop_append]
  have e3 : 64 * (l.length / 64) - l.length = 0 := by omega
  rw [e3]
  simp [Nat.sub_sub]
theorem words_full (l c : List UInt8) (h : l.length % 64 + c.length = 64) : wordsOf (l ++ c) = after (wordsOf l) ((tailOf l).take (l.length % 64) ++ c ++ (tailOf l).drop (l.length % 64 + c.length)) := by
  rw [tail_take, tail_drop]
  simp only [wordsOf]
  have e : (l ++ c).length / 64 = l.length / 64 + 1 := by simp; omega
  rw [e]
  simp only [upto]
  rw [upto_append l c _ (by omega)]
  congr 1
  simp only [blk]
  rw [List.drop_append]
  have e3 : 64 * (l.length / 64) - l.length = 0 := by omega
  have e4 : 64 - l.length % 64 - c.length = 0 := by omega
  rw [e3, e4]
  simp
  rw [List.take_of_length_le (by simp; omega)]
theorem tail_full (l c : List UInt8) (h : l.length % 64 + c.length = 64) : tailOf (l ++ c) = List.replicate 64 0 := by
  simp only [tailOf]
  have e : (l ++ c).length % 64 = 0 := by simp; omega
  rw [e, List.drop_eq_nil_of_le (by simp; omega)]
  rfl

/-! Endings, digests -/
theorem be8_length (x : Nat) : (be8 x).length = 8 := by simp [be8]
theorem ending_length (n : Nat) : (ending n).length = zerosFor n + 9 := by simp [ending, be8_length]
theorem ending_full (n : Nat) : (n + (ending n).length) % 64 = 0 := by
  rw [ending_length]
  unfold zerosFor
  omega
theorem zerosFor_le (n : Nat) : zerosFor n < 64 := Nat.mod_lt _ (by omega)
theorem zerosFor_stop (n : Nat) : (n + 1 + zerosFor n) % 64 = 56 := by
  unfold zerosFor
  omega
theorem zerosFor_goes (n k : Nat) (h : k < zerosFor n) : (n + 1 + k) % 64 ≠ 56 := by
  unfold zerosFor at h
  omega
theorem dig_length (ws : List Nat) : (dig ws).length = 32 := by simp [dig]
theorem digest_length (l : List UInt8) : (digest l).length = 32 := dig_length _
theorem keyOf_le (k : List UInt8) : (keyOf k).length ≤ 64 := by
  unfold keyOf
  split
  · rw [digest_length]; omega
  · omega
theorem full_length (k : List UInt8) : (full k).length = 64 := by
  have := keyOf_le k
  simp [full]
  omega
theorem xo_length (b : List UInt8) (m : UInt8) : (xo b m).length = b.length := by simp [xo]
end Go.Proofs.YtiigmpoopmnnhaaDoor
