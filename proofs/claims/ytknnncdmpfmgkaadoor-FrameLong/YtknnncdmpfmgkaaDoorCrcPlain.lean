/-
  The mathematics of CRC-32 alone, over natural numbers and lists of bytes: half bytes by a table, bits by the polynomial, the order of the bits turned; sums are linear and each step can be undone. No program; no condition but that numbers have 32 bits.
-/
namespace Go.Proofs.YtknnncdmpfmgkaaDoor

def ones : Nat := 4294967295
def poly : Nat := 3988292384
def tabL : List Nat := [0, 498536548, 997073096, 651767980, 1994146192, 1802195444, 1303535960, 1342533948, 3988292384, 4027552580, 3604390888, 3412177804, 2607071920, 2262029012, 2685067896, 3183342108]
def tab (i : Nat) : Nat := tabL.getD i 0
def half (r : Nat) : Nat := r / 16 ^^^ tab (r % 16)
def lin (y : Nat) : Nat := y / 2 ^^^ (if y % 2 = 1 then poly else 0)
/-- Eight bits. -/
def lin8 (y : Nat) : Nat := half (half y)
def step (r : Nat) (c : UInt8) : Nat := lin8 (r ^^^ c.toNat)
def run (r : Nat) (l : List UInt8) : Nat := l.foldl step r
/-- What crc.More answers. -/
def more (s : Nat) (l : List UInt8) : Nat := run (s ^^^ ones) l ^^^ ones

theorem xor_div16 (a b : Nat) : (a ^^^ b) / 16 = a / 16 ^^^ b / 16 := by
  have := Nat.shiftRight_xor_distrib (a := a) (b := b) (i := 4)
  simpa [Nat.shiftRight_eq_div_pow] using this
theorem xor_div2 (a b : Nat) : (a ^^^ b) / 2 = a / 2 ^^^ b / 2 := by
  have := Nat.shiftRight_xor_distrib (a := a) (b := b) (i := 1)
  simpa [Nat.shiftRight_eq_div_pow] using this
theorem xor_mod16 (a b : Nat) : (a ^^^ b) % 16 = a % 16 ^^^ b % 16 := Nat.xor_mod_two_pow (n := 4)
theorem xor_mod2 (a b : Nat) : (a ^^^ b) % 2 = a % 2 ^^^ b % 2 := Nat.xor_mod_two_pow (n := 1)
theorem xor_lt {a b : Nat} (ha : a < 4294967296) (hb : b < 4294967296) : a ^^^ b < 4294967296 := Nat.xor_lt_two_pow (n := 32) ha hb
theorem tab_xor : ∀ i, i < 16 → ∀ j, j < 16 → tab (i ^^^ j) = tab i ^^^ tab j := by decide +kernel
theorem tab_lt : ∀ i, i < 16 → tab i < 4294967296 := by decide +kernel
theorem mix4 (a b c d : Nat) : (a ^^^ b) ^^^ (c ^^^ d) = (a ^^^ c) ^^^ (b ^^^ d) := by
  rw [Nat.xor_assoc, Nat.xor_assoc, ← Nat.xor_assoc b, ← Nat.xor_assoc c, Nat.xor_comm b c]
theorem xor_back (a b : Nat) : a ^^^ b ^^^ b = a := by rw [Nat.xor_assoc, Nat.xor_self, Nat.xor_zero]
theorem xor_inj {a b c : Nat} (h : a ^^^ c = b ^^^ c) : a = b := by
  have := congrArg (· ^^^ c) h
  simpa [xor_back] using this
theorem xor_inj' {a b c : Nat} (h : c ^^^ a = c ^^^ b) : a = b := xor_inj (c := c) (by rw [Nat.xor_comm a, Nat.xor_comm b]; exact h)

theorem half_xor (a b : Nat) : half (a ^^^ b) = half a ^^^ half b := by
  unfold half
  rw [xor_div16, xor_mod16, tab_xor _ (Nat.mod_lt _ (by omega)) _ (Nat.mod_lt _ (by omega)), mix4]
theorem half_lt {r : Nat} (h : r < 4294967296) : half r < 4294967296 := xor_lt (by omega) (tab_lt _ (Nat.mod_lt _ (by omega)))
theorem tab_top : ∀ i, i < 16 → ∀ j, j < 16 → tab i / 268435456 = tab j / 268435456 → i = j := by decide +kernel
theorem half_inj {a b : Nat} (ha : a < 4294967296) (hb : b < 4294967296) (h : half a = half b) : a = b := by
  have key : ∀ x, x < 4294967296 → half x / 268435456 = tab (x % 16) / 268435456 := by
    intro x hx
    have := Nat.shiftRight_xor_distrib (a := x / 16) (b := tab (x % 16)) (i := 28)
    simp only [Nat.shiftRight_eq_div_pow] at this
    rw [show (2 : Nat) ^ 28 = 268435456 from rfl] at this
    rw [half, this, Nat.div_eq_of_lt (by omega : x / 16 < 268435456), Nat.zero_xor]
  have h1 := tab_top _ (Nat.mod_lt a (by omega)) _ (Nat.mod_lt b (by omega)) (by rw [← key a ha, ← key b hb, h])
  have h2 : a / 16 = b / 16 := by
    unfold half at h
    rw [h1] at h
    exact xor_inj h
  omega
theorem lin8_xor (a b : Nat) : lin8 (a ^^^ b) = lin8 a ^^^ lin8 b := by unfold lin8; rw [half_xor, half_xor]
theorem lin8_lt {r : Nat} (h : r < 4294967296) : lin8 r < 4294967296 := half_lt (half_lt h)
theorem lin8_inj {a b : Nat} (ha : a < 4294967296) (hb : b < 4294967296) (h : lin8 a = lin8 b) : a = b := half_inj ha hb (half_inj (half_lt ha) (half_lt hb) h)
theorem byte_lt (c : UInt8) : c.toNat < 256 := c.toNat_lt
theorem step_lt {r : Nat} (c : UInt8) (h : r < 4294967296) : step r c < 4294967296 := lin8_lt (xor_lt h (by have := byte_lt c; omega))
theorem run_lt : ∀ (l : List UInt8) {r : Nat}, r < 4294967296 → run r l < 4294967296
  | [], _, h => h
  | c :: l, _, h => run_lt l (step_lt c h)
theorem run_nil (r : Nat) : run r [] = r := rfl
theorem run_cons (r : Nat) (c : UInt8) (l : List UInt8) : run r (c :: l) = run (step r c) l := rfl
theorem run_append (r : Nat) (l k : List UInt8) : run r (l ++ k) = run (run r l) k := by simp [run]
theorem run_inj : ∀ (l : List UInt8) {r s : Nat}, r < 4294967296 → s < 4294967296 → run r l = run s l → r = s
  | [], _, _, _, _, h => h
  | c :: l, r, s, hr, hs, h => by
    have h1 := run_inj l (step_lt c hr) (step_lt c hs) h
    have hc := byte_lt c
    exact xor_inj (lin8_inj (xor_lt hr (by omega)) (xor_lt hs (by omega)) h1)
theorem ones_lt {s : Nat} (h : s < 4294967296) : s ^^^ ones < 4294967296 := xor_lt h (by decide)
theorem more_lt {s : Nat} (l : List UInt8) (h : s < 4294967296) : more s l < 4294967296 := ones_lt (run_lt l (ones_lt h))
theorem more_nil (s : Nat) : more s [] = s := xor_back _ _
theorem more_append (s : Nat) (l k : List UInt8) : more s (l ++ k) = more (more s l) k := by
  unfold more
  rw [run_append, xor_back]
theorem ones_sub {s : Nat} (h : s < 4294967296) : s ^^^ ones = 4294967295 - s := by
  have hb := BitVec.toNat_not (x := BitVec.ofNat 32 s)
  have h1 : (BitVec.ofNat 32 s).toNat = s := by rw [BitVec.toNat_ofNat]; exact Nat.mod_eq_of_lt h
  rw [h1] at hb
  have h2 : (~~~ BitVec.ofNat 32 s) = BitVec.ofNat 32 s ^^^ BitVec.allOnes 32 := by rw [BitVec.xor_allOnes]
  rw [h2, BitVec.toNat_xor, h1] at hb
  exact hb.trans (by omega)

/-! ## Any two bytes that are unlike, any two beside one another -/
theorem lin8_fix : ∀ d, d < 256 → lin8 d = d → d = 0 := by decide +kernel
theorem step_inj {r : Nat} {c d : UInt8} (hr : r < 4294967296) (h : step r c = step r d) : c = d := by
  have hc := byte_lt c
  have hd := byte_lt d
  exact UInt8.toNat_inj.1 (xor_inj' (lin8_inj (xor_lt hr (by omega)) (xor_lt hr (by omega)) h))
theorem step_swap {r : Nat} {c d : UInt8} (h : step (step r c) d = step (step r d) c) (hr : r < 4294967296) : c = d := by
  have hc := byte_lt c
  have hd := byte_lt d
  have h1 := lin8_inj (xor_lt (step_lt c hr) (by omega)) (xor_lt (step_lt d hr) (by omega)) h
  unfold step at h1
  rw [lin8_xor, lin8_xor] at h1
  rw [Nat.xor_assoc, Nat.xor_assoc] at h1
  have h2 := xor_inj' h1
  have h3 : lin8 (c.toNat ^^^ d.toNat) = c.toNat ^^^ d.toNat := by
    rw [lin8_xor]
    have h4 := congrArg (fun x => x ^^^ d.toNat ^^^ lin8 d.toNat) h2
    rw [xor_back, Nat.xor_comm (lin8 d.toNat) c.toNat, Nat.xor_assoc c.toNat, Nat.xor_comm (lin8 d.toNat) d.toNat, ← Nat.xor_assoc c.toNat, xor_back] at h4
    exact h4
  have h5 := lin8_fix _ (Nat.xor_lt_two_pow (n := 8) hc hd) h3
  have h6 := congrArg (· ^^^ d.toNat) h5
  simp only [xor_back, Nat.zero_xor] at h6
  exact UInt8.toNat_inj.1 h6

theorem run_at (r : Nat) (p q : List UInt8) (c d : UInt8) (hr : r < 4294967296) : run r (p ++ c :: q) = run r (p ++ d :: q) ↔ c = d := by
  refine ⟨fun h => ?_, fun h => by rw [h]⟩
  rw [run_append, run_append, run_cons, run_cons] at h
  exact step_inj (run_lt p hr) (run_inj q (step_lt _ (run_lt p hr)) (step_lt _ (run_lt p hr)) h)
theorem run_at2 (r : Nat) (p q : List UInt8) (c d : UInt8) (hr : r < 4294967296) : run r (p ++ d :: c :: q) = run r (p ++ c :: d :: q) ↔ c = d := by
  refine ⟨fun h => ?_, fun h => by rw [h]⟩
  rw [run_append, run_append, run_cons, run_cons, run_cons, run_cons] at h
  have h1 := run_lt p hr
  exact (step_swap (run_inj q (step_lt _ (step_lt _ h1)) (step_lt _ (step_lt _ h1)) h) h1).symm
theorem more_iff (s : Nat) (l k : List UInt8) : more s l = more s k ↔ run (s ^^^ ones) l = run (s ^^^ ones) k :=
  ⟨fun h => xor_inj h, fun h => by unfold more; rw [h]⟩

/-! ## Rows that are xored -/
def mix (a b : List UInt8) : List UInt8 := List.zipWith (· ^^^ ·) a b
theorem step_mix (r s : Nat) (c d : UInt8) : step (r ^^^ s) (c ^^^ d) = step r c ^^^ step s d := by
  unfold step
  rw [UInt8.toNat_xor, mix4, lin8_xor]
theorem run_mix : ∀ (a b : List UInt8) (r s : Nat), a.length = b.length → run (r ^^^ s) (mix a b) = run r a ^^^ run s b
  | [], [], _, _, _ => rfl
  | c :: a, d :: b, r, s, h => by
    have := run_mix a b (step r c) (step s d) (by simpa using h)
    rw [← step_mix] at this
    exact this
  | [], _ :: _, _, _, h => by simp at h
  | _ :: _, [], _, _, h => by simp at h
theorem mix_length (a b : List UInt8) (h : a.length = b.length) : (mix a b).length = b.length := by simp [mix, h]
theorem more_mix (a b c : List UInt8) (h1 : a.length = b.length) (h2 : b.length = c.length) : more 0 (mix (mix a b) c) = more 0 a ^^^ more 0 b ^^^ more 0 c := by
  unfold more
  rw [Nat.zero_xor]
  have h3 : ones = ones ^^^ ones ^^^ ones := by rw [xor_back]
  have h4 : run ones (mix (mix a b) c) = run ones a ^^^ run ones b ^^^ run ones c := by
    have := run_mix (mix a b) c (ones ^^^ ones) ones (by rw [mix_length a b h1, h2])
    rw [run_mix a b ones ones h1, ← h3] at this
    exact this
  rw [h4, mix4 (run ones a), mix4 (run ones a ^^^ run ones b), ← h3]

/-! ## Four bytes -/
def four (w : Nat) : List UInt8 := [UInt8.ofNat w, UInt8.ofNat (w / 256), UInt8.ofNat (w / 65536), UInt8.ofNat (w / 16777216)]
theorem half_16 (y m : Nat) : half (y ^^^ 16 * m) = half y ^^^ m := by
  rw [half_xor]
  congr 1
  unfold half
  rw [Nat.mul_div_cancel_left _ (by omega), Nat.mul_mod_right]
  exact Nat.xor_zero m
theorem lin8_256 (y m : Nat) : lin8 (y ^^^ 256 * m) = lin8 y ^^^ m := by
  unfold lin8
  rw [show 256 * m = 16 * (16 * m) by omega, half_16, half_16]
theorem low_xor (w : Nat) : w = (w % 256) ^^^ 256 * (w / 256) := by
  apply Nat.eq_of_testBit_eq
  intro i
  rw [Nat.testBit_xor, show 256 = 2 ^ 8 from rfl, Nat.testBit_mod_two_pow, Nat.testBit_two_pow_mul, Nat.testBit_div_two_pow]
  by_cases h : i < 8
  · simp [h, show ¬ 8 ≤ i by omega]
  · simp only [h]
    rw [Nat.sub_add_cancel (by omega)]
    simp
    omega
theorem run_four (r w : Nat) (h : w < 4294967296) : run r (four w) = lin8 (lin8 (lin8 (lin8 (r ^^^ w)))) := by
  have e : ∀ k, (UInt8.ofNat k).toNat = k % 256 := fun k => by simp
  show step (step (step (step r _) _) _) _ = _
  unfold step
  rw [e, e, e, e]
  rw [show w / 16777216 % 256 = w / 16777216 by omega]
  have h1 : ∀ (y k : Nat), lin8 (y ^^^ k % 256) ^^^ k / 256 = lin8 (y ^^^ k) := fun y k => by
    rw [← lin8_256, Nat.xor_assoc, ← low_xor]
  have h2 := h1 r w
  have h3 := h1 (lin8 (r ^^^ w % 256)) (w / 256)
  rw [h2] at h3
  have h4 := h1 (lin8 (lin8 (r ^^^ w % 256) ^^^ w / 256 % 256)) (w / 256 / 256)
  rw [Nat.div_div_eq_div_mul] at h3 h4
  rw [show w / (256 * 256) / 256 = w / 16777216 by rw [Nat.div_div_eq_div_mul]] at h4
  rw [show 256 * 256 = 65536 from rfl] at h3 h4
  rw [h3] at h4
  rw [h4]
theorem lin8_4_inj {a b : Nat} (ha : a < 4294967296) (hb : b < 4294967296) (h : lin8 (lin8 (lin8 (lin8 a))) = lin8 (lin8 (lin8 (lin8 b)))) : a = b :=
  lin8_inj ha hb (lin8_inj (lin8_lt ha) (lin8_lt hb) (lin8_inj (lin8_lt (lin8_lt ha)) (lin8_lt (lin8_lt hb)) (lin8_inj (lin8_lt (lin8_lt (lin8_lt ha))) (lin8_lt (lin8_lt (lin8_lt hb))) h)))
theorem more_four (a b c : Nat) (ha : a < 4294967296) (hb : b < 4294967296) (hc : c < 4294967296) : more a (four b) = more a (four c) ↔ b = c := by
  refine ⟨fun h => ?_, fun h => by rw [h]⟩
  have h1 := (more_iff a _ _).1 h
  rw [run_four _ _ hb, run_four _ _ hc] at h1
  exact xor_inj' (lin8_4_inj (xor_lt (ones_lt ha) hb) (xor_lt (ones_lt ha) hc) h1)
theorem more_four0 (a b : Nat) (ha : a < 4294967296) (hb : b < 4294967296) : more a (four b) = more 0 (four (a ^^^ b)) := by
  unfold more
  rw [run_four _ _ hb, run_four _ _ (xor_lt ha hb), Nat.zero_xor, ← Nat.xor_assoc, Nat.xor_comm ones a]
/-- Bytes with their own sum behind. -/
theorem more_rest (l : List UInt8) (o : Nat) (ho : o < 4294967296) : more 0 (l ++ four o) = 558161692 ↔ o = more 0 l := by
  rw [more_append]
  have hs := more_lt l (by omega : 0 < 4294967296)
  generalize more 0 l = s at hs
  have own : more s (four s) = 558161692 := by
    rw [more_four0 s s hs hs, Nat.xor_self]
    decide +kernel
  constructor
  · intro h
    exact (more_four s o s hs ho hs).1 (h.trans own.symm)
  · rintro rfl
    exact own

/-! ## Bit by bit, in the order of the polynomial -/
theorem lin_xor (a b : Nat) : lin (a ^^^ b) = lin a ^^^ lin b := by
  unfold lin
  rw [xor_div2, xor_mod2, mix4]
  congr 1
  rcases Nat.mod_two_eq_zero_or_one a with h1 | h1 <;> rcases Nat.mod_two_eq_zero_or_one b with h2 | h2 <;> simp [h1, h2]
theorem lin_two (m : Nat) : lin (2 * m) = m := by
  unfold lin
  rw [Nat.mul_div_cancel_left _ (by omega), Nat.mul_mod_right]
  exact Nat.xor_zero m
def lins : Nat → Nat → Nat
  | 0, y => y
  | k + 1, y => lins k (lin y)
theorem lins_xor : ∀ (k a b : Nat), lins k (a ^^^ b) = lins k a ^^^ lins k b
  | 0, _, _ => rfl
  | k + 1, a, b => by show lins k (lin (a ^^^ b)) = _; rw [lin_xor, lins_xor k]; rfl
theorem lins_pow : ∀ (k m : Nat), lins k (2 ^ k * m) = m
  | 0, m => by simp [lins]
  | k + 1, m => by show lins k (lin (2 ^ (k + 1) * m)) = m; rw [show 2 ^ (k + 1) * m = 2 * (2 ^ k * m) by rw [Nat.pow_succ, Nat.mul_comm (2 ^ k) 2, Nat.mul_assoc], lin_two, lins_pow k]
theorem lins_tab : ∀ i, i < 16 → lins 4 i = tab i := by decide +kernel
theorem low_xor16 (w : Nat) : w = (16 * (w / 16)) ^^^ (w % 16) := by
  apply Nat.eq_of_testBit_eq
  intro i
  rw [Nat.testBit_xor, show 16 = 2 ^ 4 from rfl, Nat.testBit_mod_two_pow, Nat.testBit_two_pow_mul, Nat.testBit_div_two_pow]
  by_cases h : i < 4
  · simp [h, show ¬ 4 ≤ i by omega]
  · simp only [h]
    rw [Nat.sub_add_cancel (by omega)]
    simp
    omega
theorem half_lins (y : Nat) : half y = lins 4 y := by
  have h := lins_xor 4 (16 * (y / 16)) (y % 16)
  rw [← low_xor16, lins_tab _ (Nat.mod_lt _ (by omega)), show 16 * (y / 16) = 2 ^ 4 * (y / 16) from rfl, lins_pow] at h
  exact h.symm
theorem lins_add : ∀ (j k y : Nat), lins k (lins j y) = lins (j + k) y
  | 0, k, y => by rw [Nat.zero_add]; rfl
  | j + 1, k, y => by rw [Nat.add_right_comm]; exact lins_add j k (lin y)
theorem lin8_lins (y : Nat) : lin8 y = lins 8 y := by
  unfold lin8
  rw [half_lins, half_lins, lins_add]

/-- k bits of c, the lowest first. -/
def bitsIn : Nat → Nat → Nat → Nat
  | 0, x, _ => x
  | k + 1, x, c => bitsIn k (lin (x ^^^ c % 2)) (c / 2)
theorem low_xor2 (w : Nat) : w = (w % 2) ^^^ 2 * (w / 2) := by
  apply Nat.eq_of_testBit_eq
  intro i
  rw [Nat.testBit_xor, show 2 = 2 ^ 1 from rfl, Nat.testBit_mod_two_pow, Nat.testBit_two_pow_mul, Nat.testBit_div_two_pow]
  by_cases h : i < 1
  · simp [h, show ¬ 1 ≤ i by omega]
  · simp only [h]
    rw [Nat.sub_add_cancel (by omega)]
    simp
    omega
theorem bitsIn_lins : ∀ (k x c : Nat), bitsIn k x c ^^^ c / 2 ^ k = lins k (x ^^^ c)
  | 0, x, c => by simp [bitsIn, lins]
  | k + 1, x, c => by
    have h := bitsIn_lins k (lin (x ^^^ c % 2)) (c / 2)
    have e : lin (x ^^^ c % 2) ^^^ c / 2 = lin (x ^^^ c) := by
      have h1 : lin (x ^^^ c) = lin ((x ^^^ c % 2) ^^^ 2 * (c / 2)) := by rw [Nat.xor_assoc, ← low_xor2]
      rw [h1, lin_xor (x ^^^ c % 2), lin_two]
    rw [e, Nat.div_div_eq_div_mul, ← Nat.pow_succ'] at h
    exact h
theorem bitsIn_step (r : Nat) (c : UInt8) : bitsIn 8 r c.toNat = step r c := by
  have h := bitsIn_lins 8 r c.toNat
  rw [Nat.div_eq_of_lt (byte_lt c), Nat.xor_zero] at h
  rw [h, step, lin8_lins]

/-! ## The bits the other way round -/
def rv : Nat → Nat → Nat → Nat
  | 0, out, _ => out
  | k + 1, out, x => rv k (out * 2 + x % 2) (x / 2)
def rev (x : Nat) : Nat := rv 32 0 x
theorem rv_bit : ∀ (k out x i : Nat), (rv k out x).testBit i = if i < k then x.testBit (k - 1 - i) else out.testBit (i - k)
  | 0, out, x, i => by simp [rv]
  | k + 1, out, x, i => by
    show (rv k (out * 2 + x % 2) (x / 2)).testBit i = _
    rw [rv_bit k]
    by_cases h : i < k
    · rw [if_pos h, if_pos (by omega), Nat.testBit_div_two]
      congr 1
      omega
    · rw [if_neg h]
      by_cases h2 : i = k
      · subst h2
        rw [if_pos (by omega), Nat.sub_self, show i + 1 - 1 - i = 0 by omega, Nat.testBit_zero, Nat.testBit_zero]
        congr 1
        simp only [eq_iff_iff]
        omega
      · rw [if_neg (by omega)]
        obtain ⟨j, rfl⟩ : ∃ j, i = k + 1 + j := ⟨i - (k + 1), by omega⟩
        rw [show k + 1 + j - k = j + 1 by omega, show k + 1 + j - (k + 1) = j by omega, Nat.testBit_succ]
        congr 1
        omega
theorem rev_bit (x i : Nat) : (rev x).testBit i = (decide (i < 32) && x.testBit (31 - i)) := by
  rw [rev, rv_bit]
  by_cases h : i < 32 <;> simp [h]
theorem rv_lt : ∀ (k out x m : Nat), out < 2 ^ m → rv k out x < 2 ^ (m + k)
  | 0, _, _, _, h => h
  | k + 1, out, x, m, h => by
    have := rv_lt k (out * 2 + x % 2) (x / 2) (m + 1) (by rw [Nat.pow_succ]; omega)
    rwa [Nat.add_right_comm, Nat.add_assoc] at this
theorem rev_lt (x : Nat) : rev x < 4294967296 := rv_lt 32 0 x 0 (by decide)
theorem rev_rev {x : Nat} (h : x < 4294967296) : rev (rev x) = x := by
  apply Nat.eq_of_testBit_eq
  intro i
  rw [rev_bit, rev_bit]
  by_cases hi : i < 32
  · rw [show 31 - (31 - i) = i by omega]
    simp [hi, show 31 - i < 32 by omega]
  · simp only [hi, decide_false, Bool.false_and]
    rw [Nat.testBit_lt_two_pow (Nat.lt_of_lt_of_le h (Nat.pow_le_pow_right (n := 2) (by decide) (show 32 ≤ i by omega)))]
theorem rev_xor (a b : Nat) : rev (a ^^^ b) = rev a ^^^ rev b := by
  apply Nat.eq_of_testBit_eq
  intro i
  rw [Nat.testBit_xor, rev_bit, rev_bit, rev_bit, Nat.testBit_xor]
  by_cases hi : i < 32 <;> simp [hi]
theorem rev_dbl (r : Nat) : rev (r * 2 % 4294967296) = rev r / 2 := by
  apply Nat.eq_of_testBit_eq
  intro i
  rw [Nat.testBit_div_two, rev_bit, rev_bit, show 4294967296 = 2 ^ 32 from rfl, Nat.testBit_mod_two_pow]
  by_cases hi : i + 1 < 32
  · rw [show 31 - i = 31 - (i + 1) + 1 by omega, Nat.testBit_succ, Nat.mul_div_cancel _ (by omega)]
    simp [hi, show i < 32 by omega]
    intro _
    omega
  · by_cases h2 : i < 32
    · obtain rfl : i = 31 := by omega
      simp
    · simp [hi, h2]
theorem rev_top {r : Nat} (h : r < 4294967296) : rev r % 2 = r / 2147483648 := by
  have h1 := rev_bit r 0
  have h2 : r.testBit 31 = decide (r / 2147483648 = 1) := by
    rw [Nat.testBit_eq_decide_div_mod_eq]
    congr 1
    simp only [eq_iff_iff]
    omega
  rw [Nat.sub_zero, h2, Nat.testBit_zero] at h1
  simp at h1
  omega
/-- One bit as the document has it. -/
def refStep (r b : Nat) : Nat := if r / 2147483648 = b then r * 2 % 4294967296 else r * 2 % 4294967296 ^^^ 79764919
theorem rev_poly : rev 79764919 = poly := by decide +kernel
theorem refStep_lt (r b : Nat) : refStep r b < 4294967296 := by
  unfold refStep
  split
  · omega
  · exact xor_lt (by omega) (by omega)
theorem rev_refStep {r b : Nat} (h : r < 4294967296) (hb : b < 2) : rev (refStep r b) = lin (rev r ^^^ b) := by
  have h1 := rev_top h
  unfold refStep lin
  rw [xor_div2, xor_mod2, Nat.div_eq_of_lt hb, Nat.xor_zero, Nat.mod_eq_of_lt hb, h1]
  have h2 : r / 2147483648 < 2 := by omega
  generalize r / 2147483648 = t at h2
  split
  · rename_i e
    rw [e, Nat.xor_self, rev_dbl]
    simp
  · rename_i e
    rw [rev_xor, rev_dbl, rev_poly]
    have : t ^^^ b = 1 := by
      rcases t with _ | _ | t <;> rcases b with _ | _ | b <;> first | rfl | omega
    rw [this]
    simp
def refBits : Nat → Nat → Nat → Nat
  | 0, r, _ => r
  | k + 1, r, c => refBits k (refStep r (c % 2)) (c / 2)
theorem refBits_lt : ∀ (k c : Nat) {r : Nat}, r < 4294967296 → refBits k r c < 4294967296
  | 0, _, _, h => h
  | k + 1, c, _, _ => refBits_lt k (c / 2) (refStep_lt _ _)
theorem rev_refBits : ∀ (k c : Nat) {r : Nat}, r < 4294967296 → rev (refBits k r c) = bitsIn k (rev r) c
  | 0, _, _, _ => rfl
  | k + 1, c, r, h => by
    show rev (refBits k (refStep r (c % 2)) (c / 2)) = bitsIn k (lin (rev r ^^^ c % 2)) (c / 2)
    rw [rev_refBits k _ (refStep_lt _ _), rev_refStep h (by omega)]
def refRun (r : Nat) (l : List UInt8) : Nat := l.foldl (fun r c => refBits 8 r c.toNat) r
theorem refRun_lt : ∀ (l : List UInt8) {r : Nat}, r < 4294967296 → refRun r l < 4294967296
  | [], _, h => h
  | c :: l, _, h => refRun_lt l (refBits_lt 8 c.toNat h)
theorem rev_refRun : ∀ (l : List UInt8) {r : Nat}, r < 4294967296 → rev (refRun r l) = run (rev r) l
  | [], _, _ => rfl
  | c :: l, r, h => by
    show rev (refRun (refBits 8 r c.toNat) l) = run (step (rev r) c) l
    rw [rev_refRun l (refBits_lt 8 c.toNat h), rev_refBits 8 _ h, bitsIn_step]
/-- The document's answer is the same sum. -/
theorem ref_more (s : Nat) (l : List UInt8) (h : s < 4294967296) : 4294967295 - rev (refRun (rev (4294967295 - s)) l) = more s l := by
  rw [rev_refRun l (rev_lt _), rev_rev (by omega), ← ones_sub h, ← ones_sub (run_lt l (ones_lt h))]
  rfl
end Go.Proofs.YtknnncdmpfmgkaaDoor
