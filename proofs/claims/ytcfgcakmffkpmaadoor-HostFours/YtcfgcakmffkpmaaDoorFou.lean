/-
  The walk of transeptlaw07.HostFours: true, for every address; nothing that was there turns. Condition: the library's tables.
-/
import Derived.Test.YtcfgcakmffkpmaaDoorShw
import Derived.Test.YtcfgcakmffkpmaaDoorFom
namespace Go.Proofs.YtcfgcakmffkpmaaDoor
open Go.RowKit

theorem str_info : (Tryd.prog.info? 9).map (fun i => (i.zero, i.size, i.bytes)) = some (some (.string ⟨#[]⟩), 1, 16) := by kernel_rfl
/-- A row of texts of the call's own. -/
def OwnS (w : World) (base : Nat) (v : Value) (n : Nat) (ss : List (List UInt8)) : Prop := w.ownsRow base 9 1 v n (ss.map vstr)
theorem ownS_lit (w : World) (base : Nat) (hb : base ≤ w.heap.size) (ss : List (List UInt8)) (n : Nat) (hn : ss.length = n) (h9 : n ≤ 100) (a : Array Value) (ha : a = (ss.map vstr).toArray) : OwnS (w.alloc (.cells a 9)) base (.slice (some ⟨w.heap.size, 0, none⟩) n n) n ss := by
  subst ha
  refine ⟨by simp [hn], .inr ⟨w.heap.size, n, (ss.map vstr).toArray, rfl, hb, Go.heap_alloc_new w _, Nat.le_refl _, by unfold maxLen; omega, by simp [hn], ?_⟩⟩
  rw [Nat.mul_one]
  exact List.take_of_length_le (by simp [hn])
theorem OwnS.form {w : World} {base n : Nat} {v : Value} {ss : List (List UInt8)} (h : OwnS w base v n ss) (hn : 0 < n) : ∃ g c, v = .slice (some ⟨g, 0, none⟩) n c ∧ n ≤ c ∧ Ps w g ss := by
  have hl := h.1
  rcases h.2 with ⟨_, h0⟩ | ⟨g, cap, cur, rfl, hb, hg, hnc, _⟩
  · omega
  · refine ⟨g, cap, rfl, hnc, (Array.getElem?_eq_some_iff.1 hg).1, fun j p hj => ?_⟩
    have := World.ownsRow.cells (g := g) h rfl j (vstr p) (by rw [List.getElem?_map, hj]; rfl)
    rwa [Addr.add_lit, Nat.zero_add] at this
theorem wp_appSt {ops : Array Oper} {rest : List Oper} {o : Oper} {a : Act} {Q : Exit → Act → World → Prop} (w : World) (hgd : o.guard = none) (s x : Operand)
    (ho : o.op = .call { callee := .builtin .append, args := #[s, x], argTypes := #[31, 31] })
    (base : Nat) (v : Value) (n : Nat) (ss : List (List UInt8)) (hs : a.eval s = v) (hown : OwnS w base v n ss)
    (g m c : Nat) (ks : List (List UInt8)) (hx : a.eval x = .slice (some ⟨g, 0, none⟩) m c) (hr : Ps w g ks) (hm : ks.length = m) (hsz : n + m ≤ 1000) (hbase : base ≤ w.heap.size)
    (h : ∀ v' w', OwnS w' base v' (n + m) (ss ++ ks) → Below base w w' → wpList Tryd.prog ops Q rest (a.put o.dst v') w') : wpList Tryd.prog ops Q (o :: rest) a w := by
  refine wpList_plain hgd fun K hK => ?_
  obtain ⟨i, hi, hz, h1, h2⟩ := info_parts str_info
  obtain ⟨v', w', hrun, h3, h4, _, h5⟩ := run_append_own_at (P := Tryd.prog) w base 31 o.type 9 i _ 1 16 Tryd.underlying31 hi hz h1 h2 rfl (by omega) v n (ss.map vstr) hown ⟨g, 0, none⟩ m c (ks.map vstr) (by simp [hm])
    (fun j u hj => by
      rw [List.getElem?_map, Option.map_eq_some_iff] at hj
      obtain ⟨p, hp, rfl⟩ := hj
      rw [Addr.add_lit, Nat.zero_add]
      exact hr.2 j p hp) (by
      intro u hu
      obtain ⟨p, _, rfl⟩ := List.mem_map.1 hu
      rfl) (by unfold maxLen; omega) (by omega) hbase
  rw [← List.map_append] at h3
  unfold Oper.wp execOp
  simp only [ho, resolve, invoke, builtin, Sem.run_bind, Sem.run_pure, Result.andThen_ok, List.map_toArray, List.map_cons, List.map_nil, hs, hx, hrun]
  exact hK _ _ (h v' w' h3 ((Below.refl _ _).grown h4 hbase fun k hk => (World.ownsRow.lt hown k hk).1))
theorem and255 (x : Nat) (h : x < 4294967296) : bits .and .u32 (x : Int) 255 = ((x % 256 : Nat) : Int) := by
  have h1 := u32_and_nat x 255 h (by omega)
  rw [show (x &&& 255) = x % 256 from Nat.and_two_pow_sub_one_eq_mod x 8] at h1
  exact h1
theorem and16777215 (x : Nat) (h : x < 4294967296) : bits .and .u32 (x : Int) 16777215 = ((x % 16777216 : Nat) : Int) := by
  have h1 := u32_and_nat x 16777215 h (by omega)
  rw [show (x &&& 16777215) = x % 16777216 from Nat.and_two_pow_sub_one_eq_mod x 24] at h1
  exact h1
theorem and65535 (x : Nat) (h : x < 4294967296) : bits .and .u32 (x : Int) 65535 = ((x % 65536 : Nat) : Int) := by
  have h1 := u32_and_nat x 65535 h (by omega)
  rw [show (x &&& 65535) = x % 65536 from Nat.and_two_pow_sub_one_eq_mod x 16] at h1
  exact h1
theorem decimal_k (k : Nat) (X : List UInt8) (hk9 : k < 4294967296) (hX : X = Lib.decDigits k) (w' : World) : Calls Tryd.prog 12 #[.int .i64 (k : Int)] w' fun e w2 => e = .returned (.string (str X)) ∧ Below w'.heap.size w' w2 := by
  rw [hX]
  refine (decimal_any k w' hk9).mono ?_
  rintro e w2 ⟨rfl, hb⟩
  exact ⟨rfl, hb⟩
theorem based16_k (k : Nat) (X : List UInt8) (hk9 : k < 4294967296) (hX : X = bsd 16 k) (w' : World) : Calls Tryd.prog 13 #[.int .i64 (k : Int), .int .i64 16] w' fun e w2 => e = .returned (.string (str X)) ∧ Below w'.heap.size w' w2 := by
  rw [hX]
  refine Calls.mono (show Calls Tryd.prog 13 #[.int .i64 (k : Int), .int .i64 16] w' _ from based_any k 16 hk9 (by omega) (by omega) w') ?_
  rintro e w2 ⟨rfl, hb⟩
  exact ⟨rfl, hb⟩
theorem based8_k (k : Nat) (X : List UInt8) (hk9 : k < 4294967296) (hX : X = bsd 8 k) (w' : World) : Calls Tryd.prog 13 #[.int .i64 (k : Int), .int .i64 8] w' fun e w2 => e = .returned (.string (str X)) ∧ Below w'.heap.size w' w2 := by
  rw [hX]
  refine Calls.mono (show Calls Tryd.prog 13 #[.int .i64 (k : Int), .int .i64 8] w' _ from based_any k 8 hk9 (by omega) (by omega) w') ?_
  rintro e w2 ⟨rfl, hb⟩
  exact ⟨rfl, hb⟩
theorem ownS_alloc {w : World} {base n : Nat} {v : Value} {ss : List (List UInt8)} (h : OwnS w base v n ss) (o : Obj) : OwnS (w.alloc o) base v n ss := World.ownsRow.alloc h o
theorem OwnS.kept {w w' : World} {base n : Nat} {v : Value} {ss : List (List UInt8)} (h : OwnS w base v n ss) (hb : Below w.heap.size w w') : OwnS w' base v n ss := by
  refine ⟨h.1, ?_⟩
  rcases h.2 with h2 | ⟨g, cap, cur, hv, hg, hh, r⟩
  · exact .inl h2
  · exact .inr ⟨g, cap, cur, hv, hg, by rw [hb.block g (Array.getElem?_eq_some_iff.1 hh).1]; exact hh, r⟩
theorem own_chain {w a b c d e f : World} {base n : Nat} {v : Value} {ss : List (List UInt8)} (h : OwnS w base v n ss) (h1 : Below w.heap.size w a) (h2 : Below a.heap.size a b) (h3 : Below b.heap.size b c) (h4 : Below c.heap.size c d) (h5 : Below d.heap.size d e) (h6 : Below e.heap.size e f) : OwnS f base v n ss := (((((h.kept h1).kept h2).kept h3).kept h4).kept h5).kept h6
theorem kept_chain {w0 w a b c d e f : World} (h : Kept w0 w) (h1 : Below w.heap.size w a) (h2 : Below a.heap.size a b) (h3 : Below b.heap.size b c) (h4 : Below c.heap.size c d) (h5 : Below d.heap.size d e) (h6 : Below e.heap.size e f) : Kept w0 f := (((((h.step h1).step h2).step h3).step h4).step h5).step h6
theorem kept_size {w w' : World} (h : Kept w w') : w.heap.size ≤ w'.heap.size := h.size
theorem Ps.lit (w : World) (ss : List (List UInt8)) (a : Array Value) (ha : a = (ss.map vstr).toArray) : Ps (w.alloc (.cells a 9)) w.heap.size ss := by
  subst ha
  refine ⟨by simp, fun j p hj => ?_⟩
  rw [World.cell?_alloc_at _ _ _ _ rfl, List.getElem?_toArray, List.getElem?_map, hj]
  rfl

set_option maxHeartbeats 8000000 in
set_option maxRecDepth 100000 in
theorem fours_walk (n : Nat) (hn : n < 4294967296) (w : World) (ht : Tabs w) : Calls Tryd.prog 4 #[.int .u32 (n : Int)] w fun e w' => e = .returned (.bool true) ∧ Below w.heap.size w w' := by
  have hb := byt_lt n
  have hw : Hid (∀ T ∈ ways n, Way n T) := ways_all n hn
  have hdom : Hid (dom (text4 n) = false) := dom_text4 n
  have HT := Lib.hid ht
  have HSh := Lib.hid (shown_any w ht)
  have h0 : (n : Int) / 16777216 = (byt n 0 : Int) := by simp [byt]; omega
  have p1 : (n : Int) / 65536 = ((n / 65536 : Nat) : Int) := by simp
  have p2 : (n : Int) / 256 = ((n / 256 : Nat) : Int) := by simp
  have h1 : bits .and .u32 ((n / 65536 : Nat) : Int) 255 = (byt n 1 : Int) := and255 _ (by omega)
  have h2 : bits .and .u32 ((n / 256 : Nat) : Int) 255 = (byt n 2 : Int) := by
    rw [and255 _ (by omega)]
    simp [byt]
  have h3 : bits .and .u32 (n : Int) 255 = (byt n 3 : Int) := by
    rw [and255 _ hn]
    simp [byt]
  have h4 := and16777215 n hn
  have h5 := and65535 n hn
  obtain ⟨m24, hm24⟩ : ∃ m, m = n % 16777216 := ⟨_, rfl⟩
  obtain ⟨m16, hm16⟩ : ∃ m, m = n % 65536 := ⟨_, rfl⟩
  rw [← hm24] at h4
  rw [← hm16] at h5
  obtain ⟨q1, hq1⟩ : ∃ q, q = n / 65536 := ⟨_, rfl⟩
  obtain ⟨q2, hq2⟩ : ∃ q, q = n / 256 := ⟨_, rfl⟩
  rw [← hq1] at p1 h1
  rw [← hq2] at p2 h2
  obtain ⟨b0, hb0⟩ : ∃ b, b = byt n 0 := ⟨_, rfl⟩
  obtain ⟨b1, hb1⟩ : ∃ b, b = byt n 1 := ⟨_, rfl⟩
  obtain ⟨b2, hb2⟩ : ∃ b, b = byt n 2 := ⟨_, rfl⟩
  obtain ⟨b3, hb3⟩ : ∃ b, b = byt n 3 := ⟨_, rfl⟩
  have l0 : b0 < 256 := by rw [hb0]; exact hb 0
  have l1 : b1 < 256 := by rw [hb1]; exact hb 1
  have l2 : b2 < 256 := by rw [hb2]; exact hb 2
  have l3 : b3 < 256 := by rw [hb3]; exact hb 3
  rw [← hb0] at h0
  rw [← hb1] at h1
  rw [← hb2] at h2
  rw [← hb3] at h3
  have l24 : m24 < 16777216 := by omega
  have l16 : m16 < 65536 := by omega
  have hq19 : q1 < 4294967296 := by omega
  have hq29 : q2 < 4294967296 := by omega
  obtain ⟨W, hW⟩ : ∃ X, X = text4 n := ⟨_, rfl⟩
  obtain ⟨Dn, hDn⟩ : ∃ X, X = Lib.decDigits n := ⟨_, rfl⟩
  have KDn : Hid (∀ w', Calls Tryd.prog 12 #[.int .i64 (n : Int)] w' fun e w2 => e = .returned (.string (str Dn)) ∧ Below w'.heap.size w' w2) := fun w' => decimal_k n Dn (by omega) hDn w'
  have tDn : (str Dn).size ≤ 20 := by rw [str_size, hDn]; have := dec_len10 n (by omega); omega
  obtain ⟨D0, hD0⟩ : ∃ X, X = Lib.decDigits b0 := ⟨_, rfl⟩
  have KD0 : Hid (∀ w', Calls Tryd.prog 12 #[.int .i64 (b0 : Int)] w' fun e w2 => e = .returned (.string (str D0)) ∧ Below w'.heap.size w' w2) := fun w' => decimal_k b0 D0 (by omega) hD0 w'
  have tD0 : (str D0).size ≤ 20 := by rw [str_size, hD0]; have := dec_len10 b0 (by omega); omega
  obtain ⟨Dm, hDm⟩ : ∃ X, X = Lib.decDigits m24 := ⟨_, rfl⟩
  have KDm : Hid (∀ w', Calls Tryd.prog 12 #[.int .i64 (m24 : Int)] w' fun e w2 => e = .returned (.string (str Dm)) ∧ Below w'.heap.size w' w2) := fun w' => decimal_k m24 Dm (by omega) hDm w'
  have tDm : (str Dm).size ≤ 20 := by rw [str_size, hDm]; have := dec_len10 m24 (by omega); omega
  obtain ⟨D1, hD1⟩ : ∃ X, X = Lib.decDigits b1 := ⟨_, rfl⟩
  have KD1 : Hid (∀ w', Calls Tryd.prog 12 #[.int .i64 (b1 : Int)] w' fun e w2 => e = .returned (.string (str D1)) ∧ Below w'.heap.size w' w2) := fun w' => decimal_k b1 D1 (by omega) hD1 w'
  have tD1 : (str D1).size ≤ 20 := by rw [str_size, hD1]; have := dec_len10 b1 (by omega); omega
  obtain ⟨Dk, hDk⟩ : ∃ X, X = Lib.decDigits m16 := ⟨_, rfl⟩
  have KDk : Hid (∀ w', Calls Tryd.prog 12 #[.int .i64 (m16 : Int)] w' fun e w2 => e = .returned (.string (str Dk)) ∧ Below w'.heap.size w' w2) := fun w' => decimal_k m16 Dk (by omega) hDk w'
  have tDk : (str Dk).size ≤ 20 := by rw [str_size, hDk]; have := dec_len10 m16 (by omega); omega
  obtain ⟨D3, hD3⟩ : ∃ X, X = Lib.decDigits b3 := ⟨_, rfl⟩
  have KD3 : Hid (∀ w', Calls Tryd.prog 12 #[.int .i64 (b3 : Int)] w' fun e w2 => e = .returned (.string (str D3)) ∧ Below w'.heap.size w' w2) := fun w' => decimal_k b3 D3 (by omega) hD3 w'
  have tD3 : (str D3).size ≤ 20 := by rw [str_size, hD3]; have := dec_len10 b3 (by omega); omega
  obtain ⟨H0, hH0⟩ : ∃ X, X = bsd 16 b0 := ⟨_, rfl⟩
  have KH0 : Hid (∀ w', Calls Tryd.prog 13 #[.int .i64 (b0 : Int), .int .i64 16] w' fun e w2 => e = .returned (.string (str H0)) ∧ Below w'.heap.size w' w2) := fun w' => based16_k b0 H0 (by omega) hH0 w'
  have tH0 : (str H0).size ≤ 20 := by rw [str_size, hH0]; have := bsd16_len b0 (by omega); omega
  obtain ⟨H1, hH1⟩ : ∃ X, X = bsd 16 b1 := ⟨_, rfl⟩
  have KH1 : Hid (∀ w', Calls Tryd.prog 13 #[.int .i64 (b1 : Int), .int .i64 16] w' fun e w2 => e = .returned (.string (str H1)) ∧ Below w'.heap.size w' w2) := fun w' => based16_k b1 H1 (by omega) hH1 w'
  have tH1 : (str H1).size ≤ 20 := by rw [str_size, hH1]; have := bsd16_len b1 (by omega); omega
  obtain ⟨O2, hO2⟩ : ∃ X, X = bsd 8 b2 := ⟨_, rfl⟩
  have KO2 : Hid (∀ w', Calls Tryd.prog 13 #[.int .i64 (b2 : Int), .int .i64 8] w' fun e w2 => e = .returned (.string (str O2)) ∧ Below w'.heap.size w' w2) := fun w' => based8_k b2 O2 (by omega) hO2 w'
  have tO2 : (str O2).size ≤ 20 := by rw [str_size, hO2]; have := bsd8_len b2 (by omega); omega
  obtain ⟨On, hOn⟩ : ∃ X, X = bsd 8 n := ⟨_, rfl⟩
  have KOn : Hid (∀ w', Calls Tryd.prog 13 #[.int .i64 (n : Int), .int .i64 8] w' fun e w2 => e = .returned (.string (str On)) ∧ Below w'.heap.size w' w2) := fun w' => based8_k n On (by omega) hOn w'
  have tOn : (str On).size ≤ 20 := by rw [str_size, hOn]; have := bsd8_len n (by omega); omega
  obtain ⟨Hn, hHn⟩ : ∃ X, X = bsd 16 n := ⟨_, rfl⟩
  have KHn : Hid (∀ w', Calls Tryd.prog 13 #[.int .i64 (n : Int), .int .i64 16] w' fun e w2 => e = .returned (.string (str Hn)) ∧ Below w'.heap.size w' w2) := fun w' => based16_k n Hn (by omega) hHn w'
  have tHn : (str Hn).size ≤ 20 := by rw [str_size, hHn]; have := bsd16_len n (by omega); omega
  have tW : (str W).size ≤ 20 := by rw [str_size, hW]; have := tx_len _ (byt_lt n) 4; show (tx _ 4).length ≤ _; omega
  obtain ⟨Z1, hZ1⟩ : ∃ X, X = W ++ [46] := ⟨_, rfl⟩
  have aZ1 : str W ++ (⟨#[46]⟩ : ByteArray) = str Z1 := by rw [hZ1]; exact str_add W [46]
  have tZ1 : (str Z1).size ≤ 21 := by rw [str_size, hZ1, List.length_append]; have := tW; rw [str_size] at this; simp only [List.length_cons, List.length_nil]; omega
  obtain ⟨Z2, hZ2⟩ : ∃ X, X = D0 ++ [46] := ⟨_, rfl⟩
  have aZ2 : str D0 ++ (⟨#[46]⟩ : ByteArray) = str Z2 := by rw [hZ2]; exact str_add D0 [46]
  have tZ2 : (str Z2).size ≤ 21 := by rw [str_size, hZ2, List.length_append]; have := tD0; rw [str_size] at this; simp only [List.length_cons, List.length_nil]; omega
  obtain ⟨Z3, hZ3⟩ : ∃ X, X = Z2 ++ Dm := ⟨_, rfl⟩
  have aZ3 : str Z2 ++ str Dm = str Z3 := by rw [hZ3]; exact str_add Z2 Dm
  have tZ3 : (str Z3).size ≤ 41 := by rw [str_size, hZ3, List.length_append]; have u1 := tZ2; have u2 := tDm; rw [str_size] at u1 u2; omega
  obtain ⟨Z5, hZ5⟩ : ∃ X, X = Z2 ++ D1 := ⟨_, rfl⟩
  have aZ5 : str Z2 ++ str D1 = str Z5 := by rw [hZ5]; exact str_add Z2 D1
  have tZ5 : (str Z5).size ≤ 41 := by rw [str_size, hZ5, List.length_append]; have u1 := tZ2; have u2 := tD1; rw [str_size] at u1 u2; omega
  obtain ⟨Z6, hZ6⟩ : ∃ X, X = Z5 ++ [46] := ⟨_, rfl⟩
  have aZ6 : str Z5 ++ (⟨#[46]⟩ : ByteArray) = str Z6 := by rw [hZ6]; exact str_add Z5 [46]
  have tZ6 : (str Z6).size ≤ 42 := by rw [str_size, hZ6, List.length_append]; have := tZ5; rw [str_size] at this; simp only [List.length_cons, List.length_nil]; omega
  obtain ⟨Z7, hZ7⟩ : ∃ X, X = Z6 ++ Dk := ⟨_, rfl⟩
  have aZ7 : str Z6 ++ str Dk = str Z7 := by rw [hZ7]; exact str_add Z6 Dk
  have tZ7 : (str Z7).size ≤ 62 := by rw [str_size, hZ7, List.length_append]; have u1 := tZ6; have u2 := tDk; rw [str_size] at u1 u2; omega
  obtain ⟨X1, hX1⟩ : ∃ X, X = [48, 120] ++ H0 := ⟨_, rfl⟩
  have aX1 : (⟨#[48, 120]⟩ : ByteArray) ++ str H0 = str X1 := by rw [hX1]; exact str_add [48, 120] H0
  have tX1 : (str X1).size ≤ 22 := by rw [str_size, hX1, List.length_append]; have := tH0; rw [str_size] at this; simp only [List.length_cons, List.length_nil]; omega
  obtain ⟨X2, hX2⟩ : ∃ X, X = X1 ++ [46, 48, 88] := ⟨_, rfl⟩
  have aX2 : str X1 ++ (⟨#[46, 48, 88]⟩ : ByteArray) = str X2 := by rw [hX2]; exact str_add X1 [46, 48, 88]
  have tX2 : (str X2).size ≤ 25 := by rw [str_size, hX2, List.length_append]; have := tX1; rw [str_size] at this; simp only [List.length_cons, List.length_nil]; omega
  obtain ⟨X3, hX3⟩ : ∃ X, X = X2 ++ H1 := ⟨_, rfl⟩
  have aX3 : str X2 ++ str H1 = str X3 := by rw [hX3]; exact str_add X2 H1
  have tX3 : (str X3).size ≤ 45 := by rw [str_size, hX3, List.length_append]; have u1 := tX2; have u2 := tH1; rw [str_size] at u1 u2; omega
  obtain ⟨X4, hX4⟩ : ∃ X, X = X3 ++ [46, 48] := ⟨_, rfl⟩
  have aX4 : str X3 ++ (⟨#[46, 48]⟩ : ByteArray) = str X4 := by rw [hX4]; exact str_add X3 [46, 48]
  have tX4 : (str X4).size ≤ 47 := by rw [str_size, hX4, List.length_append]; have := tX3; rw [str_size] at this; simp only [List.length_cons, List.length_nil]; omega
  obtain ⟨X5, hX5⟩ : ∃ X, X = X4 ++ O2 := ⟨_, rfl⟩
  have aX5 : str X4 ++ str O2 = str X5 := by rw [hX5]; exact str_add X4 O2
  have tX5 : (str X5).size ≤ 67 := by rw [str_size, hX5, List.length_append]; have u1 := tX4; have u2 := tO2; rw [str_size] at u1 u2; omega
  obtain ⟨X6, hX6⟩ : ∃ X, X = X5 ++ [46] := ⟨_, rfl⟩
  have aX6 : str X5 ++ (⟨#[46]⟩ : ByteArray) = str X6 := by rw [hX6]; exact str_add X5 [46]
  have tX6 : (str X6).size ≤ 68 := by rw [str_size, hX6, List.length_append]; have := tX5; rw [str_size] at this; simp only [List.length_cons, List.length_nil]; omega
  obtain ⟨X7, hX7⟩ : ∃ X, X = X6 ++ D3 := ⟨_, rfl⟩
  have aX7 : str X6 ++ str D3 = str X7 := by rw [hX7]; exact str_add X6 D3
  have tX7 : (str X7).size ≤ 88 := by rw [str_size, hX7, List.length_append]; have u1 := tX6; have u2 := tD3; rw [str_size] at u1 u2; omega
  obtain ⟨X8, hX8⟩ : ∃ X, X = [48] ++ On := ⟨_, rfl⟩
  have aX8 : (⟨#[48]⟩ : ByteArray) ++ str On = str X8 := by rw [hX8]; exact str_add [48] On
  have tX8 : (str X8).size ≤ 21 := by rw [str_size, hX8, List.length_append]; have := tOn; rw [str_size] at this; simp only [List.length_cons, List.length_nil]; omega
  obtain ⟨X9, hX9⟩ : ∃ X, X = [48, 120] ++ Hn := ⟨_, rfl⟩
  have aX9 : (⟨#[48, 120]⟩ : ByteArray) ++ str Hn = str X9 := by rw [hX9]; exact str_add [48, 120] Hn
  have tX9 : (str X9).size ≤ 22 := by rw [str_size, hX9, List.length_append]; have := tHn; rw [str_size] at this; simp only [List.length_cons, List.length_nil]; omega
  have hways : ways n = [W, Z1, Dn, Z3, Z7, X7, X8, X9] := by
    rw [hX9, hX8, hX7, hX6, hX5, hX4, hX3, hX2, hX1, hZ7, hZ6, hZ5, hZ3, hZ2, hZ1, hHn, hOn, hO2, hH1, hH0, hD3, hDk, hD1, hDm, hD0, hDn, hW, hb0, hb1, hb2, hb3, hm24, hm16]
    simp [ways]
  have HTx : Hid (∀ w', Kept w w' → Calls Tryd.prog 11 #[.int .u32 (n : Int)] w' fun e w2 => e = .returned (.string (str W)) ∧ Kept w w2) := fun w' hk => by
    rw [hW]
    refine (text4_any n hn w').mono ?_
    rintro e w2 ⟨rfl, hb⟩
    exact ⟨rfl, hk.step hb⟩
  have HDm : Hid (∀ w', Kept w w' → Calls Tryd.prog 16 #[.string (str W)] w' fun e w2 => e = .returned (.bool false) ∧ Kept w w2) := fun w' hk => by
    have h := dom_is (text4 n) false hdom.out w' (by have := tx_len _ (byt_lt n) 4; show (tx _ 4).length ≤ _; omega) (HT.out.kp hk)
    rw [← hW] at h
    refine h.mono ?_
    rintro e w2 ⟨rfl, hb⟩
    exact ⟨rfl, hk.step hb⟩
  have HIp : Hid (∀ T, T ∈ [W, Z1, Dn, Z3, Z7, X7, X8, X9] → ∀ w', Kept w w' → Calls Tryd.prog 14 #[.string (str T)] w' fun e w2 => e = .returned (.tuple #[.int .u32 (n : Int), .bool true, .int .i64 0]) ∧ Below w'.heap.size w' w2) := fun T hT w' hk => by
    have hT' := hw.out T (by rw [hways]; exact hT)
    have h := four_any T w' (by have := hT'.len; omega) (HT.out.kp hk)
    rw [hT'.ip] at h
    exact h
  have HIs : Hid (∀ T, T ∈ [W, Z1, Dn, Z3, Z7, X7, X8, X9] → ∀ w', Kept w w' → Calls Tryd.prog 15 #[.string (str T), .string (str W)] w' fun e w2 => e = .returned (.bool true) ∧ Below w'.heap.size w' w2) := fun T hT w' hk => by
    have hT' := hw.out T (by rw [hways]; exact hT)
    have h := is_yes T (text4 n) hT'.prs w' (by have := hT'.len; omega) (HT.out.kp hk)
    rw [← hW] at h
    exact h
  have hk0 := Kept.refl w
  clear ht hb hm24 hm16 hq1 hq2 hb0 hb1 hb2 hb3 hways hW hDn hD0 hDm hD1 hDk hD3 hH0 hH1 hO2 hOn hHn hZ1 hZ2 hZ3 hZ5 hZ6 hZ7 hX1 hX2 hX3 hX4 hX5 hX6 hX7 hX8 hX9
  go_enter Tryd.func4, Tryd.ntmps4
  go_wp2_with (first
    | (go_at_call 9; with_reducible refine HSh.out.mono ?_; rintro e w1 ⟨rfl, hk1⟩)
    | (go_at_call 11; with_reducible refine (HTx.out _ (by assumption)).mono ?_; rintro e wx ⟨rfl, hkx⟩)
    | (go_at_call 12; first
      | (with_reducible refine (KDn.out _).mono ?_; rintro e wx ⟨rfl, hbx⟩; have hkx := Kept.step (w := w) (by assumption) hbx)
      | (with_reducible refine (KD0.out _).mono ?_; rintro e wx ⟨rfl, hbx⟩; have hkx := Kept.step (w := w) (by assumption) hbx)
      | (with_reducible refine (KDm.out _).mono ?_; rintro e wx ⟨rfl, hbx⟩; have hkx := Kept.step (w := w) (by assumption) hbx)
      | (with_reducible refine (KD1.out _).mono ?_; rintro e wx ⟨rfl, hbx⟩; have hkx := Kept.step (w := w) (by assumption) hbx)
      | (with_reducible refine (KDk.out _).mono ?_; rintro e wx ⟨rfl, hbx⟩; have hkx := Kept.step (w := w) (by assumption) hbx)
      | (with_reducible refine (KD3.out _).mono ?_; rintro e wx ⟨rfl, hbx⟩; have hkx := Kept.step (w := w) (by assumption) hbx)))
  have hk7 : Kept w wx := by assumption
  have hz7 := hk7.size
  have hown7 : OwnS (wx.alloc (.cells #[.string (str W), .string (str Z1), .string (str Dn), .string (str Z3), .string (str Z7)] 9)) w.heap.size _ 5 [W, Z1, Dn, Z3, Z7] := ownS_lit wx w.heap.size hz7 [W, Z1, Dn, Z3, Z7] 5 rfl (by omega) _ rfl
  have hk8 : Kept w (wx.alloc (.cells #[.string (str W), .string (str Z1), .string (str Dn), .string (str Z3), .string (str Z7)] 9)) := hk7.alloc _
  obtain ⟨w8, hw8⟩ : ∃ w8, w8 = wx.alloc (.cells #[.string (str W), .string (str Z1), .string (str Dn), .string (str Z3), .string (str Z7)] 9) := ⟨_, rfl⟩
  rw [← hw8] at hown7 hk8 ⊢
  clear hw8
  go_wp2_with (first
    | (go_at_call 13; first
      | (with_reducible refine (KH0.out w8).mono ?_; rintro e w10 ⟨rfl, hb10⟩)
      | (with_reducible refine (KH1.out w10).mono ?_; rintro e w11 ⟨rfl, hb11⟩)
      | (with_reducible refine (KO2.out w11).mono ?_; rintro e w12 ⟨rfl, hb12⟩)
      | (with_reducible refine (KOn.out w13).mono ?_; rintro e w14 ⟨rfl, hb14⟩)
      | (with_reducible refine (KHn.out w14).mono ?_; rintro e w15 ⟨rfl, hb15⟩; have hown15 := own_chain hown7 hb10 hb11 hb12 hb13 hb14 hb15; have hk15 := kept_chain hk8 hb10 hb11 hb12 hb13 hb14 hb15; have hz15 := kept_size hk15))
    | (go_at_call 12; with_reducible refine (KD3.out w12).mono ?_; rintro e w13 ⟨rfl, hb13⟩)
    | ((with_reducible show wpList _ _ _ (⟨some 83, .call _, _, _, _, _⟩ :: _) _ _); refine wp_appSt _ rfl (.tmp 58) (.tmp 82) rfl w.heap.size _ 5 [W, Z1, Dn, Z3, Z7] rfl (ownS_alloc hown15 _) w15.heap.size 3 3 [X7, X8, X9] rfl (Ps.lit w15 [X7, X8, X9] _ rfl) rfl (by omega) (by simp; omega) ?_; intro v9 w9 hown9 hb9; obtain ⟨g9, c9, rfl, hc9, hps9⟩ := hown9.form (by omega); have hk9 := (hk15.alloc _).base hb9; have HPS := Lib.hid hps9; clear hown9 hps9; simp only [Act.put, List.setIfInBounds_toArray, List.set_cons_zero, List.set_cons_succ]))
  have hcells : Hid (∀ k, k < 8 → ∃ T, T ∈ [W, Z1, Dn, Z3, Z7, X7, X8, X9] ∧ ∀ wr, Kept w9 wr → wr.cell? ⟨g9, k, none⟩ = some (.string (str T))) := fun k hk => by
    obtain ⟨T, hT⟩ : ∃ T, ([W, Z1, Dn, Z3, Z7] ++ [X7, X8, X9])[k]? = some T := ⟨_, List.getElem?_eq_getElem (by simpa using hk)⟩
    exact ⟨T, List.mem_of_getElem? hT, fun wr hkr => (HPS.out.kept hkr).at_ hT⟩
  go_loopw [10] (fun i wr => ∃ k : Nat, k ≤ 8 ∧ i = .int .i64 (k : Int) ∧ Kept w9 wr) (fun i _ => 8 - (intOf i).toNat)
  case atStart => exact ⟨0, by omega, rfl, Kept.refl _⟩
  case round =>
    obtain ⟨k, hk, rfl, hkr⟩ := hrel
    have hkw : Kept w wr := hk9.step hkr
    by_cases hlt : k < 8
    · have hki : (k : Int) < 8 := by omega
      obtain ⟨U, hU, hc⟩ := hcells.out k hlt
      have hc1 := hc wr hkr
      have HC := Lib.hid hc
      have HU := Lib.hid hU
      clear hc hU
      go_wp2_with (first
        | (go_at_call 14; with_reducible refine (HIp.out U HU.out _ hkw).mono ?_; rintro e w20 ⟨rfl, hb20⟩; have hkr20 := hkr.step hb20; have hkw20 := hkw.step hb20; have hc20 := HC.out w20 hkr20)
        | (go_at_call 15; with_reducible refine (HIs.out U HU.out _ hkw20).mono ?_; rintro e w21 ⟨rfl, hb21⟩; have hkr21 := hkr20.step hb21))
      go_roundw
      case rel =>
        (repeat apply Exists.intro)
        refine ⟨?rel2, rfl⟩
        exact ⟨k + 1, by omega, by go_num, hkr21⟩
      case measure => simp [intOf]; omega
    · have hki : ¬ (k : Int) < 8 := by omega
      go_wp2_with (first
        | (go_at_call 16; with_reducible refine (HDm.out _ hkw).mono ?_; rintro e w22 ⟨rfl, hkw22⟩))
      go_ret
      exact ⟨rfl, hkw22⟩
end Go.Proofs.YtcfgcakmffkpmaaDoor
