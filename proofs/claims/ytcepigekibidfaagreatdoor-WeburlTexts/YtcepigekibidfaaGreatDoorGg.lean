/-
  What strconv.AppendUint answers: to base ten (by the kit's contract), to base sixteen (walked, of numbers below 65536); nothing that was there turns. Condition: the library's tables; rows of at most 1000000 bytes.
  What host.dotted answers: an IPv4 as it is written; nothing that was there turns. Condition: the library's tables.
  What host.parseName answers; nothing that was there turns. Condition: texts of at most 100000000 bytes; the library's tables.
  Words for rows of words of 16 bits in memory: a slice value that holds a list of numbers, a row that the call itself made, append. No condition.
  What host.piece answers; nothing turns. Condition: texts of at most 100000000 bytes.
-/
import Derived.Test.YtcepigekibidfaaGreatDoorGf
import Derived.Test.YtcepigekibidfaaGreatDoorGa
namespace Go.Proofs.YtcepigekibidfaaGreatDoor
open Go.RowKit

set_option maxHeartbeats 1000000 in
theorem append10 (B n u : Nat) (hu : u < 4294967296) (v : Value) (l : List UInt8) (w : World) (hown : Own w B v n l) (hB : B ≤ w.heap.size) (hn : n ≤ 1000000) (ht : Tabs w) :
    Calls Tryz.prog 153 #[v, .int .u64 (u : Int), .int .i64 10] w fun e w' => ∃ v', e = .returned v' ∧ Own w' B v' (n + (Lib.decDigits u).length) (l ++ Lib.decDigits u) ∧ Below B w w' := by
  have h := Any.internal_strconv_AppendUint_10 Tryz.laysM288 B n u (by omega) v (vbs l) w hown hB (by omega) ht.here.pow
  have H : Hid (Calls Tryz.prog 186 #[v, .int .u64 (u : Int), .int .i64 10] w fun e w' => ∃ v', e = .returned v' ∧ Own w' B v' (n + (Lib.decDigits u).length) (l ++ Lib.decDigits u) ∧ Below B w w') := by
    refine h.mono ?_
    rintro e w' ⟨v', rfl, h1, h2, _⟩
    refine ⟨v', rfl, ?_, h2⟩
    have e : vbs l ++ Lib.byteCells (Lib.decDigits u) = vbs (l ++ Lib.decDigits u) := by rw [vbs_append]; rfl
    rw [e] at h1
    exact h1
  clear h hown
  go_enter Tryz.func153, Tryz.ntmps153
  go_wp2_with (go_at_call 186; with_reducible refine H.out.mono ?_; rintro e w1 ⟨v1, rfl, h1, h2⟩)
  go_ret
  exact ⟨_, rfl, h1, h2⟩

set_option maxHeartbeats 1000000 in
theorem tz16 (w : World) (ht : Tabs w) : Calls Tryz.prog 199 #[.int .u64 16] w fun e w' => e = .returned (.int .i64 4) ∧ w' = w := by
  have hd := ht.here.deb
  have f1 : IntKind.u64.wrap (-16) = 18446744073709551600 := by decide +kernel
  have f2 : bits .and .u64 16 18446744073709551600 = 16 := by decide +kernel
  have f3 : IntKind.u64.wrap 4573923408821661840 = 4573923408821661840 := by decide +kernel
  go_enter Tryz.func199, Tryz.ntmps199
  go_wp2
  go_ret
  exact ⟨rfl, rfl⟩
theorem pow2 (w : World) : Calls Tryz.prog 198 #[.int .i64 16] w fun e w' => e = .returned (.bool true) ∧ w' = w := by
  have f1 : bits .and .i64 16 15 = 0 := by decide +kernel
  go_enter Tryz.func198, Tryz.ntmps198
  go_wp2
  go_ret
  exact ⟨rfl, rfl⟩

def hexLs : List UInt8 := [48, 49, 50, 51, 52, 53, 54, 55, 56, 57, 97, 98, 99, 100, 101, 102]
/-- A digit to base sixteen, in lower case. -/
def hx (n : Nat) : UInt8 := hexLs.getD n 0
/-- A number to base sixteen, without noughts ahead. -/
def hexL (u : Nat) : List UInt8 := if u < 16 then [hx u] else hexL (u / 16) ++ [hx (u % 16)]
termination_by u
decreasing_by omega
theorem hexL_lt {u : Nat} (h : u < 16) : hexL u = [hx u] := by rw [hexL, if_pos h]
theorem hexL_ge {u : Nat} (h : ¬ u < 16) : hexL u = hexL (u / 16) ++ [hx (u % 16)] := by rw [hexL, if_neg h]
def digs : List UInt8 := [48, 49, 50, 51, 52, 53, 54, 55, 56, 57, 97, 98, 99, 100, 101, 102, 103, 104, 105, 106, 107, 108, 109, 110, 111, 112, 113, 114, 115, 116, 117, 118, 119, 120, 121, 122]
theorem digs_hx : ∀ n, n < 16 → digs.getD n 0 = hx n := by decide
section
variable {ops : Array Oper} {rest : List Oper} {o : Oper} {a : Act} {Q : Exit → Act → World → Prop}
/-- 's[k]', s a text. -/
theorem wp_idxS (w : World) (hgd : o.guard = none) (x ix : Operand) (ho : o.op = .index 9 x ix) (L : List UInt8) (hx : a.eval x = .string (str L)) (k : Nat) (yk : IntKind) (hk : a.eval ix = .int yk (k : Int)) (hlt : k < L.length)
    (m : Nat) (hm : m = (L.getD k 0).toNat) (h : wpList Tryz.prog ops Q rest (a.put o.dst (.int .u8 (m : Int))) w) : wpList Tryz.prog ops Q (o :: rest) a w := by
  refine wpList_plain hgd fun K hK => ?_
  have hrun : (Instr.index 9 (.string (str L)) (.int yk (k : Int))).run Tryz.prog w = .ok (.int .u8 (m : Int)) w := by
    have h1 : (k : Int) < (str L).size := by rw [str_size]; omega
    have h2 : k < (str L).size := by rw [str_size]; omega
    have h3 := str_at L k hlt h2
    rw [run_index_string w 9 (str L) yk (k : Int) Tryz.underlying9]
    simp [h1, h3, hm]
  unfold Oper.wp execOp
  simp only [ho, hx, hk, hrun, Sem.run_bind, Sem.run_pure, Result.andThen_ok]
  exact hK _ _ h
end
theorem and15 (u : Nat) (h : u < 18446744073709551616) : bits .and .u64 (u : Int) 15 = ((u % 16 : Nat) : Int) := by
  have h1 := u64_and_nat u 15 h (by omega)
  rw [show (u &&& 15) = u % 16 from Nat.and_two_pow_sub_one_eq_mod u 4] at h1
  exact h1
theorem type121 : (Tryz.prog.info? 222).map (fun i => i.zero) = some (some (.agg (List.replicate 65 (.int .u8 0)).toArray)) := by kernel_rfl

theorem slice121 (w : World) (g q : Nat) (h : q < 65) : (Instr.sliceAt 222 (.pointer (some ⟨g, 0, none⟩)) (some (.int .i64 (q : Int))) none none).run Tryz.prog w = .ok (.slice (some ⟨g, q, none⟩) (65 - q) (65 - q)) w := by
  have h1 : q ≤ 65 := by omega
  have h2 : ¬ 65 = q := by omega
  have hsz : ∀ w, (sizeOf 5).run Tryz.prog w = .ok 1 w := fun w => Tryz.sizeOf5 w
  simp [Instr.sliceAt, run_underlying Tryz.underlying222, Instr.sureAddr, Instr.sliceBounds, Instr.sliceBound, asIntOf, hsz, h1, h2, Addr.add_lit]
theorem Blk.bs {w : World} {g : Nat} {t : TypeId} {C : List Value} (h : Blk w g t C) (k : Nat) (l : List UInt8) (hl : C.drop k = vbs l) (n : Nat) (hn : l.length = n) : Bs w w.heap.size (some ⟨g, k, none⟩) n l := by
  refine ⟨hn, fun _ => ⟨g, k, rfl, h.lt, fun j c hj => h.cell ?_⟩⟩
  rw [← List.getElem?_drop, hl]
  simp [vbs, hj]

set_option maxHeartbeats 8000000 in
set_option maxRecDepth 100000 in
theorem fmt16 (B n u0 : Nat) (hu : u0 < 65536) (v : Value) (l : List UInt8) (w : World) (hown : Own w B v n l) (hB : B ≤ w.heap.size) (hn : n ≤ 1000000) (ht : Tabs w) :
    Calls Tryz.prog 175 #[v, .int .u64 (u0 : Int), .int .i64 16, .bool false, .bool true] w fun e w' => ∃ v', e = .returned (.tuple #[v', .string ⟨#[]⟩]) ∧ Own w' B v' (n + (hexL u0).length) (l ++ hexL u0) ∧ Below B w w' ∧ KeepsBut 5 w w' := by
  have P2 := Lib.hid pow2
  have HT := Lib.hid ht
  clear ht
  go_enter Tryz.func175, Tryz.ntmps175
  go_wp2_with (first
    | ((with_reducible show wpList _ _ _ (⟨some 12, .alloc _, _, _, _, _⟩ :: _) _ _); refine wp_new _ rfl 222 rfl _ type121 ?_; intro w1 g B1 F1; simp only [Act.put, List.setIfInBounds_toArray, List.set_cons_zero, List.set_cons_succ])
    | (go_at_call 198; with_reducible refine (P2.out _).mono ?_; rintro e w2 ⟨rfl, rfl⟩)
    | (go_at_call 199; with_reducible refine (tz16 _ (HT.out.kept F1.below)).mono ?_; rintro e w3 ⟨rfl, rfl⟩))
  have hg : Hid (g = w.heap.size) := F1.is
  have hkp1 := Lib.hid F1.below
  clear F1 P2
  go_loopw [1, 13] (fun x y wr => ∃ (u k j : Nat) (D : List UInt8) (C : List Value), x = .int .u64 (u : Int) ∧ y = .int .i64 (k : Int) ∧ k + D.length = 65 ∧ D.length + j = 4 ∧ 1 ≤ j ∧ u < 16 ^ j ∧ hexL u0 = hexL u ++ D ∧ Blk wr g 222 C ∧ C.length = 65 ∧ C.drop k = vbs D ∧ Upd g w3 wr) (fun x _ _ => (intOf x).toNat)
  case atStart => exact ⟨u0, 65, 4, [], _, rfl, rfl, rfl, rfl, by omega, hu, by simp, B1, by simp, by simp [vbs], Upd.refl _ _⟩
  case round =>
    obtain ⟨u, k, j, D, C, rfl, rfl, hkD, hDj, hj1, huj, hex, hblk, hCl, hCd, hupd⟩ := hrel
    have hu16 : u < 65536 := by
      have : 16 ^ j ≤ 16 ^ 4 := Nat.pow_le_pow_right (by omega) (by omega)
      have e : (16 : Nat) ^ 4 = 65536 := by decide
      omega
    obtain ⟨k1, hk1⟩ : ∃ k1, k = k1 + 1 := ⟨k - 1, by omega⟩
    have hk1i : (k : Int) - 1 = (k1 : Int) := by omega
    have hk1l : k1 < 65 := by omega
    have hcell := hblk.cell (List.getElem?_eq_getElem (by rw [hCl]; omega : k1 < C.length))
    have hfr := hblk.frozen k1
    by_cases hge : u < 16
    · have hgei : ¬ (16 : Int) ≤ (u : Int) := by omega
      obtain ⟨m, hm⟩ : ∃ m, m = (digs.getD u 0).toNat := ⟨_, rfl⟩
      have hu36 : u < digs.length := by have : digs.length = 36 := rfl; omega
      obtain ⟨d, hd⟩ : ∃ d, d = 65 - k1 := ⟨_, rfl⟩
      have hdi : (65 : Int) - (k1 : Int) = (d : Int) := by omega
      have hk1le : k1 ≤ 65 := by omega
      have hdrop : (C.set k1 (.int .u8 (m : Int))).drop k1 = vbs (hexL u0) := by
        have hmx : m = (hx u).toNat := by rw [hm, digs_hx u hge]
        have hlt : k1 < (C.set k1 (.int .u8 (m : Int))).length := by simp [hCl]; omega
        rw [List.drop_eq_getElem_cons hlt]
        have e2 : (C.set k1 (.int .u8 (m : Int))).drop (k1 + 1) = C.drop (k1 + 1) := List.drop_set_of_lt (by omega)
        rw [e2, ← hk1, hCd, hex, hexL_lt hge]
        simp [vbs, vb, hmx]
      have hxl : Hid ((hexL u0).length = d) := by
        show _ = _
        rw [hex, hexL_lt hge, hd]
        simp
        omega
      have hblk2 : Hid (∀ V, Blk (wr.setCell ⟨g, k1, none⟩ V) g 222 (C.set k1 V)) := fun V => hblk.set k1 V
      have hup : Hid (∀ V, Upd g w3 (wr.setCell ⟨g, k1, none⟩ V)) := fun V => hupd.trans (Upd.setCell _ _ _ _)
      have HX := Lib.hid (And.intro hm hdrop)
      have hd9 : Hid (d ≤ 65) := by show _ ≤ _; omega
      have HD := Lib.hid hd
      clear hm hdrop hex hblk hupd hCd hd
      have hsl : ∀ w', (Instr.sliceAt 222 (.pointer (some ⟨g, 0, none⟩)) (some (.int .i64 (k1 : Int))) none none).run Tryz.prog w' = .ok (.slice (some ⟨g, k1, none⟩) d d) w' := fun w' => by rw [HD.out]; exact slice121 w' g k1 hk1l
      have hown2 : Hid (∀ V, Own (wr.setCell ⟨g, k1, none⟩ V) B v n l) := fun V => hown.kept (hkp1.out.trans ((hup.out V).below (Nat.le_of_eq hg.out.symm)))
      have hbs : Hid (Bs (wr.setCell ⟨g, k1, none⟩ (.int .u8 (m : Int))) (wr.setCell ⟨g, k1, none⟩ (.int .u8 (m : Int))).heap.size (some ⟨g, k1, none⟩) d (hexL u0)) := (hblk2.out _).bs k1 _ HX.out.2 d hxl.out
      have hsz3 : Hid (∀ V, B ≤ (wr.setCell ⟨g, k1, none⟩ V).heap.size) := fun V => by
        show _ ≤ _
        have h1 := (hup.out V).size
        have h2 := hkp1.out.size
        omega
      have hnd : n + d ≤ 1000000000 := by have := hd9.out; omega
      go_wp2_with (first
        | (at_builtin; refine wp_appK _ rfl _ _ rfl B _ n l rfl (hown2.out _) _ _ d _ _ rfl hbs.out hnd (hsz3.out _) ?_; intro v6 w6 hown6 hb6 hkb6)
        | ((with_reducible show wpList _ _ _ (⟨some 62, .index _ _ _, _, _, _, _⟩ :: _) _ _); refine wp_idxS _ rfl _ _ rfl digs rfl u _ rfl hu36 m HX.out.1 ?_; simp only [Act.put, List.setIfInBounds_toArray, List.set_cons_zero, List.set_cons_succ]))
      go_ret2
      refine ⟨v6, rfl, ?_, ?_, (KeepsBut.of_below 5 (hkp1.out.trans ((hup.out (.int .u8 (m : Int))).below (Nat.le_of_eq hg.out.symm)))).trans hkb6⟩
      · rw [hxl.out]
        exact hown6
      · refine ((hkp1.out.mono hB).trans ((hup.out (.int .u8 (m : Int))).below ?_)).trans hb6
        rw [hg.out]
        exact hB
    · have hgei : (16 : Int) ≤ (u : Int) := by omega
      have hand := and15 u (by omega)
      obtain ⟨r, hr⟩ : ∃ r, r = u % 16 := ⟨_, rfl⟩
      obtain ⟨q, hq⟩ : ∃ q, q = u / 16 := ⟨_, rfl⟩
      rw [← hr] at hand
      have hr16 : r < digs.length := by rw [hr]; have : digs.length = 36 := rfl; omega
      have hqi : (u : Int) / 16 = (q : Int) := by omega
      obtain ⟨m, hm⟩ : ∃ m, m = (digs.getD r 0).toNat := ⟨_, rfl⟩
      have HX := Lib.hid (And.intro hex (And.intro hr (And.intro hq hm)))
      have HU := Lib.hid (And.intro hupd (And.intro hblk hCd))
      clear hex hr hq hm hupd hblk hCd
      go_wp2_with (first
        | ((with_reducible show wpList _ _ _ (⟨some 53, .index _ _ _, _, _, _, _⟩ :: _) _ _); refine wp_idxS _ rfl _ _ rfl digs rfl r _ rfl hr16 m HX.out.2.2.2 ?_; simp only [Act.put, List.setIfInBounds_toArray, List.set_cons_zero, List.set_cons_succ]))
      go_roundw
      case rel =>
        refine ⟨q, k1, j - 1, hx r :: D, C.set k1 (.int .u8 (m : Int)), rfl, rfl, by simp; omega, by simp; omega, ?_, ?_, ?_, HU.out.2.1.set k1 _, by simp [hCl], ?_, HU.out.1.trans (Upd.setCell _ _ _ _)⟩
        · rcases j with _ | _ | j
          · omega
          · simp at huj
            omega
          · omega
        · rw [HX.out.2.2.1]
          have e : 16 ^ j = 16 * 16 ^ (j - 1) := by
            rw [← Nat.pow_succ']
            congr 1
            omega
          rw [e] at huj
          exact Nat.div_lt_of_lt_mul huj
        · rw [HX.out.1, hexL_ge hge, ← HX.out.2.2.1, ← HX.out.2.1]
          simp
        · have hmx : m = (hx r).toNat := by rw [HX.out.2.2.2, digs_hx r (by rw [HX.out.2.1]; omega)]
          have hlt : k1 < (C.set k1 (.int .u8 (m : Int))).length := by simp [hCl]; omega
          rw [List.drop_eq_getElem_cons hlt]
          have e2 : (C.set k1 (.int .u8 (m : Int))).drop (k1 + 1) = C.drop (k1 + 1) := List.drop_set_of_lt (by omega)
          rw [e2, ← hk1, HU.out.2.2]
          simp [vbs, vb, hmx]
      case measure =>
        simp [intOf]
        rw [HX.out.2.2.1]
        omega

set_option maxHeartbeats 1000000 in
theorem append16 (B n u : Nat) (hu : u < 65536) (v : Value) (l : List UInt8) (w : World) (hown : Own w B v n l) (hB : B ≤ w.heap.size) (hn : n ≤ 1000000) (ht : Tabs w) :
    Calls Tryz.prog 153 #[v, .int .u64 (u : Int), .int .i64 16] w fun e w' => ∃ v', e = .returned v' ∧ Own w' B v' (n + (hexL u).length) (l ++ hexL u) ∧ Below B w w' ∧ KeepsBut 5 w w' := by
  have H := Lib.hid (fmt16 B n u hu v l w hown hB hn ht)
  have H2 : Hid (Calls Tryz.prog 186 #[v, .int .u64 (u : Int), .int .i64 16] w fun e w' => ∃ v', e = .returned v' ∧ Own w' B v' (n + (hexL u).length) (l ++ hexL u) ∧ Below B w w' ∧ KeepsBut 5 w w') := by
    show Calls _ _ _ _ _
    clear hown ht
    go_enter Tryz.func186, Tryz.ntmps186
    go_wp2_with (go_at_call 175; with_reducible refine H.out.mono ?_; rintro e w1 ⟨v1, rfl, h1, h2, h3⟩)
    go_ret
    exact ⟨_, rfl, h1, h2, h3⟩
  clear hown H ht
  go_enter Tryz.func153, Tryz.ntmps153
  go_wp2_with (go_at_call 186; with_reducible refine H2.out.mono ?_; rintro e w1 ⟨v1, rfl, h1, h2, h3⟩)
  go_ret
  exact ⟨_, rfl, h1, h2, h3⟩
end Go.Proofs.YtcepigekibidfaaGreatDoor
namespace Go.Proofs.YtcepigekibidfaaGreatDoor
open Go.RowKit

theorem Tabs.kp {w w' : World} (h : Tabs w) (hb : Kept w w') : Tabs w' := h.kept hb
/-- Numbers to base ten with dots between. -/
def tx (b : Nat → Nat) : Nat → List UInt8
  | 0 => []
  | k + 1 => tx b k ++ (if k = 0 then [] else [46]) ++ Lib.decDigits (b k)
/-- The bytes of an address, the highest first. -/
def byt (n i : Nat) : Nat := n / 256 ^ (3 - i) % 256
def text4 (n : Nat) : List UInt8 := tx (byt n) 4

theorem dec_len256 : ∀ u, u < 256 → (Lib.decDigits u).length ≤ 3 := by
  intro u hu
  rw [Lib.decDigits]
  split
  · simp
  · rw [Lib.decDigits]
    split
    · simp
    · rw [Lib.decDigits]
      split
      · simp
      · omega
theorem tx_len (b : Nat → Nat) (hb : ∀ i, b i < 256) : ∀ k, (tx b k).length ≤ 4 * k
  | 0 => by simp [tx]
  | k + 1 => by
    have ih := tx_len b hb k
    have h1 := dec_len256 (b k) (hb k)
    rw [tx, List.length_append, List.length_append]
    split
    · simp
      omega
    · simp
      omega
theorem byt_lt (n i : Nat) : byt n i < 256 := Nat.mod_lt _ (by omega)
theorem type89 : (Tryz.prog.info? 177).map (fun i => i.zero) = some (some (.agg [.int .u8 0, .int .u8 0, .int .u8 0, .int .u8 0].toArray)) := by kernel_rfl
theorem size89 : (Tryz.prog.info? 177).map (·.size) = some 4 := by kernel_rfl
theorem size5 : (Tryz.prog.info? 5).map (·.size) = some 1 := by kernel_rfl

def vnt (b : Nat → Nat) : List Value := [.int .u8 (b 0 : Int), .int .u8 (b 1 : Int), .int .u8 (b 2 : Int), .int .u8 (b 3 : Int)]
theorem vnt_get (b : Nat → Nat) (k : Nat) (h : k < 4) : (vnt b)[k]? = some (.int .u8 (b k : Int)) := by
  match k, h with
  | 0, _ => rfl
  | 1, _ => rfl
  | 2, _ => rfl
  | 3, _ => rfl

set_option maxHeartbeats 8000000 in
set_option maxRecDepth 100000 in
theorem dotted_any (n : Nat) (w : World) (ht : Tabs w) : Calls Tryz.prog 126 #[.int .u32 (n : Int)] w fun e w' => e = .returned (.string (str (text4 n))) ∧ Below w.heap.size w w' := by
  have hb := byt_lt n
  have h0 : IntKind.u8.wrap ((n : Int) / 16777216) = (byt n 0 : Int) := by rw [IntKind.wrap_u8]; simp [byt]
  have h1 : IntKind.u8.wrap ((n : Int) / 65536) = (byt n 1 : Int) := by rw [IntKind.wrap_u8]; simp [byt]
  have h2 : IntKind.u8.wrap ((n : Int) / 256) = (byt n 2 : Int) := by rw [IntKind.wrap_u8]; simp [byt]
  have h3 : IntKind.u8.wrap (n : Int) = (byt n 3 : Int) := by rw [IntKind.wrap_u8]; simp [byt]
  obtain ⟨b, hbb⟩ : ∃ b, b = byt n := ⟨_, rfl⟩
  obtain ⟨R, hR⟩ : ∃ R, R = text4 n := ⟨_, rfl⟩
  have hT : Hid (R = tx b 4) := by show _ = _; rw [hR, hbb]; rfl
  rw [← hbb] at hb h0 h1 h2 h3
  rw [← hR]
  clear hbb hR
  have HT := Lib.hid ht
  have HB := Lib.hid hb
  clear ht hb
  go_enter Tryz.func126, Tryz.ntmps126
  go_wp2_with (first
    | ((with_reducible show wpList _ _ _ (⟨some 3, .alloc _, _, _, _, _⟩ :: _) _ _); refine wp_new _ rfl 177 rfl _ type89 ?_; intro w1 g B1 F1; simp only [Act.put, List.setIfInBounds_toArray, List.set_cons_zero, List.set_cons_succ])
    | ((with_reducible show wpList _ _ _ (⟨none, .store 177 (.tmp 3) _, _, _, _, _⟩ :: _) _ _); refine wp_putAll _ rfl 177 (.tmp 3) (.tmp 18) rfl g 177 _ (vnt b) rfl rfl B1 rfl size89 (by simp [vnt, Value.oneCell']) ?_; intro w2 B2 U2; simp only [Act.put])
    | ((with_reducible show wpList _ _ _ (⟨some 20, .load 177 _, _, _, _, _⟩ :: _) _ _); refine wp_get _ rfl 177 (.tmp 3) rfl g 0 (vnt b) _ rfl (B2.alloc _).whole Tryz.underlying177 rfl size89 ?_; simp only [Act.put, List.setIfInBounds_toArray, List.set_cons_zero, List.set_cons_succ]))
  have hk2 : Hid (Kept w w2) := F1.below.trans (U2.below (by rw [F1.is]; exact Nat.le_refl _))
  have hz2 : w.heap.size ≤ w2.heap.size := hk2.out.size
  have hown0 : Own (w2.alloc (.cells #[] 5)) w.heap.size _ 0 [] := own_empty w2 w.heap.size hz2
  have b4 : Kept w (w2.alloc (.cells #[] 5)) := hk2.out.alloc _
  have hlen : Hid (∀ k, k ≤ 4 → (tx b k).length ≤ 16) := fun k hk => by have := tx_len b HB.out k; omega
  clear F1 U2 B2 hz2
  go_loopw [21, 4] (fun i v wr => ∃ k : Nat, k ≤ 4 ∧ i = .int .i64 (k : Int) ∧ Kept w wr ∧ Own wr w.heap.size v (tx b k).length (tx b k)) (fun i _ _ => 4 - (intOf i).toNat)
  case atStart => exact ⟨0, by omega, rfl, b4, hown0⟩
  case round =>
    obtain ⟨k, hk, rfl, hkp, hown⟩ := hrel
    clear hown0 b4
    have hLl := hlen.out k hk
    obtain ⟨L, hL⟩ : ∃ L, L = tx b k := ⟨_, rfl⟩
    obtain ⟨NL, hNL⟩ : ∃ NL, NL = (tx b k).length := ⟨_, rfl⟩
    rw [← hNL] at hown hLl
    rw [← hL] at hown
    have hkz := hkp.size
    have HL := Lib.hid (And.intro hL hNL)
    clear hL hNL
    by_cases hlt : k < 4
    · have hki : (k : Int) < 4 := by omega
      have hbk := HB.out k
      have hget := vnt_get b k hlt
      obtain ⟨c, hc⟩ : ∃ c, c = b k := ⟨_, rfl⟩
      rw [← hc] at hbk hget
      have hnext : Hid (tx b (k + 1) = L ++ (if k = 0 then [] else [46]) ++ Lib.decDigits c) := by show _ = _; rw [tx, HL.out.1, hc]
      have HGet := Lib.hid hget
      clear hc hget
      by_cases hk0 : k = 0
      · have hk0i : ¬ (0 : Int) < (k : Int) := by omega
        have hap := Lib.hid (append10 w.heap.size NL c (by omega) _ L wr hown hkz (by omega) (HT.out.kept hkp))
        have hn2 : Hid (tx b (k + 1) = L ++ Lib.decDigits c) := by show _ = _; rw [hnext.out, if_pos hk0]; simp
        clear hnext
        go_wp2_with (first
          | ((with_reducible show wpList _ _ _ (⟨some 24, .index _ _ _, _, _, _, _⟩ :: _) _ _); refine wp_index _ rfl 177 _ _ rfl 4 5 _ Tryz.underlying177 Tryz.underlying5 rfl size5 (vnt b) rfl k rfl hlt _ HGet.out ?_; simp only [Act.put, List.setIfInBounds_toArray, List.set_cons_zero, List.set_cons_succ])
          | (go_at_call 153; with_reducible refine hap.out.mono ?_; rintro e w5 ⟨v5, rfl, hown5, hb5⟩))
        go_roundw
        case rel =>
          refine ⟨k + 1, by omega, by go_num, hkp.base hb5, ?_⟩
          rw [hn2.out, List.length_append, ← HL.out.2.trans (congrArg List.length HL.out.1.symm)]
          exact hown5
        case measure => simp [intOf]; omega
      · have hk0i : (0 : Int) < (k : Int) := by omega
        have hn2 : Hid (tx b (k + 1) = (L ++ [46]) ++ Lib.decDigits c) := by show _ = _; rw [hnext.out, if_neg hk0]
        clear hnext
        go_wp2_with (first
          | ((with_reducible show wpList _ _ _ (⟨some 24, .index _ _ _, _, _, _, _⟩ :: _) _ _); refine wp_index _ rfl 177 _ _ rfl 4 5 _ Tryz.underlying177 Tryz.underlying5 rfl size5 (vnt b) rfl k rfl hlt _ HGet.out ?_; simp only [Act.put, List.setIfInBounds_toArray, List.set_cons_zero, List.set_cons_succ])
          | (at_builtin; refine wp_app _ rfl (.tmp 27) (.tmp 28) rfl w.heap.size _ NL L rfl (hown.alloc _) (wr.heap.size + 1) _ 1 1 [46] rfl (Bs.one' _ _ _ rfl) (by omega) (by simp; omega) ?_; intro v4 w4 hown4 hb4; have hkp4 := hkp.base (((Below.refl _ _).alloc hkz _).trans hb4); have hz4 := hkp4.size)
          | (go_at_call 153; with_reducible refine (append10 w.heap.size (NL + 1) c (by omega) v4 (L ++ [46]) w4 hown4 hz4 (by omega) (HT.out.kp hkp4)).mono ?_; rintro e w5 ⟨v5, rfl, hown5, hb5⟩))
        go_roundw
        case rel =>
          refine ⟨k + 1, by omega, by go_num, hkp4.base hb5, ?_⟩
          rw [hn2.out, List.length_append, List.length_append, ← HL.out.2.trans (congrArg List.length HL.out.1.symm)]
          exact hown5
        case measure => simp [intOf]; omega
    · have hk' : Hid (k = 4) := by show k = 4; omega
      have hki : ¬ (k : Int) < 4 := by omega
      clear hk hlt
      obtain ⟨A, cc, rfl, hcc, hs⟩ := hown.form
      have hst := run_str wr _ A NL cc L hs
      go_wp2_with fail
      go_ret
      refine ⟨?_, hkp⟩
      rw [hT.out, HL.out.1, hk'.out]
      rfl
end Go.Proofs.YtcepigekibidfaaGreatDoor
namespace Go.Proofs.YtcepigekibidfaaGreatDoor
open Go.RowKit

/-- How a name that is decoded is written; true: it is none. -/
def nam (l : List UInt8) : List UInt8 × Bool := if may l then (if (ip4 (low l)).2.2 then ([], true) else if (ip4 (low l)).2.1 then (text4 (ip4 (low l)).1, false) else (low l, false)) else ([], true)
theorem kept_of {w w' : World} (h : Below w.heap.size w w') : Kept w w' := h
def prsV (r : List UInt8 × Bool) : Value := .tuple #[.string (str r.1), errV r.2]

theorem low_length (l : List UInt8) : (low l).length = l.length := by simp [low, Lib.toLowerA]

set_option maxHeartbeats 4000000 in
theorem nam_any (l : List UInt8) (w : World) (hl : l.length ≤ 100000000) (ht : Tabs w) :
    Calls Tryz.prog 91 #[.string (str l)] w fun e w' => e = .returned (prsV (nam l)) ∧ Below w.heap.size w w' := by
  have HM := Lib.hid (may_any l w hl)
  have HT := Lib.hid ht
  clear ht
  cases hm : may l with
  | false =>
    have hr : Hid (nam l = ([], true)) := by show _ = _; unfold nam; rw [hm]; rfl
    rw [hm] at HM
    clear hm
    go_enter Tryz.func91, Tryz.ntmps91
    go_wp2_with (go_at_call 123; with_reducible refine HM.out.mono ?_; rintro e w1 ⟨rfl, rfl⟩)
    go_ret2
    rw [hr.out]
    exact ⟨rfl, Below.refl _ _⟩
  | true =>
    have HLo := Lib.hid (lower_any l w hl hm)
    have hr : Hid (nam l = if (ip4 (low l)).2.2 then ([], true) else if (ip4 (low l)).2.1 then (text4 (ip4 (low l)).1, false) else (low l, false)) := by show _ = _; unfold nam; rw [hm]; rfl
    rw [hm] at HM
    obtain ⟨D, hD⟩ : ∃ D, D = low l := ⟨_, rfl⟩
    have hDl : Hid (D.length ≤ 100000000) := by show _ ≤ _; rw [hD, low_length]; exact hl
    rw [← hD] at HLo hr
    have H4 : Hid (∀ w', Kept w w' → Calls Tryz.prog 125 #[.string (str D)] w' fun e w2 => e = .returned (ip4V (ip4 D)) ∧ Below w'.heap.size w' w2) := fun w' hk => four_any D w' hDl.out (HT.out.kp hk)
    obtain ⟨r, hi⟩ : ∃ r, r = ip4 D := ⟨_, rfl⟩
    rw [← hi] at hr H4
    obtain ⟨n, is, er⟩ := r
    clear hm hD hi hDl
    cases er with
    | true =>
      have H4' : Hid (∀ w', Kept w w' → Calls Tryz.prog 125 #[.string (str D)] w' fun e w2 => e = .returned (.tuple #[.int .u32 (n : Int), .bool is, .int .i64 7]) ∧ Below w'.heap.size w' w2) := H4.out
      have hr2 : Hid (nam l = ([], true)) := hr.out
      clear H4 hr
      go_enter Tryz.func91, Tryz.ntmps91
      go_wp2_with (first
        | (go_at_call 123; with_reducible refine HM.out.mono ?_; rintro e w1 ⟨rfl, rfl⟩)
        | (go_at_call 124; with_reducible refine HLo.out.mono ?_; rintro e w2 ⟨rfl, hb2⟩; have hk2 := kept_of hb2; clear hb2)
        | (go_at_call 125; with_reducible refine (H4'.out _ hk2).mono ?_; rintro e w3 ⟨rfl, hb3⟩; have hk3 := hk2.step hb3; clear hb3))
      go_ret2
      rw [hr2.out]
      exact ⟨rfl, hk3⟩
    | false =>
      have H4' : Hid (∀ w', Kept w w' → Calls Tryz.prog 125 #[.string (str D)] w' fun e w2 => e = .returned (.tuple #[.int .u32 (n : Int), .bool is, .int .i64 0]) ∧ Below w'.heap.size w' w2) := H4.out
      cases is with
      | true =>
        have hr2 : Hid (nam l = (text4 n, false)) := hr.out
        have HDo : Hid (∀ w', Kept w w' → Calls Tryz.prog 126 #[.int .u32 (n : Int)] w' fun e w2 => e = .returned (.string (str (text4 n))) ∧ Below w'.heap.size w' w2) := fun w' hk => dotted_any n w' (HT.out.kp hk)
        clear H4 hr
        go_enter Tryz.func91, Tryz.ntmps91
        go_wp2_with (first
          | (go_at_call 123; with_reducible refine HM.out.mono ?_; rintro e w1 ⟨rfl, rfl⟩)
          | (go_at_call 124; with_reducible refine HLo.out.mono ?_; rintro e w2 ⟨rfl, hb2⟩; have hk2 := kept_of hb2; clear hb2)
          | (go_at_call 125; with_reducible refine (H4'.out _ hk2).mono ?_; rintro e w3 ⟨rfl, hb3⟩; have hk3 := hk2.step hb3; clear hb3)
          | (go_at_call 126; with_reducible refine (HDo.out _ hk3).mono ?_; rintro e w4 ⟨rfl, hb4⟩; have hk4 := hk3.step hb4; clear hb4))
        go_ret2
        rw [hr2.out]
        exact ⟨rfl, hk4⟩
      | false =>
        have hr2 : Hid (nam l = (D, false)) := hr.out
        clear H4 hr
        go_enter Tryz.func91, Tryz.ntmps91
        go_wp2_with (first
          | (go_at_call 123; with_reducible refine HM.out.mono ?_; rintro e w1 ⟨rfl, rfl⟩)
          | (go_at_call 124; with_reducible refine HLo.out.mono ?_; rintro e w2 ⟨rfl, hb2⟩; have hk2 := kept_of hb2; clear hb2)
          | (go_at_call 125; with_reducible refine (H4'.out _ hk2).mono ?_; rintro e w3 ⟨rfl, hb3⟩; have hk3 := hk2.step hb3; clear hb3))
        go_ret2
        rw [hr2.out]
        exact ⟨rfl, hk3⟩
end Go.Proofs.YtcepigekibidfaaGreatDoor
namespace Go.Proofs.YtcepigekibidfaaGreatDoor
open Go.RowKit

def vh (c : Nat) : Value := .int .u16 (c : Int)
def vhs (l : List Nat) : List Value := l.map vh
theorem Hs_one (l : List Nat) : ∀ u ∈ vhs l, u.oneCell' = true := by
  intro u hu
  simp only [vhs, List.mem_map] at hu
  obtain ⟨c, _, rfl⟩ := hu
  rfl
theorem Hs_len (l : List Nat) : (vhs l).length = l.length := by simp [vhs]
theorem Hs_app (l m : List Nat) : vhs (l ++ m) = vhs l ++ vhs m := by simp [vhs]
/-- The slice value '.slice A n c' holds the numbers l, in a block below B. -/
def Hs (w : World) (B : Nat) (A : Option Addr) (n : Nat) (l : List Nat) : Prop :=
  l.length = n ∧ (0 < n → ∃ b off, A = some ⟨b, off, none⟩ ∧ b < B ∧ ∀ j c, l[j]? = some c → w.cell? ⟨b, off + j, none⟩ = some (vh c))
/-- The value v is a row of numbers of the call's own (blocks from base on), of n numbers l. -/
def OwnH (w : World) (base : Nat) (v : Value) (n : Nat) (l : List Nat) : Prop := w.ownsRow base 61 1 v n (vhs l)
section
variable {w w' : World} {B B' n c : Nat} {A : Option Addr} {l : List Nat}
theorem Hs.nil_ (h : Hs w B none n l) : n = 0 ∧ l = [] := by
  rcases Nat.eq_zero_or_pos n with h0 | h0
  · exact ⟨h0, List.eq_nil_of_length_eq_zero (by rw [h.1, h0])⟩
  · obtain ⟨b, off, e, _⟩ := h.2 h0
    cases e
theorem Hs.keep (h : Hs w B A n l) (hk : ∀ b o, b < B → w'.cell? ⟨b, o, none⟩ = w.cell? ⟨b, o, none⟩) : Hs w' B A n l :=
  ⟨h.1, fun hn => by
    obtain ⟨b, off, e, hb, hc⟩ := h.2 hn
    exact ⟨b, off, e, hb, fun j c hj => (hk _ _ hb).trans (hc j c hj)⟩⟩
theorem Hs.more (h : Hs w B A n l) (hB : B ≤ B') : Hs w B' A n l :=
  ⟨h.1, fun hn => by
    obtain ⟨b, off, e, hb, hc⟩ := h.2 hn
    exact ⟨b, off, e, by omega, hc⟩⟩
theorem Hs.below (h : Hs w B A n l) (hb : Below B w w') : Hs w' B A n l := h.keep fun b o hlt => hb.cell (p := ⟨b, o, none⟩) hlt
theorem Hs.at_ (h : Hs w B A n l) {k : Nat} (hk : k < n) : ∃ b off, A = some ⟨b, off, none⟩ ∧ b < B ∧ w.cell? ⟨b, off + k, none⟩ = some (vh (l.getD k 0)) := by
  obtain ⟨b, off, e, hb, hc⟩ := h.2 (by omega)
  have hl : k < l.length := by rw [h.1]; exact hk
  refine ⟨b, off, e, hb, ?_⟩
  rw [hc k l[k] (List.getElem?_eq_getElem hl)]
  simp [List.getD, List.getElem?_eq_getElem hl]
theorem Hs.get (h : Hs w B A n l) {b off : Nat} (hA : A = some ⟨b, off, none⟩) {k : Nat} (hk : k < n) : w.cell? ⟨b, off + k, none⟩ = some (vh (l.getD k 0)) := by
  obtain ⟨b', off', e, _, hc⟩ := h.at_ hk
  rw [hA] at e
  obtain ⟨e1, e2, _⟩ := Addr.mk.inj (Option.some.inj e)
  subst e1 e2
  exact hc
theorem OwnH.form {v : Value} {base : Nat} (h : OwnH w base v n l) : ∃ A c, v = .slice A n c ∧ n ≤ c ∧ Hs w w.heap.size A n l := by
  have hl := h.1
  rw [Hs_len, Nat.mul_one] at hl
  rcases h.2 with ⟨rfl, rfl⟩ | ⟨g, cap, cur, rfl, hb, hg, hnc, _⟩
  · exact ⟨none, 0, rfl, Nat.le_refl _, hl, fun hn => absurd hn (by omega)⟩
  · have hlt : g < w.heap.size := (Array.getElem?_eq_some_iff.1 hg).1
    refine ⟨some ⟨g, 0, none⟩, cap, rfl, hnc, hl, fun _ => ⟨g, 0, rfl, hlt, fun j c hj => ?_⟩⟩
    have := World.ownsRow.cells (g := g) h rfl j (vh c) (by simp [vhs, hj])
    rwa [Addr.add_lit] at this
theorem OwnH.len {v : Value} {base : Nat} (h : OwnH w base v n l) : l.length = n := by
  have hl := h.1
  rwa [Hs_len, Nat.mul_one] at hl
theorem OwnH.base_le {v : Value} {base : Nat} (h : OwnH w base v n l) : ∀ k, v.ownBlock = some k → base ≤ k := fun k hk => (World.ownsRow.lt h k hk).1
theorem OwnH.kept {v : Value} {base : Nat} (h : OwnH w base v n l) (hb : Below w.heap.size w w') : OwnH w' base v n l := by
  refine ⟨h.1, ?_⟩
  rcases h.2 with h2 | ⟨g, cap, cur, hv, hg, hh, r⟩
  · exact .inl h2
  · exact .inr ⟨g, cap, cur, hv, hg, by rw [hb.block g (Array.getElem?_eq_some_iff.1 hh).1]; exact hh, r⟩
theorem OwnH.alloc {v : Value} {base : Nat} (h : OwnH w base v n l) (o : Obj) : OwnH (w.alloc o) base v n l := World.ownsRow.alloc h o
end
theorem rowsHinfo : (Tryz.prog.info? 61).map (fun i => (i.zero, i.size, i.bytes)) = some (some (.int .u16 0), 1, 2) := by kernel_rfl
theorem ownH_empty (w : World) (base : Nat) (hb : base ≤ w.heap.size) : OwnH (w.alloc (.cells #[] 61)) base (.slice (some ⟨w.heap.size, 0, none⟩) 0 0) 0 [] :=
  World.ownsRow_made _ _ _ hb (by decide) rfl
/-- append onto an owned row of numbers, of whatever slice of numbers, nil too. -/
theorem run_appH (w : World) (base : Nat) (ty : TypeId) (v : Value) (n : Nat) (l : List Nat) (hown : OwnH w base v n l)
    (B : Nat) (A : Option Addr) (m c : Nat) (k : List Nat) (hr : Hs w B A m k) (hs : n + m ≤ 1000000000) (hbase : base ≤ w.heap.size) :
    ∃ v' w', (Builtin.append_ #[92, 92] ty #[v, .slice A m c]).run Tryz.prog w = .ok v' w' ∧ OwnH w' base v' (n + m) (l ++ k) ∧ Below base w w' ∧ KeepsBut 61 w w' := by
  obtain ⟨i, hi, hz, h1, h2⟩ := info_parts rowsHinfo
  rcases A with _ | ad
  · obtain ⟨rfl, rfl⟩ := hr.nil_
    refine ⟨v, w, ?_, by simpa using hown, Below.refl _ _, KeepsBut.refl _ _⟩
    rcases hown.2 with ⟨rfl, rfl⟩ | ⟨g, cap, cur, rfl, _, _, hnc, _⟩
    · simp [Builtin.append_, run_underlying Tryz.underlying92, sizeOf, typeInfo, hi, Builtin.lenOf, Builtin.firstCells]
    · simp [Builtin.append_, run_underlying Tryz.underlying92, sizeOf, typeInfo, hi, Builtin.lenOf, Builtin.firstCells, hnc, storeCells]
  · have hcells : ∀ j u, (vhs k)[j]? = some u → w.cell? (ad.add j) = some u := by
      intro j u hu
      simp only [vhs, List.getElem?_map, Option.map_eq_some_iff] at hu
      obtain ⟨x, hx, rfl⟩ := hu
      have hm : 0 < m := by
        have := (List.getElem?_eq_some_iff.1 hx).1
        have := hr.1
        omega
      obtain ⟨b, off, e, _, hc⟩ := hr.2 hm
      have e := Option.some.inj e
      subst e
      rw [Addr.add_lit]
      exact hc j x hx
    obtain ⟨v', w', hrun, h3, h4, _, h5⟩ := run_append_own_at (P := Tryz.prog) w base 92 ty 61 i _ 1 2 Tryz.underlying92 hi hz h1 h2 rfl (by omega) v n (vhs l) hown ad m c (vhs k)
      (by rw [Hs_len, Nat.mul_one]; exact hr.1) hcells (Hs_one k) (by unfold maxLen; omega) (by omega) hbase
    exact ⟨v', w', hrun, by rw [← Hs_app] at h3; exact h3, (Below.refl _ _).grown h4 hbase (OwnH.base_le hown), KeepsBut.of_row hown h4⟩
theorem wp_appH {ops : Array Oper} {rest : List Oper} {o : Oper} {a : Act} {Q : Exit → Act → World → Prop} (w : World) (hgd : o.guard = none) (s x : Operand)
    (ho : o.op = .call { callee := .builtin .append, args := #[s, x], argTypes := #[92, 92] })
    (base : Nat) (v : Value) (n : Nat) (l : List Nat) (hs : a.eval s = v) (hown : OwnH w base v n l)
    (B : Nat) (A : Option Addr) (m c : Nat) (k : List Nat) (hx : a.eval x = .slice A m c) (hr : Hs w B A m k) (hsz : n + m ≤ 1000000000) (hbase : base ≤ w.heap.size)
    (N : Nat) (L : List Nat) (hN : n + m = N) (hL : l ++ k = L)
    (h : ∀ A' c' w', N ≤ c' → Hs w' w'.heap.size A' N L → OwnH w' base (.slice A' N c') N L → Below base w w' → KeepsBut 61 w w' → wpList Tryz.prog ops Q rest (a.put o.dst (.slice A' N c')) w') : wpList Tryz.prog ops Q (o :: rest) a w := by
  subst hN hL
  refine wpList_plain hgd fun K hK => ?_
  obtain ⟨v', w', hrun, h2, h3, h6⟩ := run_appH w base o.type v n l hown B A m c k hr hsz hbase
  obtain ⟨A', c', rfl, h4, h5⟩ := h2.form
  unfold Oper.wp execOp
  simp only [ho, resolve, invoke, builtin, Sem.run_bind, Sem.run_pure, Result.andThen_ok, List.map_toArray, List.map_cons, List.map_nil, hs, hx, hrun]
  exact hK _ _ (h A' c' w' h4 h5 h2 h3 h6)
/-- A literal of numbers in a block of its own. -/
theorem Hs.lit (w : World) (l : List Nat) (a : Array Value) (ha : a = (vhs l).toArray) (n : Nat) (hn : l.length = n) : Hs (w.alloc (.cells a 61)) (w.heap.size + 1) (some ⟨w.heap.size, 0, none⟩) n l := by
  subst ha
  refine ⟨hn, fun _ => ⟨w.heap.size, 0, rfl, by omega, fun j c hj => ?_⟩⟩
  rw [Nat.zero_add, cell_of_row _ _ _ _ _ _ (heap_alloc_new w _)]
  simp [vhs, hj]
end Go.Proofs.YtcepigekibidfaaGreatDoor
namespace Go.Proofs.YtcepigekibidfaaGreatDoor
open Go.RowKit

/-- What one to four digits to base sixteen tell. -/
def pc (l : List UInt8) : Option Nat := if l = [] ∨ 4 < l.length then none else val 16 0 l
def pcV (o : Option Nat) : Value := .tuple #[.int .u16 ((o.getD 0 : Nat) : Int), .bool o.isSome]
theorem val16_lt : ∀ (l : List UInt8) (n m : Nat), val 16 n l = some m → m < (n + 1) * 16 ^ l.length
  | [], n, m, h => by
    simp [val] at h
    simp
    omega
  | c :: r, n, m, h => by
    rw [val] at h
    split at h
    · rename_i hd
      have ih := val16_lt r _ m h
      have h1 : min (n * 16 + dig c) 4294967296 + 1 ≤ (n + 1) * 16 := by omega
      have h2 := Nat.mul_le_mul_right (16 ^ r.length) h1
      rw [List.length_cons, Nat.pow_succ']
      rw [Nat.mul_assoc] at h2
      omega
    · cases h
theorem pc_lt (l : List UInt8) (m : Nat) (h : pc l = some m) : m < 65536 := by
  unfold pc at h
  split at h
  · cases h
  · rename_i hn
    have h1 := val16_lt l 0 m h
    have h2 : 16 ^ l.length ≤ 16 ^ 4 := Nat.pow_le_pow_right (by omega) (by simp at hn; omega)
    have e : (16 : Nat) ^ 4 = 65536 := by decide
    simp at h1
    omega

set_option maxHeartbeats 4000000 in
theorem piece_any (l : List UInt8) (w : World) (hl : l.length ≤ 100000000) : Calls Tryz.prog 185 #[.string (str l)] w fun e w' => e = .returned (pcV (pc l)) ∧ w' = w := by
  have hsz := str_size l
  have hem := str_empty l
  have V := value16 l w hl
  rw [valV_pair] at V
  by_cases h : l = [] ∨ 4 < l.length
  · have hp : Hid (pc l = none) := by show _ = _; unfold pc; rw [if_pos h]
    obtain ⟨S, hS⟩ : ∃ S, S = l.length := ⟨_, rfl⟩
    rw [← hS] at hsz h hl
    by_cases he : l = []
    · have hem2 : (str l).toList.isEmpty = true := by rw [hem]; simp [he]
      clear hem he h V hS
      go_enter Tryz.func185, Tryz.ntmps185
      go_wp2_with fail
      go_ret2
      rw [hp.out]
      exact ⟨rfl, rfl⟩
    · have hem2 : (str l).toList.isEmpty = false := by rw [hem]; simp [he]
      have h4 : decide ((4 : Int) < (S : Int)) = true := by simp; rcases h with h | h; (· exact absurd h he); omega
      clear hem he h V hS
      go_enter Tryz.func185, Tryz.ntmps185
      go_wp2_with fail
      go_ret2
      rw [hp.out]
      exact ⟨rfl, rfl⟩
  · have hp : pc l = val 16 0 l := by unfold pc; rw [if_neg h]
    have hlt := pc_lt l
    rw [← hp] at V
    obtain ⟨S, hS⟩ : ∃ S, S = l.length := ⟨_, rfl⟩
    rw [← hS] at hsz h hl
    have hem2 : (str l).toList.isEmpty = false := by rw [hem]; simp; exact fun e => h (.inl e)
    have h4 : decide ((4 : Int) < (S : Int)) = false := by simp; have : ¬ 4 < S := fun e => h (.inr e); omega
    obtain ⟨o, ho⟩ : ∃ o, o = pc l := ⟨_, rfl⟩
    rw [← ho] at V hlt ⊢
    have hx : o.getD 0 < 65536 := by
      cases o with
      | none => simp
      | some m => exact hlt m rfl
    unfold pcV
    obtain ⟨x, hx'⟩ : ∃ x, x = o.getD 0 := ⟨_, rfl⟩
    obtain ⟨b, hb⟩ : ∃ b, b = o.isSome := ⟨_, rfl⟩
    rw [← hx', ← hb] at V ⊢
    rw [← hx'] at hx
    have HV := Lib.hid V
    have hwr : IntKind.u16.wrap (x : Int) = (x : Int) := by rw [IntKind.wrap_u16]; omega
    clear hem h V hS hp hlt ho hx' hb
    go_enter Tryz.func185, Tryz.ntmps185
    go_wp2_with (go_at_call 191; with_reducible refine HV.out.mono ?_; rintro e w1 ⟨rfl, rfl⟩)
    go_ret2
    exact ⟨rfl, rfl⟩

/-- Two results, the first of which lies in a cell. -/
theorem ret_cell2 {fn : Func} {R : Ending → World → Prop} {a : Act} {w : World} (p q : Tmp) (ty : TypeId) (hf : fn.results = #[.cell p ty, .tmp q]) (b : Nat) (cs : List Value) (d : TypeDesc)
    (hx : a.tmps.getD p undef = .pointer (some ⟨b, 0, none⟩)) (hc : w.rangeAt b 0 cs) (hu : Tryz.prog.underlying ty = some d) (hd : d.isRow = true) (hi : (Tryz.prog.info? ty).map (·.size) = some cs.length)
    (hdef : a.defers = []) (u : Value) (hq : a.tmps.getD q undef = u) (hR : R (.returned (.tuple #[.agg cs.toArray, u])) w) : bodyPost Tryz.prog fn R .ret a w := by
  refine bodyPost_ret (v := .tuple #[.agg cs.toArray, u]) ?_ hdef hR
  have hl := run_loadVar_mid (P := Tryz.prog) w b 0 ty cs d hc hu hd hi
  simp only [results, hf]
  simp only [Array.getD_eq_getD_getElem?] at hx hq
  simp [hx, hq, asAddr, hl]
end Go.Proofs.YtcepigekibidfaaGreatDoor
