/-
  What strconv.AppendUint answers: to base ten (by the kit's contract), to base sixteen (walked, of numbers below 65536); nothing that was there turns. Condition: the library's tables; rows of at most 1000000 bytes.
-/
import Derived.Test.YtcfgcakmffkpmaaDoorMay
import Derived.Test.YtcfgcakmffkpmaaDoorKb
namespace Go.Proofs.YtcfgcakmffkpmaaDoor
open Go.RowKit

set_option maxHeartbeats 1000000 in
theorem append10 (B n u : Nat) (hu : u < 4294967296) (v : Value) (l : List UInt8) (w : World) (hown : Own w B v n l) (hB : B ≤ w.heap.size) (hn : n ≤ 1000000) (ht : Tabs w) :
    Calls Tryd.prog 47 #[v, .int .u64 (u : Int), .int .i64 10] w fun e w' => ∃ v', e = .returned v' ∧ Own w' B v' (n + (Lib.decDigits u).length) (l ++ Lib.decDigits u) ∧ Below B w w' := by
  have h := Any.internal_strconv_AppendUint_10 Tryd.laysM288 B n u (by omega) v (vbs l) w hown hB (by omega) ht.here.pow
  have H : Hid (Calls Tryd.prog 62 #[v, .int .u64 (u : Int), .int .i64 10] w fun e w' => ∃ v', e = .returned v' ∧ Own w' B v' (n + (Lib.decDigits u).length) (l ++ Lib.decDigits u) ∧ Below B w w') := by
    refine h.mono ?_
    rintro e w' ⟨v', rfl, h1, h2, _⟩
    refine ⟨v', rfl, ?_, h2⟩
    have e : vbs l ++ Lib.byteCells (Lib.decDigits u) = vbs (l ++ Lib.decDigits u) := by rw [vbs_append]; rfl
    rw [e] at h1
    exact h1
  clear h hown
  go_enter Tryd.func47, Tryd.ntmps47
  go_wp2_with (go_at_call 62; with_reducible refine H.out.mono ?_; rintro e w1 ⟨v1, rfl, h1, h2⟩)
  go_ret
  exact ⟨_, rfl, h1, h2⟩

set_option maxHeartbeats 1000000 in
theorem tz16 (w : World) (ht : Tabs w) : Calls Tryd.prog 93 #[.int .u64 16] w fun e w' => e = .returned (.int .i64 4) ∧ w' = w := by
  have hd := ht.here.deb
  have f1 : IntKind.u64.wrap (-16) = 18446744073709551600 := by decide +kernel
  have f2 : bits .and .u64 16 18446744073709551600 = 16 := by decide +kernel
  have f3 : IntKind.u64.wrap 4573923408821661840 = 4573923408821661840 := by decide +kernel
  go_enter Tryd.func93, Tryd.ntmps93
  go_wp2
  go_ret
  exact ⟨rfl, rfl⟩
theorem pow2 (w : World) : Calls Tryd.prog 92 #[.int .i64 16] w fun e w' => e = .returned (.bool true) ∧ w' = w := by
  have f1 : bits .and .i64 16 15 = 0 := by decide +kernel
  go_enter Tryd.func92, Tryd.ntmps92
  go_wp2
  go_ret
  exact ⟨rfl, rfl⟩

def hexLs : List UInt8 := [48, 49, 50, 51, 52, 53, 54, 55, 56, 57, 97, 98, 99, 100, 101, 102]
/-- A digit to base sixteen, in lower case. -/
def hx (n : Nat) : UInt8 := hexLs.getD n 0
/-- A number to base sixteen, without noughts ahead. -/
def hexL (u : Nat) : List UInt8 := if u < 16 then [hx u] else hexL (u / 16) ++ [hx (u % 16)]
termination_by u
decreasing_by omega
theorem hexL_lt {u : Nat} (h : u < 16) : hexL u = [hx u] := by rw [hexL, if_pos h]
theorem hexL_ge {u : Nat} (h : ¬ u < 16) : hexL u = hexL (u / 16) ++ [hx (u % 16)] := by rw [hexL, if_neg h]
def digs : List UInt8 := [48, 49, 50, 51, 52, 53, 54, 55, 56, 57, 97, 98, 99, 100, 101, 102, 103, 104, 105, 106, 107, 108, 109, 110, 111, 112, 113, 114, 115, 116, 117, 118, 119, 120, 121, 122]
theorem digs_hx : ∀ n, n < 16 → digs.getD n 0 = hx n := by decide
section
variable {ops : Array Oper} {rest : List Oper} {o : Oper} {a : Act} {Q : Exit → Act → World → Prop}
/-- 's[k]', s a text. -/
theorem wp_idxS (w : World) (hgd : o.guard = none) (x ix : Operand) (ho : o.op = .index 9 x ix) (L : List UInt8) (hx : a.eval x = .string (str L)) (k : Nat) (yk : IntKind) (hk : a.eval ix = .int yk (k : Int)) (hlt : k < L.length)
    (m : Nat) (hm : m = (L.getD k 0).toNat) (h : wpList Tryd.prog ops Q rest (a.put o.dst (.int .u8 (m : Int))) w) : wpList Tryd.prog ops Q (o :: rest) a w := by
  refine wpList_plain hgd fun K hK => ?_
  have hrun : (Instr.index 9 (.string (str L)) (.int yk (k : Int))).run Tryd.prog w = .ok (.int .u8 (m : Int)) w := by
    have h1 : (k : Int) < (str L).size := by rw [str_size]; omega
    have h2 : k < (str L).size := by rw [str_size]; omega
    have h3 := str_at L k hlt h2
    rw [run_index_string w 9 (str L) yk (k : Int) Tryd.underlying9]
    simp [h1, h3, hm]
  unfold Oper.wp execOp
  simp only [ho, hx, hk, hrun, Sem.run_bind, Sem.run_pure, Result.andThen_ok]
  exact hK _ _ h
end
theorem and15 (u : Nat) (h : u < 18446744073709551616) : bits .and .u64 (u : Int) 15 = ((u % 16 : Nat) : Int) := by
  have h1 := u64_and_nat u 15 h (by omega)
  rw [show (u &&& 15) = u % 16 from Nat.and_two_pow_sub_one_eq_mod u 4] at h1
  exact h1
theorem type121 : (Tryd.prog.info? 121).map (fun i => i.zero) = some (some (.agg (List.replicate 65 (.int .u8 0)).toArray)) := by kernel_rfl

theorem slice121 (w : World) (g q : Nat) (h : q < 65) : (Instr.sliceAt 121 (.pointer (some ⟨g, 0, none⟩)) (some (.int .i64 (q : Int))) none none).run Tryd.prog w = .ok (.slice (some ⟨g, q, none⟩) (65 - q) (65 - q)) w := by
  have h1 : q ≤ 65 := by omega
  have h2 : ¬ 65 = q := by omega
  have hsz : ∀ w, (sizeOf 5).run Tryd.prog w = .ok 1 w := fun w => Tryd.sizeOf5 w
  simp [Instr.sliceAt, run_underlying Tryd.underlying121, Instr.sureAddr, Instr.sliceBounds, Instr.sliceBound, asIntOf, hsz, h1, h2, Addr.add_lit]
theorem Blk.bs {w : World} {g : Nat} {t : TypeId} {C : List Value} (h : Blk w g t C) (k : Nat) (l : List UInt8) (hl : C.drop k = vbs l) (n : Nat) (hn : l.length = n) : Bs w w.heap.size (some ⟨g, k, none⟩) n l := by
  refine ⟨hn, fun _ => ⟨g, k, rfl, h.lt, fun j c hj => h.cell ?_⟩⟩
  rw [← List.getElem?_drop, hl]
  simp [vbs, hj]

set_option maxHeartbeats 8000000 in
set_option maxRecDepth 100000 in
theorem fmt16 (B n u0 : Nat) (hu : u0 < 65536) (v : Value) (l : List UInt8) (w : World) (hown : Own w B v n l) (hB : B ≤ w.heap.size) (hn : n ≤ 1000000) (ht : Tabs w) :
    Calls Tryd.prog 79 #[v, .int .u64 (u0 : Int), .int .i64 16, .bool false, .bool true] w fun e w' => ∃ v', e = .returned (.tuple #[v', .string ⟨#[]⟩]) ∧ Own w' B v' (n + (hexL u0).length) (l ++ hexL u0) ∧ Below B w w' ∧ KeepsBut 5 w w' := by
  have P2 := Lib.hid pow2
  have HT := Lib.hid ht
  clear ht
  go_enter Tryd.func79, Tryd.ntmps79
  go_wp2_with (first
    | ((with_reducible show wpList _ _ _ (⟨some 12, .alloc _, _, _, _, _⟩ :: _) _ _); refine wp_new _ rfl 121 rfl _ type121 ?_; intro w1 g B1 F1; simp only [Act.put, List.setIfInBounds_toArray, List.set_cons_zero, List.set_cons_succ])
    | (go_at_call 92; with_reducible refine (P2.out _).mono ?_; rintro e w2 ⟨rfl, rfl⟩)
    | (go_at_call 93; with_reducible refine (tz16 _ (HT.out.kept F1.below)).mono ?_; rintro e w3 ⟨rfl, rfl⟩))
  have hg : Hid (g = w.heap.size) := F1.is
  have hkp1 := Lib.hid F1.below
  clear F1 P2
  go_loopw [1, 13] (fun x y wr => ∃ (u k j : Nat) (D : List UInt8) (C : List Value), x = .int .u64 (u : Int) ∧ y = .int .i64 (k : Int) ∧ k + D.length = 65 ∧ D.length + j = 4 ∧ 1 ≤ j ∧ u < 16 ^ j ∧ hexL u0 = hexL u ++ D ∧ Blk wr g 121 C ∧ C.length = 65 ∧ C.drop k = vbs D ∧ Upd g w3 wr) (fun x _ _ => (intOf x).toNat)
  case atStart => exact ⟨u0, 65, 4, [], _, rfl, rfl, rfl, rfl, by omega, hu, by simp, B1, by simp, by simp [vbs], Upd.refl _ _⟩
  case round =>
    obtain ⟨u, k, j, D, C, rfl, rfl, hkD, hDj, hj1, huj, hex, hblk, hCl, hCd, hupd⟩ := hrel
    have hu16 : u < 65536 := by
      have : 16 ^ j ≤ 16 ^ 4 := Nat.pow_le_pow_right (by omega) (by omega)
      have e : (16 : Nat) ^ 4 = 65536 := by decide
      omega
    obtain ⟨k1, hk1⟩ : ∃ k1, k = k1 + 1 := ⟨k - 1, by omega⟩
    have hk1i : (k : Int) - 1 = (k1 : Int) := by omega
    have hk1l : k1 < 65 := by omega
    have hcell := hblk.cell (List.getElem?_eq_getElem (by rw [hCl]; omega : k1 < C.length))
    have hfr := hblk.frozen k1
    by_cases hge : u < 16
    · have hgei : ¬ (16 : Int) ≤ (u : Int) := by omega
      obtain ⟨m, hm⟩ : ∃ m, m = (digs.getD u 0).toNat := ⟨_, rfl⟩
      have hu36 : u < digs.length := by have : digs.length = 36 := rfl; omega
      obtain ⟨d, hd⟩ : ∃ d, d = 65 - k1 := ⟨_, rfl⟩
      have hdi : (65 : Int) - (k1 : Int) = (d : Int) := by omega
      have hk1le : k1 ≤ 65 := by omega
      have hdrop : (C.set k1 (.int .u8 (m : Int))).drop k1 = vbs (hexL u0) := by
        have hmx : m = (hx u).toNat := by rw [hm, digs_hx u hge]
        have hlt : k1 < (C.set k1 (.int .u8 (m : Int))).length := by simp [hCl]; omega
        rw [List.drop_eq_getElem_cons hlt]
        have e2 : (C.set k1 (.int .u8 (m : Int))).drop (k1 + 1) = C.drop (k1 + 1) := List.drop_set_of_lt (by omega)
        rw [e2, ← hk1, hCd, hex, hexL_lt hge]
        simp [vbs, vb, hmx]
      have hxl : Hid ((hexL u0).length = d) := by
        show _ = _
        rw [hex, hexL_lt hge, hd]
        simp
        omega
      have hblk2 : Hid (∀ V, Blk (wr.setCell ⟨g, k1, none⟩ V) g 121 (C.set k1 V)) := fun V => hblk.set k1 V
      have hup : Hid (∀ V, Upd g w3 (wr.setCell ⟨g, k1, none⟩ V)) := fun V => hupd.trans (Upd.setCell _ _ _ _)
      have HX := Lib.hid (And.intro hm hdrop)
      have hd9 : Hid (d ≤ 65) := by show _ ≤ _; omega
      have HD := Lib.hid hd
      clear hm hdrop hex hblk hupd hCd hd
      have hsl : ∀ w', (Instr.sliceAt 121 (.pointer (some ⟨g, 0, none⟩)) (some (.int .i64 (k1 : Int))) none none).run Tryd.prog w' = .ok (.slice (some ⟨g, k1, none⟩) d d) w' := fun w' => by rw [HD.out]; exact slice121 w' g k1 hk1l
      have hown2 : Hid (∀ V, Own (wr.setCell ⟨g, k1, none⟩ V) B v n l) := fun V => hown.kept (hkp1.out.trans ((hup.out V).below (Nat.le_of_eq hg.out.symm)))
      have hbs : Hid (Bs (wr.setCell ⟨g, k1, none⟩ (.int .u8 (m : Int))) (wr.setCell ⟨g, k1, none⟩ (.int .u8 (m : Int))).heap.size (some ⟨g, k1, none⟩) d (hexL u0)) := (hblk2.out _).bs k1 _ HX.out.2 d hxl.out
      have hsz3 : Hid (∀ V, B ≤ (wr.setCell ⟨g, k1, none⟩ V).heap.size) := fun V => by
        show _ ≤ _
        have h1 := (hup.out V).size
        have h2 := hkp1.out.size
        omega
      have hnd : n + d ≤ 1000000000 := by have := hd9.out; omega
      go_wp2_with (first
        | (at_builtin; refine wp_appK _ rfl _ _ rfl B _ n l rfl (hown2.out _) _ _ d _ _ rfl hbs.out hnd (hsz3.out _) ?_; intro v6 w6 hown6 hb6 hkb6)
        | ((with_reducible show wpList _ _ _ (⟨some 62, .index _ _ _, _, _, _, _⟩ :: _) _ _); refine wp_idxS _ rfl _ _ rfl digs rfl u _ rfl hu36 m HX.out.1 ?_; simp only [Act.put, List.setIfInBounds_toArray, List.set_cons_zero, List.set_cons_succ]))
      go_ret2
      refine ⟨v6, rfl, ?_, ?_, (KeepsBut.of_below 5 (hkp1.out.trans ((hup.out (.int .u8 (m : Int))).below (Nat.le_of_eq hg.out.symm)))).trans hkb6⟩
      · rw [hxl.out]
        exact hown6
      · refine ((hkp1.out.mono hB).trans ((hup.out (.int .u8 (m : Int))).below ?_)).trans hb6
        rw [hg.out]
        exact hB
    · have hgei : (16 : Int) ≤ (u : Int) := by omega
      have hand := and15 u (by omega)
      obtain ⟨r, hr⟩ : ∃ r, r = u % 16 := ⟨_, rfl⟩
      obtain ⟨q, hq⟩ : ∃ q, q = u / 16 := ⟨_, rfl⟩
      rw [← hr] at hand
      have hr16 : r < digs.length := by rw [hr]; have : digs.length = 36 := rfl; omega
      have hqi : (u : Int) / 16 = (q : Int) := by omega
      obtain ⟨m, hm⟩ : ∃ m, m = (digs.getD r 0).toNat := ⟨_, rfl⟩
      have HX := Lib.hid (And.intro hex (And.intro hr (And.intro hq hm)))
      have HU := Lib.hid (And.intro hupd (And.intro hblk hCd))
      clear hex hr hq hm hupd hblk hCd
      go_wp2_with (first
        | ((with_reducible show wpList _ _ _ (⟨some 53, .index _ _ _, _, _, _, _⟩ :: _) _ _); refine wp_idxS _ rfl _ _ rfl digs rfl r _ rfl hr16 m HX.out.2.2.2 ?_; simp only [Act.put, List.setIfInBounds_toArray, List.set_cons_zero, List.set_cons_succ]))
      go_roundw
      case rel =>
        refine ⟨q, k1, j - 1, hx r :: D, C.set k1 (.int .u8 (m : Int)), rfl, rfl, by simp; omega, by simp; omega, ?_, ?_, ?_, HU.out.2.1.set k1 _, by simp [hCl], ?_, HU.out.1.trans (Upd.setCell _ _ _ _)⟩
        · rcases j with _ | _ | j
          · omega
          · simp at huj
            omega
          · omega
        · rw [HX.out.2.2.1]
          have e : 16 ^ j = 16 * 16 ^ (j - 1) := by
            rw [← Nat.pow_succ']
            congr 1
            omega
          rw [e] at huj
          exact Nat.div_lt_of_lt_mul huj
        · rw [HX.out.1, hexL_ge hge, ← HX.out.2.2.1, ← HX.out.2.1]
          simp
        · have hmx : m = (hx r).toNat := by rw [HX.out.2.2.2, digs_hx r (by rw [HX.out.2.1]; omega)]
          have hlt : k1 < (C.set k1 (.int .u8 (m : Int))).length := by simp [hCl]; omega
          rw [List.drop_eq_getElem_cons hlt]
          have e2 : (C.set k1 (.int .u8 (m : Int))).drop (k1 + 1) = C.drop (k1 + 1) := List.drop_set_of_lt (by omega)
          rw [e2, ← hk1, HU.out.2.2]
          simp [vbs, vb, hmx]
      case measure =>
        simp [intOf]
        rw [HX.out.2.2.1]
        omega

set_option maxHeartbeats 1000000 in
theorem append16 (B n u : Nat) (hu : u < 65536) (v : Value) (l : List UInt8) (w : World) (hown : Own w B v n l) (hB : B ≤ w.heap.size) (hn : n ≤ 1000000) (ht : Tabs w) :
    Calls Tryd.prog 47 #[v, .int .u64 (u : Int), .int .i64 16] w fun e w' => ∃ v', e = .returned v' ∧ Own w' B v' (n + (hexL u).length) (l ++ hexL u) ∧ Below B w w' ∧ KeepsBut 5 w w' := by
  have H := Lib.hid (fmt16 B n u hu v l w hown hB hn ht)
  have H2 : Hid (Calls Tryd.prog 62 #[v, .int .u64 (u : Int), .int .i64 16] w fun e w' => ∃ v', e = .returned v' ∧ Own w' B v' (n + (hexL u).length) (l ++ hexL u) ∧ Below B w w' ∧ KeepsBut 5 w w') := by
    show Calls _ _ _ _ _
    clear hown ht
    go_enter Tryd.func62, Tryd.ntmps62
    go_wp2_with (go_at_call 79; with_reducible refine H.out.mono ?_; rintro e w1 ⟨v1, rfl, h1, h2, h3⟩)
    go_ret
    exact ⟨_, rfl, h1, h2, h3⟩
  clear hown H ht
  go_enter Tryd.func47, Tryd.ntmps47
  go_wp2_with (go_at_call 62; with_reducible refine H2.out.mono ?_; rintro e w1 ⟨v1, rfl, h1, h2, h3⟩)
  go_ret
  exact ⟨_, rfl, h1, h2, h3⟩
end Go.Proofs.YtcfgcakmffkpmaaDoor
