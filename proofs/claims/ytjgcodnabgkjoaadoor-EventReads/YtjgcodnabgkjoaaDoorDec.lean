/-
  What event.Decode answers: the event that bytes are, how many they are, or none and the place of a fault; nothing that was there turns. Conditions: the table of kinds holds what the program's text lays; at most 1000000 bytes.
-/
import Derived.Test.YtjgcodnabgkjoaaDoorRight
namespace Go.Proofs.YtjgcodnabgkjoaaDoor
open Go.RowKit

/-- The reading, step by step: the kind, then time, ID, texts, numbers, the end. -/
def dK (l : List UInt8) : Nat := tkV l 0 0 1 14
def d1 (l : List UInt8) : Nat × Nat × Nat := nuR l (tkA l 0 0 1 14) (ckE l 0 0 1 14)
def d2 (l : List UInt8) : Nat × Nat × Nat := idR (hav (dK l)).fetch l (d1 l).2.1 (d1 l).2.2
def d3 (l : List UInt8) (i : Nat) : List (List UInt8) × Nat × Nat := txS l [[], [], [], []] (d2 l).2.1 (d2 l).2.2 i
def d4 (l : List UInt8) (i : Nat) : List Int × Nat × Nat := nmS (hav (dK l)).bl l [0, 0, 0] (d3 l (hav (dK l)).texts).2.1 (d3 l (hav (dK l)).texts).2.2 i
/-- The error at last, the place, the event. -/
def dE (l : List UInt8) : Nat := enE l (d4 l 3).2.1 (d4 l 3).2.2
def dA (l : List UInt8) : Nat := (d4 l 3).2.1
def dV (l : List UInt8) : Ev := if dE l = 0 then ⟨(dK l : Int), (d1 l).1, (d2 l).1, (d3 l (hav (dK l)).texts).1, (d4 l 3).1⟩ else ev0
theorem dK_le (l : List UInt8) : dK l ≤ 14 := tkV_le _ _ _ _ _
theorem d3_ok (l : List UInt8) (i : Nat) : (d3 l i).1.length = 4 := by rw [d3, txS_length]; rfl
theorem d4_ok (l : List UInt8) (i : Nat) : (d4 l i).1.length = 3 := by rw [d4, nmS_length]; rfl
theorem dV_ok (l : List UInt8) : EvOk (dV l) := by
  unfold dV
  split
  · exact ⟨d3_ok l _, d4_ok l _⟩
  · exact ev0_ok

theorem Kps.of_chg {x y : Nat} {w w' : World} {C D : List Value} (h : Chg x y w w') (hx : Blk w x 63 C) (hy : Blk w y 24 D) : Kps w w' := by
  intro k cs t fr ht e
  rw [← e]
  refine h.block k (Array.getElem?_eq_some_iff.1 e).1 ?_ ?_
  · rintro rfl
    rw [hx] at e
    cases e
    rcases ht with h | h | h <;> exact absurd h (by decide)
  · rintro rfl
    rw [hy] at e
    cases e
    rcases ht with h | h | h <;> exact absurd h (by decide)
theorem size63 : (Tryd.prog.info? 63).map (·.size) = some 3 := by kernel_rfl
theorem zero63 : (Tryd.prog.info? 63).map (fun i => i.zero) = some (some (.agg #[.slice none 0 0, .int .i64 0, .int .i64 0])) := by kernel_rfl
theorem build63 (w : World) (A : Option Addr) (n c : Nat) : (Instr.build 63 #[(0, .slice A n c)]).run Tryd.prog w = .ok (.agg #[.slice A n c, .int .i64 0, .int .i64 0]) w := by kernel_rfl
theorem build24 (w : World) (k : Int) : (Instr.build 24 #[(0, .int .i64 k)]).run Tryd.prog w = .ok (.agg (evc ⟨k, 0, 0, [[], [], [], []], [0, 0, 0]⟩).toArray) w := by kernel_rfl
theorem build24z (w : World) : (Instr.build 24 #[]).run Tryd.prog w = .ok (.agg (evc ev0).toArray) w := by kernel_rfl
theorem size22 : (Tryd.prog.info? 22).map (·.size) = some 1 := by kernel_rfl

/-- Results one of which lies in a cell. -/
theorem ret_cell3 {fn : Func} {R : Ending → World → Prop} {a : Act} {w : World} (p q r : Tmp) (ty : TypeId) (hf : fn.results = #[.cell p ty, .tmp q, .tmp r]) (b : Nat) (cs : List Value) (d : TypeDesc)
    (hx : a.tmps.getD p undef = .pointer (some ⟨b, 0, none⟩)) (hc : w.rangeAt b 0 cs) (hu : Tryd.prog.underlying ty = some d) (hd : d.isRow = true) (hi : (Tryd.prog.info? ty).map (·.size) = some cs.length)
    (hdef : a.defers = []) (x y : Value) (hq : a.tmps.getD q undef = x) (hr : a.tmps.getD r undef = y) (hR : R (.returned (.tuple #[.agg cs.toArray, x, y])) w) : bodyPost Tryd.prog fn R .ret a w := by
  refine bodyPost_ret (v := .tuple #[.agg cs.toArray, x, y]) ?_ hdef hR
  have hl := run_loadVar_mid (P := Tryd.prog) w b 0 ty cs d hc hu hd hi
  simp only [results, hf]
  simp only [Array.getD_eq_getD_getElem?] at hx hq hr
  simp [hx, hq, hr, asAddr, hl]

set_option maxHeartbeats 8000000 in
set_option maxRecDepth 100000 in
theorem decode_any (A : Option Addr) (n c : Nat) (l : List UInt8) (w : World) (ht : Tab w) (h : Bs w w.heap.size A n l) (hc : n ≤ c) (hcm : c ≤ 9223372036854775807) (hn : n ≤ 1000000) :
    Calls Tryd.prog 17 #[.slice A n c] w fun r w' => r = .returned (.tuple #[.agg (evc (dV l)).toArray, .int .i64 (dA l : Int), .int .i64 (dE l : Int)]) ∧ Below w.heap.size w w' := by
  have hmf : ∀ (fn : Fn) (first cap : Array Value) (w : World), (Instr.makeFunc fn first cap).run Tryd.prog w = .ok (.func fn first cap) w := fun _ _ _ _ => rfl
  have z24 : (Tryd.prog.info? 24).map (·.size) = some (evc ⟨(dK l : Int), 0, 0, [[], [], [], []], [0, 0, 0]⟩).length := size24
  have z24z : (Tryd.prog.info? 24).map (·.size) = some (evc ev0).length := size24
  have z63 : (Tryd.prog.info? 63).map (·.size) = some [Value.slice A n c, .int .i64 0, .int .i64 0].length := size63
  have y24 := zero24
  have y63 := zero63
  have y47 := zero47
  have z47 := size47' (dK l)
  have hl47 : (havc (hav (dK l))).length = (havc (hav 0)).length := by rw [havc_length (hav_ok _), havc_length (hav_ok 0)]
  have hl24 : (evc ⟨(dK l : Int), 0, 0, [[], [], [], []], [0, 0, 0]⟩).length = (evc ev0).length := rfl
  have hk15 : dK l < 15 := by have := dK_le l; omega
  have hk3 : (dK l : Int) < 15 := by omega
  have KA := fun g W (hW : Rdr W g l 0 0) => kind_any g l 0 0 W hW
  have NA := fun g W (hW : Rdr W g l (tkA l 0 0 1 14) (ckE l 0 0 1 14)) => rnum_any g l _ _ W hW
  have IA := fun g W (hW : Rdr W g l (d1 l).2.1 (d1 l).2.2) => id_any (hav (dK l)).fetch g l _ _ W hW
  have EA := fun g W (hW : Rdr W g l (d4 l 3).2.1 (d4 l 3).2.2) => end_any g l _ _ W hW
  have HKA := Lib.hid KA
  have HNA := Lib.hid NA
  have HIA := Lib.hid IA
  have HEA := Lib.hid EA
  have HV : Hid (dV l = if dE l = 0 then ⟨(dK l : Int), (d1 l).1, (d2 l).1, (d3 l (hav (dK l)).texts).1, (d4 l 3).1⟩ else ev0) := rfl
  clear KA NA IA EA
  go_enter Tryd.func17, Tryd.ntmps17
  go_wp2_with (first
    | ((with_reducible show wpList _ _ _ (⟨some 2, _, _, _, _, _⟩ :: _) _ _); refine wp_new _ rfl 24 rfl _ y24 ?_; intro w1 g2 hB2 hf1; simp only [Act.put, List.setIfInBounds_toArray, List.set_cons_zero, List.set_cons_succ])
    | ((with_reducible show wpList _ _ _ (⟨some 9, _, _, _, _, _⟩ :: _) _ _); refine wp_build1 _ rfl 63 0 (.tmp 8) rfl _ rfl _ (build63 _ A n c) ?_; simp only [Act.put, List.setIfInBounds_toArray, List.set_cons_zero, List.set_cons_succ])
    | ((with_reducible show wpList _ _ _ (⟨some 5, _, _, _, _, _⟩ :: _) _ _); refine wp_new _ rfl 63 rfl [.slice none 0 0, .int .i64 0, .int .i64 0] y63 ?_; intro w2 g5 hB5 hf2; simp only [Act.put, List.setIfInBounds_toArray, List.set_cons_zero, List.set_cons_succ])
    | ((with_reducible show wpList _ _ _ (⟨none, .store 63 _ _, _, _, _, _⟩ :: _) _ _); refine wp_putAll _ rfl 63 (.tmp 5) (.tmp 9) rfl g5 63 _ [.slice A n c, .int .i64 0, .int .i64 0] rfl rfl hB5 rfl z63 (by simp [Value.oneCell']) ?_; intro w3 hR3 hU3; simp only [Act.put]))
  have hi1 := hf1.is
  have hi2 := hf2.is
  have hs1 := hf1.size
  have hs2 := hf2.size
  have b3 : Below w.heap.size w w3 := (hf1.below.trans (hf2.below.mono (by omega))).trans (hU3.below (by omega))
  have R3 : Rdr w3 g5 l 0 0 := ⟨A, n, c, hR3, (h.below b3).more (by omega), hc, hcm, hn, Nat.zero_le _⟩
  have Z3 : Blk w3 g2 24 (evc ev0) := (hf2.blk hB2).upd hU3 (by omega)
  have hgs : w.heap.size ≤ g2 ∧ g2 < g5 ∧ 0 < w.heap.size := ⟨by omega, by omega, ht.1⟩
  clear hi1 hi2 hs1 hs2 hf1 hf2 hB2 hB5 hU3 hR3 y63 z63
  refine (HKA.out g5 w3 R3).mono ?_
  rintro r w4 ⟨rfl, R4, C4⟩
  have T4 : Tab w4 := (ht.below b3 hgs.2.2).chg C4 (by omega) (by omega)
  have b4 : Below w.heap.size w w4 := b3.trans (C4.below b3.size (by omega) (by omega))
  have Z4 := Z3.chg C4 (by omega) (by omega)
  have hg5 := R4.lt
  clear R3 Z3 C4 b3 ht HKA h
  rw [show tkV l 0 0 1 14 = dK l from rfl]
  go_wp2_with (first
    | ((with_reducible show wpList _ _ _ (⟨some 11, _, _, _, _, _⟩ :: _) _ _); refine wp_build1 _ rfl 24 0 (.tmp 10) rfl _ rfl _ (build24 _ (dK l : Int)) ?_; simp only [Act.put, List.setIfInBounds_toArray, List.set_cons_zero, List.set_cons_succ])
    | ((with_reducible show wpList _ _ _ (⟨some 6, _, _, _, _, _⟩ :: _) _ _); refine wp_new _ rfl 24 rfl _ y24 ?_; intro w5 g6 hB6 hf5; simp only [Act.put, List.setIfInBounds_toArray, List.set_cons_zero, List.set_cons_succ])
    | ((with_reducible show wpList _ _ _ (⟨none, .store 24 _ _, _, _, _, _⟩ :: _) _ _); refine wp_putAll _ rfl 24 (.tmp 6) (.tmp 11) rfl g6 24 _ (evc ⟨(dK l : Int), 0, 0, [[], [], [], []], [0, 0, 0]⟩) rfl rfl hB6 hl24 z24 (evc_one _) ?_; intro w6 hV6 hU6; have k6 : w6.cell? ⟨g6, 0, none⟩ = some (.int .i64 (dK l : Int)) := hV6.cell rfl; have T6 : Tab w6 := (T4.kept hf5.below).below (hU6.below (B := 1) (by have := hf5.is; omega)) (by omega); simp only [Act.put])
    | ((with_reducible show wpList _ _ _ (⟨some 15, _, _, _, _, _⟩ :: _) _ _); refine wp_getG _ (by rfl) 47 (.tmp 14) rfl 0 (dK l * 5) (havc (hav (dK l))) _ rfl (T6.row hk15) Tryd.underlying47 rfl z47 ?_; simp only [Act.put, List.setIfInBounds_toArray, List.set_cons_zero, List.set_cons_succ])
    | ((with_reducible show wpList _ _ _ (⟨some 7, _, _, _, _, _⟩ :: _) _ _); refine wp_new _ rfl 47 rfl _ y47 ?_; intro w7 g7 hB7 hf7; simp only [Act.put, List.setIfInBounds_toArray, List.set_cons_zero, List.set_cons_succ])
    | ((with_reducible show wpList _ _ _ (⟨none, .store 47 _ _, _, _, _, _⟩ :: _) _ _); refine wp_putAll _ rfl 47 (.tmp 7) (.tmp 15) rfl g7 47 _ (havc (hav (dK l))) rfl rfl hB7 hl47 z47 (havc_one _) ?_; intro w8 hH8 hU8; simp only [Act.put]))
  have hi5 := hf5.is
  have hi7 := hf7.is
  have hs5 := hf5.size
  have hs7 := hf7.size
  have hu6 := hU6.size
  have b8 : Below w.heap.size w w8 := ((((b4.trans (hf5.below.mono b4.size)).trans (hU6.below (by have := b4.size; omega))).trans (hf7.below.mono (by have := b4.size; omega))).trans (hU8.below (by have := b4.size; omega)))
  have R8 : Rdr w8 g5 l (tkA l 0 0 1 14) (ckE l 0 0 1 14) := (((R4.kept hf5.below).chg (Chg.upd1 hU6 g6) (by omega) (by omega)).kept hf7.below).chg (Chg.upd1 hU8 g7) (by omega) (by omega)
  have Z8 : Blk w8 g2 24 (evc ev0) := (hf7.blk ((hf5.blk Z4).upd hU6 (by omega))).upd hU8 (by omega)
  have V8 : Blk w8 g6 24 (evc ⟨(dK l : Int), 0, 0, [[], [], [], []], [0, 0, 0]⟩) := (hf7.blk hV6).upd hU8 (by omega)
  have hgs2 : g5 < g6 ∧ g6 < g7 := ⟨by omega, by omega⟩
  have hb := b4.size
  clear hi5 hi7 hs5 hs7 hu6 hf5 hf7 hU6 hU8 hB6 hB7 R4 Z4 T4 T6 k6 hV6 b4
  refine (HNA.out g5 w8 R8).mono ?_
  rintro r w9 ⟨rfl, R9, C9⟩
  have V9 := V8.chg C9 (by omega) (by omega)
  have Z9 := Z8.chg C9 (by omega) (by omega)
  have H9 := hH8.chg C9 (by omega) (by omega)
  have b9 : Below w.heap.size w w9 := b8.trans (C9.below b8.size (by omega) (by omega))
  have f9 : w9.cell? ⟨g7, 0, none⟩ = some (.bool (hav (dK l)).fetch) := H9.cell rfl
  clear R8 V8 Z8 hH8 C9 b8 HNA
  go_wp2_with (first
    | ((with_reducible show wpList _ _ _ (⟨none, .store 22 _ _, _, _, _, _⟩ :: _) _ _); refine wp_set _ rfl 22 (.tmp 17) (.tmp 16) rfl g6 1 24 _ _ rfl rfl rfl rfl V9 (by simp [evc]) size22 ?_; intro w10 hV10 hU10; have f10 : w10.cell? ⟨g7, 0, none⟩ = some (.bool (hav (dK l)).fetch) := (H9.upd hU10 (by omega)).cell rfl; simp only [Act.put]))
  have R10 : Rdr w10 g5 l (d1 l).2.1 (d1 l).2.2 := R9.chg (Chg.upd1 hU10 g6) (by omega) (by omega)
  have Z10 := Z9.upd hU10 (by omega)
  have H10 := H9.upd hU10 (by omega)
  have b10 : Below w.heap.size w w10 := b9.trans (hU10.below (by omega))
  replace hV10 : Blk w10 g6 24 (evc ⟨(dK l : Int), (d1 l).1, 0, [[], [], [], []], [0, 0, 0]⟩) := hV10
  clear R9 Z9 H9 b9 V9 hU10 f9
  refine (HIA.out g5 w10 R10).mono ?_
  rintro r w11 ⟨rfl, R11, C11⟩
  have V11 := hV10.chg C11 (by omega) (by omega)
  have Z11 := Z10.chg C11 (by omega) (by omega)
  have H11 := H10.chg C11 (by omega) (by omega)
  have b11 : Below w.heap.size w w11 := b10.trans (C11.below b10.size (by omega) (by omega))
  clear R10 hV10 Z10 H10 C11 b10 f10 HIA
  go_wp2_with (first
    | ((with_reducible show wpList _ _ _ (⟨none, .store 22 _ _, _, _, _, _⟩ :: _) _ _); refine wp_set _ rfl 22 (.tmp 21) (.tmp 20) rfl g6 2 24 _ _ rfl rfl rfl rfl V11 (by simp [evc]) size22 ?_; intro w12 hV12 hU12; have H12 := H11.upd hU12 (by omega); simp only [Act.put])
    | ((with_reducible show wpList _ _ _ (⟨some 22, _, _, _, _, _⟩ :: _) _ _); refine wp_getG _ (by rfl) 47 (.tmp 7) rfl g7 0 (havc (hav (dK l))) _ rfl H12.whole Tryd.underlying47 rfl z47 ?_; simp only [Act.put, List.setIfInBounds_toArray, List.set_cons_zero, List.set_cons_succ]))
  have R12 : Rdr w12 g5 l (d2 l).2.1 (d2 l).2.2 := R11.chg (Chg.upd1 hU12 g6) (by omega) (by omega)
  have Z12 := Z11.upd hU12 (by omega)
  have b12 : Below w.heap.size w w12 := b11.trans (hU12.below (by omega))
  replace hV12 : Blk w12 g6 24 (evc ⟨(dK l : Int), (d1 l).1, (d2 l).1, [[], [], [], []], [0, 0, 0]⟩) := hV12
  clear R11 Z11 H11 H12 b11 V11 hU12
  refine (each_r (hav (dK l)) (hav_ok _) g6 (.pointer (some ⟨g5, 0, none⟩))
    (fun i W => Rdr W g5 l (d3 l i).2.1 (d3 l i).2.2 ∧ Blk W g6 24 (evc ⟨(dK l : Int), (d1 l).1, (d2 l).1, (d3 l i).1, [0, 0, 0]⟩) ∧ Blk W g2 24 (evc ev0) ∧ Below w.heap.size w W)
    (fun i W => Rdr W g5 l (d4 l i).2.1 (d4 l i).2.2 ∧ Blk W g6 24 (evc ⟨(dK l : Int), (d1 l).1, (d2 l).1, (d3 l (hav (dK l)).texts).1, (d4 l i).1⟩) ∧ Blk W g2 24 (evc ev0) ∧ Below w.heap.size w W) w12 ?_ ?_ ?_ ?_ ?_ ?_ ?_).mono ?_
  · exact ⟨R12, hV12, Z12, b12⟩
  · rintro i W W' ⟨a1, a2, a3, a4⟩ hb
    exact ⟨a1.kept hb, a2.kept hb, a3.kept hb, a4.trans (hb.mono a4.size)⟩
  · rintro i W W' ⟨a1, a2, a3, a4⟩ hb
    exact ⟨a1.kept hb, a2.kept hb, a3.kept hb, a4.trans (hb.mono a4.size)⟩
  · rintro W ⟨a1, a2, a3, a4⟩
    exact ⟨a1, a2, a3, a4⟩
  · rintro i W hi ⟨a1, a2, a3, a4⟩
    have h4 : i < 4 := Nat.lt_of_lt_of_le hi (hav_ok _).1
    have hok : EvOk ⟨(dK l : Int), (d1 l).1, (d2 l).1, (d3 l i).1, [0, 0, 0]⟩ := ⟨d3_ok l i, rfl⟩
    obtain ⟨A', n', c', q1, _⟩ := id a1
    refine (rtext_any g5 g6 24 _ (3 + i) ((d3 l i).1.getD i []) l _ _ W a1 hgs2.1 a2 (evc_text hok h4)).mono ?_
    rintro r W' ⟨rfl, e1, e2, e3⟩
    rw [evc_setText hok h4] at e2
    exact ⟨rfl, ⟨e1, e2, a3.chg e3 (by omega) (by omega), a4.trans (e3.below a4.size (by omega) (by omega))⟩, Kps.of_chg e3 q1 a2⟩
  · rintro i W hi hp ⟨a1, a2, a3, a4⟩
    have hok : EvOk ⟨(dK l : Int), (d1 l).1, (d2 l).1, (d3 l (hav (dK l)).texts).1, (d4 l i).1⟩ := ⟨d3_ok l _, d4_ok l i⟩
    obtain ⟨A', n', c', q1, _⟩ := id a1
    refine (rsmall_any ((hav (dK l)).bl.getD i 0) hp ((hav_ok _).2.2 i) g5 g6 24 _ (7 + i) ((d4 l i).1.getD i 0) l _ _ W a1 hgs2.1 a2 (evc_num hok hi)).mono ?_
    rintro r W' ⟨rfl, e1, e2, e3⟩
    rw [evc_setNum hok hi] at e2
    have hd : d4 l (i + 1) = ((d4 l i).1.set i ((smR ((hav (dK l)).bl.getD i 0) l (d4 l i).2.1 (d4 l i).2.2).1 : Int), (smR ((hav (dK l)).bl.getD i 0) l (d4 l i).2.1 (d4 l i).2.2).2) := by
      show nmS _ _ _ _ _ (i + 1) = _
      rw [nmS, if_pos hp]
      rfl
    rw [hd]
    exact ⟨rfl, ⟨e1, e2, a3.chg e3 (by omega) (by omega), a4.trans (e3.below a4.size (by omega) (by omega))⟩, Kps.of_chg e3 q1 a2⟩
  · rintro i W hi hp ⟨a1, a2, a3, a4⟩
    have hd : d4 l (i + 1) = d4 l i := by
      show nmS _ _ _ _ _ (i + 1) = _
      rw [nmS, if_neg hp]
      rfl
    rw [hd]
    exact ⟨a1, a2, a3, a4⟩
  rintro r w13 ⟨rfl, R13, V13, Z13, b13⟩
  clear R12 hV12 Z12 b12 z47 hl47 y47 hl24 z24
  go_wp2_with fail
  refine (HEA.out g5 w13 R13).mono ?_
  rintro r w14 ⟨rfl, ⟨A', n', c', Q14, hbs14, _⟩, C14⟩
  have V14 := V13.chg C14 (by omega) (by omega)
  have Z14 := Z13.chg C14 (by omega) (by omega)
  have b14 : Below w.heap.size w w14 := b13.trans (C14.below b13.size (by omega) (by omega))
  replace Q14 : Blk w14 g5 63 [.slice A' n' c', .int .i64 (dA l : Int), .int .i64 (dE l : Int)] := Q14
  obtain ⟨aL, haL⟩ : ∃ x, x = dA l := ⟨_, rfl⟩
  obtain ⟨eL, heL⟩ : ∃ x, x = dE l := ⟨_, rfl⟩
  rw [← haL, ← heL] at Q14
  rw [← heL] at HV
  have HAL := Lib.hid (And.intro haL heL)
  clear haL heL
  have e14 := Q14.cell (i := 2) rfl
  have a14 := Q14.cell (i := 1) rfl
  clear R13 V13 Z13 C14 b13 HEA hbs14
  have hok : EvOk ⟨(dK l : Int), (d1 l).1, (d2 l).1, (d3 l (hav (dK l)).texts).1, (d4 l 3).1⟩ := ⟨d3_ok l _, d4_ok l 3⟩
  have z24v := size24' hok
  have h24v : (evc ⟨(dK l : Int), (d1 l).1, (d2 l).1, (d3 l (hav (dK l)).texts).1, (d4 l 3).1⟩).length = (evc ev0).length := by rw [evc_length hok, evc_length ev0_ok]
  generalize hEV : (⟨(dK l : Int), (d1 l).1, (d2 l).1, (d3 l (hav (dK l)).texts).1, (d4 l 3).1⟩ : Ev) = ev at *
  clear hEV hok hk15 hk3
  have b14' := b14
  by_cases he : eL = 0
  · subst he
    rw [if_pos rfl] at HV
    have hE0 : ((0 : Nat) : Int) = 0 := rfl
    go_wp2_with fail
    refine wp_region_held_drew (S := fun W => W.rangeAt g6 0 (evc ev) ∧ W.cell? ⟨g5, 1, none⟩ = some (.int .i64 (aL : Int))) (by kernel_rfl) ⟨(Blk.drew V14).whole, a14⟩ (fun hS => ?_)
    refine wpAnyH_take (i := 0) (oi := ⟨some 35, _, _, _, _, _⟩) (v := _) rfl (by kernel_rfl) (by kernel_rfl) (by kernel_rfl) (fun _ _ _ h => h) (yieldsIf_load_mid (by rfl) 24 (.tmp 6) rfl g6 0 rfl (evc ev) _ (fun W hW => hW.1) Tryd.underlying24 rfl z24v) hS ?_
    simp only [Act.put, List.setIfInBounds_toArray, List.set_cons_zero, List.set_cons_succ]
    refine wpAnyH_take (i := 1) (oi := ⟨some 36, _, _, _, _, _⟩) (v := ?va1) rfl (by kernel_rfl) (by kernel_rfl) (by kernel_rfl) (fun _ _ _ h => h) (Or.inl ⟨by rfl, ?ya1⟩) hS ?ra1
    case ya1 => intro W hW; go_simp; first | done | with_reducible rfl
    simp only [Act.put, List.setIfInBounds_toArray, List.set_cons_zero, List.set_cons_succ]
    refine wpAnyH_take (i := 2) (oi := ⟨some 37, _, _, _, _, _⟩) (v := ?va2) rfl (by kernel_rfl) (by kernel_rfl) (by kernel_rfl) (fun _ _ _ h => h) (Or.inl ⟨by rfl, ?ya2⟩) hS ?ra2
    case ya2 => intro W hW; have v0 := hW.2; go_simp; first | done | with_reducible rfl
    simp only [Act.put, List.setIfInBounds_toArray, List.set_cons_zero, List.set_cons_succ]
    refine wpAnyH_ready (rs := [3]) (by kernel_rfl) (by simp) ?_
    refine (AllReadyH.cons (o := ⟨none, _, _, _, _, _⟩) rfl (fun K hK => ?_) AllReadyH.nil)
    rw [if_pos (by rfl)]
    refine wp_store_mid 24 (.tmp 2) (.tmp 35) rfl g2 0 (evc ev).toArray rfl rfl (by have := (Blk.drew Z14).there (o := 0) (n := (evc ev).length) (by rw [h24v]; omega); simpa using this) (by simpa using z24v) (all_oneCell_toArray (evc_one _)) ?_
    have U15 := Upd.setCells g2 (evc ev) 0 w14.drew
    have B15 := setCells_blk g2 24 (evc ev) 0 w14.drew _ (Blk.drew Z14) (by rw [h24v]; omega)
    have S15 : (w14.drew.setCells g2 0 (evc ev)).rangeAt g6 0 (evc ev) ∧ (w14.drew.setCells g2 0 (evc ev)).cell? ⟨g5, 1, none⟩ = some (.int .i64 (aL : Int)) := ⟨((Blk.drew V14).upd U15 (by omega)).whole, ((Blk.drew Q14).upd U15 (by omega)).cell rfl⟩
    refine hK.out _ _ S15 (fun _ => ?_)
    clear hK K
    try simp only [Act.put]
    refine wpAnyH_take (i := 4) (oi := ⟨some 3, _, _, _, _, _⟩) (v := ?vb4) rfl (by kernel_rfl) (by kernel_rfl) (by kernel_rfl) (fun _ _ _ h => h) (Or.inl ⟨by rfl, ?yb4⟩) S15 ?rb4
    case yb4 => intro W hW; go_simp; first | done | with_reducible rfl
    simp only [Act.put, List.setIfInBounds_toArray, List.set_cons_zero, List.set_cons_succ]
    refine wpAnyH_take (i := 5) (oi := ⟨some 4, _, _, _, _, _⟩) (v := ?vb5) rfl (by kernel_rfl) (by kernel_rfl) (by kernel_rfl) (fun _ _ _ h => h) (Or.inl ⟨by rfl, ?yb5⟩) S15 ?rb5
    case yb5 => intro W hW; go_simp; first | done | with_reducible rfl
    simp only [Act.put, List.setIfInBounds_toArray, List.set_cons_zero, List.set_cons_succ]
    refine wpAnyH_done (by kernel_rfl) ?_ _
    have e15 : (evc ev0).take 0 ++ evc ev ++ (evc ev0).drop (0 + (evc ev).length) = evc ev := by
      rw [List.drop_eq_nil_of_le (by rw [h24v]; omega)]
      simp
    rw [e15] at B15
    revert B15 U15
    generalize w14.drew.setCells g2 0 (evc ev) = w15
    intro U15 B15
    go_wp2_with fail
    refine ret_cell3 2 3 4 24 rfl g2 (evc ev) _ rfl B15.whole Tryd.underlying24 rfl z24v rfl (.int .i64 (aL : Int)) (.int .i64 0) rfl rfl ⟨?_, b14.drew.trans (U15.below (by omega))⟩
    rw [HV.out, ← HAL.out.1, ← HAL.out.2]
    rfl
  · rw [if_neg he] at HV
    have hne : ((eL : Int) != 0) = true := by simp; omega
    go_wp2_with fail
    refine wp_region_held_drew (S := fun W => W.cell? ⟨g5, 2, none⟩ = some (.int .i64 (eL : Int)) ∧ W.cell? ⟨g5, 1, none⟩ = some (.int .i64 (aL : Int))) (by kernel_rfl) ⟨e14, a14⟩ (fun hS => ?_)
    refine wpAnyH_take (i := 0) (oi := ⟨some 30, _, _, _, _, _⟩) (v := ?vc0) rfl (by kernel_rfl) (by kernel_rfl) (by kernel_rfl) (fun _ _ _ h => h) (Or.inl ⟨by rfl, ?yc0⟩) hS ?rc0
    case yc0 => intro W hW; have v0 := build24z W; go_simp; first | done | with_reducible rfl
    simp only [Act.put, List.setIfInBounds_toArray, List.set_cons_zero, List.set_cons_succ]
    refine wpAnyH_take (i := 1) (oi := ⟨some 31, _, _, _, _, _⟩) (v := ?vc1) rfl (by kernel_rfl) (by kernel_rfl) (by kernel_rfl) (fun _ _ _ h => h) (Or.inl ⟨by rfl, ?yc1⟩) hS ?rc1
    case yc1 => intro W hW; go_simp; first | done | with_reducible rfl
    simp only [Act.put, List.setIfInBounds_toArray, List.set_cons_zero, List.set_cons_succ]
    refine wpAnyH_take (i := 2) (oi := ⟨some 32, _, _, _, _, _⟩) (v := ?vc2) rfl (by kernel_rfl) (by kernel_rfl) (by kernel_rfl) (fun _ _ _ h => h) (Or.inl ⟨by rfl, ?yc2⟩) hS ?rc2
    case yc2 => intro W hW; have v0 := hW.2; go_simp; first | done | with_reducible rfl
    simp only [Act.put, List.setIfInBounds_toArray, List.set_cons_zero, List.set_cons_succ]
    refine wpAnyH_take (i := 3) (oi := ⟨some 33, _, _, _, _, _⟩) (v := ?vc3) rfl (by kernel_rfl) (by kernel_rfl) (by kernel_rfl) (fun _ _ _ h => h) (Or.inl ⟨by rfl, ?yc3⟩) hS ?rc3
    case yc3 => intro W hW; go_simp; first | done | with_reducible rfl
    simp only [Act.put, List.setIfInBounds_toArray, List.set_cons_zero, List.set_cons_succ]
    refine wpAnyH_take (i := 4) (oi := ⟨some 34, _, _, _, _, _⟩) (v := ?vc4) rfl (by kernel_rfl) (by kernel_rfl) (by kernel_rfl) (fun _ _ _ h => h) (Or.inl ⟨by rfl, ?yc4⟩) hS ?rc4
    case yc4 => intro W hW; have v0 := hW.1; go_simp; first | done | with_reducible rfl
    simp only [Act.put, List.setIfInBounds_toArray, List.set_cons_zero, List.set_cons_succ]
    refine wpAnyH_ready (rs := [5]) (by kernel_rfl) (by simp) ?_
    refine (AllReadyH.cons (o := ⟨none, _, _, _, _, _⟩) rfl (fun K hK => ?_) AllReadyH.nil)
    rw [if_pos (by rfl)]
    refine wp_store_mid 24 (.tmp 2) (.tmp 30) rfl g2 0 (evc ev0).toArray rfl rfl (by have := (Blk.drew Z14).there (o := 0) (n := (evc ev0).length) (by simp); simpa using this) (by simpa using z24z) (all_oneCell_toArray (evc_one _)) ?_
    have U15 := Upd.setCells g2 (evc ev0) 0 w14.drew
    have B15 := setCells_blk g2 24 (evc ev0) 0 w14.drew _ (Blk.drew Z14) (by simp)
    have S15 : (w14.drew.setCells g2 0 (evc ev0)).cell? ⟨g5, 2, none⟩ = some (.int .i64 (eL : Int)) ∧ (w14.drew.setCells g2 0 (evc ev0)).cell? ⟨g5, 1, none⟩ = some (.int .i64 (aL : Int)) := ⟨((Blk.drew Q14).upd U15 (by omega)).cell rfl, ((Blk.drew Q14).upd U15 (by omega)).cell rfl⟩
    refine hK.out _ _ S15 (fun _ => ?_)
    clear hK K
    try simp only [Act.put]
    refine wpAnyH_take (i := 6) (oi := ⟨some 3, _, _, _, _, _⟩) (v := ?vd6) rfl (by kernel_rfl) (by kernel_rfl) (by kernel_rfl) (fun _ _ _ h => h) (Or.inl ⟨by rfl, ?yd6⟩) S15 ?rd6
    case yd6 => intro W hW; go_simp; first | done | with_reducible rfl
    simp only [Act.put, List.setIfInBounds_toArray, List.set_cons_zero, List.set_cons_succ]
    refine wpAnyH_take (i := 7) (oi := ⟨some 4, _, _, _, _, _⟩) (v := ?vd7) rfl (by kernel_rfl) (by kernel_rfl) (by kernel_rfl) (fun _ _ _ h => h) (Or.inl ⟨by rfl, ?yd7⟩) S15 ?rd7
    case yd7 => intro W hW; go_simp; first | done | with_reducible rfl
    simp only [Act.put, List.setIfInBounds_toArray, List.set_cons_zero, List.set_cons_succ]
    refine wpAnyH_done (by kernel_rfl) ?_ _
    have e15 : (evc ev0).take 0 ++ evc ev0 ++ (evc ev0).drop (0 + (evc ev0).length) = evc ev0 := rfl
    rw [e15] at B15
    revert B15 U15
    generalize w14.drew.setCells g2 0 (evc ev0) = w15
    intro U15 B15
    go_wp2_with fail
    refine ret_cell3 2 3 4 24 rfl g2 (evc ev0) _ rfl B15.whole Tryd.underlying24 rfl z24z rfl (.int .i64 (aL : Int)) (.int .i64 (eL : Int)) rfl rfl ⟨?_, b14.drew.trans (U15.below (by omega))⟩
    rw [HV.out, ← HAL.out.1, ← HAL.out.2]
end Go.Proofs.YtjgcodnabgkjoaaDoor
