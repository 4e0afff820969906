/-
  What (*strings.byteStringReplacer).Replace answers at the program's own table: the text without its bytes 9, 10 and 13. Condition: a text of at most 100000000 bytes.
  What strings.TrimFunc answers at the program's own test (bytes up to 20, to base sixteen). Condition: utf8's two tables.
  What weburl.clean answers: a text without what does not count. Condition: utf8's two tables; a text of at most 100000000 bytes.
-/
import Derived.Test.YtcepigekibidfaaGreatDoorGm
import Derived.Test.YtcepigekibidfaaGreatDoorGn
import Derived.Test.YtcepigekibidfaaGreatDoorGc
import Derived.Test.YtcepigekibidfaaGreatDoorGl
namespace Go.Proofs.YtcepigekibidfaaGreatDoor
open Go.RowKit

theorem fil_le (l : List UInt8) (k : Nat) : ((l.take k).filter tnr).length ≤ k := Nat.le_trans (List.length_filter_le _ _) (by rw [List.length_take]; omega)
theorem fil_succ (l : List UInt8) (k : Nat) (h : k < l.length) : (l.take (k + 1)).filter tnr = (l.take k).filter tnr ++ (if tnr (l.getD k 0) then [l.getD k 0] else []) := by
  have e : l.take (k + 1) = l.take k ++ [l.getD k 0] := by
    rw [List.take_succ_eq_append_getElem h]
    simp [List.getD, List.getElem?_eq_getElem h]
  rw [e, List.filter_append]
  congr 1
  cases ht : tnr (l.getD k 0) with
  | true => rw [List.filter_cons_of_pos ht]; simp
  | false => rw [List.filter_cons_of_neg (by rw [ht]; simp)]; simp
theorem tnr_iff (c : UInt8) : tnr c = false ↔ c.toNat ∈ ([9, 10, 13] : List Nat) := by
  refine u8_all (P := fun c => tnr c = false ↔ c.toNat ∈ ([9, 10, 13] : List Nat)) ?_ c
  decide +kernel
/-- The bytes struck, told byte by byte of the three. -/
theorem fil_count (l : List UInt8) : (l.filter tnr).length + (l.count 13 + l.count 10 + l.count 9) = l.length := by
  induction l with
  | nil => rfl
  | cons a r ih =>
    by_cases h13 : a = 13
    · subst h13
      rw [List.filter_cons_of_neg (by decide), List.count_cons_self, List.count_cons_of_ne (by decide), List.count_cons_of_ne (by decide), List.length_cons]
      omega
    · by_cases h10 : a = 10
      · subst h10
        rw [List.filter_cons_of_neg (by decide), List.count_cons_self, List.count_cons_of_ne (by decide), List.count_cons_of_ne (by decide), List.length_cons]
        omega
      · by_cases h9 : a = 9
        · subst h9
          rw [List.filter_cons_of_neg (by decide), List.count_cons_self, List.count_cons_of_ne (by decide), List.count_cons_of_ne (by decide), List.length_cons]
          omega
        · have ht : tnr a = true := by
            unfold tnr
            simp [h13, h10, h9]
          rw [List.filter_cons_of_pos ht, List.count_cons_of_ne h13, List.count_cons_of_ne h10, List.count_cons_of_ne h9, List.length_cons, List.length_cons]
          omega
theorem sl_ne (a : Addr) (c : Nat) (w : World) : (binOp .neq 36 (.slice (some a) 0 c) (.slice none 0 0)).run Tryz.prog w = .ok (.bool true) w := by kernel_rfl
theorem sl_nn (w : World) : (binOp .neq 36 (.slice none 0 0) (.slice none 0 0)).run Tryz.prog w = .ok (.bool false) w := by kernel_rfl
/-- What the table holds for a byte. -/
theorem RpC.at_ {T : Value} {C : List Value} (h : RpC [9, 10, 13] T C) (c : UInt8) : (tnr c = true → C[c.toNat]? = some (.slice none 0 0)) ∧ (tnr c = false → ∃ a k, C[c.toNat]? = some (.slice (some a) 0 k)) := by
  constructor
  · intro ht
    refine h.no c.toNat c.toNat_lt fun hm => ?_
    rw [(tnr_iff c).2 hm] at ht
    cases ht
  · intro ht
    exact h.yes c.toNat c.toNat_lt ((tnr_iff c).1 ht)

theorem count_any (l : List UInt8) (c : UInt8) (w : World) : Calls Tryz.prog 97 #[.string (str l), .string (str [c])] w fun e w' => e = .returned (.int .i64 ((l.count c : Nat) : Int)) ∧ w' = w := by
  have h := Tryz.strings_Count_one (str l) c w
  refine h.mono fun e w' hh => ⟨?_, hh.2⟩
  rw [hh.1]
  rfl
def thr (k : Nat) : UInt8 := ([13, 10, 9] : List UInt8).getD k 0
theorem thr_bad (k : Nat) (hk : k < 3) : tnr (thr k) = false := by
  match k, hk with
  | 0, _ => decide
  | 1, _ => decide
  | 2, _ => decide
def cntk (l : List UInt8) : Nat → Nat
  | 0 => 0
  | k + 1 => cntk l k + l.count (thr k)
theorem cntk_le (l : List UInt8) : cntk l 3 + (l.filter tnr).length = l.length := by
  have := fil_count l
  show 0 + l.count 13 + l.count 10 + l.count 9 + _ = _
  omega
theorem cntk_mono (l : List UInt8) (k : Nat) (hk : k ≤ 3) : cntk l k ≤ cntk l 3 := by
  match k, hk with
  | 0, _ => exact Nat.zero_le _
  | 1, _ => show 0 + _ ≤ 0 + l.count 13 + l.count 10 + l.count 9; simp only [thr]; show 0 + l.count 13 ≤ _; omega
  | 2, _ => show 0 + l.count 13 + l.count 10 ≤ 0 + l.count 13 + l.count 10 + l.count 9; omega
  | 3, _ => exact Nat.le_refl _
theorem fil_all (l : List UInt8) (h : (l.filter tnr).length = l.length) : l.filter tnr = l := List.Sublist.eq_of_length List.filter_sublist h
theorem slice36h (w : World) (g j n : Nat) (h : j ≤ n) : (Instr.slice 36 (.slice (some ⟨g, 0, none⟩) n n) (some (.int .i64 (j : Int))) none none).run Tryz.prog w = .ok (.slice (if n = j then some ⟨g, 0, none⟩ else some ⟨g, j, none⟩) (n - j) (n - j)) w := by
  have hsz : ∀ w, (sizeOf 5).run Tryz.prog w = .ok 1 w := fun w => Tryz.sizeOf5 w
  simp [Instr.slice, run_underlying Tryz.underlying36, Instr.sliceBounds, Instr.sliceBound, asIntOf, hsz, h, Addr.add_lit]
theorem copy36 (w : World) (ty : TypeId) (A : Option Addr) (n c : Nat) (a : Addr) (k : Nat) : (Builtin.copy_ #[36, 36] ty #[.slice A n c, .slice (some a) 0 k]).run Tryz.prog w = .ok (.int .i64 0) w := by
  have hsz : ∀ w, (sizeOf 5).run Tryz.prog w = .ok 1 w := fun w => Tryz.sizeOf5 w
  cases A <;> simp [Builtin.copy_, run_underlying Tryz.underlying36, hsz, Builtin.lenOf, Builtin.firstCells, loadCells, loadCellsFrom, storeCells, goInt]
theorem wp_makeB {ops : Array Oper} {rest : List Oper} {o : Oper} {a : Act} {Q : Exit → Act → World → Prop} (w : World) (hgd : o.guard = none) (x y : Operand) (ho : o.op = .makeSlice 36 x y) (n : Nat) (hx : a.eval x = .int .i64 (n : Int)) (hy : a.eval y = .int .i64 (n : Int)) (hn : n ≤ 1000000000)
    (h : ∀ w', Wb w' w.heap.size (List.replicate n 0) → Below w.heap.size w w' → wpList Tryz.prog ops Q rest (a.put o.dst (.slice (some ⟨w.heap.size, 0, none⟩) n n)) w') : wpList Tryz.prog ops Q (o :: rest) a w := by
  obtain ⟨i, hi, hz, h1, h2⟩ := info_parts byte_info
  have hrun := run_make (P := Tryz.prog) w 36 5 i _ Tryz.underlying36 hi hz .i64 .i64 (n : Int) (n : Int) (by omega) (by omega) (by rw [h2]; omega) (by omega)
  simp only [Int.toNat_natCast] at hrun
  refine wpList_plain hgd fun K hK => ?_
  unfold Oper.wp execOp
  simp only [ho, hx, hy, Sem.run_bind, hrun, Result.andThen_ok, Sem.run_pure]
  refine hK _ _ (h _ ⟨_, _, Go.heap_alloc_new w _, fun j c hj => ?_, .inr rfl⟩ ((Below.refl _ _).alloc (Nat.le_refl _) _))
  rw [List.getElem?_replicate] at hj
  split at hj
  · cases hj
    rename_i hlt
    rw [h1, Nat.mul_one]
    simp [madeCells, Value.cells, hlt, vb, Nat.mod_one]
  · cases hj

theorem wrap64_nat (n : Nat) (h : n ≤ 1000000000) : wrap64 (n : Int) = (n : Int) := by
  unfold wrap64
  omega
def fk (l : List UInt8) (k : Nat) : Nat := ((l.take k).filter tnr).length
def mbk (l : List UInt8) (n k : Nat) : List UInt8 := (l.take k).filter tnr ++ List.replicate (n - fk l k) 0
theorem fk_le (l : List UInt8) (k : Nat) : fk l k ≤ (l.filter tnr).length := by
  have e : l.filter tnr = (l.take k).filter tnr ++ (l.drop k).filter tnr := by rw [← List.filter_append, List.take_append_drop]
  unfold fk
  rw [e, List.length_append]
  omega
theorem fk_yes (l : List UInt8) (k : Nat) (h : k < l.length) (ht : tnr (l.getD k 0) = true) : fk l (k + 1) = fk l k + 1 := by
  unfold fk
  rw [fil_succ l k h, ht]
  simp
theorem fk_no (l : List UInt8) (k : Nat) (h : k < l.length) (ht : tnr (l.getD k 0) = false) : fk l (k + 1) = fk l k := by
  unfold fk
  rw [fil_succ l k h, ht]
  simp
theorem mbk_len (l : List UInt8) (n k : Nat) (h : fk l k ≤ n) : (mbk l n k).length = n := by
  unfold mbk
  rw [List.length_append, List.length_replicate]
  show fk l k + (n - fk l k) = n
  omega
theorem mbk_no (l : List UInt8) (n k : Nat) (h : k < l.length) (ht : tnr (l.getD k 0) = false) : mbk l n (k + 1) = mbk l n k := by
  unfold mbk
  rw [fk_no l k h ht, fil_succ l k h, ht]
  simp
theorem mbk_yes (l : List UInt8) (n k : Nat) (h : k < l.length) (ht : tnr (l.getD k 0) = true) (hn : fk l k < n) : (mbk l n k).set (fk l k) (l.getD k 0) = mbk l n (k + 1) := by
  unfold mbk
  rw [fk_yes l k h ht, fil_succ l k h, ht]
  have e : n - fk l k = (n - (fk l k + 1)) + 1 := by omega
  rw [List.set_append_right _ _ (show ((l.take k).filter tnr).length ≤ fk l k from Nat.le_refl _), e, List.replicate_succ]
  have e2 : fk l k - ((l.take k).filter tnr).length = 0 := by unfold fk; omega
  rw [e2, List.set_cons_zero]
  simp
theorem mbk_end (l : List UInt8) (n : Nat) (h : n = (l.filter tnr).length) : mbk l n l.length = l.filter tnr := by
  have e : fk l l.length = n := by unfold fk; rw [List.take_length, h]
  unfold mbk
  rw [e, List.take_length, Nat.sub_self]
  simp
set_option maxHeartbeats 8000000 in
set_option maxRecDepth 100000 in
theorem bsr_any (h : Nat) (l : List UInt8) (w : World) (hR : Rpl w h) (hl : l.length ≤ 100000000) :
    Calls Tryz.prog 250 #[.pointer (some ⟨h, 0, none⟩), .string (str l)] w fun e w' => e = .returned (.string (str (l.filter tnr))) ∧ Below w.heap.size w w' := by
  obtain ⟨C, p, c, hB, hC, ⟨hpl, _⟩, htx⟩ := hR
  have h256 := hB.cell hC.tr
  have hAt : Hid (∀ b : UInt8, (tnr b = true → w.cell? ⟨h, b.toNat, none⟩ = some (.slice none 0 0)) ∧ (tnr b = false → ∃ a k, w.cell? ⟨h, b.toNat, none⟩ = some (.slice (some a) 0 k))) := fun b =>
    ⟨fun ht => hB.cell ((hC.at_ b).1 ht), fun ht => by obtain ⟨a, k, e⟩ := (hC.at_ b).2 ht; exact ⟨a, k, hB.cell e⟩⟩
  have hBk : Hid (∀ w', Kept w w' → ∀ b : UInt8, (tnr b = true → w'.cell? ⟨h, b.toNat, none⟩ = some (.slice none 0 0)) ∧ (tnr b = false → ∃ a k, w'.cell? ⟨h, b.toNat, none⟩ = some (.slice (some a) 0 k))) := fun w' hk b =>
    ⟨fun ht => (hB.kept hk).cell ((hC.at_ b).1 ht), fun ht => by obtain ⟨a, k, e⟩ := (hC.at_ b).2 ht; exact ⟨a, k, (hB.kept hk).cell e⟩⟩
  have hsz := str_size l
  obtain ⟨S, hS⟩ : ∃ S, S = l.length := ⟨_, rfl⟩
  rw [← hS] at hsz hl
  have hn1 := sl_ne
  have hn2 := sl_nn
  have ht0 := htx 0 [13] rfl
  have ht1 := htx 1 [10] rfl
  have ht2 := htx 2 [9] rfl
  rw [vstr_str] at ht0 ht1 ht2
  have HTX := Lib.hid htx
  have HS := Lib.hid hS
  clear hB hC htx hS
  have hthr : ∀ wr, Kept w wr → ∀ k, k < 3 → wr.cell? ⟨p, k, none⟩ = some (.string (str [thr k])) := fun wr hkp k hk => (hkp.cell (p := ⟨p, k, none⟩) hpl).trans <| HTX.out k _ (match k, hk with | 0, _ => rfl | 1, _ => rfl | 2, _ => rfl)
  have HTH := Lib.hid hthr
  have HCN := Lib.hid (fun k w => count_any l (thr k) w)
  have hgb : Hid (∀ k, k < S → ∀ h, ((str l)[k]'h).toNat = (l.getD k 0).toNat) := fun k hk h => str_at l k (by rw [← HS.out]; exact hk) h
  clear ht0 ht1 ht2 hthr
  go_enter Tryz.func250, Tryz.ntmps250
  by_cases h24 : 24 ≤ S
  · have h24i : (24 : Int) ≤ (S : Int) := by omega
    go_wp2_with fail
    go_loopw [32, 5, 6] (fun i ns an wr => Kept w wr ∧ ∃ k q : Nat, k ≤ 3 ∧ i = .int .i64 (k : Int) ∧ q + cntk l k = S ∧ ns = .int .i64 (q : Int) ∧ an = .bool (decide (0 < cntk l k))) (fun i _ _ _ => 3 - (intOf i).toNat)
    case atStart => exact ⟨Kept.refl _, 0, S, by omega, rfl, rfl, rfl, rfl⟩
    case round =>
      obtain ⟨hkp0, k, q, hk, rfl, hq, rfl, rfl⟩ := hrel
      have HK0 := Lib.hid hkp0
      by_cases hlt : k < 3
      · have hk3 : (k : Int) < 3 := by omega
        have htk := HTH.out wr hkp0 k hlt
        have hHC := HCN.out k wr
        have hcs : Hid (cntk l (k + 1) = cntk l k + l.count (thr k)) := rfl
        obtain ⟨cc, hcc⟩ : ∃ cc, cc = l.count (thr k) := ⟨_, rfl⟩
        rw [← hcc] at hHC
        obtain ⟨a, kk, hbad⟩ := (hBk.out wr hkp0 (thr k)).2 (thr_bad k hlt)
        rw [← hcc] at hcs
        obtain ⟨b, hb⟩ : ∃ b, b = thr k := ⟨_, rfl⟩
        rw [← hb] at htk hHC hbad
        have hb256 : b.toNat < 256 := b.toNat_lt
        obtain ⟨bn, hbn⟩ : ∃ bn, bn = b.toNat := ⟨_, rfl⟩
        have HG : ∀ h, ((str [b])[0]'h).toNat = bn := fun h => by rw [hbn]; rfl
        rw [← hbn] at hbad hb256
        have hs1 : (str [b]).size = 1 := rfl
        have HH2 := Lib.hid hHC
        have HQ := Lib.hid hq
        have hq2 : cc ≤ q := by
          have h1 := cntk_mono l (k + 1) (by omega)
          have h2 := cntk_le l
          have h3 := HS.out
          have h4 := hcs.out
          omega
        by_cases hz : cc = 0
        · have hzb : ((cc : Int) != 0) = false := by simp [hz]
          have HZ := Lib.hid hz
          clear hcc hb hbn hHC hq hz hq2 hkp0
          go_wp2_with (go_at_call 97; with_reducible refine HH2.out.mono ?_; rintro e w1 ⟨rfl, rfl⟩)
          go_roundw
          case rel => exact ⟨HK0.out, k + 1, q, by omega, by go_num, by have := HQ.out; have := HZ.out; have := hcs.out; omega, rfl, by rw [hcs.out, HZ.out, Nat.add_zero]⟩
          case measure => simp [intOf]; omega
        · have hzb : ((cc : Int) != 0) = true := by simp; omega
          have HZ := Lib.hid hz
          have hmul : IntKind.i64.wrap ((cc : Int) * -1) = -(cc : Int) := by rw [IntKind.wrap_i64]; omega
          obtain ⟨q', hq'⟩ : ∃ q', q' = q - cc := ⟨_, rfl⟩
          have hadd : (q : Int) + -(cc : Int) = (q' : Int) := by omega
          have HQ' : Hid (q' + cc = q) := by show _ = _; omega
          clear hcc hb hbn hHC hq hz hq2 hq' hkp0
          go_wp2_with (go_at_call 97; with_reducible refine HH2.out.mono ?_; rintro e w1 ⟨rfl, rfl⟩)
          go_region
          go_wp2_with fail
          go_roundw
          case rel =>
            refine ⟨HK0.out.drew, k + 1, q', by omega, by go_num, by have := HQ.out; have := HQ'.out; have := hcs.out; omega, ?_, by rw [hcs.out]; have := HZ.out; congr 1; simp; omega⟩
            have e1 : wrap64 (-(cc : Int)) = -(cc : Int) := by have := HQ'.out; have := HQ.out; unfold wrap64; omega
            rw [e1, hadd, wrap64_nat q' (by have := HQ'.out; have := HQ.out; omega)]
          case measure => simp [intOf]; omega
      · have hk3 : k = 3 := by omega
        subst hk3
        have HQ := Lib.hid hq
        have HN : Hid (q = (l.filter tnr).length) := by
          have h2 := cntk_le l
          have h3 := HS.out
          show _ = _
          omega
        clear hkp0
        by_cases hzz : q = S
        · have hdz : decide (0 < cntk l 3) = false := by simp; have := HQ.out; omega
          have hfa : Hid (l.filter tnr = l) := fil_all l (by have := HS.out; have := HN.out; omega)
          clear hzz hq hk hlt
          go_wp2_with fail
          go_ret
          exact ⟨by rw [hfa.out]; rfl, HK0.out⟩
        · have hdz : decide (0 < cntk l 3) = true := by simp; have := HQ.out; omega
          have hqS : Hid (q < S) := by show q < S; have := HQ.out; omega
          have hq9 : q ≤ 1000000000 := by have := hqS.out; omega
          clear hzz hq hk hlt
          go_wp2_with ((with_reducible show wpList _ _ _ (⟨some 85, .makeSlice _ _ _, _, _, _, _⟩ :: _) _ _); refine wp_makeB _ rfl (.tmp 84) (.tmp 84) rfl q rfl rfl hq9 ?_; intro w1 hW1 hb1; simp only [Act.put, List.setIfInBounds_toArray, List.set_cons_zero, List.set_cons_succ])
          obtain ⟨gb, hgb0⟩ : ∃ gb, gb = wr.heap.size := ⟨_, rfl⟩
          rw [← hgb0] at hW1 ⊢
          have hk1 := Lib.hid (HK0.out.step hb1)
          have hW1 := Lib.hid hW1
          have hgbl : Hid (w.heap.size ≤ gb) := by show _ ≤ _; rw [hgb0]; exact HK0.out.size
          clear hb1 hgb0
          go_loopw [14, 13] (fun i j wr => ∃ k : Nat, k ≤ S ∧ i = .int .i64 (k : Int) ∧ j = .int .i64 ((fk l k : Nat) : Int) ∧ Wb wr gb (mbk l q k) ∧ Kept w wr) (fun i _ _ => S - (intOf i).toNat)
          case atStart => exact ⟨0, by omega, rfl, rfl, by have e : mbk l q 0 = List.replicate q 0 := by { unfold mbk fk; simp }
                                                           rw [e]; exact hW1.out, hk1.out⟩
          case round =>
            obtain ⟨k, hk, rfl, rfl, hW, hkp⟩ := hrel
            by_cases hlt : k < S
            · have hkS : (k : Int) < (S : Int) := by omega
              have HG := fun hh => hgb.out k hlt hh
              have hkl : k < l.length := by rw [← HS.out]; exact hlt
              obtain ⟨bb, hbb⟩ : ∃ bb, bb = l.getD k 0 := ⟨_, rfl⟩
              have hTT := hBk.out wr hkp bb
              have hfk := fk_le l k
              have hfk1 := fk_le l (k + 1)
              have hqn := HN.out
              have hY := fk_yes l k hkl
              have hNo := fk_no l k hkl
              have hmy := mbk_yes l q k hkl
              have hmn := mbk_no l q k hkl
              rw [← hbb] at HG hY hNo hmy hmn
              obtain ⟨bm, hbm⟩ : ∃ bm, bm = bb.toNat := ⟨_, rfl⟩
              have hb256 : bb.toNat < 256 := bb.toNat_lt
              rw [← hbm] at HG hTT hb256
              obtain ⟨jn, hjn⟩ : ∃ jn, jn = fk l k := ⟨_, rfl⟩
              rw [← hjn] at hfk hY hNo hmy ⊢
              have hlenw : (mbk l q k).length = q := mbk_len l q k (by rw [← hjn]; omega)
              have hwz := hkp.size
              have HK2 := Lib.hid hkp
              have HW2 := Lib.hid hW
              cases ht : tnr bb with
              | true =>
                have c1 := hTT.1 ht
                have hy := hY ht
                have hjq : jn < q := by omega
                have hm2 := hmy ht hjq
                have hjl : jn < (mbk l q k).length := by rw [hlenw]; exact hjq
                have hcell := hW.cell hjl
                have hfz := hW.frozen hjl
                have hst := hW.set hjl bb
                rw [hm2] at hst
                obtain ⟨old, hold⟩ : ∃ old, old = vb ((mbk l q k).getD jn 0) := ⟨_, rfl⟩
                rw [← hold] at hcell
                have hjqi : (jn : Int) < (q : Int) := by omega
                unfold vb at hst
                rw [← hbm] at hst
                have hst := Lib.hid hst
                have hk2 := Lib.hid (below_setCell hkp gb jn (.int .u8 (bm : Int)) hgbl.out)
                have hy := Lib.hid hy
                clear hTT hY hNo hmy hmn hold hm2 hW hkp hfk hfk1 hqn hbb hbm hjn hkl hlenw ht hjl hk
                go_wp2_with fail
                go_roundw
                case rel => exact ⟨k + 1, by omega, by go_num, by rw [hy.out]; go_num, hst.out, hk2.out⟩
                case measure => simp [intOf]; omega
              | false =>
                obtain ⟨a3, k3, c1⟩ := hTT.2 ht
                have hn := hNo ht
                have hm2 := hmn ht
                have hjq : jn ≤ q := by omega
                have hW2 : Wb wr gb (mbk l q (k + 1)) := by rw [hm2]; exact hW
                have hjq9 : Hid (jn ≤ 1000000000) := by show _ ≤ _; omega
                have hsl := fun w' => slice36h w' gb jn q hjq
                obtain ⟨A3, hA3⟩ : ∃ A3, A3 = (if q = jn then some (⟨gb, 0, none⟩ : Addr) else some ⟨gb, jn, none⟩) := ⟨_, rfl⟩
                obtain ⟨d3, hd3⟩ : ∃ d3, d3 = q - jn := ⟨_, rfl⟩
                simp only [← hA3, ← hd3] at hsl
                have hcp := fun w' ty => copy36 w' ty A3 d3 d3 a3 k3
                have hW2 := Lib.hid hW2
                have hn := Lib.hid hn
                clear hTT hY hNo hmy hmn hm2 hW hkp hfk hfk1 hqn hbb hbm hjn hkl hlenw ht hA3 hd3 hk hjq
                go_wp2_with fail
                go_region
                go_wp2_with fail
                go_roundw
                case rel => exact ⟨k + 1, by omega, by go_num, by rw [hn.out, wrap64_nat jn (by have := hjq9.out; omega)], hW2.out, HK2.out.drew⟩
                case measure => simp [intOf]; omega
            · have hkS : ¬ (k : Int) < (S : Int) := by omega
              have hkS2 : k = S := by omega
              have hbs := hW.bs
              have hl2 : (mbk l q k).length = q := mbk_len l q k (by have := fk_le l k; have := HN.out; omega)
              have he : mbk l q k = l.filter tnr := by rw [hkS2, HS.out]; exact mbk_end l q HN.out
              rw [hl2] at hbs
              rw [he] at hbs
              have hbs := Lib.hid hbs
              have HK2 := Lib.hid hkp
              clear hW hkp hkS2 hl2 he hlt hk
              go_wp2_with ((with_reducible show wpList _ _ _ (⟨some 121, .convert _ _ _, _, _, _, _⟩ :: _) _ _); refine wp_str _ rfl (.tmp 120) rfl _ (some ⟨gb, 0, none⟩) q q _ rfl hbs.out ?_; simp only [Act.put, List.setIfInBounds_toArray, List.set_cons_zero, List.set_cons_succ])
              go_ret
              exact ⟨rfl, HK2.out⟩
  · have h24i : ¬ (24 : Int) ≤ (S : Int) := by omega
    go_wp2_with fail
    go_loop [10, 5, 6] (fun i ns an => ∃ k q : Nat, k ≤ S ∧ i = .int .i64 (k : Int) ∧ q + (k - fk l k) = S ∧ ns = .int .i64 (q : Int) ∧ an = .bool (decide (0 < k - fk l k))) (fun i _ _ => S - (intOf i).toNat)
    case atStart => exact ⟨0, S, by omega, rfl, by omega, rfl, by simp⟩
    case round =>
      obtain ⟨k, q, hk, rfl, hq, rfl, rfl⟩ := hrel
      by_cases hlt : k < S
      · have hkS : (k : Int) < (S : Int) := by omega
        have HG := fun hh => hgb.out k hlt hh
        have hkl : k < l.length := by rw [← HS.out]; exact hlt
        obtain ⟨bb, hbb⟩ : ∃ bb, bb = l.getD k 0 := ⟨_, rfl⟩
        have hTT := hAt.out bb
        have hY := fk_yes l k hkl
        have hNo := fk_no l k hkl
        have hfl : fk l k ≤ k := fil_le l k
        rw [← hbb] at HG hY hNo
        obtain ⟨bm, hbm⟩ : ∃ bm, bm = bb.toNat := ⟨_, rfl⟩
        have hb256 : bb.toNat < 256 := bb.toNat_lt
        rw [← hbm] at HG hTT hb256
        have HQ := Lib.hid hq
        have hfl := Lib.hid hfl
        cases ht : tnr bb with
        | true =>
          have c1 := hTT.1 ht
          have hy := Lib.hid (hY ht)
          clear hTT hY hNo hbb hbm hkl ht hq hk
          go_wp2_with fail
          go_round
          case rel =>
            have e : k + 1 - fk l (k + 1) = k - fk l k := by rw [hy.out]; omega
            exact ⟨k + 1, q, by omega, by go_num, by rw [e]; exact HQ.out, rfl, by rw [e]⟩
          case measure => simp [intOf]; omega
        | false =>
          obtain ⟨a3, k3, c1⟩ := hTT.2 ht
          have hn := Lib.hid (hNo ht)
          obtain ⟨q', hq'⟩ : ∃ q', q' = q - 1 := ⟨_, rfl⟩
          have HQ' : Hid (q' + 1 = q) := by show _ = _; omega
          have hadd : (q : Int) + -1 = (q' : Int) := by omega
          have hadd2 : (q : Int) - 1 = (q' : Int) := by omega
          clear hTT hY hNo hbb hbm hkl ht hq hk hq'
          go_wp2_with fail
          go_round
          case rel =>
            have e : k + 1 - fk l (k + 1) = (k - fk l k) + 1 := by rw [hn.out]; have := hfl.out; omega
            refine ⟨k + 1, q', by omega, by go_num, by rw [e]; have := HQ.out; have := HQ'.out; omega, ?_, by rw [e]; simp⟩
            rw [wrap64_nat q' (by have := HQ'.out; have := HQ.out; omega)]
          case measure => simp [intOf]; omega
      · have hkS2 : S = k := by omega
        subst hkS2
        have hkS : ¬ (S : Int) < (S : Int) := by omega
        have HQ := Lib.hid hq
        have HN : Hid (q = (l.filter tnr).length) := by
          have h3 := HS.out
          have h4 : fk l S = (l.filter tnr).length := by unfold fk; rw [h3, List.take_length]
          have h5 : fk l S ≤ S := fil_le l S
          show _ = _
          omega
        have HSk := HS
        have HK0 := Lib.hid (Kept.refl w)
        by_cases hzz : q = S
        · have hdz : decide (0 < S - fk l S) = false := by simp; have := HQ.out; omega
          have hfa : Hid (l.filter tnr = l) := fil_all l (by have := HS.out; have := HN.out; omega)
          clear hzz hq hk hlt
          go_wp2_with fail
          go_ret
          exact ⟨by rw [hfa.out]; rfl, HK0.out⟩
        · have hdz : decide (0 < S - fk l S) = true := by simp; have := HQ.out; omega
          have hqS : Hid (q < S) := by show q < S; have := HQ.out; omega
          have hq9 : q ≤ 1000000000 := by have := hqS.out; omega
          clear hzz hq hk hlt
          go_wp2_with ((with_reducible show wpList _ _ _ (⟨some 85, .makeSlice _ _ _, _, _, _, _⟩ :: _) _ _); refine wp_makeB _ rfl (.tmp 84) (.tmp 84) rfl q rfl rfl hq9 ?_; intro w1 hW1 hb1; simp only [Act.put, List.setIfInBounds_toArray, List.set_cons_zero, List.set_cons_succ])
          obtain ⟨gb, hgb0⟩ : ∃ gb, gb = w.heap.size := ⟨_, rfl⟩
          rw [← hgb0] at hW1 ⊢
          have hk1 := Lib.hid (HK0.out.step hb1)
          have hW1 := Lib.hid hW1
          have hgbl : Hid (w.heap.size ≤ gb) := by show _ ≤ _; rw [hgb0]; exact HK0.out.size
          clear hb1 hgb0
          go_loopw [14, 13] (fun i j wr => ∃ k : Nat, k ≤ S ∧ i = .int .i64 (k : Int) ∧ j = .int .i64 ((fk l k : Nat) : Int) ∧ Wb wr gb (mbk l q k) ∧ Kept w wr) (fun i _ _ => S - (intOf i).toNat)
          case atStart => exact ⟨0, by omega, rfl, rfl, by have e : mbk l q 0 = List.replicate q 0 := by { unfold mbk fk; simp }
                                                           rw [e]; exact hW1.out, hk1.out⟩
          case round =>
            obtain ⟨k, hk, rfl, rfl, hW, hkp⟩ := hrel
            by_cases hlt : k < S
            · have hkS : (k : Int) < (S : Int) := by omega
              have HG := fun hh => hgb.out k hlt hh
              have hkl : k < l.length := by rw [← HS.out]; exact hlt
              obtain ⟨bb, hbb⟩ : ∃ bb, bb = l.getD k 0 := ⟨_, rfl⟩
              have hTT := hBk.out wr hkp bb
              have hfk := fk_le l k
              have hfk1 := fk_le l (k + 1)
              have hqn := HN.out
              have hY := fk_yes l k hkl
              have hNo := fk_no l k hkl
              have hmy := mbk_yes l q k hkl
              have hmn := mbk_no l q k hkl
              rw [← hbb] at HG hY hNo hmy hmn
              obtain ⟨bm, hbm⟩ : ∃ bm, bm = bb.toNat := ⟨_, rfl⟩
              have hb256 : bb.toNat < 256 := bb.toNat_lt
              rw [← hbm] at HG hTT hb256
              obtain ⟨jn, hjn⟩ : ∃ jn, jn = fk l k := ⟨_, rfl⟩
              rw [← hjn] at hfk hY hNo hmy ⊢
              have hlenw : (mbk l q k).length = q := mbk_len l q k (by rw [← hjn]; omega)
              have hwz := hkp.size
              have HK2 := Lib.hid hkp
              have HW2 := Lib.hid hW
              cases ht : tnr bb with
              | true =>
                have c1 := hTT.1 ht
                have hy := hY ht
                have hjq : jn < q := by omega
                have hm2 := hmy ht hjq
                have hjl : jn < (mbk l q k).length := by rw [hlenw]; exact hjq
                have hcell := hW.cell hjl
                have hfz := hW.frozen hjl
                have hst := hW.set hjl bb
                rw [hm2] at hst
                obtain ⟨old, hold⟩ : ∃ old, old = vb ((mbk l q k).getD jn 0) := ⟨_, rfl⟩
                rw [← hold] at hcell
                have hjqi : (jn : Int) < (q : Int) := by omega
                unfold vb at hst
                rw [← hbm] at hst
                have hst := Lib.hid hst
                have hk2 := Lib.hid (below_setCell hkp gb jn (.int .u8 (bm : Int)) hgbl.out)
                have hy := Lib.hid hy
                clear hTT hY hNo hmy hmn hold hm2 hW hkp hfk hfk1 hqn hbb hbm hjn hkl hlenw ht hjl hk
                go_wp2_with fail
                go_roundw
                case rel => exact ⟨k + 1, by omega, by go_num, by rw [hy.out]; go_num, hst.out, hk2.out⟩
                case measure => simp [intOf]; omega
              | false =>
                obtain ⟨a3, k3, c1⟩ := hTT.2 ht
                have hn := hNo ht
                have hm2 := hmn ht
                have hjq : jn ≤ q := by omega
                have hW2 : Wb wr gb (mbk l q (k + 1)) := by rw [hm2]; exact hW
                have hjq9 : Hid (jn ≤ 1000000000) := by show _ ≤ _; omega
                have hsl := fun w' => slice36h w' gb jn q hjq
                obtain ⟨A3, hA3⟩ : ∃ A3, A3 = (if q = jn then some (⟨gb, 0, none⟩ : Addr) else some ⟨gb, jn, none⟩) := ⟨_, rfl⟩
                obtain ⟨d3, hd3⟩ : ∃ d3, d3 = q - jn := ⟨_, rfl⟩
                simp only [← hA3, ← hd3] at hsl
                have hcp := fun w' ty => copy36 w' ty A3 d3 d3 a3 k3
                have hW2 := Lib.hid hW2
                have hn := Lib.hid hn
                clear hTT hY hNo hmy hmn hm2 hW hkp hfk hfk1 hqn hbb hbm hjn hkl hlenw ht hA3 hd3 hk hjq
                go_wp2_with fail
                go_region
                go_wp2_with fail
                go_roundw
                case rel => exact ⟨k + 1, by omega, by go_num, by rw [hn.out, wrap64_nat jn (by have := hjq9.out; omega)], hW2.out, HK2.out.drew⟩
                case measure => simp [intOf]; omega
            · have hkS : ¬ (k : Int) < (S : Int) := by omega
              have hkS2 : k = S := by omega
              have hbs := hW.bs
              have hl2 : (mbk l q k).length = q := mbk_len l q k (by have := fk_le l k; have := HN.out; omega)
              have he : mbk l q k = l.filter tnr := by rw [hkS2, HS.out]; exact mbk_end l q HN.out
              rw [hl2] at hbs
              rw [he] at hbs
              have hbs := Lib.hid hbs
              have HK2 := Lib.hid hkp
              clear hW hkp hkS2 hl2 he hlt hk
              go_wp2_with ((with_reducible show wpList _ _ _ (⟨some 121, .convert _ _ _, _, _, _, _⟩ :: _) _ _); refine wp_str _ rfl (.tmp 120) rfl _ (some ⟨gb, 0, none⟩) q q _ rfl hbs.out ?_; simp only [Act.put, List.setIfInBounds_toArray, List.set_cons_zero, List.set_cons_succ])
              go_ret
              exact ⟨rfl, HK2.out⟩
end Go.Proofs.YtcepigekibidfaaGreatDoor
namespace Go.Proofs.YtcepigekibidfaaGreatDoor
open Go.RowKit

theorem test_any (r : Nat) (w : World) : Calls Tryz.prog 56 #[.int .i32 (r : Int)] w fun e w' => e = .returned (.bool (lowr r)) ∧ w' = w := by
  have hr : lowr r = decide ((r : Int) ≤ 32) := by unfold lowr; rw [Bool.eq_iff_iff]; simp; omega
  rw [hr]
  clear hr
  go_enter Tryz.func56, Tryz.ntmps56
  go_wp2
  go_ret
  exact ⟨rfl, rfl⟩
theorem trim_any (l : List UInt8) (w : World) (hl : l.length ≤ 100000000) (hT : Lib.Utf8Tabs 1 2 w) : Calls Tryz.prog 55 #[.string (str l), .func (.func 56) #[] #[]] w fun e w' => e = .returned (.string (str (trm l))) ∧ Below w.heap.size w w' := by
  have hp : PredAt Tryz.prog 56 #[] encR lowr w := by
    intro W r _
    exact (test_any r W).mono fun e w' h => ⟨h.1, 0, h.2⟩
  have h := Tryz.strings_TrimFunc 56 #[] (enters_of Tryz.func56 (by kernel_rfl) rfl) lowr (str l) w (by rw [str_size]; omega) hT hp
  refine h.mono fun e w' hh => ⟨?_, hh.2⟩
  rw [hh.1]
  congr 2
  apply ByteArray.ext
  apply Array.ext'
  rw [trim_low]
  simp [str]
end Go.Proofs.YtcepigekibidfaaGreatDoor
namespace Go.Proofs.YtcepigekibidfaaGreatDoor
open Go.RowKit

theorem meth165 (d : Nat) (v : Value) (w : World) : (method (d + 2) 165 v "Replace").run Tryz.prog w = .ok (250, v) w := by kernel_rfl

set_option maxHeartbeats 2000000 in
set_option maxRecDepth 100000 in
/-- (*strings.Replacer).Replace, not yet built. -/
theorem replace_any (g : Nat) (A : Option Addr) (c : Nat) (l : List UInt8) (w : World) (hl : l.length ≤ 100000000) (hB : Blk w g 115 (rpC 0 0 .nilIface (.slice A 6 c))) (hown : OwnT w 0 (.slice A 6 c) 6 r6) (hne : Value.ownBlock (.slice A 6 c) ≠ some g) :
    Calls Tryz.prog 58 #[.pointer (some ⟨g, 0, none⟩), .string (str l)] w fun e w' => e = .returned (.string (str (l.filter tnr))) ∧ Chg g g w w' := by
  have HD := Lib.hid (do_any g A c w hB hown hne)
  have HL := Lib.hid hl
  have hme := meth165 380
  clear hB hown hne hl
  go_enter Tryz.func58, Tryz.ntmps58
  go_wp2_with (first
    | (go_at_call 83; with_reducible refine HD.out.mono ?_; rintro e w1 ⟨rfl, hc1, h, B1, R1⟩; have hif : w1.cell? ⟨g, 3, none⟩ = some (.iface 165 (.pointer (some ⟨h, 0, none⟩))) := B1.cell rfl; have HR := Lib.hid (bsr_any h l w1 R1 HL.out); clear R1)
    | (go_at_call 250; with_reducible refine HR.out.mono ?_; rintro e w2 ⟨rfl, hb2⟩))
  go_ret
  exact ⟨rfl, hc1.trans (Chg.of_below hb2)⟩
theorem lit6 (w : World) (g : Nat) (hg : g = w.heap.size) : ∀ (j : Nat) (p : List UInt8), r6[j]? = some p → (w.alloc (.cells #[.string ⟨#[9]⟩, .string ⟨#[]⟩, .string ⟨#[10]⟩, .string ⟨#[]⟩, .string ⟨#[13]⟩, .string ⟨#[]⟩] 9)).cell? ⟨g, 0 + j, none⟩ = some (vstr p) := by
  subst hg
  intro j p hj
  rw [World.cell?_alloc_at _ _ _ _ rfl, Nat.zero_add]
  match j with
  | 0 => cases hj; rfl
  | 1 => cases hj; rfl
  | 2 => cases hj; rfl
  | 3 => cases hj; rfl
  | 4 => cases hj; rfl
  | 5 => cases hj; rfl
  | j + 6 => simp [r6] at hj
theorem OwnT.down {w : World} {base base' n : Nat} {v : Value} {L : List (List UInt8)} (h : OwnT w base v n L) (hb : base' ≤ base) : OwnT w base' v n L := by
  refine ⟨h.1, ?_⟩
  rcases h.2 with h2 | ⟨g, cap, cur, hv, hg, r⟩
  · exact .inl h2
  · exact .inr ⟨g, cap, cur, hv, by omega, r⟩

set_option maxHeartbeats 2000000 in
theorem clean_any (l : List UInt8) (w : World) (hl : l.length ≤ 100000000) (hT : Lib.Utf8Tabs 1 2 w) : Calls Tryz.prog 32 #[.string (str l)] w fun e w' => e = .returned (.string (str (cln l))) ∧ Below w.heap.size w w' := by
  have HT := Lib.hid (trim_any l w hl hT)
  have htl := trm_len l
  have hcl : Hid (cln l = (trm l).filter tnr) := rfl
  obtain ⟨t, ht⟩ : ∃ t, t = trm l := ⟨_, rfl⟩
  rw [← ht] at HT htl hcl
  have htl2 := Lib.hid (Nat.le_trans htl hl)
  clear ht htl hl hT
  go_enter Tryz.func32, Tryz.ntmps32
  go_wp2_with (first
    | (go_at_call 55; with_reducible refine HT.out.mono ?_; rintro e w1 ⟨rfl, hb1⟩; have hz1 := hb1.size)
    | (go_at_call 57; with_reducible refine (new_any _ _ (lit6 _ _ (by simp))).mono ?_; rintro e w2 ⟨g, A, c, rfl, hb2, hg2, B2, own2, ne2⟩; have HR := Lib.hid (replace_any g A c t w2 htl2.out B2 (own2.down (Nat.zero_le _)) ne2); clear own2 ne2 B2)
    | (go_at_call 58; with_reducible refine HR.out.mono ?_; rintro e w3 ⟨rfl, hc3⟩))
  go_ret
  refine ⟨by rw [hcl.out]; rfl, ?_⟩
  have h1 : Below w.heap.size w w2 := (hb1.alloc hz1 _).trans (hb2.mono (by simp; omega))
  have hgw : w.heap.size ≤ g := by simp at hg2; omega
  exact h1.trans (hc3.below h1.size hgw hgw)
end Go.Proofs.YtcepigekibidfaaGreatDoor
