/-
  What weburl.cutSign, dots and parsePort answer, and the library's cuts and replacements at one byte; nothing that was there turns. Condition: texts of at most 10000000 bytes; the library's tables.
  What weburl.cutPort answers; nothing that was there turns. Condition: a text of at most 10000000 bytes.
-/
import Derived.Test.YtcepigekibidfaaGreatDoorGo
import Derived.Test.YtcepigekibidfaaGreatDoorGd
import Derived.Test.YtcepigekibidfaaGreatDoorGj
namespace Go.Proofs.YtcepigekibidfaaGreatDoor
open Go.RowKit

/-- What the walks ask of the library's variables besides. -/
structure T8 (w : World) : Prop where
  u : Lib.Utf8Tabs 1 2 w
  es : ∃ ev, w.cell? ⟨3, 0, none⟩ = some ev ∧ (ev = .nilIface ∨ ∃ te pe, ev = .iface te pe)
  er : ∃ ev, w.cell? ⟨4, 0, none⟩ = some ev ∧ (ev = .nilIface ∨ ∃ te pe, ev = .iface te pe)
def Tb (w : World) : Prop := Tabs w ∧ ∀ w', Below w.heap.size w w' → T8 w'
theorem Tb.kp {w w' : World} (h : Tb w) (hk : Kept w w') : Tb w' := ⟨h.1.kp hk, fun w2 h2 => h.2 w2 (Below.trans hk (h2.mono (Below.size hk)))⟩
theorem Tb.here {w : World} (h : Tb w) : T8 w := h.2 w (Below.refl _ _)
theorem Tb.len {w : World} (h : Tb w) : ∃ m, w.cell? ⟨0, 0, none⟩ = some (.int .i64 m) := h.1.here.len

theorem cutb_any (c : UInt8) (l : List UInt8) (w : World) (hl : l.length ≤ 100000000) (ht : Tb w) :
    Calls Tryz.prog 31 #[.string (str l), .string ⟨#[c]⟩] w fun e w' => e = .returned (.tuple #[.string (str (bef c l)), .string (str (aft c l)), .bool (l.contains c)]) ∧ Below w.heap.size w w' := by
  obtain ⟨m, hm⟩ := ht.len
  refine (Tryz.strings_Cut (str l) ⟨#[c]⟩ m w (by rw [str_size]; omega) hm).mono fun e w' hh => ?_
  have e1 : Lib.cut (str l).data.toList (ByteArray.mk #[c]).data.toList = (bef c l, aft c l, l.contains c) := cut_byte c l
  rw [e1] at hh
  obtain ⟨h1, n, rfl⟩ := hh
  exact ⟨h1, ⟨rfl, rfl, rfl, Nat.le_refl _, fun _ _ => rfl⟩⟩
theorem contains_any (c : UInt8) (p : List UInt8) (w : World) : Calls Tryz.prog 61 #[.string (str p), .string ⟨#[c]⟩] w fun e w' => e = .returned (.bool (p.contains c)) ∧ w' = w := by
  have h := Tryz.strings_Contains_one (str p) c w
  have e : decide (0 ≤ Lib.indexByte (str p).data.toList c) = p.contains c := indexByte_iff c p
  rw [e] at h
  exact h
theorem countB_len (old : ByteArray) (h1 : 1 ≤ old.size) (l : List UInt8) : Lib.countB (str l) old ≤ l.length := by
  have := Lib.countB_le old h1 (str l).size (str l) (Nat.le_refl _)
  rwa [str_size] at this
theorem rpl_any (old : ByteArray) (new : ByteArray) (h1 : 1 ≤ old.size) (hn : new.size = 1) (hne : (old.data.toList == new.data.toList) = false) (l : List UInt8) (w : World) (hl : l.length ≤ 100000000) (ht : Tb w) :
    Calls Tryz.prog 38 #[.string (str l), .string old, .string new] w fun e w' => e = .returned (.string (str (rpl old.data.toList new.data.toList l))) ∧ Below w.heap.size w w' := by
  obtain ⟨m, hm⟩ := ht.len
  refine (Tryz.strings_ReplaceAll (str l) old new m w (by rw [str_size]; omega) hm h1 (by
    have := countB_len old h1 l
    rw [str_size, hn]
    omega)).mono fun e w' hh => ⟨?_, hh.2⟩
  rw [hh.1, rpl_is _ _ _ hne]
  rfl

set_option maxHeartbeats 2000000 in
theorem cutSign_any (c : UInt8) (n : Int) (l : List UInt8) (w : World) (hl : l.length ≤ 10000000) (ht : Tb w) :
    Calls Tryz.prog 35 #[.string (str l), .string ⟨#[c]⟩, .int .i64 n] w fun e w' => e = .returned (.tuple #[.string (str (bef c l)), .string (str (sgn c n l))]) ∧ Below w.heap.size w w' := by
  have HC := Lib.hid (cutb_any c l w (by omega) ht)
  have hal := aft_len c l
  have HE := Lib.hid (fun w' => encode_any n (aft c l) w' (by omega))
  have hel := enc_len (inS n) (aft c l)
  have hcs : ByteArray.mk #[c] = str [c] := rfl
  have hs1 : (str [c]).size = 1 := rfl
  cases hb : l.contains c with
  | false =>
    have hR : Hid (sgn c n l = [] ∧ bef c l = l) := by
      constructor
      · unfold sgn; rw [hb]; rfl
      · exact bef_none c l (fun hm => by rw [List.contains_iff_mem.2 hm] at hb; cases hb)
    rw [hb] at HC
    rw [hR.out.1, hR.out.2]
    obtain ⟨B, hB⟩ : ∃ B, B = bef c l := ⟨_, rfl⟩
    obtain ⟨A, hA⟩ : ∃ A, A = aft c l := ⟨_, rfl⟩
    rw [← hB, ← hA] at HC
    clear HE hel hR hb ht hal hB hA hcs hs1
    go_enter Tryz.func35, Tryz.ntmps35
    go_wp2_with (go_at_call 31; with_reducible refine HC.out.mono ?_; rintro e w1 ⟨rfl, hb1⟩)
    go_ret2
    exact ⟨rfl, hb1⟩
  | true =>
    have hR : Hid (sgn c n l = [c] ++ enc (inS n) (aft c l)) := by
      show _ = _
      unfold sgn
      rw [hb]
      rfl
    rw [hb] at HC
    rw [hR.out]
    obtain ⟨B, hB⟩ : ∃ B, B = bef c l := ⟨_, rfl⟩
    obtain ⟨A, hA⟩ : ∃ A, A = aft c l := ⟨_, rfl⟩
    obtain ⟨E, hE⟩ : ∃ E, E = enc (inS n) (aft c l) := ⟨_, rfl⟩
    rw [← hE] at HE hel
    rw [← hA] at HC HE hel hal
    rw [← hB] at HC
    rw [← hB, ← hE]
    rw [hcs] at HC ⊢
    have hadd := str_add [c] E
    have hne := str_size E
    have hroom : ¬ (9223372036854775807 : Nat) < (str [c]).size + (str E).size := by rw [hs1, hne]; omega
    clear hR hb ht hal hB hA hE hcs hs1 hne hel
    go_enter Tryz.func35, Tryz.ntmps35
    go_wp2_with (first
      | (go_at_call 31; with_reducible refine HC.out.mono ?_; rintro e w1 ⟨rfl, hb1⟩)
      | (go_at_call 39; with_reducible refine (HE.out _).mono ?_; rintro e w2 ⟨rfl, hb2⟩))
    go_ret2
    exact ⟨rfl, hb1.trans (hb2.mono hb1.size)⟩

theorem dots_lt (l : List UInt8) : dots l = 0 ∨ dots l = 1 ∨ dots l = 2 := by
  unfold dots
  repeat' split
  all_goals simp
set_option maxHeartbeats 2000000 in
theorem dots_any (l : List UInt8) (w : World) (hl : l.length ≤ 10000000) (ht : Tb w) : Calls Tryz.prog 95 #[.string (str l)] w fun e w' => e = .returned (.int .i64 (dots l : Int)) ∧ Below w.heap.size w w' := by
  have H1 : Hid (Calls Tryz.prog 38 #[.string (str l), .string ⟨#[37, 50, 101]⟩, .string ⟨#[46]⟩] w fun e w' => e = .returned (.string (str (rpl [37, 50, 101] [46] l))) ∧ Below w.heap.size w w') := rpl_any ⟨#[37, 50, 101]⟩ ⟨#[46]⟩ (by decide) (by decide) (by decide) l w (by omega) ht
  have hl1 := rpl_len 101 l.length l (Nat.le_refl _)
  have H2 : Hid (∀ w', Kept w w' → Calls Tryz.prog 38 #[.string (str (rpl [37, 50, 101] [46] l)), .string ⟨#[37, 50, 69]⟩, .string ⟨#[46]⟩] w' fun e w2 => e = .returned (.string (str (und l))) ∧ Below w'.heap.size w' w2) := fun w' hk => rpl_any ⟨#[37, 50, 69]⟩ ⟨#[46]⟩ (by decide) (by decide) (by decide) _ w' (by omega) (ht.kp hk)
  have hU : Hid ((und l = [46] ↔ dots l = 1) ∧ (und l = [46, 46] ↔ dots l = 2)) := ⟨und_one l, und_two l⟩
  obtain ⟨R, hR⟩ : ∃ R, R = rpl [37, 50, 101] [46] l := ⟨_, rfl⟩
  obtain ⟨V, hV⟩ : ∃ V, V = und l := ⟨_, rfl⟩
  rw [← hR] at H1 H2
  rw [← hV] at H2 hU
  clear hl1 hR hV ht
  rcases dots_lt l with h | h | h
  · have d1 : ((str V).toList == [46]) = false := by rw [toList_str, beq_eq_false_iff_ne]; intro e; have := hU.out.1.1 e; omega
    have d2 : ((str V).toList == [46, 46]) = false := by rw [toList_str, beq_eq_false_iff_ne]; intro e; have := hU.out.2.1 e; omega
    rw [h]
    clear hU h
    go_enter Tryz.func95, Tryz.ntmps95
    go_wp2_with (go_at_call 38; first
      | (with_reducible refine H1.out.mono ?_; rintro e w1 ⟨rfl, hb1⟩; have hk1 := kept_of hb1; clear hb1)
      | (with_reducible refine (H2.out _ hk1).mono ?_; rintro e w2 ⟨rfl, hb2⟩; have hk2 := hk1.step hb2; clear hb2))
    go_ret
    exact ⟨rfl, hk2⟩
  · have d1 : ((str V).toList == [46]) = true := by rw [toList_str, beq_iff_eq]; exact hU.out.1.2 h
    rw [h]
    clear hU h
    go_enter Tryz.func95, Tryz.ntmps95
    go_wp2_with (go_at_call 38; first
      | (with_reducible refine H1.out.mono ?_; rintro e w1 ⟨rfl, hb1⟩; have hk1 := kept_of hb1; clear hb1)
      | (with_reducible refine (H2.out _ hk1).mono ?_; rintro e w2 ⟨rfl, hb2⟩; have hk2 := hk1.step hb2; clear hb2))
    go_ret
    exact ⟨rfl, hk2⟩
  · have d1 : ((str V).toList == [46]) = false := by rw [toList_str, beq_eq_false_iff_ne]; intro e; have := hU.out.1.1 e; omega
    have d2 : ((str V).toList == [46, 46]) = true := by rw [toList_str, beq_iff_eq]; exact hU.out.2.2 h
    rw [h]
    clear hU h
    go_enter Tryz.func95, Tryz.ntmps95
    go_wp2_with (go_at_call 38; first
      | (with_reducible refine H1.out.mono ?_; rintro e w1 ⟨rfl, hb1⟩; have hk1 := kept_of hb1; clear hb1)
      | (with_reducible refine (H2.out _ hk1).mono ?_; rintro e w2 ⟨rfl, hb2⟩; have hk2 := hk1.step hb2; clear hb2))
    go_ret
    exact ⟨rfl, hk2⟩

/-- parsePort's answer. -/
def ptV (r : Option Int) : Value := .tuple #[.int .i64 (r.getD 0), .int .i64 (if r.isSome then 0 else 7)]
theorem bytesWorld_below (w : World) (l : List UInt8) : Below w.heap.size w (Lib.bytesWorld w 5 (str l)) :=
  ⟨rfl, rfl, rfl, by rw [Lib.bytesWorld_size]; omega, fun k hk => Lib.bytesWorld_at_old w 5 (str l) k hk⟩
theorem nil_ne (w : World) : (binOp .neq 118 .nilIface .nilIface).run Tryz.prog w = .ok (.bool false) w := by kernel_rfl
theorem ifc_ne (t : TypeId) (v : Value) (w : World) : (binOp .neq 118 (.iface t v) .nilIface).run Tryz.prog w = .ok (.bool true) w := by kernel_rfl
set_option maxHeartbeats 2000000 in
theorem port_any (l : List UInt8) (p : Int) (w : World) (hl : l.length ≤ 10000000) (ht : Tb w) : Calls Tryz.prog 64 #[.string (str l), .int .i64 p] w fun e w' => e = .returned (ptV (prtN l p)) ∧ Below w.heap.size w w' := by
  have e0 : (str l).toList.isEmpty = decide (l = []) := by rw [toList_str]; cases l <;> rfl
  have hn1 := nil_ne
  have hn2 := ifc_ne
  by_cases h0 : l = []
  · have hR : Hid (ptV (prtN l p) = .tuple #[.int .i64 (-1), .int .i64 0]) := by show _ = _; unfold prtN; rw [if_pos h0]; rfl
    rw [decide_eq_true h0] at e0
    rw [hR.out]
    clear hR h0
    go_enter Tryz.func64, Tryz.ntmps64
    go_wp2_with fail
    go_ret2
    exact ⟨rfl, Below.refl _ _⟩
  · rw [decide_eq_false h0] at e0
    have hp : prtN l p = match Lib.parseUintB 16 l with
        | .ok n => some (if (n : Int) = p then -1 else n)
        | _ => none := by unfold prtN; rw [if_neg h0]; cases Lib.parseUintB 16 l <;> rfl
    cases hu : Lib.parseUintB 16 l
    case ok n =>
      rw [hu] at hp
      have hn : n ≤ 65535 := by
        unfold Lib.parseUintB at hu
        rw [if_neg h0] at hu
        exact pu_le 65535 l 0 n (by omega) hu
      have HU : Hid (Calls Tryz.prog 93 #[.string (str l), .int .i64 10, .int .i64 16] w fun e w' => e = .returned (.tuple #[.int .u64 (n : Int), .nilIface]) ∧ Below w.heap.size w w') := by
        refine (Tryz.strconv_ParseUint_10_at16_ok (str l) (by rw [str_size]; omega) n hu w).mono fun e w' hh => ⟨hh.1, ?_⟩
        rcases hh.2 with rfl | rfl
        · exact Below.refl _ _
        · exact bytesWorld_below w l
      have hcv : ∀ w' : World, (convert 97 3 (.int .u64 (n : Int))).run Tryz.prog w' = .ok (.int .i64 (n : Int)) w' := fun w' => by
        have hw : IntKind.i64.wrap (n : Int) = (n : Int) := by rw [IntKind.wrap_i64]; omega
        simp [convert, run_underlying Tryz.underlying97, run_underlying Tryz.underlying3, Conv.intToInt, hw]
      by_cases he : (n : Int) = p
      · have hR : Hid (ptV (prtN l p) = .tuple #[.int .i64 (-1), .int .i64 0]) := by show _ = _; rw [hp]; simp only [he, if_true]; rfl
        have heb : ((n : Int) == p) = true := by simp [he]
        rw [hR.out]
        clear hR h0 hu hp he hn ht
        go_enter Tryz.func64, Tryz.ntmps64
        go_wp2_with (go_at_call 93; with_reducible refine HU.out.mono ?_; rintro e w1 ⟨rfl, hb1⟩)
        go_ret2
        exact ⟨rfl, hb1⟩
      · have hR : Hid (ptV (prtN l p) = .tuple #[.int .i64 (n : Int), .int .i64 0]) := by show _ = _; rw [hp]; simp only [he, if_false]; rfl
        have heb : ((n : Int) == p) = false := by simp [he]
        rw [hR.out]
        clear hR h0 hu hp he hn ht
        go_enter Tryz.func64, Tryz.ntmps64
        go_wp2_with (go_at_call 93; with_reducible refine HU.out.mono ?_; rintro e w1 ⟨rfl, hb1⟩)
        go_ret2
        exact ⟨rfl, hb1⟩
    case range =>
      rw [hu] at hp
      have hR : Hid (ptV (prtN l p) = .tuple #[.int .i64 0, .int .i64 7]) := by show _ = _; rw [hp]; rfl
      obtain ⟨ev, hv, hev⟩ := ht.here.er
      have HU := Lib.hid (Tryz.strconv_ParseUint_10_at16_range (str l) (by rw [str_size]; omega) hu ev w hv hev)
      have hcv : ∀ w' : World, (convert 97 3 (.int .u64 65535)).run Tryz.prog w' = .ok (.int .i64 65535) w' := fun w' => by kernel_rfl
      rw [hR.out]
      clear hR h0 hu hp hv hev ht
      go_enter Tryz.func64, Tryz.ntmps64
      go_wp2_with (go_at_call 93; with_reducible refine HU.out.mono ?_; rintro e w1 ⟨N1, rfl, _, _, hb1⟩)
      go_ret2
      exact ⟨rfl, hb1⟩
    next =>
      rw [hu] at hp
      have hR : Hid (ptV (prtN l p) = .tuple #[.int .i64 0, .int .i64 7]) := by show _ = _; rw [hp]; rfl
      obtain ⟨ev, hv, hev⟩ := ht.here.es
      have HU := Lib.hid (Tryz.strconv_ParseUint_10_at16_syntax (str l) (by rw [str_size]; omega) hu ev w hv hev)
      have hcv : ∀ w' : World, (convert 97 3 (.int .u64 0)).run Tryz.prog w' = .ok (.int .i64 0) w' := fun w' => by kernel_rfl
      rw [hR.out]
      clear hR h0 hu hp hv hev ht
      go_enter Tryz.func64, Tryz.ntmps64
      go_wp2_with (go_at_call 93; with_reducible refine HU.out.mono ?_; rintro e w1 ⟨N1, rfl, _, _, hb1⟩)
      go_ret2
      exact ⟨rfl, hb1⟩
end Go.Proofs.YtcepigekibidfaaGreatDoor
namespace Go.Proofs.YtcepigekibidfaaGreatDoor
open Go.RowKit

theorem data_at (l : List UInt8) (j : Nat) (h : j < l.length) : ((str l).data[j]!).toNat = (l.getD j 0).toNat := by
  have h2 : j < (str l).data.size := by simp [str]; exact h
  rw [getElem!_pos (str l).data j h2]
  simp [str, List.getD, List.getElem?_eq_getElem h]
theorem last_iff (l : List UInt8) (k : Nat) (_hk : k < l.length) (h93 : l.getD k 0 ≠ 93) : decide ((k : Int) < Lib.lastIndexByte (str l) 93) = (l.drop (k + 1)).contains 93 := by
  have hne : (l.getD k 0).toNat ≠ 93 := fun e => h93 (UInt8.toNat_inj.1 (by rw [e]; rfl))
  rw [Bool.eq_iff_iff, decide_eq_true_eq, List.contains_iff_mem, List.mem_iff_getElem?]
  have hsz := str_size l
  rcases Lib.lastIndexByte_spec (str l) 93 with ⟨h1, h2⟩ | ⟨i, h1, h2, h3, h4⟩
  · rw [h1]
    constructor
    · intro h; omega
    · rintro ⟨j, hj⟩
      rw [List.getElem?_drop] at hj
      have hlt := (List.getElem?_eq_some_iff.1 hj).1
      have := h2 (k + 1 + j) (by rw [hsz]; exact hlt)
      rw [data_at l _ hlt] at this
      rw [List.getD_eq_getElem?_getD, hj] at this
      exact absurd rfl this
  · rw [h2]
    rw [hsz] at h1
    constructor
    · intro h
      have hik : k < i := by omega
      refine ⟨i - (k + 1), ?_⟩
      rw [List.getElem?_drop, show k + 1 + (i - (k + 1)) = i by omega]
      rw [data_at l i h1] at h3
      have e : l.getD i 0 = 93 := UInt8.toNat_inj.1 (by show _ = 93; omega)
      rw [← e, List.getD_eq_getElem?_getD, List.getElem?_eq_getElem h1]
      rfl
    · rintro ⟨j, hj⟩
      rw [List.getElem?_drop] at hj
      have hlt := (List.getElem?_eq_some_iff.1 hj).1
      have e93 : l.getD (k + 1 + j) 0 = 93 := by rw [List.getD_eq_getElem?_getD, hj]; rfl
      by_cases hlt2 : k < i
      · omega
      · exfalso
        have := h4 (k + 1 + j) (by omega) (by rw [hsz]; exact hlt)
        rw [data_at l _ hlt, e93] at this
        exact this rfl
theorem idx93 (r : List UInt8) (h : r.contains 93 = true) : Lib.indexByte (91 :: r) 93 = (((bef 93 r).length + 1 : Nat) : Int) := by
  rw [← Lib.index_one, idx_bef]
  have e : (91 :: r : List UInt8).contains 93 = true := by rw [List.contains_cons, h]; rfl
  have e2 : bef 93 (91 :: r) = 91 :: bef 93 r := by rw [bef, if_neg (by decide)]
  rw [e, if_pos rfl, e2]
  rfl
theorem drop_cons (l : List UInt8) (k : Nat) (h : k < l.length) : l.drop k = l.getD k 0 :: l.drop (k + 1) := by
  rw [List.drop_eq_getElem_cons h]
  simp [List.getD, List.getElem?_eq_getElem h]
theorem col_hit (r : List UInt8) : col false (58 :: r) = some 0 := by rw [col, if_pos rfl]
theorem col_skip (c : UInt8) (r : List UInt8) (h1 : c ≠ 58) (h2 : ¬ (c = 91 ∧ r.contains 93 = true)) : col false (c :: r) = (col false r).map (· + 1) := by rw [col, if_neg h1, if_neg h2]
theorem map_add {o : Option Nat} (a b : Nat) : (o.map (· + a)).map (· + b) = o.map (· + (b + a)) := by
  cases o with
  | none => rfl
  | some x => simp; omega
theorem col_jump (r : List UInt8) (h : r.contains 93 = true) : col false (91 :: r) = (col false (r.drop ((bef 93 r).length + 1))).map (· + ((bef 93 r).length + 2)) := by
  have hm := List.contains_iff_mem.1 h
  have e := bef_aft 93 r hm
  have hx : ∀ R, R = r → col false (91 :: R) = (col false (r.drop ((bef 93 r).length + 1))).map (· + ((bef 93 r).length + 2)) := by
    intro R hR
    rw [col, if_neg (by decide), if_pos ⟨rfl, by rw [hR]; exact h⟩, hR]
    have e2 : col true r = col true (bef 93 r ++ 93 :: aft 93 r) := by rw [← e]
    rw [e2, col_in (aft 93 r) (bef 93 r) (bef_not 93 r), ← aft_drop, map_add]
    exact congrArg (fun n => Option.map (· + n) _) (by omega)
  exact hx r rfl
def cpV (r : List UInt8 × List UInt8) : Value := .tuple #[.string (str r.1), .string (str r.2)]
set_option maxHeartbeats 8000000 in
set_option maxRecDepth 100000 in
theorem cutPort_any (l : List UInt8) (w : World) (hl : l.length ≤ 10000000) : Calls Tryz.prog 62 #[.string (str l)] w fun e w' => e = .returned (cpV (cpt l)) ∧ Below w.heap.size w w' := by
  have hsz := str_size l
  obtain ⟨S, hS⟩ : ∃ S, S = l.length := ⟨_, rfl⟩
  rw [← hS] at hsz hl
  have HLa := Lib.hid (Tryz.strings_LastIndexByte (str l) 93 (by rw [hsz]; omega) w)
  have hgb : Hid (∀ k, k < S → ∀ h, ((str l)[k]'h).toNat = (l.getD k 0).toNat) := fun k hk h => str_at l k (by rw [← hS]; exact hk) h
  have hli : Hid (∀ k, k < S → l.getD k 0 ≠ 93 → decide ((k : Int) < Lib.lastIndexByte (str l) 93) = (l.drop (k + 1)).contains 93) := fun k hk h => last_iff l k (by rw [← hS]; exact hk) h
  have HX : Hid (∀ k w', Calls Tryz.prog 88 #[.string (str (l.drop k)), .int .u8 93] w' fun e w2 => e = .returned (.int .i64 (Lib.indexByte (l.drop k) 93)) ∧ w2 = w') := fun k w' => indexByte_any (l.drop k) 93 w'
  obtain ⟨L, hL⟩ : ∃ L, L = Lib.lastIndexByte (str l) 93 := ⟨_, rfl⟩
  rw [← hL] at HLa hli
  have HS := Lib.hid hS
  obtain ⟨R, hR0⟩ : ∃ R, R = cpt l := ⟨_, rfl⟩
  rw [← hR0]
  have HC : Hid (∀ k, col false l = some k → R = (l.take k, l.drop (k + 1))) := fun k hk => by rw [hR0]; unfold cpt; rw [hk]
  have HC0 : Hid (col false l = none → R = (l, [])) := fun hk => by rw [hR0]; unfold cpt; rw [hk]
  clear hL hS hR0
  go_enter Tryz.func62, Tryz.ntmps62
  go_wp2_with (go_at_call 87; with_reducible refine HLa.out.mono ?_; rintro e w1 ⟨rfl, hw1⟩; subst w1)
  go_loop [5] (fun i => ∃ k : Nat, k ≤ S ∧ i = .int .i64 (k : Int) ∧ col false l = (col false (l.drop k)).map (· + k)) (fun i => S - (intOf i).toNat)
  case atStart => exact ⟨0, by omega, rfl, by rw [List.drop_zero]; cases col false l <;> rfl⟩
  case round =>
    obtain ⟨k, hk, rfl, hq⟩ := hrel
    by_cases hlt : k < S
    · have hkS : (k : Int) < (S : Int) := by omega
      have HG := fun hh => hgb.out k hlt hh
      have hkl : k < l.length := by rw [← HS.out]; exact hlt
      have hdc := drop_cons l k hkl
      have hli2 := hli.out k hlt
      obtain ⟨b, hb⟩ : ∃ b, b = l.getD k 0 := ⟨_, rfl⟩
      rw [← hb] at HG hdc hli2
      obtain ⟨bm, hbm⟩ : ∃ bm, bm = b.toNat := ⟨_, rfl⟩
      have hb256 : b.toNat < 256 := b.toNat_lt
      rw [← hbm] at HG hb256
      by_cases h58 : b = 58
      · have hbe : bm = 58 := by rw [hbm, h58]; rfl
        subst hbe
        rw [hdc, h58, col_hit] at hq
        have hR := Lib.hid (HC.out k (by rw [hq]; simp))
        have hc1 := str_take l k
        have hc2 := str_drop l (k + 1) S HS.out (by omega)
        have hk1 : (k : Int) + 1 ≤ (S : Int) := by omega
        clear hq hb hbm hdc hli2 h58 hkl hlt hb256
        go_wp2_with fail
        go_region
        go_wp2_with fail
        go_ret2
        rw [hR.out]
        refine ⟨?_, ?_⟩
        · rfl
        · exact (Below.refl _ _).drew
      · have hbn : ((bm : Int) == 58) = false := by
          rw [beq_eq_false_iff_ne]
          intro e
          exact h58 (UInt8.toNat_inj.1 (by show b.toNat = 58; omega))
        by_cases h91 : b = 91
        · have hbe : bm = 91 := by rw [hbm, h91]; rfl
          subst hbe
          have hli3 := hli2 (by rw [h91]; decide)
          have HX2 := HX.out k w
          cases hc : (l.drop (k + 1)).contains 93 with
          | true =>
            rw [hc] at hli3
            have hkL : (k : Int) < L := by simpa using hli3
            rw [hdc, h91, col_jump _ hc, List.drop_drop, map_add] at hq
            rw [hdc, h91, idx93 _ hc] at HX2
            have hbl := bef_len 93 (l.drop (k + 1))
            rw [List.length_drop, ← HS.out] at hbl
            have hblt : (bef 93 (l.drop (k + 1))).length < (l.drop (k + 1)).length := by
              have e := congrArg List.length (bef_aft 93 _ (List.contains_iff_mem.1 hc))
              rw [List.length_append, List.length_cons] at e
              omega
            rw [List.length_drop, ← HS.out] at hblt
            obtain ⟨m, hm⟩ : ∃ m, m = (bef 93 (l.drop (k + 1))).length := ⟨_, rfl⟩
            rw [← hm] at hq HX2 hbl hblt
            have hcut := str_drop l k S HS.out (by omega)
            have e3 : (91 :: l.drop (k + 1) : List UInt8) = l.drop k := by rw [hdc, h91]
            rw [e3] at HX2
            have HX3 := Lib.hid HX2
            obtain ⟨m1, hm1⟩ : ∃ m1, m1 = m + 1 := ⟨_, rfl⟩
            have HX4 : Hid (Calls Tryz.prog 88 #[.string (str (l.drop k)), .int .u8 93] w fun e w2 => e = .returned (.int .i64 (m1 : Int)) ∧ w2 = w) := by rw [hm1]; exact HX3.out
            have hq2 : Hid (col false l = (col false (l.drop (k + m1 + 1))).map (· + (k + m1 + 1))) := by
              show _ = _
              rw [hq, hm1]
              have e1 : k + 1 + (m + 1) = k + (m + 1) + 1 := by omega
              have e2 : k + (m + 2) = k + (m + 1) + 1 := by omega
              rw [e1, e2]
            have hkm : k + m1 + 1 ≤ S := by omega
            clear hq HX2 HX3 hb hbm hdc hli2 hli3 h91 hkl hb256 hc hm hm1 hbl hblt e3 h58
            go_wp2_with (go_at_call 88; with_reducible refine HX4.out.mono ?_; rintro e w2 ⟨rfl, hw2⟩; subst w2)
            go_round
            case rel => exact ⟨k + m1 + 1, by omega, by go_num, hq2.out⟩
            case measure => simp [intOf]; omega
          | false =>
            rw [hc] at hli3
            have hkL : ¬ (k : Int) < L := by simpa using hli3
            rw [hdc, col_skip _ _ h58 (by rw [hc]; simp), map_add] at hq
            have hq2 := Lib.hid hq
            clear hq HX2 hb hbm hdc hli2 hli3 h91 hkl hb256 hc h58
            go_wp2_with fail
            go_round
            case rel => exact ⟨k + 1, by omega, by go_num, hq2.out⟩
            case measure => simp [intOf]; omega
        · have hbn2 : ((bm : Int) == 91) = false := by
            rw [beq_eq_false_iff_ne]
            intro e
            exact h91 (UInt8.toNat_inj.1 (by show b.toNat = 91; omega))
          rw [hdc, col_skip _ _ h58 (fun h => h91 h.1), map_add] at hq
          have hq2 := Lib.hid hq
          clear hq hb hbm hdc hli2 h91 hkl hb256 h58
          go_wp2_with fail
          go_round
          case rel => exact ⟨k + 1, by omega, by go_num, hq2.out⟩
          case measure => simp [intOf]; omega
    · have hkS : ¬ (k : Int) < (S : Int) := by omega
      have hk2 : k = S := by omega
      rw [hk2, HS.out, List.drop_length] at hq
      have hR := Lib.hid (HC0.out (by rw [hq]; rfl))
      clear hq hlt hk hk2
      go_wp2_with fail
      go_ret2
      rw [hR.out]
      exact ⟨rfl, Below.refl _ _⟩
end Go.Proofs.YtcepigekibidfaaGreatDoor
