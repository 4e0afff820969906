/-
  What strings.IndexAny and ContainsAny (for the bytes 0, 10, 13), token.Value and transeptref09.Value answer; nothing that was there turns. No condition.
-/
import Derived.Test.YtpkjebagpolfgaaDoorTd
namespace Go.Proofs.YtpkjebagpolfgaaDoor
open Go.RowKit
set_option linter.unusedVariables false

theorem bar_B3 (c : UInt8) : bar c = B3.contains c := by
  refine u8_all (P := fun c => bar c = B3.contains c) ?_ c
  decide +kernel
theorem bar_hi (c : UInt8) (h : 128 ≤ c.toNat) : bar c = false := by
  revert h
  refine u8_all (P := fun c => 128 ≤ c.toNat → bar c = false) ?_ c
  decide +kernel
/-- A rune that is no byte 0, 10, 13 is none of them. -/
theorem irune_any (c : UInt8) (r : Nat) (h2 : r < 1114112) (h : (r < 128 ∧ r = c.toNat) ∨ (128 ≤ r ∧ 128 ≤ c.toNat)) : ∃ i : Int, decide (0 ≤ i) = bar c ∧ ∀ w, Calls Tryd.prog 47 #[.string ⟨#[0, 10, 13]⟩, .int .i32 (r : Int)] w fun e w' => e = .returned (.int .i64 i) ∧ Below w.heap.size w w' := by
  rcases h with ⟨h1, rfl⟩ | ⟨h1, h3⟩
  · refine ⟨Lib.indexByte B3 c, by rw [indexByte_iff, bar_B3], fun w => ?_⟩
    have h := Tryd.strings_IndexRune_ascii ⟨#[0, 10, 13]⟩ (c.toNat : Int) w (by omega) (by omega)
    have e : ((c.toNat : Int).toNat.toUInt8) = c := by simp
    rw [e] at h
    exact h.mono fun e w' ⟨a, b⟩ => ⟨a, b ▸ Below.refl _ _⟩
  · exact ⟨-1, by rw [bar_hi c h3]; rfl, fun w => irune_hi r h1 h2 w⟩
theorem any_skip (l : List UInt8) : ∀ n k, k + n ≤ l.length → (∀ j, k ≤ j → j < k + n → bar (l.getD j 0) = false) → (l.drop k).any bar = (l.drop (k + n)).any bar := by
  intro n
  induction n with
  | zero => intro k _ _; rfl
  | succ n ih =>
    intro k hk h
    rw [drop_at l k (by omega), List.any_cons, h k (Nat.le_refl _) (by omega), Bool.false_or, ih (k + 1) (by omega) (fun j h1 h2 => h j (by omega) (by omega))]
    congr 2
    omega
/-- The iterator g over s stands at place p. -/
def Itr (w : World) (g : Nat) (s : ByteArray) (p : Nat) : Prop := w.heap[g]? = some (.stringIter s p)
theorem Itr.lt {w : World} {g p : Nat} {s : ByteArray} (h : Itr w g s p) : g < w.heap.size := (Array.getElem?_eq_some_iff.1 h).1
theorem Itr.kept {w w' : World} {g p : Nat} {s : ByteArray} (h : Itr w g s p) (hb : Below w.heap.size w w') : Itr w' g s p := (hb.block g h.lt).trans h
theorem next_at (W : World) (g : Nat) (s : ByteArray) (pos : Nat) (hg : Itr W g s pos) (h : pos < s.size) (r n : Nat) (hd : Utf8.decode s pos = (r, n)) :
    ∃ W2, (∀ ty, (Instr.next (.pointer (some ⟨g, 0, none⟩)) true ty).run Tryd.prog W = .ok (.tuple #[.bool true, .int .i64 pos, .int .i32 r]) W2) ∧ Itr W2 g s (pos + n) ∧ Upd g W W2 := by
  refine ⟨{ W with heap := W.heap.setIfInBounds g (.stringIter s (pos + n)) }, fun ty => ?_, ?_, ⟨rfl, rfl, rfl, by simp, fun k hk => ?_⟩⟩
  · simp only [Instr.next, getObj, setObj, Sem.run_bind, Sem.run, show W.heap[g]? = some (.stringIter s pos) from hg, Result.andThen, h, if_true, hd]
    simp [goInt]
  · have := hg.lt
    simp [Itr, this]
  · show (W.heap.setIfInBounds g _)[k]? = _
    rw [Array.getElem?_setIfInBounds_ne (fun e => hk e.symm)]
theorem next_end (W : World) (g : Nat) (s : ByteArray) (pos : Nat) (hg : Itr W g s pos) (h : ¬ pos < s.size) (ty : TypeId) : (Instr.next (.pointer (some ⟨g, 0, none⟩)) true ty).run Tryd.prog W = .ok (.tuple #[.bool false]) W := by
  simp [Instr.next, getObj, Sem.run, show W.heap[g]? = some (.stringIter s pos) from hg, h]
theorem cell_set (w : World) (g : Nat) (C : List Value) (h : Blk w g 42 C) (x : UInt8) (v : Value) (hC : C[x.toNat]? = some v) : w.cell? ⟨g, x.toNat, none⟩ = some v := h.cell hC
set_option maxHeartbeats 4000000 in
set_option maxRecDepth 100000 in
theorem iany_short (l : List UInt8) (w : World) (hl : l.length ≤ 8) : Calls Tryd.prog 37 #[.string (str l), .string ⟨#[0, 10, 13]⟩] w fun e w' => ∃ i, e = .returned (.int .i64 i) ∧ decide (0 ≤ i) = l.any bar ∧ Below w.heap.size w w' := by
  have hsz := str_size l
  obtain ⟨C, hC⟩ : ∃ C : ByteArray, C = ⟨#[0, 10, 13]⟩ := ⟨_, rfl⟩
  have hCs : C.size = 3 := by rw [hC]; rfl
  have hCe : C.toList.isEmpty = false := by rw [hC]; exact congrArg List.isEmpty (toList_str [0, 10, 13])
  have hsu : Hid (∀ w', Calls Tryd.prog 48 #[.int .i64 (l.length : Int)] w' fun e w2 => e = .returned (.bool false) ∧ w2 = w') := fun w' => by
    have := Tryd.strings_shouldUseASCIISet (l.length : Int) w'
    rwa [show decide ((8 : Int) < (l.length : Int)) = false by simp; omega] at this
  have hdc : Hid (∀ k, k < l.length → ∃ r n i, Utf8.decode (str l) k = (r, n) ∧ 1 ≤ n ∧ k + n ≤ l.length ∧ decide (0 ≤ i) = bar (l.getD k 0) ∧ (bar (l.getD k 0) = true → (l.drop k).any bar = true) ∧ (bar (l.getD k 0) = false → (l.drop k).any bar = (l.drop (k + n)).any bar) ∧ ∀ w', Calls Tryd.prog 47 #[.string C, .int .i32 (r : Int)] w' fun e w2 => e = .returned (.int .i64 i) ∧ Below w'.heap.size w' w2) := fun k hk => by
    have hks : k < (str l).size := by omega
    have hg : (str l)[k]'hks = l.getD k 0 := UInt8.toNat.inj (str_at l k hk hks)
    by_cases h : (l.getD k 0).toNat < 128
    · obtain ⟨i, h1, h2⟩ := irune_any (l.getD k 0) (l.getD k 0).toNat (by omega) (.inl ⟨h, rfl⟩)
      refine ⟨(l.getD k 0).toNat, 1, i, ?_, Nat.le_refl _, by omega, h1, fun h => ?_, fun h => any_skip l 1 k (by omega) (fun j h3 h4 => by rw [show j = k by omega]; exact h), by rw [hC]; exact h2⟩
      · rw [decode_ascii (str l) k hks (by rw [hg]; exact h), hg]
      · rw [drop_at l k hk, List.any_cons, h]
        rfl
    · obtain ⟨r, n, hd, h1, h2, h3, h4, h5⟩ := dcd (str l) k hks (by show 128 ≤ (l.getD k 0).toNat; omega)
      obtain ⟨i, g1, g2⟩ := irune_any (l.getD k 0) r h2 (.inr ⟨h1, by omega⟩)
      have hb : bar (l.getD k 0) = false := bar_hi _ (by omega)
      exact ⟨r, n, i, hd, h3, by omega, g1, fun h => (by rw [hb] at h; cases h), fun _ => any_skip l n k (by omega) (fun j h6 h7 => bar_hi _ (h5 j h6 h7)), by rw [hC]; exact g2⟩
  have hend : Hid ((l.drop l.length).any bar = false) := by show _ = _; rw [List.drop_length]; rfl
  obtain ⟨R, hR⟩ : ∃ R, R = l.any bar := ⟨_, rfl⟩
  have HR := Lib.hid hR
  rw [← hR, ← hC]
  obtain ⟨S, hS⟩ : ∃ S, S = l.length := ⟨_, rfl⟩
  rw [← hS] at hsz hl hsu hdc hend
  clear hS hR hC
  go_enter Tryd.func37, Tryd.ntmps37
  go_wp2_with (go_at_call 48; (with_reducible refine (hsu.out _).mono ?_); (rintro e w1 ⟨rfl, hw⟩; subst w1))
  obtain ⟨g, hg⟩ : ∃ g, g = w.heap.size := ⟨_, rfl⟩
  have HG : Hid (w.heap.size ≤ g) := by show _ ≤ _; omega
  have hit0 : Hid (Itr (w.iter (str l) 0) g (str l) 0) := by show Itr _ _ _ _; rw [hg]; exact World.iter_heap w (str l) 0
  rw [← hg]
  clear hg
  go_loopg [9, 10] S (fun gh _ _ wx => ∃ k : Nat, k + gh = S ∧ Itr wx g (str l) k ∧ Below w.heap.size w wx ∧ (l.drop k).any bar = R)
  case atStart => exact ⟨0, by omega, hit0.out, iter_below _ _ _, by rw [List.drop_zero]; exact HR.out.symm⟩
  case round =>
    obtain ⟨k, hkg, hit, hbl, hA⟩ := hrel
    have HIT := Lib.hid hit
    have HB := Lib.hid hbl
    have HA := Lib.hid hA
    clear hbl hA hit0
    by_cases hlt : k < S
    · obtain ⟨r, n, i, hd, hn1, hn2, hi, hyes, hno, hcall⟩ := hdc.out k hlt
      obtain ⟨W2, hnx, hit2, hup⟩ := next_at _ g (str l) k hit (by omega) r n hd
      have HIT2 := Lib.hid hit2
      have HB2 : Hid (Below w.heap.size w W2) := HB.out.trans (hup.below HG.out)
      have HC := Lib.hid hcall
      clear hd hit hit2 hup hcall
      obtain ⟨q, hq⟩ : ∃ q, q = bar (l.getD k 0) := ⟨_, rfl⟩
      rw [← hq] at hi hyes hno
      clear hq
      cases q
      · have HN := Lib.hid (hno rfl)
        have hi0 : decide ((0 : Int) ≤ i) = false := hi
        clear hyes hno hi
        go_wp2_with (go_at_call 47; (with_reducible refine (HC.out _).mono ?_); (rintro e w1 ⟨rfl, hb⟩))
        have HB3 : Hid (Below w.heap.size w w1) := HB2.out.trans (hb.mono HB2.out.size)
        go_roundg (gk - n)
        case measure => omega
        case rel => exact ⟨k + n, by omega, HIT2.out.kept hb, HB3.out, by rw [← HN.out]; exact HA.out⟩
      · have HN := Lib.hid (hyes rfl)
        have hi0 : decide ((0 : Int) ≤ i) = true := hi
        clear hyes hno hi
        go_wp2_with (go_at_call 47; (with_reducible refine (HC.out _).mono ?_); (rintro e w1 ⟨rfl, hb⟩))
        have HB3 : Hid (Below w.heap.size w w1) := HB2.out.trans (hb.mono HB2.out.size)
        have hk9 : Hid ((0 : Int) ≤ (k : Int)) := by show _ ≤ _; omega
        go_ret
        refine ⟨_, rfl, ?_, HB3.out⟩
        rw [decide_eq_true hk9.out, ← HA.out, HN.out]
    · have hnx := next_end _ g (str l) k hit (by omega)
      have hke : Hid (k = S) := by show _ = _; omega
      clear hit
      go_wp2_with fail
      go_ret
      refine ⟨_, rfl, ?_, HB.out⟩
      rw [← HA.out, hke.out, hend.out]
      rfl
theorem z42 : (Tryd.prog.info? 42).map (fun i => i.zero) = some (some (.agg (List.replicate 256 (.bool false)).toArray)) := by kernel_rfl
theorem n42 : (Tryd.prog.info? 42).map (·.size) = some 256 := by kernel_rfl
set_option maxRecDepth 100000 in
theorem zv42 (w : World) : (zeroValue 42).run Tryd.prog w = .ok (.agg (Array.replicate 256 (.bool false))) w := by kernel_rfl
set_option maxRecDepth 100000 in
theorem set3 : ∃ L : List Value, L.length = 256 ∧ Lib.setCells [0, 10, 13] = L.toArray ∧ (∀ u ∈ L, u.oneCell' = true) ∧ ∀ x : UInt8, L[x.toNat]? = some (.bool (bar x)) := by
  refine ⟨(Lib.setCells [0, 10, 13]).toList, ?_, rfl, ?_, fun x => ?_⟩
  · rw [Array.length_toList, Lib.setCells_size]
  · intro u hu
    rw [Lib.setCells_eq] at hu
    simp at hu
    obtain ⟨j, _, rfl⟩ := hu
    rfl
  · rw [Array.getElem?_toList, Lib.setCells_at, bar_B3]
    rfl
set_option maxHeartbeats 4000000 in
set_option maxRecDepth 100000 in
theorem iany_long (l : List UInt8) (w : World) (h8 : 8 < l.length) (hl : l.length ≤ 9223372036854775807) : Calls Tryd.prog 37 #[.string (str l), .string ⟨#[0, 10, 13]⟩] w fun e w' => ∃ i, e = .returned (.int .i64 i) ∧ decide (0 ≤ i) = l.any bar ∧ Below w.heap.size w w' := by
  have hsz := str_size l
  have hM := fun w' => Tryd.strings_makeASCIISet zv42 ⟨#[0, 10, 13]⟩ w' (by decide) (by intro j b hb; exact (by decide : ∀ b ∈ ([0, 10, 13] : List UInt8), b.toNat < 128) b (List.mem_of_getElem? hb))
  obtain ⟨L, hL1, hL2, hL3, hL4⟩ := set3
  rw [hL2] at hM
  obtain ⟨C, hC⟩ : ∃ C : ByteArray, C = ⟨#[0, 10, 13]⟩ := ⟨_, rfl⟩
  have hCs : C.size = 3 := by rw [hC]; rfl
  have hCe : C.toList.isEmpty = false := by rw [hC]; exact congrArg List.isEmpty (toList_str [0, 10, 13])
  have hsu : Hid (∀ w', Calls Tryd.prog 48 #[.int .i64 (l.length : Int)] w' fun e w2 => e = .returned (.bool true) ∧ w2 = w') := fun w' => by
    have := Tryd.strings_shouldUseASCIISet (l.length : Int) w'
    rwa [show decide ((8 : Int) < (l.length : Int)) = true by simp; omega] at this
  have hmk : Hid (∀ w', Calls Tryd.prog 40 #[.string C] w' fun e w2 => e = .returned (.tuple #[.agg L.toArray, .bool true]) ∧ Below w'.heap.size w' w2) := fun w' => by
    rw [hC]
    exact (hM w').mono fun e w2 ⟨a, b⟩ => ⟨a, by rw [b]; exact (Below.refl _ _).alloc (Nat.le_refl _) _⟩
  have hgb : Hid (∀ k, k < l.length → ∀ h, ((str l)[k]'h).toNat = (l.getD k 0).toNat) := fun k hk h => str_at l k hk h
  have hdr : Hid (∀ k, k < l.length → (l.drop k).any bar = (bar (l.getD k 0) || (l.drop (k + 1)).any bar)) := fun k hk => by rw [drop_at l k hk, List.any_cons]
  have hend : Hid ((l.drop l.length).any bar = false) := by show _ = _; rw [List.drop_length]; rfl
  obtain ⟨R, hR⟩ : ∃ R, R = l.any bar := ⟨_, rfl⟩
  have HR := Lib.hid hR
  have HL3 := Lib.hid hL3
  have HL4 := Lib.hid hL4
  have hZ : (List.replicate 256 (Value.bool false)).length = 256 := List.length_replicate
  have HL1 := Lib.hid hL1
  have HZ := Lib.hid hZ
  rw [← hR, ← hC]
  obtain ⟨S, hS⟩ : ∃ S, S = l.length := ⟨_, rfl⟩
  rw [← hS] at hsz hl hsu hgb hdr hend h8
  clear hS hR hC hM hL2 hL3 hL4 hZ hL1
  go_enter Tryd.func37, Tryd.ntmps37
  go_wp2_with (first
    | (go_at_call 48; (with_reducible refine (hsu.out _).mono ?_); (rintro e w1 ⟨rfl, hw⟩; subst w1))
    | (go_at_call 40; (with_reducible refine (hmk.out _).mono ?_); (rintro e w1 ⟨rfl, hb⟩; have HB1 := Lib.hid hb; clear hb))
    | ((with_reducible show wpList _ _ _ (⟨some 6, .alloc _, _, _, _, _⟩ :: _) _ _); refine wp_new _ rfl 42 rfl _ z42 ?_; intro w2 g B F; have HB2 : Hid (Blk w2 g 42 (List.replicate 256 (.bool false))) := B; have HF : Hid (Fresh w1 w2 g) := F; clear B F; simp only [Act.put, List.setIfInBounds_toArray, List.set_cons_zero, List.set_cons_succ])
    | ((with_reducible show wpList _ _ _ (⟨none, .store _ _ _, _, _, _, _⟩ :: _) _ _); refine wp_putAll _ rfl 42 (.tmp 6) (.tmp 30) rfl g 42 _ L rfl rfl HB2.out (by rw [HL1.out, HZ.out]) (by rw [HL1.out]; exact n42) HL3.out ?_; intro w3 B U; have HB3 := Lib.hid B; have HU := Lib.hid U; clear B U; simp only [Act.put]))
  have HK : Hid (Below w.heap.size w w3) := (HB1.out.trans (HF.out.below.mono HB1.out.size)).trans (HU.out.below (by rw [HF.out.is]; exact HB1.out.size))
  have hcall : Hid (∀ x : UInt8, Calls Tryd.prog 49 #[.pointer (some ⟨g, 0, none⟩), .int .u8 (x.toNat : Int)] w3 fun e w2 => e = .returned (.bool (bar x)) ∧ w2 = w3) := fun x => Tryd.asciiSet_contains g x (bar x) w3 (HB3.out.cell (HL4.out x))
  clear HB1 HB2 HF HB3 HU
  go_loop [8] (fun i => ∃ k : Nat, k ≤ S ∧ i = .int .i64 (k : Int) ∧ (l.drop k).any bar = R) (fun i => S - (intOf i).toNat)
  case atStart => exact ⟨0, by omega, rfl, by rw [List.drop_zero]; exact HR.out.symm⟩
  case round =>
    obtain ⟨k, hk, rfl, hA⟩ := hrel
    have HA := Lib.hid hA
    clear hA
    by_cases hlt : k < S
    · have hkS : (k : Int) < (S : Int) := by omega
      have HG := hgb.out k hlt
      have HD := hdr.out k hlt
      obtain ⟨x, hx⟩ : ∃ x, x = l.getD k 0 := ⟨_, rfl⟩
      rw [← hx] at HG HD
      have HI := hcall.out x
      obtain ⟨b, hbb⟩ : ∃ b, b = x.toNat := ⟨_, rfl⟩
      rw [← hbb] at HG HI
      have HI := Lib.hid HI
      have HD := Lib.hid HD
      clear hx hbb
      cases hc : bar x
      · rw [hc] at HI
        have HX := Lib.hid hc
        clear hc
        go_wp2_with (go_at_call 49; (with_reducible refine (HI.out).mono ?_); (rintro e w4 ⟨rfl, hw⟩; subst w4))
        go_round
        case rel => exact ⟨k + 1, by omega, by go_num, by rw [← HA.out, HD.out, HX.out]; rfl⟩
        case measure => simp [intOf]; omega
      · rw [hc] at HI
        have HX := Lib.hid hc
        clear hc
        go_wp2_with (go_at_call 49; (with_reducible refine (HI.out).mono ?_); (rintro e w4 ⟨rfl, hw⟩; subst w4))
        have hk9 : Hid ((0 : Int) ≤ (k : Int)) := by show _ ≤ _; omega
        go_ret
        refine ⟨_, rfl, ?_, HK.out⟩
        rw [decide_eq_true hk9.out, ← HA.out, HD.out, HX.out]
        rfl
    · have hkS : ¬ (k : Int) < (S : Int) := by omega
      have hke : Hid (k = S) := by show _ = _; omega
      go_wp2_with fail
      go_ret
      refine ⟨_, rfl, ?_, HK.out⟩
      rw [← HA.out, hke.out, hend.out]
      rfl
theorem iany_any (l : List UInt8) (w : World) (hl : l.length ≤ 9223372036854775807) : Calls Tryd.prog 37 #[.string (str l), .string ⟨#[0, 10, 13]⟩] w fun e w' => ∃ i, e = .returned (.int .i64 i) ∧ decide (0 ≤ i) = l.any bar ∧ Below w.heap.size w w' := by
  by_cases h : l.length ≤ 8
  · exact iany_short l w h
  · exact iany_long l w (by omega) hl
set_option maxHeartbeats 4000000 in
set_option maxRecDepth 100000 in
theorem cany_any (l : List UInt8) (w : World) (hl : l.length ≤ 9223372036854775807) : Calls Tryd.prog 30 #[.string (str l), .string ⟨#[0, 10, 13]⟩] w fun e w' => e = .returned (.bool (l.any bar)) ∧ Below w.heap.size w w' := by
  have H : Hid (∀ w', Calls Tryd.prog 37 #[.string (str l), .string ⟨#[0, 10, 13]⟩] w' fun e w2 => ∃ i, e = .returned (.int .i64 i) ∧ decide (0 ≤ i) = l.any bar ∧ Below w'.heap.size w' w2) := fun w' => iany_any l w' hl
  generalize l.any bar = R at *
  go_enter Tryd.func30, Tryd.ntmps30
  go_wp2_with (go_at_call 37; (with_reducible refine (H.out _).mono ?_); (rintro e w1 ⟨i, rfl, hi, hb⟩))
  go_ret
  exact ⟨rfl, hb⟩
theorem vlu_not (l : List UInt8) (h : tr l ≠ l) : vlu l = false := by
  unfold vlu
  rw [decide_eq_false h]
  rfl
theorem vlu_yes (l : List UInt8) (h : tr l = l) : vlu l = !l.any bar := by
  unfold vlu
  rw [decide_eq_true h]
  rfl
set_option maxHeartbeats 4000000 in
set_option maxRecDepth 100000 in
theorem value_any (l : List UInt8) (w : World) (hl : l.length ≤ 9223372036854775807) : Calls Tryd.prog 13 #[.string (str l)] w fun e w' => e = .returned (.bool (vlu l)) ∧ Below w.heap.size w w' := by
  have H : Hid (∀ w', Calls Tryd.prog 15 #[.string (str l)] w' fun e w2 => e = .returned (.string (str (tr l))) ∧ Below w'.heap.size w' w2) := fun w' => tok_trim_any l w' hl
  have HC : Hid (∀ w', Calls Tryd.prog 30 #[.string (str l), .string ⟨#[0, 10, 13]⟩] w' fun e w2 => e = .returned (.bool (l.any bar)) ∧ Below w'.heap.size w' w2) := fun w' => cany_any l w' hl
  by_cases h : tr l = l
  · rw [vlu_yes l h]
    have h2 : (tr l == l) = true := by rw [h]; simp
    rw [h] at H
    clear h h2
    generalize l.any bar = R at *
    go_enter Tryd.func13, Tryd.ntmps13
    go_wp2_with (first
      | (go_at_call 15; (with_reducible refine (H.out _).mono ?_); (rintro e w1 ⟨rfl, hb⟩; have HB := Lib.hid hb; clear hb))
      | ((with_reducible show wpList _ _ _ (⟨some 6, .binOp _ _ _ _ _, _, _, _, _⟩ :: _) _ _); refine wp_eqS _ rfl (.tmp 4) (.tmp 5) rfl l l rfl rfl true (by simp) ?_; simp only [Act.put, List.setIfInBounds_toArray, List.set_cons_zero, List.set_cons_succ])
      | (go_at_call 30; (with_reducible refine (HC.out _).mono ?_); (rintro e w2 ⟨rfl, hb2⟩)))
    go_ret
    exact ⟨rfl, HB.out.trans (hb2.mono HB.out.size)⟩
  · rw [vlu_not l h]
    obtain ⟨X, hX⟩ : ∃ X, X = tr l := ⟨_, rfl⟩
    rw [← hX] at H h
    have HN := Lib.hid h
    clear hX h HC
    go_enter Tryd.func13, Tryd.ntmps13
    go_wp2_with (first
      | (go_at_call 15; (with_reducible refine (H.out _).mono ?_); (rintro e w1 ⟨rfl, hb⟩; have HB := Lib.hid hb; clear hb))
      | ((with_reducible show wpList _ _ _ (⟨some 6, .binOp _ _ _ _ _, _, _, _, _⟩ :: _) _ _); refine wp_eqS _ rfl (.tmp 4) (.tmp 5) rfl X l rfl rfl false (by have := HN.out; simp [this]) ?_; simp only [Act.put, List.setIfInBounds_toArray, List.set_cons_zero, List.set_cons_succ]))
    go_ret
    exact ⟨rfl, HB.out⟩
end Go.Proofs.YtpkjebagpolfgaaDoor
