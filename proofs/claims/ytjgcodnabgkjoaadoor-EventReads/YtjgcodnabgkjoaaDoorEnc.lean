/-
  What event.Encode answers: the event's bytes in a row of its own, or none; nothing that was there turns. Condition: the table of kinds holds what the program's text lays.
-/
import Derived.Test.YtjgcodnabgkjoaaDoorRight
namespace Go.Proofs.YtjgcodnabgkjoaaDoor
open Go.RowKit

/-- An event's bytes. -/
def encB (e : Ev) : List UInt8 := [UInt8.ofNat e.kind.toNat] ++ leb e.time ++ leb e.id ++ txW e.ts (hav e.kind.toNat).texts ++ nmW (hav e.kind.toNat).bl e.ns 3
def encF (e : Ev) : List UInt8 := if rightE e = true then encB e else []
def encE (e : Ev) : Int := if rightE e = true then 0 else 1

theorem Wtr.kept {w w' : World} {base g : Nat} {l : List UInt8} (h : Wtr w base g l) (hb : Below w.heap.size w w') : Wtr w' base g l := by
  obtain ⟨A, n, c, h1, h2, h3, h4, h5⟩ := h
  exact ⟨A, n, c, h1.kept hb, h2.kept hb, h3, h4, Nat.le_trans h5 hb.size⟩
theorem Kps.of_wch {base g : Nat} {w w' : World} {C : List Value} (h : Wch base g w w') (hB : Blk w g 50 C) : Kps w w' := by
  intro k cs t fr ht e
  refine h.but k cs t fr ?_ ?_ e
  · rintro rfl
    rcases ht with h | h | h <;> exact absurd h (by decide)
  · rintro rfl
    rw [hB] at e
    cases e
    rcases ht with h | h | h <;> exact absurd h (by decide)
theorem txW_len {ts : List (List UInt8)} (h : ∀ t ∈ ts, t.length ≤ 4096) : ∀ i, (txW ts i).length ≤ i * 4106
  | 0 => by simp [txW]
  | i + 1 => by
    have ih := txW_len h i
    rw [Nat.succ_mul]
    generalize i * 4106 = X at *
    rcases Nat.lt_or_ge i ts.length with hl | hl
    · rw [txW_succ ts i hl]
      have h1 : (ts.getD i []).length ≤ 4096 := by
        rw [List.getD_eq_getElem?_getD, List.getElem?_eq_getElem hl]
        exact h _ (List.getElem_mem hl)
      have h2 := leb_len10 (n := (ts.getD i []).length) (by omega)
      simp only [List.length_append]
      omega
    · have e : txW ts (i + 1) = txW ts i := by
        unfold txW
        have h2 : ts.length ≤ i + 1 := Nat.le_succ_of_le hl
        rw [List.take_of_length_le h2, List.take_of_length_le hl]
      rw [e]
      omega
theorem smW_len (b n : Nat) : (smW b n).length ≤ 2 := by
  unfold smW
  split <;> simp
theorem nmW_len (bl : List Nat) (ns : List Int) : ∀ i, (nmW bl ns i).length ≤ i * 2
  | 0 => by simp [nmW]
  | i + 1 => by
    have ih := nmW_len bl ns i
    have h2 := smW_len (bl.getD i 0) (ns.getD i 0).toNat
    rw [nmW, List.length_append]
    split
    · omega
    · simp
      omega
/-- What a right event has. -/
theorem right_has {e : Ev} (h : rightE e = true) (_he : EvOk e) : (1 ≤ e.kind ∧ e.kind ≤ 14) ∧ ((hav e.kind.toNat).fetch = true ↔ e.id ≠ 0) ∧ (∀ i, i < 4 → goodT (hav e.kind.toNat).texts e.ts i = true) ∧ (∀ i, i < 3 → goodN (hav e.kind.toNat).bl e.ns i = true) := by
  simp only [rightE, Bool.and_eq_true, decide_eq_true_eq] at h
  obtain ⟨⟨⟨h1, h2⟩, h3⟩, h4⟩ := h
  refine ⟨h1, ?_, ?_, ?_⟩
  · have := beq_iff_eq.1 h2
    rw [this]
    simp
  · intro i hi
    simp only [rightT, Bool.and_eq_true] at h3
    match i, hi with
    | 0, _ => exact h3.1.1.1
    | 1, _ => exact h3.1.1.2
    | 2, _ => exact h3.1.2
    | 3, _ => exact h3.2
  · intro i hi
    simp only [rightN, Bool.and_eq_true] at h4
    match i, hi with
    | 0, _ => exact h4.1.1
    | 1, _ => exact h4.1.2
    | 2, _ => exact h4.2
theorem right_texts {e : Ev} (h : rightE e = true) (he : EvOk e) : ∀ t ∈ e.ts, t.length ≤ 4096 := by
  intro t ht
  obtain ⟨i, hi, rfl⟩ := List.getElem_of_mem ht
  have h1 := (right_has h he).2.2.1 i (by rw [← he.1]; exact hi)
  simp only [goodT, Bool.and_eq_true, decide_eq_true_eq, List.getD_eq_getElem?_getD, List.getElem?_eq_getElem hi, Option.getD_some] at h1
  exact h1.2
/-- A right event's numbers. -/
theorem right_num {e : Ev} (h : rightE e = true) (he : EvOk e) {i : Nat} (hi : i < 3) (hb : 0 < (hav e.kind.toNat).bl.getD i 0) :
    ∃ m : Nat, e.ns.getD i 0 = (m : Int) ∧ m < (hav e.kind.toNat).bl.getD i 0 := by
  have h1 := (right_has h he).2.2.2 i hi
  simp only [goodN, Bool.and_eq_true, Bool.or_eq_true, decide_eq_true_eq] at h1
  obtain ⟨h2, h3⟩ := h1
  exact ⟨(e.ns.getD i 0).toNat, by omega, by omega⟩

theorem build50 (w : World) (A : Option Addr) (n c : Nat) : (Instr.build 50 #[(0, .slice A n c)]).run Tryd.prog w = .ok (.agg #[.slice A n c]) w := by kernel_rfl

/-- What Encode answers. -/
def EncGives (w : World) (e : Ev) (r : Ending) (w' : World) : Prop :=
  ∃ A n c, r = .returned (.tuple #[.slice A n c, .int .i64 (encE e)]) ∧ n ≤ c ∧ Bs w' w'.heap.size A n (encF e) ∧ Own w' w.heap.size (.slice A n c) n (encF e) ∧ Below w.heap.size w w'

set_option maxHeartbeats 4000000 in
set_option maxRecDepth 100000 in
theorem encode_any (e : Ev) (he : EvOk e) (hsz : ∀ t ∈ e.ts, t.length ≤ 1000000) (htm : e.time < 18446744073709551616) (hid : e.id < 18446744073709551616) (w : World) (ht : Tab w) :
    Calls Tryd.prog 13 #[.agg (evc e).toArray] w (EncGives w e) := by
  have hmf : ∀ (fn : Fn) (first cap : Array Value) (w : World), (Instr.makeFunc fn first cap).run Tryd.prog w = .ok (.func fn first cap) w := fun _ _ _ _ => rfl
  have RA := fun W (hW : Tab W) => right_any e he hsz W hW
  have z24 := size24' he
  by_cases hr : rightE e = true
  · obtain ⟨⟨hk1, hk2⟩, _⟩ := right_has hr he
    have htx := right_texts hr he
    have hnm := fun i hi hb => right_num hr he (i := i) hi hb
    have hfin : ∀ (w' : World) A n c r, r = .returned (.tuple #[.slice A n c, .int .i64 0]) → n ≤ c → Own w' w.heap.size (.slice A n c) n (encB e) → Below w.heap.size w w' → EncGives w e r w' := by
      intro w' A n c r h1 h2 h3 h4
      obtain ⟨A', c', e1, h5, h6⟩ := h3.form
      injection e1 with e1 e2 e3
      subst e1 e3
      refine ⟨A, n, c, ?_, h2, ?_, ?_, h4⟩
      · rw [encE, if_pos hr]; exact h1
      · rw [encF, if_pos hr]; exact h6
      · rw [encF, if_pos hr]; exact h3
    have HFIN := Lib.hid hfin
    rw [hr] at RA
    obtain ⟨k, hk⟩ : ∃ k : Nat, e.kind = (k : Int) := ⟨e.kind.toNat, by omega⟩
    have hkn : e.kind.toNat = k := by omega
    rw [hkn] at hnm
    have hEB : encB e = [UInt8.ofNat k] ++ leb e.time ++ leb e.id ++ txW e.ts (hav k).texts ++ nmW (hav k).bl e.ns 3 := by rw [encB, hkn]
    have hk3 : (k : Int) < 15 := by omega
    have hk15 : k < 15 := by omega
    have hkw : IntKind.u8.wrap (k : Int) = (k : Int) := by rw [IntKind.wrap_u8]; omega
    have kc : (evc e)[0]? = some (.int .i64 (k : Int)) := by rw [evc_kind, hk]
    have tc : (evc e)[1]? = some (.int .u64 (e.time : Int)) := rfl
    have ic := evc_id e
    have xc : ∀ i, i < 4 → (evc e)[3 + i]? = some (.string (str (e.ts.getD i []))) := fun i hi => evc_text he hi
    have nc : ∀ i, i < 3 → (evc e)[7 + i]? = some (.int .i64 (e.ns.getD i 0)) := fun i hi => evc_num he hi
    have z47 := size47' k
    have hl47 : (havc (hav k)).length = (havc (hav 0)).length := by rw [havc_length (hav_ok k), havc_length (hav_ok 0)]
    have y47 := zero47
    generalize havc (hav 0) = Z at *
    obtain ⟨C, hC⟩ : ∃ C, C = evc e := ⟨_, rfl⟩
    rw [← hC] at kc ic tc xc nc z24 RA ⊢
    obtain ⟨ts, hts⟩ : ∃ ts, ts = e.ts := ⟨_, rfl⟩
    obtain ⟨ns, hns⟩ : ∃ ns, ns = e.ns := ⟨_, rfl⟩
    obtain ⟨tm, htmq⟩ : ∃ tm, tm = e.time := ⟨_, rfl⟩
    obtain ⟨id, hidq⟩ : ∃ id, id = e.id := ⟨_, rfl⟩
    have hlt : e.ts.length = 4 := he.1
    rw [← hts] at xc htx hEB hlt
    rw [← hns] at nc hnm hEB
    rw [← htmq] at tc htm hEB
    rw [← hidq] at ic hid hEB
    have HX := Lib.hid (And.intro xc (And.intro nc (And.intro htx (And.intro hnm hlt))))
    have HEB := Lib.hid hEB
    clear hC hts hns htmq hidq xc nc htx hnm hEB hlt hfin hk hkn hk1 hk2 hr hsz he
    have hl1 := leb_len10 htm
    have hl2 := leb_len10 hid
    go_enter Tryd.func13, Tryd.ntmps13
    go_wp2_with (first
      | ((with_reducible show wpList _ _ _ (⟨some 1, _, _, _, _, _⟩ :: _) _ _); refine wp_box _ rfl 24 (.tmp 0) rfl C rfl ?_; intro w1 ge hB1 hf1; simp only [Act.put, List.setIfInBounds_toArray, List.set_cons_zero, List.set_cons_succ])
      | ((with_reducible show wpList _ _ _ (⟨some 6, _, _, _, _, _⟩ :: _) _ _); refine wp_getG _ (by rfl) 24 (.tmp 1) rfl ge 0 C _ rfl hB1.whole Tryd.underlying24 rfl z24 ?_; simp only [Act.put, List.setIfInBounds_toArray, List.set_cons_zero, List.set_cons_succ]))
    have t1 := ht.kept hf1.below
    refine (RA w1 t1).mono ?_
    rintro r w2 ⟨rfl, hb2⟩
    have t2 := t1.kept hb2
    have bel2 := hf1.below.trans (hb2.mono hf1.below.size)
    have D1 := hB1.kept hb2
    have hge : w.heap.size ≤ ge := Nat.le_of_eq hf1.is.symm
    have c1 := D1.cell kc
    clear hB1 hf1 hb2 RA t1
    go_wp2_with (first
      | ((with_reducible show wpList _ _ _ (⟨some 12, _, _, _, _, _⟩ :: _) _ _); refine wp_getG _ (by rfl) 47 (.tmp 11) rfl 0 (k * 5) (havc (hav k)) _ rfl (t2.row hk15) Tryd.underlying47 rfl z47 ?_; simp only [Act.put, List.setIfInBounds_toArray, List.set_cons_zero, List.set_cons_succ])
      | ((with_reducible show wpList _ _ _ (⟨some 4, _, _, _, _, _⟩ :: _) _ _); refine wp_new _ rfl 47 rfl _ y47 ?_; intro w3 gh hB3 hf3; simp only [Act.put, List.setIfInBounds_toArray, List.set_cons_zero, List.set_cons_succ])
      | ((with_reducible show wpList _ _ _ (⟨none, .store 47 _ _, _, _, _, _⟩ :: _) _ _); refine wp_putAll _ rfl 47 (.tmp 4) (.tmp 12) rfl gh 47 _ (havc (hav k)) rfl rfl hB3 hl47 z47 (havc_one _) ?_; intro w4 hB4 hU4; have D4 := (hf3.blk D1).upd hU4 (by have a1 := hf3.is; have a2 := D1.lt; omega); have c4 := D4.cell kc; have tc4 : ∀ o1 o2, ((w4.alloc o1).alloc o2).cell? ⟨ge, 1, none⟩ = some (.int .u64 (tm : Int)) := (fun o1 o2 => ((D4.alloc o1).alloc o2).cell tc); simp only [Act.put]))
    have bel4 : Below w.heap.size w w4 := (bel2.trans (hf3.below.mono bel2.size)).trans (hU4.below (by have a1 := hf3.is; have a2 := bel2.size; omega))
    have hz4 := bel4.size
    have W5 : Wtr ((w4.alloc (.cells #[.int .u8 (k : Int)] 5)).alloc (.cells #[.slice (some ⟨w4.heap.size, 0, none⟩) 1 1] 50)) w.heap.size (w4.heap.size + 1) [UInt8.ofNat k] := by
      refine ⟨some ⟨w4.heap.size, 0, none⟩, 1, 1, ?_, ?_, Nat.le_refl _, by omega, by simp; omega⟩
      · have := Blk.new (w4.alloc (.cells #[.int .u8 (k : Int)] 5)) 50 [.slice (some ⟨w4.heap.size, 0, none⟩) 1 1]
        simpa using this
      · have ho : Own (w4.alloc (.cells #[vb (UInt8.ofNat k)] 5)) w.heap.size (.slice (some ⟨w4.heap.size, 0, none⟩) 1 1) 1 [UInt8.ofNat k] := World.ownsRow_lit w4 #[vb (UInt8.ofNat k)] 1 hz4 (by decide) rfl
        rw [vb, toNat_ofNat_lt k (by omega)] at ho
        exact ho.alloc _
    have V5 := (D4.alloc (.cells #[.int .u8 (k : Int)] 5)).alloc (.cells #[.slice (some ⟨w4.heap.size, 0, none⟩) 1 1] 50)
    have H5 := (hB4.alloc (.cells #[.int .u8 (k : Int)] 5)).alloc (.cells #[.slice (some ⟨w4.heap.size, 0, none⟩) 1 1] 50)
    have b5 : Below w.heap.size w ((w4.alloc (.cells #[.int .u8 (k : Int)] 5)).alloc (.cells #[.slice (some ⟨w4.heap.size, 0, none⟩) 1 1] 50)) := (bel4.alloc hz4 _).alloc (by simp; omega) _
    have hgg : ge < w4.heap.size + 1 ∧ gh < w4.heap.size + 1 := ⟨by have := D4.lt; omega, by have := hB4.lt; omega⟩
    generalize (w4.alloc (.cells #[.int .u8 (k : Int)] 5)).alloc (.cells #[.slice (some ⟨w4.heap.size, 0, none⟩) 1 1] 50) = w5 at *
    generalize w4.heap.size + 1 = g at *
    obtain ⟨hg1, hg2⟩ := hgg
    have HB := Lib.hid (And.intro b5 (And.intro hge hg2))
    clear D4 hB4 hU4 hB3 hf3 D1 c1 c4 tc4 t2 bel2 bel4 hz4 b5 ht
    refine (wnum_any w.heap.size g _ tm w5 W5 (by simp) htm).mono ?_
    rintro r w6 ⟨rfl, W6, X6⟩
    have V6 := V5.wch X6 (by decide) (by omega)
    have H6 := H5.wch X6 (by decide) (by omega)
    have i6 := V6.cell ic
    clear W5 V5 H5
    go_wp2_with fail
    refine (wnum_any w.heap.size g _ id w6 W6 (by simp; omega) hid).mono ?_
    rintro r w7 ⟨rfl, W7, X7⟩
    have V7 := V6.wch X7 (by decide) (by omega)
    have H7 := H6.wch X7 (by decide) (by omega)
    have HC7 := Lib.hid (HB.out.1.trans (X6.low.trans X7.low))
    clear W6 V6 H6 i6 X6 X7
    go_wp2_with (first
      | ((with_reducible show wpList _ _ _ (⟨some 24, _, _, _, _, _⟩ :: _) _ _); refine wp_getG _ (by rfl) 47 (.tmp 4) rfl gh 0 (havc (hav k)) _ rfl H7.whole Tryd.underlying47 rfl z47 ?_; simp only [Act.put, List.setIfInBounds_toArray, List.set_cons_zero, List.set_cons_succ]))
    refine (each_w (hav k) (hav_ok k) ge (.pointer (some ⟨g, 0, none⟩)) (fun i W => Wtr W w.heap.size g ([UInt8.ofNat k] ++ leb tm ++ leb id ++ txW ts i) ∧ Blk W ge 24 C ∧ Below w.heap.size w W)
      (fun i W => Wtr W w.heap.size g ([UInt8.ofNat k] ++ leb tm ++ leb id ++ txW ts (hav k).texts ++ nmW (hav k).bl ns i) ∧ Blk W ge 24 C ∧ Below w.heap.size w W) w7 ?_ ?_ ?_ ?_ ?_ ?_ ?_).mono ?_
    · exact ⟨by simpa [txW] using W7, V7, HC7.out⟩
    · rintro i W W' ⟨a1, a2, a3⟩ hb
      exact ⟨a1.kept hb, a2.kept hb, a3.trans (hb.mono a3.size)⟩
    · rintro i W W' ⟨a1, a2, a3⟩ hb
      exact ⟨a1.kept hb, a2.kept hb, a3.trans (hb.mono a3.size)⟩
    · rintro W ⟨a1, a2, a3⟩
      exact ⟨by simpa [nmW] using a1, a2, a3⟩
    · rintro i W hi ⟨a1, a2, a3⟩
      have h4 : i < 4 := Nat.lt_of_lt_of_le hi (hav_ok k).1
      have hti : (ts.getD i []).length ≤ 4096 := by
        rw [List.getD_eq_getElem?_getD, List.getElem?_eq_getElem (by rw [HX.out.2.2.2.2]; exact h4)]
        exact HX.out.2.2.1 _ (List.getElem_mem _)
      have hlen := txW_len HX.out.2.2.1 i
      have hi4 : i * 4106 ≤ 4 * 4106 := Nat.mul_le_mul_right _ (Nat.le_of_lt h4)
      refine (wtext_any w.heap.size g ge (3 + i) _ (ts.getD i []) W a1 (by simp only [List.length_append, List.length_singleton]; omega) (by omega) (a2.cell (HX.out.1 i h4))).mono ?_
      rintro r W' ⟨rfl, b1, b2⟩
      obtain ⟨A, n, c, q1, _⟩ := a1
      refine ⟨rfl, ⟨?_, a2.wch b2 (by decide) (by omega), a3.trans b2.low⟩, Kps.of_wch b2 q1⟩
      rw [txW_succ ts i (by rw [HX.out.2.2.2.2]; exact h4)]
      simpa [List.append_assoc] using b1
    · rintro i W hi hp ⟨a1, a2, a3⟩
      obtain ⟨m, hm1, hm2⟩ := HX.out.2.2.2.1 i hi hp
      have hlen := txW_len HX.out.2.2.1 (hav k).texts
      have hi4 : (hav k).texts * 4106 ≤ 4 * 4106 := Nat.mul_le_mul_right _ (hav_ok k).1
      have hlen2 := nmW_len (hav k).bl ns i
      refine (wsmall_any w.heap.size g ge (7 + i) ((hav k).bl.getD i 0) m _ W a1 (by simp only [List.length_append, List.length_singleton]; omega) ((hav_ok k).2.2 i) hm2 24 C a2 (by decide) (by omega) (by rw [HX.out.2.1 i hi, hm1])).mono ?_
      rintro r W' ⟨rfl, b1, b2⟩
      obtain ⟨A, n, c, q1, _⟩ := a1
      refine ⟨rfl, ⟨?_, a2.wch b2 (by decide) (by omega), a3.trans b2.low⟩, Kps.of_wch b2 q1⟩
      rw [nmW, if_pos hp, hm1]
      simpa [List.append_assoc] using b1
    · rintro i W hi hp ⟨a1, a2, a3⟩
      refine ⟨?_, a2, a3⟩
      rw [nmW, if_neg hp]
      simpa using a1
    rintro r w8 ⟨rfl, ⟨A, n, c, q1, q2, q3, q4, q5⟩, _, hb8⟩
    have d8 := q1.cell (i := 0) rfl
    rw [← HEB.out] at q2
    clear V7 H7 W7
    go_wp2_with fail
    go_ret2
    exact HFIN.out _ A n c _ rfl q3 q2 hb8
  · have hrf : rightE e = false := by simpa using hr
    have HF : Hid (∀ (w' : World) r, r = .returned (.tuple #[.slice none 0 0, .int .i64 1]) → Below w.heap.size w w' → EncGives w e r w') := by
      intro w' r h1 h2
      refine ⟨none, 0, 0, ?_, Nat.le_refl _, ?_, ?_, h2⟩
      · rw [encE, if_neg hr]; exact h1
      · rw [encF, if_neg hr]; exact Bs.empty _ _ _
      · rw [encF, if_neg hr]; exact World.ownsRow_nil _ _ _ _
    rw [hrf] at RA
    obtain ⟨C, hC⟩ : ∃ C, C = evc e := ⟨_, rfl⟩
    rw [← hC] at z24 RA ⊢
    clear hC hr hrf
    go_enter Tryd.func13, Tryd.ntmps13
    go_wp2_with (first
      | ((with_reducible show wpList _ _ _ (⟨some 1, _, _, _, _, _⟩ :: _) _ _); refine wp_box _ rfl 24 (.tmp 0) rfl C rfl ?_; intro w1 ge hB1 hf1; simp only [Act.put, List.setIfInBounds_toArray, List.set_cons_zero, List.set_cons_succ])
      | ((with_reducible show wpList _ _ _ (⟨some 6, _, _, _, _, _⟩ :: _) _ _); refine wp_getG _ (by rfl) 24 (.tmp 1) rfl ge 0 C _ rfl hB1.whole Tryd.underlying24 rfl z24 ?_; simp only [Act.put, List.setIfInBounds_toArray, List.set_cons_zero, List.set_cons_succ]))
    have t1 := ht.kept hf1.below
    refine (RA w1 t1).mono ?_
    rintro r w2 ⟨rfl, hb2⟩
    go_wp2_with fail
    go_ret2
    exact HF.out _ _ rfl (hf1.below.trans (hb2.mono hf1.below.size))
end Go.Proofs.YtjgcodnabgkjoaaDoor
