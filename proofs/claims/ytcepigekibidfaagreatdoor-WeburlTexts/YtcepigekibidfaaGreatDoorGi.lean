/-
  What host.IPv6 answers; nothing that was there turns. Condition: texts of at most 10000000 bytes; the library's tables.
  What host.IPv6 answers: the walk; nothing that was there turns. Condition: texts of at most 10000000 bytes; the library's tables.
  What host.longestRow answers; nothing that was there turns. Condition: eight pieces.
-/
import Derived.Test.YtcepigekibidfaaGreatDoorGh
namespace Go.Proofs.YtcepigekibidfaaGreatDoor
open Go.RowKit

/-- The pieces of an address of eight; none: it is none's text. -/
def ip6 (l : List UInt8) : Option (List Nat) :=
  (pcs (!(Lib.cut l [58, 58]).2.2) (Lib.cut l [58, 58]).1).bind fun f => (pcs (Lib.cut l [58, 58]).2.2 (Lib.cut l [58, 58]).2.1).bind fun b =>
    if f.length + b.length ≤ 8 ∧ (Lib.cut l [58, 58]).2.2 ≠ decide (f.length + b.length = 8) then some (f ++ List.replicate (8 - f.length - b.length) 0 ++ b) else none
def zero8 : List Nat := [0, 0, 0, 0, 0, 0, 0, 0]
def ip6V (o : Option (List Nat)) : Value := .tuple #[.agg (vhs (o.getD zero8)).toArray, errV o.isNone]

theorem type38 : (Tryz.prog.info? 62).map (fun i => i.zero) = some (some (.agg (vhs zero8).toArray)) := by kernel_rfl
theorem size38 : (Tryz.prog.info? 62).map (·.size) = some 8 := by kernel_rfl
theorem size38' (xs : List Nat) (h : xs.length = 8) : (Tryz.prog.info? 62).map (·.size) = some (vhs xs).length := by rw [Hs_len, h]; exact size38
theorem build38 (w : World) : (Instr.build 62 #[]).run Tryz.prog w = .ok (.agg (vhs zero8).toArray) w := by kernel_rfl
theorem slice38 (w : World) (g q : Nat) (h : q ≤ 8) : (Instr.sliceAt 62 (.pointer (some ⟨g, 0, none⟩)) (some (.int .i64 (q : Int))) none none).run Tryz.prog w = .ok (.slice (some ⟨g, if 8 = q then 0 else q, none⟩) (8 - q) (8 - q)) w := by
  have h1 : q ≤ 8 := by omega
  have hsz : ∀ w, (sizeOf 61).run Tryz.prog w = .ok 1 w := fun w => Tryz.sizeOf61 w
  by_cases h2 : 8 = q
  · subst h2
    simp [Instr.sliceAt, run_underlying Tryz.underlying62, Instr.sureAddr, Instr.sliceBounds, Instr.sliceBound, asIntOf, hsz]
  · simp [Instr.sliceAt, run_underlying Tryz.underlying62, Instr.sureAddr, Instr.sliceBounds, Instr.sliceBound, asIntOf, hsz, h1, h2, Addr.add_lit]
theorem slice38a (w : World) (g : Nat) : (Instr.sliceAt 62 (.pointer (some ⟨g, 0, none⟩)) none none none).run Tryz.prog w = .ok (.slice (some ⟨g, 0, none⟩) 8 8) w := by
  kernel_rfl
/-- copy into an array. -/
theorem run_copyH (w : World) (ty : TypeId) (g o dl dc : Nat) (A : Option Addr) (m c : Nat) (l : List Nat) (B : Nat) (hs : Hs w B A m l) (C : List Value) (hb : Blk w g 62 C) (hm : m ≤ dl) (hf : o + m ≤ C.length) :
    ∃ w', (Builtin.copy_ #[92, 92] ty #[.slice (some ⟨g, o, none⟩) dl dc, .slice A m c]).run Tryz.prog w = .ok (goInt m) w' ∧ Blk w' g 62 (C.take o ++ vhs l ++ C.drop (o + m)) ∧ Upd g w w' := by
  rcases A with _ | ad
  · obtain ⟨rfl, rfl⟩ := hs.nil_
    refine ⟨w, ?_, by simpa [vhs] using hb, Upd.refl _ _⟩
    cases hq : Tryz.prog.info? 61 with
    | none => have := size37; simp [hq] at this
    | some i => simp [Builtin.copy_, run_underlying Tryz.underlying92, Builtin.lenOf, Builtin.firstCells, sizeOf, typeInfo, hq, storeCells]
  · have hl : (vhs l).length = m := by rw [Hs_len, hs.1]
    have hrun := run_copy_row (P := Tryz.prog) w 92 92 ty 61 g o dl dc ad m c C.toArray 62 (vhs l) Tryz.underlying92 size37 hb (by rw [hl]; exact (Nat.min_eq_left hm).symm) (fun j v hj => by
      simp only [vhs, List.getElem?_map, Option.map_eq_some_iff] at hj
      obtain ⟨x, hx, rfl⟩ := hj
      have hm0 : 0 < m := by
        have := (List.getElem?_eq_some_iff.1 hx).1
        have := hs.1
        omega
      obtain ⟨b, off, e, _, hc⟩ := hs.2 hm0
      have e := Option.some.inj e
      subst e
      rw [Addr.add_lit]
      exact hc j x hx) (by rw [hl]; simpa using hf) (Hs_one l)
    rw [hl] at hrun
    refine ⟨_, hrun, ?_, ⟨rfl, rfl, rfl, by simp, fun k hk => setRow_other _ _ _ _ hk⟩⟩
    exact setRow_heap w g C.toArray _ 62 (0, 0) hb
theorem wp_copyH {ops : Array Oper} {rest : List Oper} {o : Oper} {a : Act} {Q : Exit → Act → World → Prop} (w : World) (hgd : o.guard = none) (d s : Operand)
    (ho : o.op = .call { callee := .builtin .copy, args := #[d, s], argTypes := #[92, 92] })
    (g f dl dc : Nat) (A : Option Addr) (m c : Nat) (l : List Nat) (B : Nat) (hd : a.eval d = .slice (some ⟨g, f, none⟩) dl dc) (hsv : a.eval s = .slice A m c) (hs : Hs w B A m l) (C : List Value) (hb : Blk w g 62 C) (hm : m ≤ dl) (hf : f + m ≤ C.length)
    (h : ∀ w', Blk w' g 62 (C.take f ++ vhs l ++ C.drop (f + m)) → Upd g w w' → wpList Tryz.prog ops Q rest (a.put o.dst (goInt m)) w') : wpList Tryz.prog ops Q (o :: rest) a w := by
  refine wpList_plain hgd fun K hK => ?_
  obtain ⟨w', hrun, h2, h3⟩ := run_copyH w o.type g f dl dc A m c l B hs C hb hm hf
  unfold Oper.wp execOp
  simp only [ho, resolve, invoke, builtin, Sem.run_bind, Sem.run_pure, Result.andThen_ok, List.map_toArray, List.map_cons, List.map_nil, hd, hsv, hrun]
  exact hK _ _ (h w' h2 h3)
end Go.Proofs.YtcepigekibidfaaGreatDoor
namespace Go.Proofs.YtcepigekibidfaaGreatDoor
open Go.RowKit

theorem Pco.gen {R : Option (List Nat)} {w w' : World} {e : Ending} (h : Pco R w e w') : ∃ v b, e = .returned (.tuple #[v, .bool b]) ∧ Below w.heap.size w w' := by
  cases R with
  | none =>
    obtain ⟨v, rfl, hb⟩ := h
    exact ⟨v, false, rfl, hb⟩
  | some r =>
    obtain ⟨A, c, rfl, _, _, hb⟩ := h
    exact ⟨_, true, rfl, hb⟩
theorem cut_len (l s : List UInt8) : (Lib.cut l s).1.length ≤ l.length ∧ (Lib.cut l s).2.1.length ≤ l.length := by
  unfold Lib.cut
  split
  · constructor
    · simp
      omega
    · simp
  · simp
theorem cut_any (l : List UInt8) (w : World) (hl : l.length ≤ 10000000) (hm : ∃ m, w.cell? ⟨0, 0, none⟩ = some (.int .i64 m)) :
    Calls Tryz.prog 31 #[.string (str l), .string ⟨#[58, 58]⟩] w fun e w' => e = .returned (.tuple #[.string (str (Lib.cut l [58, 58]).1), .string (str (Lib.cut l [58, 58]).2.1), .bool (Lib.cut l [58, 58]).2.2]) ∧ ∃ n, w' = w.drewN n := by
  obtain ⟨m, hm⟩ := hm
  exact Tryz.strings_Cut (str l) ⟨#[58, 58]⟩ m w (by rw [str_size]; omega) hm
theorem below_drewN (w : World) (n : Nat) : Below w.heap.size w (w.drewN n) := ⟨rfl, rfl, rfl, Nat.le_refl _, fun _ _ => rfl⟩
theorem cells_done (f b : List Nat) (o : Nat) (h : f.length + b.length ≤ 8) (ho : b.length = 0 ∨ o = 8 - b.length) :
    ((vhs zero8).take 0 ++ vhs f ++ (vhs zero8).drop (0 + f.length)).take o ++ vhs b ++ ((vhs zero8).take 0 ++ vhs f ++ (vhs zero8).drop (0 + f.length)).drop (o + b.length) = vhs (f ++ List.replicate (8 - f.length - b.length) 0 ++ b) := by
  have hz : vhs zero8 = List.replicate 8 (vh 0) := rfl
  have e1 : (vhs zero8).take 0 ++ vhs f ++ (vhs zero8).drop (0 + f.length) = vhs f ++ List.replicate (8 - f.length) (vh 0) := by
    rw [hz, List.take_zero, List.nil_append, Nat.zero_add, List.drop_replicate]
  rw [e1]
  rcases ho with ho | ho
  · have hb : b = [] := List.eq_nil_of_length_eq_zero ho
    subst hb
    have e2 : vhs [] = [] := rfl
    rw [e2]
    simp [vhs]
  · subst ho
    have hfl : (vhs f).length = f.length := Hs_len f
    rw [List.take_append, List.drop_eq_nil_of_le (by simp [hfl]; omega), List.take_of_length_le (by rw [hfl]; omega), hfl]
    simp [vhs]
    congr 1
    omega
theorem pco_none {w w' : World} {e : Ending} (h : Pco none w e w') : ∃ v, e = .returned (.tuple #[v, .bool false]) ∧ Below w.heap.size w w' := h
theorem pco_some {r : List Nat} {w w' : World} {e : Ending} (h : Pco (some r) w e w') : ∃ A c, e = .returned (.tuple #[.slice A r.length c, .bool true]) ∧ r.length ≤ c ∧ Hs w' w'.heap.size A r.length r ∧ Below w.heap.size w w' := h
theorem slice38' (w : World) (g q o d : Nat) (h : q ≤ 8) (ho : o = if 8 = q then 0 else q) (hd : d = 8 - q) : (Instr.sliceAt 62 (.pointer (some ⟨g, 0, none⟩)) (some (.int .i64 (q : Int))) none none).run Tryz.prog w = .ok (.slice (some ⟨g, o, none⟩) d d) w := by
  rw [ho, hd]
  exact slice38 w g q h

set_option maxHeartbeats 8000000 in
set_option maxRecDepth 100000 in
theorem six_any (l : List UInt8) (w : World) (hl : l.length ≤ 10000000) (ht : Tabs w) : Calls Tryz.prog 121 #[.string (str l)] w fun e w' => e = .returned (ip6V (ip6 l)) ∧ Below w.heap.size w w' := by
  have HT := Lib.hid ht
  clear ht
  have hR : ip6 l = (pcs (!(Lib.cut l [58, 58]).2.2) (Lib.cut l [58, 58]).1).bind fun f => (pcs (Lib.cut l [58, 58]).2.2 (Lib.cut l [58, 58]).2.1).bind fun b =>
    if f.length + b.length ≤ 8 ∧ (Lib.cut l [58, 58]).2.2 ≠ decide (f.length + b.length = 8) then some (f ++ List.replicate (8 - f.length - b.length) 0 ++ b) else none := rfl
  have hcl := cut_len l [58, 58]
  have HC : Hid (∀ w, (∃ m, w.cell? ⟨0, 0, none⟩ = some (.int .i64 m)) → Calls Tryz.prog 31 #[.string (str l), .string ⟨#[58, 58]⟩] w fun e w' => e = .returned (.tuple #[.string (str (Lib.cut l [58, 58]).1), .string (str (Lib.cut l [58, 58]).2.1), .bool (Lib.cut l [58, 58]).2.2]) ∧ ∃ n, w' = w.drewN n) := fun w hm => cut_any l w hl hm
  obtain ⟨H, hH⟩ : ∃ H, H = (Lib.cut l [58, 58]).1 := ⟨_, rfl⟩
  obtain ⟨T, hT⟩ : ∃ T, T = (Lib.cut l [58, 58]).2.1 := ⟨_, rfl⟩
  obtain ⟨gap, hgap⟩ : ∃ gap, gap = (Lib.cut l [58, 58]).2.2 := ⟨_, rfl⟩
  rw [← hH, ← hT] at HC hcl
  rw [← hgap] at HC
  rw [← hH, ← hT, ← hgap] at hR
  obtain ⟨R, hR'⟩ : ∃ R, R = ip6 l := ⟨_, rfl⟩
  rw [← hR'] at hR ⊢
  have hHl : H.length ≤ 10000000 := by omega
  have hTl : T.length ≤ 10000000 := by omega
  have HF : Hid (∀ w', Kept w w' → Calls Tryz.prog 151 #[.string (str H), .bool (!gap)] w' fun x w2 => Pco (pcs (!gap) H) w' x w2) := fun w' hk => pieces_any H (!gap) w' hHl (HT.out.kp hk)
  have HG : Hid (∀ w', Kept w w' → Calls Tryz.prog 151 #[.string (str T), .bool gap] w' fun x w2 => Pco (pcs gap T) w' x w2) := fun w' hk => pieces_any T gap w' hTl (HT.out.kp hk)
  have hfl := pcs_len (!gap) H
  have hbl := pcs_len gap T
  clear hH hT hgap hR' hcl
  obtain ⟨fo', hfo⟩ : ∃ f, f = pcs (!gap) H := ⟨_, rfl⟩
  obtain ⟨bo, hbo⟩ : ∃ b, b = pcs gap T := ⟨_, rfl⟩
  rw [← hfo] at hR HF hfl
  rw [← hbo] at hR HG hbl
  clear hfo hbo
  cases fo' with
  | none =>
    have hR2 : Hid (R = none) := hR
    clear hR hfl hbl
    cases gap with
    | true =>
      have HF : Hid (∀ w', Kept w w' → Calls Tryz.prog 151 #[.string (str H), .bool false] w' fun x w2 => Pco none w' x w2) := HF.out
      go_enter Tryz.func121, Tryz.ntmps121
      go_wp2_with (first
        | ((with_reducible show wpList _ _ _ (⟨some 2, .alloc _, _, _, _, _⟩ :: _) _ _); refine wp_new _ rfl 62 rfl _ type38 ?_; intro w1 g2 B1 F1; simp only [Act.put, List.setIfInBounds_toArray, List.set_cons_zero, List.set_cons_succ]; have hk1 := kept_of F1.below; have HM := len_of (HT.out.kp hk1))
        | (go_at_call 31; with_reducible refine (HC.out w1 HM).mono ?_; rintro x w2 ⟨rfl, nn, hw2⟩; have hb2 := below_drewN w1 nn; rw [← hw2] at hb2; have hk2 := hk1.step hb2; have B2 := B1.kept hb2; clear hw2)
        | (go_at_call 151; first | (with_reducible refine (HF.out w2 hk2).mono ?_; rintro x w3 hf3; obtain ⟨v3, rfl, hb3⟩ := pco_none hf3; have hk3 := hk2.step hb3; have B3 := B2.kept hb3) | (with_reducible refine (HG.out w3 hk3).mono ?_; rintro x w4 hf4; obtain ⟨v4, b4, rfl, hb4⟩ := hf4.gen; have hk4 := hk3.step hb4; have B4 := B3.kept hb4))
        | ((with_reducible show wpList _ _ _ (⟨some 38, .build _ _, _, _, _, _⟩ :: _) _ _); refine wp_build0 _ rfl 62 rfl _ (build38 _) ?_; simp only [Act.put, List.setIfInBounds_toArray, List.set_cons_zero, List.set_cons_succ])
        | ((with_reducible show wpList _ _ _ (⟨none, .store 62 (.tmp 2) _, _, _, _, _⟩ :: _) _ _); refine wp_putAll _ rfl 62 (.tmp 2) (.tmp 38) rfl g2 62 _ (vhs zero8) rfl rfl B4 rfl size38 (Hs_one _) ?_; intro w9 B9 U9; simp only [Act.put]))
      refine ret_cell2 2 3 62 rfl g2 (vhs zero8) _ rfl B9.whole Tryz.underlying62 rfl size38 rfl (.int .i64 7) rfl ⟨?_, ?_⟩
      · rw [hR2.out]
        rfl
      · exact hk4.base (U9.below (Nat.le_of_eq F1.is.symm))
    | false =>
      have HF : Hid (∀ w', Kept w w' → Calls Tryz.prog 151 #[.string (str H), .bool true] w' fun x w2 => Pco none w' x w2) := HF.out
      go_enter Tryz.func121, Tryz.ntmps121
      go_wp2_with (first
        | ((with_reducible show wpList _ _ _ (⟨some 2, .alloc _, _, _, _, _⟩ :: _) _ _); refine wp_new _ rfl 62 rfl _ type38 ?_; intro w1 g2 B1 F1; simp only [Act.put, List.setIfInBounds_toArray, List.set_cons_zero, List.set_cons_succ]; have hk1 := kept_of F1.below; have HM := len_of (HT.out.kp hk1))
        | (go_at_call 31; with_reducible refine (HC.out w1 HM).mono ?_; rintro x w2 ⟨rfl, nn, hw2⟩; have hb2 := below_drewN w1 nn; rw [← hw2] at hb2; have hk2 := hk1.step hb2; have B2 := B1.kept hb2; clear hw2)
        | (go_at_call 151; first | (with_reducible refine (HF.out w2 hk2).mono ?_; rintro x w3 hf3; obtain ⟨v3, rfl, hb3⟩ := pco_none hf3; have hk3 := hk2.step hb3; have B3 := B2.kept hb3) | (with_reducible refine (HG.out w3 hk3).mono ?_; rintro x w4 hf4; obtain ⟨v4, b4, rfl, hb4⟩ := hf4.gen; have hk4 := hk3.step hb4; have B4 := B3.kept hb4))
        | ((with_reducible show wpList _ _ _ (⟨some 38, .build _ _, _, _, _, _⟩ :: _) _ _); refine wp_build0 _ rfl 62 rfl _ (build38 _) ?_; simp only [Act.put, List.setIfInBounds_toArray, List.set_cons_zero, List.set_cons_succ])
        | ((with_reducible show wpList _ _ _ (⟨none, .store 62 (.tmp 2) _, _, _, _, _⟩ :: _) _ _); refine wp_putAll _ rfl 62 (.tmp 2) (.tmp 38) rfl g2 62 _ (vhs zero8) rfl rfl B4 rfl size38 (Hs_one _) ?_; intro w9 B9 U9; simp only [Act.put]))
      refine ret_cell2 2 3 62 rfl g2 (vhs zero8) _ rfl B9.whole Tryz.underlying62 rfl size38 rfl (.int .i64 7) rfl ⟨?_, ?_⟩
      · rw [hR2.out]
        rfl
      · exact hk4.base (U9.below (Nat.le_of_eq F1.is.symm))
  | some f =>
    cases bo with
    | none =>
      have hR2 : Hid (R = none) := hR
      clear hR hfl hbl
      cases gap with
      | true =>
        have HF : Hid (∀ w', Kept w w' → Calls Tryz.prog 151 #[.string (str H), .bool false] w' fun x w2 => Pco (some f) w' x w2) := HF.out
        go_enter Tryz.func121, Tryz.ntmps121
        go_wp2_with (first
          | ((with_reducible show wpList _ _ _ (⟨some 2, .alloc _, _, _, _, _⟩ :: _) _ _); refine wp_new _ rfl 62 rfl _ type38 ?_; intro w1 g2 B1 F1; simp only [Act.put, List.setIfInBounds_toArray, List.set_cons_zero, List.set_cons_succ]; have hk1 := kept_of F1.below; have HM := len_of (HT.out.kp hk1))
          | (go_at_call 31; with_reducible refine (HC.out w1 HM).mono ?_; rintro x w2 ⟨rfl, nn, hw2⟩; have hb2 := below_drewN w1 nn; rw [← hw2] at hb2; have hk2 := hk1.step hb2; have B2 := B1.kept hb2; clear hw2)
          | (go_at_call 151; first | (with_reducible refine (HF.out w2 hk2).mono ?_; rintro x w3 hf3; obtain ⟨A3, c3, rfl, hc3, hs3, hb3⟩ := pco_some hf3; have hk3 := hk2.step hb3; have B3 := B2.kept hb3) | (with_reducible refine (HG.out w3 hk3).mono ?_; rintro x w4 hf4; obtain ⟨v4, rfl, hb4⟩ := pco_none hf4; have hk4 := hk3.step hb4; have B4 := B3.kept hb4))
          | ((with_reducible show wpList _ _ _ (⟨some 38, .build _ _, _, _, _, _⟩ :: _) _ _); refine wp_build0 _ rfl 62 rfl _ (build38 _) ?_; simp only [Act.put, List.setIfInBounds_toArray, List.set_cons_zero, List.set_cons_succ])
          | ((with_reducible show wpList _ _ _ (⟨none, .store 62 (.tmp 2) _, _, _, _, _⟩ :: _) _ _); refine wp_putAll _ rfl 62 (.tmp 2) (.tmp 38) rfl g2 62 _ (vhs zero8) rfl rfl B4 rfl size38 (Hs_one _) ?_; intro w9 B9 U9; simp only [Act.put]))
        refine ret_cell2 2 3 62 rfl g2 (vhs zero8) _ rfl B9.whole Tryz.underlying62 rfl size38 rfl (.int .i64 7) rfl ⟨?_, ?_⟩
        · rw [hR2.out]
          rfl
        · exact hk4.base (U9.below (Nat.le_of_eq F1.is.symm))
      | false =>
        have HF : Hid (∀ w', Kept w w' → Calls Tryz.prog 151 #[.string (str H), .bool true] w' fun x w2 => Pco (some f) w' x w2) := HF.out
        go_enter Tryz.func121, Tryz.ntmps121
        go_wp2_with (first
          | ((with_reducible show wpList _ _ _ (⟨some 2, .alloc _, _, _, _, _⟩ :: _) _ _); refine wp_new _ rfl 62 rfl _ type38 ?_; intro w1 g2 B1 F1; simp only [Act.put, List.setIfInBounds_toArray, List.set_cons_zero, List.set_cons_succ]; have hk1 := kept_of F1.below; have HM := len_of (HT.out.kp hk1))
          | (go_at_call 31; with_reducible refine (HC.out w1 HM).mono ?_; rintro x w2 ⟨rfl, nn, hw2⟩; have hb2 := below_drewN w1 nn; rw [← hw2] at hb2; have hk2 := hk1.step hb2; have B2 := B1.kept hb2; clear hw2)
          | (go_at_call 151; first | (with_reducible refine (HF.out w2 hk2).mono ?_; rintro x w3 hf3; obtain ⟨A3, c3, rfl, hc3, hs3, hb3⟩ := pco_some hf3; have hk3 := hk2.step hb3; have B3 := B2.kept hb3) | (with_reducible refine (HG.out w3 hk3).mono ?_; rintro x w4 hf4; obtain ⟨v4, rfl, hb4⟩ := pco_none hf4; have hk4 := hk3.step hb4; have B4 := B3.kept hb4))
          | ((with_reducible show wpList _ _ _ (⟨some 38, .build _ _, _, _, _, _⟩ :: _) _ _); refine wp_build0 _ rfl 62 rfl _ (build38 _) ?_; simp only [Act.put, List.setIfInBounds_toArray, List.set_cons_zero, List.set_cons_succ])
          | ((with_reducible show wpList _ _ _ (⟨none, .store 62 (.tmp 2) _, _, _, _, _⟩ :: _) _ _); refine wp_putAll _ rfl 62 (.tmp 2) (.tmp 38) rfl g2 62 _ (vhs zero8) rfl rfl B4 rfl size38 (Hs_one _) ?_; intro w9 B9 U9; simp only [Act.put]))
        refine ret_cell2 2 3 62 rfl g2 (vhs zero8) _ rfl B9.whole Tryz.underlying62 rfl size38 rfl (.int .i64 7) rfl ⟨?_, ?_⟩
        · rw [hR2.out]
          rfl
        · exact hk4.base (U9.below (Nat.le_of_eq F1.is.symm))
    | some b =>
      have hf9 := (hfl f rfl).1
      have hb9 := (hbl b rfl).1
      have hR : R = if f.length + b.length ≤ 8 ∧ gap ≠ decide (f.length + b.length = 8) then some (f ++ List.replicate (8 - f.length - b.length) 0 ++ b) else none := hR
      obtain ⟨fl, hfl'⟩ : ∃ n, n = f.length := ⟨_, rfl⟩
      obtain ⟨bl, hbl'⟩ : ∃ n, n = b.length := ⟨_, rfl⟩
      have hF3 : Hid (∀ {w w' : World} {e : Ending}, Pco (some f) w e w' → ∃ A c, e = .returned (.tuple #[.slice A fl c, .bool true]) ∧ fl ≤ c ∧ Hs w' w'.heap.size A fl f ∧ Below w.heap.size w w') := fun h => by rw [hfl']; exact h
      have hF4 : Hid (∀ {w w' : World} {e : Ending}, Pco (some b) w e w' → ∃ A c, e = .returned (.tuple #[.slice A bl c, .bool true]) ∧ bl ≤ c ∧ Hs w' w'.heap.size A bl b ∧ Below w.heap.size w w') := fun h => by rw [hbl']; exact h
      rw [← hfl'] at hR hf9
      rw [← hbl'] at hR hb9
      have HL := Lib.hid (And.intro hfl' hbl')
      have hfl9 : fl ≤ 10000002 := by omega
      have hbl9 : bl ≤ 10000002 := by omega
      clear hfl hbl hfl' hbl' hf9 hb9
      by_cases h8 : fl + bl ≤ 8
      · obtain ⟨m, hm⟩ : ∃ m, m = 8 - fl - bl := ⟨_, rfl⟩
        have hmi : (8 : Int) - (fl : Int) - (bl : Int) = (m : Int) := by omega
        have hm0 : decide ((m : Int) < 0) = false := by simp
        have hdm : Hid (decide (fl + bl = 8) = decide (m = 0)) := by
          show _ = _
          rw [Bool.eq_iff_iff]
          simp
          omega
        by_cases hg : gap = decide (m = 0)
        · have hR2 : Hid (R = none) := by show _ = _; rw [hR, if_neg (by rw [hdm.out]; exact fun h => h.2 hg)]
          clear hR hdm
          cases gap with
          | true =>
            have hm1 : ((m : Int) == 0) = true := by have : m = 0 := by simpa using hg.symm
                                                     simp [this]
            have HMm := Lib.hid hm
            clear hg hm
            have HF : Hid (∀ w', Kept w w' → Calls Tryz.prog 151 #[.string (str H), .bool false] w' fun x w2 => Pco (some f) w' x w2) := HF.out
            go_enter Tryz.func121, Tryz.ntmps121
            go_wp2_with (first
              | ((with_reducible show wpList _ _ _ (⟨some 2, .alloc _, _, _, _, _⟩ :: _) _ _); refine wp_new _ rfl 62 rfl _ type38 ?_; intro w1 g2 B1 F1; simp only [Act.put, List.setIfInBounds_toArray, List.set_cons_zero, List.set_cons_succ]; have hk1 := kept_of F1.below; have HM := len_of (HT.out.kp hk1))
              | (go_at_call 31; with_reducible refine (HC.out w1 HM).mono ?_; rintro x w2 ⟨rfl, nn, hw2⟩; have hb2 := below_drewN w1 nn; rw [← hw2] at hb2; have hk2 := hk1.step hb2; have B2 := B1.kept hb2; clear hw2)
              | (go_at_call 151; first | (with_reducible refine (HF.out w2 hk2).mono ?_; rintro x w3 hf3; obtain ⟨A3, c3, rfl, hc3, hs3, hb3⟩ := hF3.out hf3; have hk3 := hk2.step hb3; have B3 := B2.kept hb3) | (with_reducible refine (HG.out w3 hk3).mono ?_; rintro x w4 hf4; obtain ⟨A4, c4, rfl, hc4, hs4, hb4⟩ := hF4.out hf4; have hk4 := hk3.step hb4; have B4 := B3.kept hb4; have hs34 := hs3.below hb4; have HSz := Lib.hid hb4.size))
              | ((with_reducible show wpList _ _ _ (⟨some 53, .build _ _, _, _, _, _⟩ :: _) _ _); refine wp_build0 _ rfl 62 rfl _ (build38 _) ?_; simp only [Act.put, List.setIfInBounds_toArray, List.set_cons_zero, List.set_cons_succ])
              | ((with_reducible show wpList _ _ _ (⟨none, .store 62 (.tmp 2) _, _, _, _, _⟩ :: _) _ _); refine wp_putAll _ rfl 62 (.tmp 2) (.tmp 53) rfl g2 62 _ (vhs zero8) rfl rfl B4 rfl size38 (Hs_one _) ?_; intro w9 B9 U9; simp only [Act.put]))
            refine ret_cell2 2 3 62 rfl g2 (vhs zero8) _ rfl B9.whole Tryz.underlying62 rfl size38 rfl (.int .i64 7) rfl ⟨?_, ?_⟩
            · rw [hR2.out]
              rfl
            · exact hk4.base (U9.below (Nat.le_of_eq F1.is.symm))
          | false =>
            have hm1 : ((m : Int) == 0) = false := by have : m ≠ 0 := by simpa using hg.symm
                                                      simp
                                                      omega
            have HMm := Lib.hid hm
            clear hg hm
            have HF : Hid (∀ w', Kept w w' → Calls Tryz.prog 151 #[.string (str H), .bool true] w' fun x w2 => Pco (some f) w' x w2) := HF.out
            go_enter Tryz.func121, Tryz.ntmps121
            go_wp2_with (first
              | ((with_reducible show wpList _ _ _ (⟨some 2, .alloc _, _, _, _, _⟩ :: _) _ _); refine wp_new _ rfl 62 rfl _ type38 ?_; intro w1 g2 B1 F1; simp only [Act.put, List.setIfInBounds_toArray, List.set_cons_zero, List.set_cons_succ]; have hk1 := kept_of F1.below; have HM := len_of (HT.out.kp hk1))
              | (go_at_call 31; with_reducible refine (HC.out w1 HM).mono ?_; rintro x w2 ⟨rfl, nn, hw2⟩; have hb2 := below_drewN w1 nn; rw [← hw2] at hb2; have hk2 := hk1.step hb2; have B2 := B1.kept hb2; clear hw2)
              | (go_at_call 151; first | (with_reducible refine (HF.out w2 hk2).mono ?_; rintro x w3 hf3; obtain ⟨A3, c3, rfl, hc3, hs3, hb3⟩ := hF3.out hf3; have hk3 := hk2.step hb3; have B3 := B2.kept hb3) | (with_reducible refine (HG.out w3 hk3).mono ?_; rintro x w4 hf4; obtain ⟨A4, c4, rfl, hc4, hs4, hb4⟩ := hF4.out hf4; have hk4 := hk3.step hb4; have B4 := B3.kept hb4; have hs34 := hs3.below hb4; have HSz := Lib.hid hb4.size))
              | ((with_reducible show wpList _ _ _ (⟨some 53, .build _ _, _, _, _, _⟩ :: _) _ _); refine wp_build0 _ rfl 62 rfl _ (build38 _) ?_; simp only [Act.put, List.setIfInBounds_toArray, List.set_cons_zero, List.set_cons_succ])
              | ((with_reducible show wpList _ _ _ (⟨none, .store 62 (.tmp 2) _, _, _, _, _⟩ :: _) _ _); refine wp_putAll _ rfl 62 (.tmp 2) (.tmp 53) rfl g2 62 _ (vhs zero8) rfl rfl B4 rfl size38 (Hs_one _) ?_; intro w9 B9 U9; simp only [Act.put]))
            refine ret_cell2 2 3 62 rfl g2 (vhs zero8) _ rfl B9.whole Tryz.underlying62 rfl size38 rfl (.int .i64 7) rfl ⟨?_, ?_⟩
            · rw [hR2.out]
              rfl
            · exact hk4.base (U9.below (Nat.le_of_eq F1.is.symm))
        · have hR2 : Hid (R = some (f ++ List.replicate (8 - fl - bl) 0 ++ b)) := by show _ = _; rw [hR, if_pos ⟨h8, by rw [hdm.out]; exact hg⟩]
          clear hR hdm
          obtain ⟨q, hq⟩ : ∃ q, q = 8 - bl := ⟨_, rfl⟩
          have hqi : (8 : Int) - (bl : Int) = (q : Int) := by omega
          obtain ⟨o, ho⟩ : ∃ o, o = if 8 = q then 0 else q := ⟨_, rfl⟩
          have hsl : ∀ (w' : World) (g : Nat), (Instr.sliceAt 62 (.pointer (some ⟨g, 0, none⟩)) (some (.int .i64 (q : Int))) none none).run Tryz.prog w' = .ok (.slice (some ⟨g, o, none⟩) bl bl) w' := fun w' g => slice38' w' g q o bl (by omega) ho (by omega)
          have hob : o + bl ≤ 8 := by rw [ho]; split <;> omega
          have hor : Hid (b.length = 0 ∨ o = 8 - b.length) := by
            show _ ∨ _
            rw [← HL.out.2, ho]
            split
            · left; omega
            · right; omega
          have hc1 : Hid (0 + fl ≤ (vhs zero8).length) := by show _ ≤ _; have : (vhs zero8).length = 8 := rfl; omega
          have hc2 : Hid (o + bl ≤ ((vhs zero8).take 0 ++ vhs f ++ (vhs zero8).drop (0 + fl)).length) := by
            show _ ≤ _
            have h1 : (vhs zero8).length = 8 := rfl
            have h2 : (vhs f).length = fl := by rw [Hs_len, HL.out.1]
            simp [h1, h2]
            omega
          have hfin : Hid (((vhs zero8).take 0 ++ vhs f ++ (vhs zero8).drop (0 + fl)).take o ++ vhs b ++ ((vhs zero8).take 0 ++ vhs f ++ (vhs zero8).drop (0 + fl)).drop (o + bl) = vhs (f ++ List.replicate (8 - fl - bl) 0 ++ b)) := by
            show _ = _
            rw [HL.out.1, HL.out.2]
            exact cells_done f b o (by rw [← HL.out.1, ← HL.out.2]; exact h8) hor.out
          obtain ⟨Y, hY⟩ : ∃ Y, Y = f ++ List.replicate (8 - fl - bl) 0 ++ b := ⟨_, rfl⟩
          rw [← hY] at hR2 hfin
          have hYl : Y.length = 8 := by
            rw [hY]
            have h1 := HL.out.1
            have h2 := HL.out.2
            simp
            omega
          have hs38 := Lib.hid (size38' Y hYl)
          have hYz : Hid ((vhs Y).length = (vhs zero8).length) := by show _ = _; rw [Hs_len, hYl]; rfl
          have hfl8 : fl ≤ 8 := by omega
          have HQ := Lib.hid (And.intro hq (And.intro ho hm))
          clear hq ho hm hY hYl hor h8
          cases gap with
          | true =>
            have hm1 : ((m : Int) == 0) = false := by have : m ≠ 0 := by simpa using hg
                                                      simp
                                                      omega
            clear hg
            have HF : Hid (∀ w', Kept w w' → Calls Tryz.prog 151 #[.string (str H), .bool false] w' fun x w2 => Pco (some f) w' x w2) := HF.out
            go_enter Tryz.func121, Tryz.ntmps121
            go_wp2_with (first
              | ((with_reducible show wpList _ _ _ (⟨some 2, .alloc _, _, _, _, _⟩ :: _) _ _); refine wp_new _ rfl 62 rfl _ type38 ?_; intro w1 g2 B1 F1; simp only [Act.put, List.setIfInBounds_toArray, List.set_cons_zero, List.set_cons_succ]; have hk1 := kept_of F1.below; have HM := len_of (HT.out.kp hk1))
              | (go_at_call 31; with_reducible refine (HC.out w1 HM).mono ?_; rintro x w2 ⟨rfl, nn, hw2⟩; have hb2 := below_drewN w1 nn; rw [← hw2] at hb2; have hk2 := hk1.step hb2; have B2 := B1.kept hb2; clear hw2)
              | (go_at_call 151; first | (with_reducible refine (HF.out w2 hk2).mono ?_; rintro x w3 hf3; obtain ⟨A3, c3, rfl, hc3, hs3, hb3⟩ := hF3.out hf3; have hk3 := hk2.step hb3; have B3 := B2.kept hb3) | (with_reducible refine (HG.out w3 hk3).mono ?_; rintro x w4 hf4; obtain ⟨A4, c4, rfl, hc4, hs4, hb4⟩ := hF4.out hf4; have hk4 := hk3.step hb4; have B4 := B3.kept hb4; have hs34 := hs3.below hb4; have HSz := Lib.hid hb4.size))
              | ((with_reducible show wpList _ _ _ (⟨some 54, .build _ _, _, _, _, _⟩ :: _) _ _); refine wp_build0 _ rfl 62 rfl _ (build38 _) ?_; simp only [Act.put, List.setIfInBounds_toArray, List.set_cons_zero, List.set_cons_succ])
              | ((with_reducible show wpList _ _ _ (⟨some 12, .alloc _, _, _, _, _⟩ :: _) _ _); refine wp_new _ rfl 62 rfl _ type38 ?_; intro w5 g5 B5 F5; simp only [Act.put, List.setIfInBounds_toArray, List.set_cons_zero, List.set_cons_succ]; have hg5 := Lib.hid F5.is)
              | ((with_reducible show wpList _ _ _ (⟨none, .store 62 (.tmp 12) _, _, _, _, _⟩ :: _) _ _); refine wp_putAll _ rfl 62 (.tmp 12) (.tmp 54) rfl g5 62 _ (vhs zero8) rfl rfl B5 rfl size38 (Hs_one _) ?_; intro w6 B6 U6; simp only [Act.put]; have hb46 := F5.below.trans (U6.below (Nat.le_of_eq hg5.out.symm)); have hs6 := (hs34.more HSz.out).below hb46; have ht6 := hs4.below hb46; have hsa := slice38a)
              | ((with_reducible show wpList _ _ _ (⟨some 57, .call _, _, _, _, _⟩ :: _) _ _); refine wp_copyH _ rfl (.tmp 55) (.tmp 56) rfl g5 0 8 8 _ fl _ f _ rfl rfl hs6 _ B6 hfl8 hc1.out ?_; intro w7 B7 U7; simp only [Act.put, List.setIfInBounds_toArray, List.set_cons_zero, List.set_cons_succ]; have ht7 := ht6.below (U7.below (Nat.le_of_eq hg5.out.symm)))
              | ((with_reducible show wpList _ _ _ (⟨some 63, .call _, _, _, _, _⟩ :: _) _ _); refine wp_copyH _ rfl (.tmp 61) (.tmp 62) rfl g5 o bl bl _ bl _ b _ rfl rfl ht7 _ B7 (Nat.le_refl _) hc2.out ?_; intro w8 B8 U8; simp only [Act.put, List.setIfInBounds_toArray, List.set_cons_zero, List.set_cons_succ]; have hb8 := hb46.trans ((U7.trans U8).below (Nat.le_of_eq hg5.out.symm)); have B48 := B4.kept hb8; have hk8 := hk4.step hb8; rw [hfin.out] at B8)
              | ((with_reducible show wpList _ _ _ (⟨some 64, .load 62 _, _, _, _, _⟩ :: _) _ _); refine wp_get _ rfl 62 (.tmp 12) rfl g5 0 (vhs Y) _ rfl B8.whole Tryz.underlying62 rfl hs38.out ?_; simp only [Act.put, List.setIfInBounds_toArray, List.set_cons_zero, List.set_cons_succ])
              | ((with_reducible show wpList _ _ _ (⟨none, .store 62 (.tmp 2) _, _, _, _, _⟩ :: _) _ _); refine wp_putAll _ rfl 62 (.tmp 2) (.tmp 64) rfl g2 62 _ (vhs Y) rfl rfl B48 hYz.out hs38.out (Hs_one _) ?_; intro w9 B9 U9; simp only [Act.put]))
            refine ret_cell2 2 3 62 rfl g2 (vhs Y) _ rfl B9.whole Tryz.underlying62 rfl hs38.out rfl (.int .i64 0) rfl ⟨?_, ?_⟩
            · rw [hR2.out]
              rfl
            · exact hk8.base (U9.below (Nat.le_of_eq F1.is.symm))
          | false =>
            have hm1 : ((m : Int) == 0) = true := by have : m = 0 := by simpa using hg
                                                     simp [this]
            clear hg
            have HF : Hid (∀ w', Kept w w' → Calls Tryz.prog 151 #[.string (str H), .bool true] w' fun x w2 => Pco (some f) w' x w2) := HF.out
            go_enter Tryz.func121, Tryz.ntmps121
            go_wp2_with (first
              | ((with_reducible show wpList _ _ _ (⟨some 2, .alloc _, _, _, _, _⟩ :: _) _ _); refine wp_new _ rfl 62 rfl _ type38 ?_; intro w1 g2 B1 F1; simp only [Act.put, List.setIfInBounds_toArray, List.set_cons_zero, List.set_cons_succ]; have hk1 := kept_of F1.below; have HM := len_of (HT.out.kp hk1))
              | (go_at_call 31; with_reducible refine (HC.out w1 HM).mono ?_; rintro x w2 ⟨rfl, nn, hw2⟩; have hb2 := below_drewN w1 nn; rw [← hw2] at hb2; have hk2 := hk1.step hb2; have B2 := B1.kept hb2; clear hw2)
              | (go_at_call 151; first | (with_reducible refine (HF.out w2 hk2).mono ?_; rintro x w3 hf3; obtain ⟨A3, c3, rfl, hc3, hs3, hb3⟩ := hF3.out hf3; have hk3 := hk2.step hb3; have B3 := B2.kept hb3) | (with_reducible refine (HG.out w3 hk3).mono ?_; rintro x w4 hf4; obtain ⟨A4, c4, rfl, hc4, hs4, hb4⟩ := hF4.out hf4; have hk4 := hk3.step hb4; have B4 := B3.kept hb4; have hs34 := hs3.below hb4; have HSz := Lib.hid hb4.size))
              | ((with_reducible show wpList _ _ _ (⟨some 54, .build _ _, _, _, _, _⟩ :: _) _ _); refine wp_build0 _ rfl 62 rfl _ (build38 _) ?_; simp only [Act.put, List.setIfInBounds_toArray, List.set_cons_zero, List.set_cons_succ])
              | ((with_reducible show wpList _ _ _ (⟨some 12, .alloc _, _, _, _, _⟩ :: _) _ _); refine wp_new _ rfl 62 rfl _ type38 ?_; intro w5 g5 B5 F5; simp only [Act.put, List.setIfInBounds_toArray, List.set_cons_zero, List.set_cons_succ]; have hg5 := Lib.hid F5.is)
              | ((with_reducible show wpList _ _ _ (⟨none, .store 62 (.tmp 12) _, _, _, _, _⟩ :: _) _ _); refine wp_putAll _ rfl 62 (.tmp 12) (.tmp 54) rfl g5 62 _ (vhs zero8) rfl rfl B5 rfl size38 (Hs_one _) ?_; intro w6 B6 U6; simp only [Act.put]; have hb46 := F5.below.trans (U6.below (Nat.le_of_eq hg5.out.symm)); have hs6 := (hs34.more HSz.out).below hb46; have ht6 := hs4.below hb46; have hsa := slice38a)
              | ((with_reducible show wpList _ _ _ (⟨some 57, .call _, _, _, _, _⟩ :: _) _ _); refine wp_copyH _ rfl (.tmp 55) (.tmp 56) rfl g5 0 8 8 _ fl _ f _ rfl rfl hs6 _ B6 hfl8 hc1.out ?_; intro w7 B7 U7; simp only [Act.put, List.setIfInBounds_toArray, List.set_cons_zero, List.set_cons_succ]; have ht7 := ht6.below (U7.below (Nat.le_of_eq hg5.out.symm)))
              | ((with_reducible show wpList _ _ _ (⟨some 63, .call _, _, _, _, _⟩ :: _) _ _); refine wp_copyH _ rfl (.tmp 61) (.tmp 62) rfl g5 o bl bl _ bl _ b _ rfl rfl ht7 _ B7 (Nat.le_refl _) hc2.out ?_; intro w8 B8 U8; simp only [Act.put, List.setIfInBounds_toArray, List.set_cons_zero, List.set_cons_succ]; have hb8 := hb46.trans ((U7.trans U8).below (Nat.le_of_eq hg5.out.symm)); have B48 := B4.kept hb8; have hk8 := hk4.step hb8; rw [hfin.out] at B8)
              | ((with_reducible show wpList _ _ _ (⟨some 64, .load 62 _, _, _, _, _⟩ :: _) _ _); refine wp_get _ rfl 62 (.tmp 12) rfl g5 0 (vhs Y) _ rfl B8.whole Tryz.underlying62 rfl hs38.out ?_; simp only [Act.put, List.setIfInBounds_toArray, List.set_cons_zero, List.set_cons_succ])
              | ((with_reducible show wpList _ _ _ (⟨none, .store 62 (.tmp 2) _, _, _, _, _⟩ :: _) _ _); refine wp_putAll _ rfl 62 (.tmp 2) (.tmp 64) rfl g2 62 _ (vhs Y) rfl rfl B48 hYz.out hs38.out (Hs_one _) ?_; intro w9 B9 U9; simp only [Act.put]))
            refine ret_cell2 2 3 62 rfl g2 (vhs Y) _ rfl B9.whole Tryz.underlying62 rfl hs38.out rfl (.int .i64 0) rfl ⟨?_, ?_⟩
            · rw [hR2.out]
              rfl
            · exact hk8.base (U9.below (Nat.le_of_eq F1.is.symm))
      · have hR2 : Hid (R = none) := by show _ = _; rw [hR, if_neg (fun h => h8 h.1)]
        have hneg : decide ((8 : Int) - (fl : Int) - (bl : Int) < 0) = true := by simp; omega
        clear hR
        cases gap with
        | true =>
          have HF : Hid (∀ w', Kept w w' → Calls Tryz.prog 151 #[.string (str H), .bool false] w' fun x w2 => Pco (some f) w' x w2) := HF.out
          go_enter Tryz.func121, Tryz.ntmps121
          go_wp2_with (first
            | ((with_reducible show wpList _ _ _ (⟨some 2, .alloc _, _, _, _, _⟩ :: _) _ _); refine wp_new _ rfl 62 rfl _ type38 ?_; intro w1 g2 B1 F1; simp only [Act.put, List.setIfInBounds_toArray, List.set_cons_zero, List.set_cons_succ]; have hk1 := kept_of F1.below; have HM := len_of (HT.out.kp hk1))
            | (go_at_call 31; with_reducible refine (HC.out w1 HM).mono ?_; rintro x w2 ⟨rfl, nn, hw2⟩; have hb2 := below_drewN w1 nn; rw [← hw2] at hb2; have hk2 := hk1.step hb2; have B2 := B1.kept hb2; clear hw2)
            | (go_at_call 151; first | (with_reducible refine (HF.out w2 hk2).mono ?_; rintro x w3 hf3; obtain ⟨A3, c3, rfl, hc3, hs3, hb3⟩ := hF3.out hf3; have hk3 := hk2.step hb3; have B3 := B2.kept hb3) | (with_reducible refine (HG.out w3 hk3).mono ?_; rintro x w4 hf4; obtain ⟨A4, c4, rfl, hc4, hs4, hb4⟩ := hF4.out hf4; have hk4 := hk3.step hb4; have B4 := B3.kept hb4; have hs34 := hs3.below hb4; have HSz := Lib.hid hb4.size))
            | ((with_reducible show wpList _ _ _ (⟨some 53, .build _ _, _, _, _, _⟩ :: _) _ _); refine wp_build0 _ rfl 62 rfl _ (build38 _) ?_; simp only [Act.put, List.setIfInBounds_toArray, List.set_cons_zero, List.set_cons_succ])
            | ((with_reducible show wpList _ _ _ (⟨none, .store 62 (.tmp 2) _, _, _, _, _⟩ :: _) _ _); refine wp_putAll _ rfl 62 (.tmp 2) (.tmp 53) rfl g2 62 _ (vhs zero8) rfl rfl B4 rfl size38 (Hs_one _) ?_; intro w9 B9 U9; simp only [Act.put]))
          refine ret_cell2 2 3 62 rfl g2 (vhs zero8) _ rfl B9.whole Tryz.underlying62 rfl size38 rfl (.int .i64 7) rfl ⟨?_, ?_⟩
          · rw [hR2.out]
            rfl
          · exact hk4.base (U9.below (Nat.le_of_eq F1.is.symm))
        | false =>
          have HF : Hid (∀ w', Kept w w' → Calls Tryz.prog 151 #[.string (str H), .bool true] w' fun x w2 => Pco (some f) w' x w2) := HF.out
          go_enter Tryz.func121, Tryz.ntmps121
          go_wp2_with (first
            | ((with_reducible show wpList _ _ _ (⟨some 2, .alloc _, _, _, _, _⟩ :: _) _ _); refine wp_new _ rfl 62 rfl _ type38 ?_; intro w1 g2 B1 F1; simp only [Act.put, List.setIfInBounds_toArray, List.set_cons_zero, List.set_cons_succ]; have hk1 := kept_of F1.below; have HM := len_of (HT.out.kp hk1))
            | (go_at_call 31; with_reducible refine (HC.out w1 HM).mono ?_; rintro x w2 ⟨rfl, nn, hw2⟩; have hb2 := below_drewN w1 nn; rw [← hw2] at hb2; have hk2 := hk1.step hb2; have B2 := B1.kept hb2; clear hw2)
            | (go_at_call 151; first | (with_reducible refine (HF.out w2 hk2).mono ?_; rintro x w3 hf3; obtain ⟨A3, c3, rfl, hc3, hs3, hb3⟩ := hF3.out hf3; have hk3 := hk2.step hb3; have B3 := B2.kept hb3) | (with_reducible refine (HG.out w3 hk3).mono ?_; rintro x w4 hf4; obtain ⟨A4, c4, rfl, hc4, hs4, hb4⟩ := hF4.out hf4; have hk4 := hk3.step hb4; have B4 := B3.kept hb4; have hs34 := hs3.below hb4; have HSz := Lib.hid hb4.size))
            | ((with_reducible show wpList _ _ _ (⟨some 53, .build _ _, _, _, _, _⟩ :: _) _ _); refine wp_build0 _ rfl 62 rfl _ (build38 _) ?_; simp only [Act.put, List.setIfInBounds_toArray, List.set_cons_zero, List.set_cons_succ])
            | ((with_reducible show wpList _ _ _ (⟨none, .store 62 (.tmp 2) _, _, _, _, _⟩ :: _) _ _); refine wp_putAll _ rfl 62 (.tmp 2) (.tmp 53) rfl g2 62 _ (vhs zero8) rfl rfl B4 rfl size38 (Hs_one _) ?_; intro w9 B9 U9; simp only [Act.put]))
          refine ret_cell2 2 3 62 rfl g2 (vhs zero8) _ rfl B9.whole Tryz.underlying62 rfl size38 rfl (.int .i64 7) rfl ⟨?_, ?_⟩
          · rw [hR2.out]
            rfl
          · exact hk4.base (U9.below (Nat.le_of_eq F1.is.symm))
end Go.Proofs.YtcepigekibidfaaGreatDoor
namespace Go.Proofs.YtcepigekibidfaaGreatDoor
open Go.RowKit

/-- The longest row of noughts, from place i on: where it begins and ends. -/
def lr (i st fr tu mo : Nat) : List Nat → Nat × Nat
  | [] => (fr, tu)
  | n :: r => if n ≠ 0 then lr (i + 1) (i + 1) fr tu mo r else if mo < i + 1 - st then lr (i + 1) st st (i + 1) (i + 1 - st) r else lr (i + 1) st fr tu mo r
def longest (a : List Nat) : Nat × Nat := lr 0 0 8 8 1 a

theorem lr_le : ∀ (l : List Nat) (i st fr tu mo : Nat), i + l.length = 8 → st ≤ i → fr ≤ tu → tu ≤ 8 → (lr i st fr tu mo l).1 ≤ (lr i st fr tu mo l).2 ∧ (lr i st fr tu mo l).2 ≤ 8
  | [], _, _, _, _, _, _, _, h1, h2 => ⟨h1, h2⟩
  | n :: r, i, st, fr, tu, mo, hl, hs, h1, h2 => by
    simp only [List.length_cons] at hl
    rw [lr]
    split
    · exact lr_le r _ _ _ _ _ (by omega) (by omega) h1 h2
    · split
      · exact lr_le r _ _ _ _ _ (by omega) (by omega) (by omega) (by omega)
      · exact lr_le r _ _ _ _ _ (by omega) (by omega) h1 h2
theorem longest_le (a : List Nat) (h : a.length = 8) : (longest a).1 ≤ (longest a).2 ∧ (longest a).2 ≤ 8 := lr_le a 0 0 8 8 1 (by omega) (by omega) (by omega) (by omega)

set_option maxHeartbeats 8000000 in
set_option maxRecDepth 100000 in
theorem longest_any (a : List Nat) (ha : a.length = 8) (w : World) : Calls Tryz.prog 154 #[.agg (vhs a).toArray] w fun e w' => e = .returned (.tuple #[.int .i64 ((longest a).1 : Int), .int .i64 ((longest a).2 : Int)]) ∧ Below w.heap.size w w' := by
  have hR : Hid (longest a = lr 0 0 8 8 1 a) := rfl
  obtain ⟨R, hR'⟩ : ∃ R, R = longest a := ⟨_, rfl⟩
  rw [← hR'] at hR ⊢
  clear hR'
  have hs38 := Lib.hid (size38' a ha)
  have hget : Hid (∀ k, k < 8 → (vhs a)[k]? = some (.int .u16 ((a.getD k 0 : Nat) : Int))) := fun k hk => vhs_at a k (by omega)
  have HA := Lib.hid ha
  clear ha
  go_enter Tryz.func154, Tryz.ntmps154
  go_wp2_with (first
    | ((with_reducible show wpList _ _ _ (⟨some 1, .box _ _, _, _, _, _⟩ :: _) _ _); refine wp_box _ rfl 62 _ rfl (vhs a) rfl ?_; intro w1 g1 B1 F1; simp only [Act.put, List.setIfInBounds_toArray, List.set_cons_zero, List.set_cons_succ])
    | ((with_reducible show wpList _ _ _ (⟨some 11, .load 62 _, _, _, _, _⟩ :: _) _ _); refine wp_get _ rfl 62 (.tmp 1) rfl g1 0 (vhs a) _ rfl B1.whole Tryz.underlying62 rfl hs38.out ?_; simp only [Act.put, List.setIfInBounds_toArray, List.set_cons_zero, List.set_cons_succ]))
  have HF := Lib.hid F1.below
  clear F1 B1
  go_loop [12, 4, 5, 6, 7] (fun i x y z s => ∃ (k fr tu mo st : Nat), k ≤ 8 ∧ fr ≤ 8 ∧ tu ≤ 8 ∧ mo ≤ 8 ∧ st ≤ k ∧ i = .int .i64 (k : Int) ∧ x = .int .i64 (fr : Int) ∧ y = .int .i64 (tu : Int) ∧ z = .int .i64 (mo : Int) ∧ s = .int .i64 (st : Int) ∧ lr k st fr tu mo (a.drop k) = R) (fun i _ _ _ _ => 8 - (intOf i).toNat)
  case atStart => exact ⟨0, 8, 8, 1, 0, by omega, by omega, by omega, by omega, by omega, rfl, rfl, rfl, rfl, rfl, hR.out.symm⟩
  case round =>
    obtain ⟨k, fr, tu, mo, st, hk, hfr, hto, hmo, hst, rfl, rfl, rfl, rfl, rfl, hL⟩ := hrel
    by_cases hlt : k < 8
    · have hki : (k : Int) < 8 := by omega
      have hg := hget.out k hlt
      have hdrop : a.drop k = a.getD k 0 :: a.drop (k + 1) := by
        have hk' : k < a.length := by rw [HA.out]; exact hlt
        rw [List.drop_eq_getElem_cons hk']
        simp [List.getD, List.getElem?_eq_getElem hk']
      obtain ⟨n, hn⟩ : ∃ n, n = a.getD k 0 := ⟨_, rfl⟩
      rw [← hn] at hg hdrop
      rw [hdrop, lr] at hL
      have HG := Lib.hid hg
      clear hn hdrop hg
      by_cases hn0 : n = 0
      · have hnb : ((n : Int) != 0) = false := by simp [hn0]
        rw [if_neg (by simp [hn0])] at hL
        obtain ⟨d, hd⟩ : ∃ d, d = k + 1 - st := ⟨_, rfl⟩
        have hdi : (k : Int) + 1 - (st : Int) = (d : Int) := by omega
        rw [← hd] at hL
        have hd8 : d ≤ 8 := by omega
        have HD := Lib.hid hd
        clear hd hn0
        by_cases hm : mo < d
        · have hmi : (mo : Int) < (d : Int) := by omega
          rw [if_pos hm] at hL
          have HL := Lib.hid hL
          clear hL
          go_wp2_with (first
            | ((with_reducible show wpList _ _ _ (⟨some 15, .index _ _ _, _, _, _, _⟩ :: _) _ _); refine wp_index _ rfl 62 _ _ rfl 8 61 _ Tryz.underlying62 Tryz.underlying61 rfl size37 (vhs a) rfl k rfl hlt _ HG.out ?_; simp only [Act.put, List.setIfInBounds_toArray, List.set_cons_zero, List.set_cons_succ]))
          go_round
          case rel => exact ⟨k + 1, st, k + 1, d, st, by omega, by omega, by omega, by omega, by omega, by go_num, rfl, by go_num, rfl, rfl, HL.out⟩
          case measure => simp [intOf]; omega
        · have hmi : ¬ (mo : Int) < (d : Int) := by omega
          rw [if_neg hm] at hL
          have HL := Lib.hid hL
          clear hL
          go_wp2_with (first
            | ((with_reducible show wpList _ _ _ (⟨some 15, .index _ _ _, _, _, _, _⟩ :: _) _ _); refine wp_index _ rfl 62 _ _ rfl 8 61 _ Tryz.underlying62 Tryz.underlying61 rfl size37 (vhs a) rfl k rfl hlt _ HG.out ?_; simp only [Act.put, List.setIfInBounds_toArray, List.set_cons_zero, List.set_cons_succ]))
          go_round
          case rel => exact ⟨k + 1, fr, tu, mo, st, by omega, by omega, by omega, by omega, by omega, by go_num, rfl, rfl, rfl, rfl, HL.out⟩
          case measure => simp [intOf]; omega
      · have hnb : ((n : Int) != 0) = true := by simp; omega
        rw [if_pos (by simpa using hn0)] at hL
        have HL := Lib.hid hL
        clear hL hn0
        go_wp2_with (first
          | ((with_reducible show wpList _ _ _ (⟨some 15, .index _ _ _, _, _, _, _⟩ :: _) _ _); refine wp_index _ rfl 62 _ _ rfl 8 61 _ Tryz.underlying62 Tryz.underlying61 rfl size37 (vhs a) rfl k rfl hlt _ HG.out ?_; simp only [Act.put, List.setIfInBounds_toArray, List.set_cons_zero, List.set_cons_succ]))
        go_round
        case rel => exact ⟨k + 1, fr, tu, mo, k + 1, by omega, by omega, by omega, by omega, by omega, by go_num, rfl, rfl, rfl, by go_num, HL.out⟩
        case measure => simp [intOf]; omega
    · have hk' : Hid (k = 8) := by show k = 8; omega
      have hki : ¬ (k : Int) < 8 := by omega
      clear hk hlt
      have HL := Lib.hid hL
      clear hL
      go_wp2_with fail
      go_ret2
      have h1 := HL.out
      rw [hk'.out, List.drop_eq_nil_of_le (by rw [HA.out]; omega)] at h1
      rw [← h1]
      exact ⟨rfl, HF.out⟩
end Go.Proofs.YtcepigekibidfaaGreatDoor
