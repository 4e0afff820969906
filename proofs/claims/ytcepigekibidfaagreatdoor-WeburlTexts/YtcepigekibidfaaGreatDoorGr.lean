/-
  What transeptlaw08.shown answers: true; nothing that was there turns. Condition: the library's tables.
  How long a parsed URL's text is; a guarded URL that is built of nothing. No program but in the last law.
-/
import Derived.Test.YtcepigekibidfaaGreatDoorWub
namespace Go.Proofs.YtcepigekibidfaaGreatDoor
open Go.RowKit

def uu : U := ⟨[104, 116, 116, 112, 115], [97], -1, [47, 120], [], []⟩
def uv : U := ⟨[104, 116, 116, 112, 115], [97], -1, [47, 121], [], []⟩
def uw : U := ⟨[100, 97, 116, 97], [], -1, [120], [], []⟩
def uN : U := ⟨[], [], 0, [], [], []⟩
theorem p1 : prsU [102, 116, 112, 58, 47, 47, 97, 47] = none := by kernel_rfl
theorem p2 : prsU [104, 116, 116, 112, 58, 97] = none := by kernel_rfl
theorem p3 : prsU [104, 116, 116, 112, 115, 58, 47, 47, 97, 58, 52, 52, 51, 47, 120] = some uu := by kernel_rfl
theorem p4 : prsU [104, 116, 116, 112, 115, 58, 47, 47, 65, 47, 121] = some uv := by kernel_rfl
theorem p5 : prsU [100, 97, 116, 97, 58, 120] = some uw := by kernel_rfl
theorem p6 : isB [72, 84, 84, 80, 58, 47, 47, 69, 88, 65, 77, 80, 76, 69, 46, 99, 111, 109, 58, 56, 48, 47, 97, 47, 46, 46, 47, 98, 63, 120, 35, 121] [104, 116, 116, 112, 58, 47, 47, 101, 120, 97, 109, 112, 108, 101, 46, 99, 111, 109, 47, 98, 63, 120, 35, 121] = true := by kernel_rfl
theorem p7 : isB [100, 97, 116, 97, 58, 97, 32, 98] [100, 97, 116, 97, 58, 97, 32, 98] = true := by kernel_rfl
theorem p8 : same uu uv = true := by kernel_rfl
theorem p9 : same uw uw = false := by kernel_rfl
theorem p10 : org uu = [104, 116, 116, 112, 115, 58, 47, 47, 97] := by kernel_rfl
theorem p11 : org uw = [110, 117, 108, 108] := by kernel_rfl
theorem p12 : prsU (txt uu) = some uu := by kernel_rfl
theorem p13 : (txt uu).length ≤ 1000000 := by
  rw [show txt uu = [104, 116, 116, 112, 115, 58, 47, 47, 97, 47, 120] by kernel_rfl]
  decide
theorem ub_small (u : U) (h1 : u.sch.length ≤ 100) (h2 : u.host.length ≤ 100) (h3 : -9223372036854775808 ≤ u.port) (h4 : u.port ≤ 9223372036854775807) (h5 : u.path.length ≤ 100) (h6 : u.q.length ≤ 100) (h7 : u.f.length ≤ 100) : Ub u :=
  ⟨by omega, by omega, h3, h4, itoa_ub _ h3 h4, by omega, by omega, by omega⟩
theorem ubu : Ub uu := ub_small _ (by decide) (by decide) (by decide) (by decide) (by decide) (by decide) (by decide)
theorem ubw : Ub uw := ub_small _ (by decide) (by decide) (by decide) (by decide) (by decide) (by decide) (by decide)

/-- URLs that are made here, each in a block of its own. -/
def Hl (w wi : World) (L : List (Nat × List Value)) : Prop := Kept w wi ∧ ∀ x ∈ L, x.1 < wi.heap.size ∧ Blk wi x.1 24 x.2
section
variable {w wi wj wk : World} {g : Nat} {C Z : List Value} {L : List (Nat × List Value)}
theorem Hl.step (h : Hl w wi L) (hb : Below wi.heap.size wi wj) : Hl w wj L := ⟨h.1.step hb, fun x hx => ⟨by have := (h.2 x hx).1; have := hb.size; omega, (h.2 x hx).2.kept hb⟩⟩
theorem Hl.new (h : Hl w wi L) (f : Fresh wi wj g) (u : Upd g wj wk) (b : Blk wk g 24 C) : Hl w wk ((g, C) :: L) := by
  refine ⟨(h.1.step f.below).base (u.below (by rw [f.is]; exact h.1.size)), fun x hx => ?_⟩
  rcases List.mem_cons.1 hx with rfl | hx
  · exact ⟨b.lt, b⟩
  · have h1 := h.2 x hx
    have h2 := f.below.size
    have h3 := u.size
    exact ⟨by omega, (h1.2.kept f.below).upd u (by rw [f.is]; omega)⟩
theorem Hl.at (h : Hl w wi L) {x : Nat × List Value} (hx : x ∈ L) : Blk wi x.1 24 x.2 := (h.2 x hx).2
theorem Hl.kp (h : Hl w wi L) : Kept w wi := h.1
theorem Hl.nil (w : World) : Hl w w [] := ⟨Below.refl _ _, fun _ h => by cases h⟩
end
set_option maxHeartbeats 8000000 in
set_option maxRecDepth 100000 in
theorem shown_any (w : World) (ht : Tb w) : Calls Tryz.prog 13 #[] w fun e w' => e = .returned (.bool true) ∧ Below w.heap.size w w' := by
  have C1 : Hid (∀ w', Kept w w' → Calls Tryz.prog 14 #[.string ⟨#[102, 116, 112, 58, 47, 47, 97, 47]⟩] w' fun e w2 => e = .returned (.tuple #[.agg (uC uN.sch uN.host uN.port uN.path uN.q uN.f).toArray, .int .i64 7]) ∧ Below w'.heap.size w' w2) := fun w' hk => by
    have := url_any [102, 116, 112, 58, 47, 47, 97, 47] w' (by decide) (ht.kp hk)
    rw [p1] at this
    exact this
  have C2 : Hid (∀ w', Kept w w' → Calls Tryz.prog 14 #[.string ⟨#[104, 116, 116, 112, 58, 97]⟩] w' fun e w2 => e = .returned (.tuple #[.agg (uC uN.sch uN.host uN.port uN.path uN.q uN.f).toArray, .int .i64 7]) ∧ Below w'.heap.size w' w2) := fun w' hk => by
    have := url_any [104, 116, 116, 112, 58, 97] w' (by decide) (ht.kp hk)
    rw [p2] at this
    exact this
  have C3 : Hid (∀ w', Kept w w' → Calls Tryz.prog 14 #[.string ⟨#[104, 116, 116, 112, 115, 58, 47, 47, 97, 58, 52, 52, 51, 47, 120]⟩] w' fun e w2 => e = .returned (.tuple #[.agg (uC uu.sch uu.host uu.port uu.path uu.q uu.f).toArray, .int .i64 0]) ∧ Below w'.heap.size w' w2) := fun w' hk => by
    have := url_any [104, 116, 116, 112, 115, 58, 47, 47, 97, 58, 52, 52, 51, 47, 120] w' (by decide) (ht.kp hk)
    rw [p3] at this
    exact this
  have C4 : Hid (∀ w', Kept w w' → Calls Tryz.prog 14 #[.string ⟨#[104, 116, 116, 112, 115, 58, 47, 47, 65, 47, 121]⟩] w' fun e w2 => e = .returned (.tuple #[.agg (uC uv.sch uv.host uv.port uv.path uv.q uv.f).toArray, .int .i64 0]) ∧ Below w'.heap.size w' w2) := fun w' hk => by
    have := url_any [104, 116, 116, 112, 115, 58, 47, 47, 65, 47, 121] w' (by decide) (ht.kp hk)
    rw [p4] at this
    exact this
  have C5 : Hid (∀ w', Kept w w' → Calls Tryz.prog 14 #[.string ⟨#[100, 97, 116, 97, 58, 120]⟩] w' fun e w2 => e = .returned (.tuple #[.agg (uC uw.sch uw.host uw.port uw.path uw.q uw.f).toArray, .int .i64 0]) ∧ Below w'.heap.size w' w2) := fun w' hk => by
    have := url_any [100, 97, 116, 97, 58, 120] w' (by decide) (ht.kp hk)
    rw [p5] at this
    exact this
  have C6 : Hid (∀ w', Kept w w' → Calls Tryz.prog 25 #[.string ⟨#[72, 84, 84, 80, 58, 47, 47, 69, 88, 65, 77, 80, 76, 69, 46, 99, 111, 109, 58, 56, 48, 47, 97, 47, 46, 46, 47, 98, 63, 120, 35, 121]⟩, .string ⟨#[104, 116, 116, 112, 58, 47, 47, 101, 120, 97, 109, 112, 108, 101, 46, 99, 111, 109, 47, 98, 63, 120, 35, 121]⟩] w' fun e w2 => e = .returned (.bool true) ∧ Below w'.heap.size w' w2) := fun w' hk => by
    have := is_any [72, 84, 84, 80, 58, 47, 47, 69, 88, 65, 77, 80, 76, 69, 46, 99, 111, 109, 58, 56, 48, 47, 97, 47, 46, 46, 47, 98, 63, 120, 35, 121] [104, 116, 116, 112, 58, 47, 47, 101, 120, 97, 109, 112, 108, 101, 46, 99, 111, 109, 47, 98, 63, 120, 35, 121] w' (by decide) (ht.kp hk)
    rw [p6] at this
    exact this
  have C7 : Hid (∀ w', Kept w w' → Calls Tryz.prog 25 #[.string ⟨#[100, 97, 116, 97, 58, 97, 32, 98]⟩, .string ⟨#[100, 97, 116, 97, 58, 97, 32, 98]⟩] w' fun e w2 => e = .returned (.bool true) ∧ Below w'.heap.size w' w2) := fun w' hk => by
    have := is_any [100, 97, 116, 97, 58, 97, 32, 98] [100, 97, 116, 97, 58, 97, 32, 98] w' (by decide) (ht.kp hk)
    rw [p7] at this
    exact this
  have C8 : Hid (∀ w', Calls Tryz.prog 23 #[uV uu, uV uv] w' fun e w2 => e = .returned (.bool true) ∧ Below w'.heap.size w' w2) := fun w' => by
    have := same_any uu uv w' (by decide)
    rw [p8] at this
    exact this
  have C9 : Hid (∀ w', Calls Tryz.prog 23 #[uV uw, uV uw] w' fun e w2 => e = .returned (.bool false) ∧ Below w'.heap.size w' w2) := fun w' => by
    have := same_any uw uw w' (by decide)
    rw [p9] at this
    exact this
  have C10 : Hid (∀ w', Kept w w' → Calls Tryz.prog 21 #[uV uu] w' fun e w2 => e = .returned (.string (str (org uu))) ∧ Below w'.heap.size w' w2) := fun w' hk => origin_any uu w' ubu (ht.kp hk)
  have C11 : Hid (∀ w', Kept w w' → Calls Tryz.prog 21 #[uV uw] w' fun e w2 => e = .returned (.string (str (org uw))) ∧ Below w'.heap.size w' w2) := fun w' hk => origin_any uw w' ubw (ht.kp hk)
  have C12 : Hid (∀ w', Kept w w' → Calls Tryz.prog 19 #[uV uu] w' fun e w2 => e = .returned (.bool true) ∧ Below w'.heap.size w' w2) := fun w' hk => by
    have := right_any uu w' ubu p13 (ht.kp hk)
    unfold rgt at this
    rw [decide_eq_true p12] at this
    exact this
  have e10 : ((str (org uu)).toList == [104, 116, 116, 112, 115, 58, 47, 47, 97]) = true := by rw [toList_str, p10]; rfl
  have e11 : ((str (org uw)).toList == [110, 117, 108, 108]) = true := by rw [toList_str, p11]; rfl
  generalize org uu = O1 at C10 e10
  generalize org uw = O2 at C11 e11
  have H0 := Hl.nil w
  clear ht
  go_enter Tryz.func13, Tryz.ntmps13
  go_wp2_with (first
    | (go_at_call 14; (with_reducible refine (C1.out _ H0.kp).mono ?_); (rintro e wa1 ⟨rfl, hb⟩; have G1 := H0.step hb; clear hb))
    | ((with_reducible show wpList _ _ _ (⟨some 1, .alloc _, _, _, _, _⟩ :: _) _ _); refine wp_new _ rfl 24 rfl _ z24 ?_; intro wb1 g1 B1 F1; simp only [Act.put, List.setIfInBounds_toArray, List.set_cons_zero, List.set_cons_succ])
    | ((with_reducible show wpList _ _ _ (⟨none, .store 24 (.tmp 1) (.tmp 13), _, _, _, _⟩ :: _) _ _); refine wp_putAll _ rfl 24 (.tmp 1) (.tmp 13) rfl g1 24 _ (uC uN.sch uN.host uN.port uN.path uN.q uN.f) rfl rfl B1 rfl n24 (uC_one _ _ _ _ _ _) ?_; intro wc1 B U; simp only [Act.put]; have H1 := G1.new F1 U B; clear B U F1 B1 G1)
    | (go_at_call 14; (with_reducible refine (C2.out _ H1.kp).mono ?_); (rintro e wa2 ⟨rfl, hb⟩; have G2 := H1.step hb; clear hb))
    | ((with_reducible show wpList _ _ _ (⟨some 3, .alloc _, _, _, _, _⟩ :: _) _ _); refine wp_new _ rfl 24 rfl _ z24 ?_; intro wb2 g2 B2 F2; simp only [Act.put, List.setIfInBounds_toArray, List.set_cons_zero, List.set_cons_succ])
    | ((with_reducible show wpList _ _ _ (⟨none, .store 24 (.tmp 3) (.tmp 17), _, _, _, _⟩ :: _) _ _); refine wp_putAll _ rfl 24 (.tmp 3) (.tmp 17) rfl g2 24 _ (uC uN.sch uN.host uN.port uN.path uN.q uN.f) rfl rfl B2 rfl n24 (uC_one _ _ _ _ _ _) ?_; intro wc2 B U; simp only [Act.put]; have H2 := G2.new F2 U B; clear B U F2 B2 G2)
    | (go_at_call 14; (with_reducible refine (C3.out _ H2.kp).mono ?_); (rintro e wa3 ⟨rfl, hb⟩; have G3 := H2.step hb; clear hb))
    | ((with_reducible show wpList _ _ _ (⟨some 5, .alloc _, _, _, _, _⟩ :: _) _ _); refine wp_new _ rfl 24 rfl _ z24 ?_; intro wb3 g3 B3 F3; simp only [Act.put, List.setIfInBounds_toArray, List.set_cons_zero, List.set_cons_succ])
    | ((with_reducible show wpList _ _ _ (⟨none, .store 24 (.tmp 5) (.tmp 21), _, _, _, _⟩ :: _) _ _); refine wp_putAll _ rfl 24 (.tmp 5) (.tmp 21) rfl g3 24 _ (uC uu.sch uu.host uu.port uu.path uu.q uu.f) rfl rfl B3 rfl n24 (uC_one _ _ _ _ _ _) ?_; intro wc3 B U; simp only [Act.put]; have H3 := G3.new F3 U B; clear B U F3 B3 G3)
    | (go_at_call 14; (with_reducible refine (C4.out _ H3.kp).mono ?_); (rintro e wa4 ⟨rfl, hb⟩; have G4 := H3.step hb; clear hb))
    | ((with_reducible show wpList _ _ _ (⟨some 7, .alloc _, _, _, _, _⟩ :: _) _ _); refine wp_new _ rfl 24 rfl _ z24 ?_; intro wb4 g4 B4 F4; simp only [Act.put, List.setIfInBounds_toArray, List.set_cons_zero, List.set_cons_succ])
    | ((with_reducible show wpList _ _ _ (⟨none, .store 24 (.tmp 7) (.tmp 25), _, _, _, _⟩ :: _) _ _); refine wp_putAll _ rfl 24 (.tmp 7) (.tmp 25) rfl g4 24 _ (uC uv.sch uv.host uv.port uv.path uv.q uv.f) rfl rfl B4 rfl n24 (uC_one _ _ _ _ _ _) ?_; intro wc4 B U; simp only [Act.put]; have H4 := G4.new F4 U B; clear B U F4 B4 G4)
    | (go_at_call 14; (with_reducible refine (C5.out _ H4.kp).mono ?_); (rintro e wa5 ⟨rfl, hb⟩; have G5 := H4.step hb; clear hb))
    | ((with_reducible show wpList _ _ _ (⟨some 9, .alloc _, _, _, _, _⟩ :: _) _ _); refine wp_new _ rfl 24 rfl _ z24 ?_; intro wb5 g5 B5 F5; simp only [Act.put, List.setIfInBounds_toArray, List.set_cons_zero, List.set_cons_succ])
    | ((with_reducible show wpList _ _ _ (⟨none, .store 24 (.tmp 9) (.tmp 29), _, _, _, _⟩ :: _) _ _); refine wp_putAll _ rfl 24 (.tmp 9) (.tmp 29) rfl g5 24 _ (uC uw.sch uw.host uw.port uw.path uw.q uw.f) rfl rfl B5 rfl n24 (uC_one _ _ _ _ _ _) ?_; intro wc5 B U; simp only [Act.put]; have H5 := G5.new F5 U B; clear B U F5 B5 G5)
    | (go_at_call 25; (with_reducible refine (C6.out _ H5.kp).mono ?_); (rintro e wa6 ⟨rfl, hb⟩; have H6 := H5.step hb; clear hb))
    | (go_at_call 25; (with_reducible refine (C7.out _ H6.kp).mono ?_); (rintro e wa7 ⟨rfl, hb⟩; have H7 := H6.step hb; clear hb))
    | ((with_reducible show wpList _ _ _ (⟨some 44, .load 24 (.tmp 5), _, _, _, _⟩ :: _) _ _); refine wp_getU _ (by rfl) (.tmp 5) rfl g3 uu rfl (H7.at (x := (g3, uC uu.sch uu.host uu.port uu.path uu.q uu.f)) (by simp)) ?_; simp only [Act.put, List.setIfInBounds_toArray, List.set_cons_zero, List.set_cons_succ])
    | ((with_reducible show wpList _ _ _ (⟨some 45, .load 24 (.tmp 7), _, _, _, _⟩ :: _) _ _); refine wp_getU _ (by rfl) (.tmp 7) rfl g4 uv rfl (H7.at (x := (g4, uC uv.sch uv.host uv.port uv.path uv.q uv.f)) (by simp)) ?_; simp only [Act.put, List.setIfInBounds_toArray, List.set_cons_zero, List.set_cons_succ])
    | (go_at_call 23; (with_reducible refine (C8.out _).mono ?_); (rintro e wa8 ⟨rfl, hb⟩; have H8 := H7.step hb; clear hb))
    | ((with_reducible show wpList _ _ _ (⟨some 49, .load 24 (.tmp 9), _, _, _, _⟩ :: _) _ _); refine wp_getU _ (by rfl) (.tmp 9) rfl g5 uw rfl (H8.at (x := (g5, uC uw.sch uw.host uw.port uw.path uw.q uw.f)) (by simp)) ?_; simp only [Act.put, List.setIfInBounds_toArray, List.set_cons_zero, List.set_cons_succ])
    | ((with_reducible show wpList _ _ _ (⟨some 50, .load 24 (.tmp 9), _, _, _, _⟩ :: _) _ _); refine wp_getU _ (by rfl) (.tmp 9) rfl g5 uw rfl (H8.at (x := (g5, uC uw.sch uw.host uw.port uw.path uw.q uw.f)) (by simp)) ?_; simp only [Act.put, List.setIfInBounds_toArray, List.set_cons_zero, List.set_cons_succ])
    | (go_at_call 23; (with_reducible refine (C9.out _).mono ?_); (rintro e wa9 ⟨rfl, hb⟩; have H9 := H8.step hb; clear hb))
    | ((with_reducible show wpList _ _ _ (⟨some 55, .load 24 (.tmp 5), _, _, _, _⟩ :: _) _ _); refine wp_getU _ (by rfl) (.tmp 5) rfl g3 uu rfl (H9.at (x := (g3, uC uu.sch uu.host uu.port uu.path uu.q uu.f)) (by simp)) ?_; simp only [Act.put, List.setIfInBounds_toArray, List.set_cons_zero, List.set_cons_succ])
    | (go_at_call 21; (with_reducible refine (C10.out _ H9.kp).mono ?_); (rintro e wa10 ⟨rfl, hb⟩; have H10 := H9.step hb; clear hb))
    | ((with_reducible show wpList _ _ _ (⟨some 60, .load 24 (.tmp 9), _, _, _, _⟩ :: _) _ _); refine wp_getU _ (by rfl) (.tmp 9) rfl g5 uw rfl (H10.at (x := (g5, uC uw.sch uw.host uw.port uw.path uw.q uw.f)) (by simp)) ?_; simp only [Act.put, List.setIfInBounds_toArray, List.set_cons_zero, List.set_cons_succ])
    | (go_at_call 21; (with_reducible refine (C11.out _ H10.kp).mono ?_); (rintro e wa11 ⟨rfl, hb⟩; have H11 := H10.step hb; clear hb))
    | ((with_reducible show wpList _ _ _ (⟨some 65, .load 24 (.tmp 5), _, _, _, _⟩ :: _) _ _); refine wp_getU _ (by rfl) (.tmp 5) rfl g3 uu rfl (H11.at (x := (g3, uC uu.sch uu.host uu.port uu.path uu.q uu.f)) (by simp)) ?_; simp only [Act.put, List.setIfInBounds_toArray, List.set_cons_zero, List.set_cons_succ])
    | (go_at_call 19; (with_reducible refine (C12.out _ H11.kp).mono ?_); (rintro e wa12 ⟨rfl, hb⟩; have H12 := H11.step hb; clear hb)))
  go_ret
  exact ⟨rfl, H12.kp⟩
end Go.Proofs.YtcepigekibidfaaGreatDoor
namespace Go.Proofs.YtcepigekibidfaaGreatDoor
open Go.RowKit

section
variable {ops : Array Oper} {rest : List Oper} {o : Oper} {a : Act} {Q : Exit → Act → World → Prop}
end
end Go.Proofs.YtcepigekibidfaaGreatDoor
