/-
  What weburl.parseSpecial answers; nothing that was there turns. Condition: texts of at most 3000000 bytes.
-/
import Derived.Test.YtcepigekibidfaaGreatDoorWpa
import Derived.Test.YtcepigekibidfaaGreatDoorGp
import Derived.Test.YtcepigekibidfaaGreatDoorGj
import Derived.Test.YtcepigekibidfaaGreatDoorGl
import Derived.Still
namespace Go.Proofs.YtcepigekibidfaaGreatDoor
open Go.RowKit

def uC (s h : List UInt8) (p : Int) (pa q f : List UInt8) : List Value := [.string (str s), .string (str h), .int .i64 p, .string (str pa), .string (str q), .string (str f)]
def uV (u : U) : Value := .agg (uC u.sch u.host u.port u.path u.q u.f).toArray
def zU : U := ⟨[], [], 0, [], [], []⟩
/-- A URL, or none. -/
def rU (o : Option U) : Value := .tuple #[uV (o.getD zU), .int .i64 (if o.isSome then 0 else 7)]
theorem z24 : (Tryz.prog.info? 24).map (fun i => i.zero) = some (some (.agg (uC [] [] 0 [] [] []).toArray)) := by kernel_rfl
theorem n24 : (Tryz.prog.info? 24).map (·.size) = some 6 := by kernel_rfl
theorem n9 : (Tryz.prog.info? 9).map (·.size) = some 1 := by kernel_rfl
theorem n3 : (Tryz.prog.info? 3).map (·.size) = some 1 := by kernel_rfl
theorem b24 (w : World) : (Instr.build 24 #[]).run Tryz.prog w = .ok (.agg (uC [] [] 0 [] [] []).toArray) w := by kernel_rfl
theorem uC_one (s h : List UInt8) (p : Int) (pa q f : List UInt8) : ∀ u ∈ uC s h p pa q f, u.oneCell' = true := by
  intro u hu
  simp only [uC, List.mem_cons, List.not_mem_nil, or_false] at hu
  rcases hu with rfl | rfl | rfl | rfl | rfl | rfl <;> rfl
/-- What parseSpecial holds: the URL that it builds in block g1, its answer in block g2. -/
structure Sp (w wi : World) (g1 g2 : Nat) (C Z : List Value) : Prop where
  b1 : Blk wi g1 24 C
  b2 : Blk wi g2 24 Z
  kp : Kept w wi
  l1 : w.heap.size ≤ g1
  l2 : g1 < g2
section
variable {w wi wj : World} {g1 g2 : Nat} {C C' Z Z' : List Value}
theorem Sp.step (h : Sp w wi g1 g2 C Z) (hb : Below wi.heap.size wi wj) : Sp w wj g1 g2 C Z := ⟨h.b1.kept hb, h.b2.kept hb, h.kp.step hb, h.l1, h.l2⟩
theorem Sp.set1 (h : Sp w wi g1 g2 C Z) (hb : Blk wj g1 24 C') (hu : Upd g1 wi wj) : Sp w wj g1 g2 C' Z := ⟨hb, h.b2.upd hu (by have := h.l2; omega), h.kp.base (hu.below h.l1), h.l1, h.l2⟩
theorem Sp.set2 (h : Sp w wi g1 g2 C Z) (hb : Blk wj g2 24 Z') (hu : Upd g2 wi wj) : Sp w wj g1 g2 C Z' := ⟨h.b1.upd hu (by have := h.l2; omega), hb, h.kp.base (hu.below (by have := h.l1; have := h.l2; omega)), h.l1, h.l2⟩
theorem Sp.new (h1 : Blk wi g1 24 C) (f1 : Fresh w wi g1) (h2 : Blk wj g2 24 Z) (f2 : Fresh wi wj g2) : Sp w wj g1 g2 C Z :=
  ⟨f2.blk h1, h2, (show Kept w wi from f1.below).step f2.below, by rw [f1.is]; exact Nat.le_refl _, by have := h1.lt; rw [f2.is]; exact this⟩
end
set_option maxHeartbeats 8000000 in
set_option maxRecDepth 100000 in
theorem sp_a (sch q f r : List UInt8) (w : World) (b A P : List UInt8) (c : Bool) (H1 : Hid (∀ w', Calls Tryz.prog 60 #[.string (str r), .string ⟨#[47, 47]⟩] w' fun e w2 => e = .returned (.tuple #[.string (str b), .bool false]) ∧ w2 = w')) (H2 : Hid (∀ w', Kept w w' → Calls Tryz.prog 31 #[.string (str b), .string ⟨#[47]⟩] w' fun e w2 => e = .returned (.tuple #[.string (str A), .string (str P), .bool c]) ∧ Below w'.heap.size w' w2)) : Calls Tryz.prog 37 #[uV ⟨sch, [], -1, [], q, f⟩, .string (str r)] w fun e w' => e = .returned (rU none) ∧ Below w.heap.size w w' := by
  go_enter Tryz.func37, Tryz.ntmps37
  go_wp2_with (first
    | ((with_reducible show wpList _ _ _ (⟨some 2, .box _ _, _, _, _, _⟩ :: _) _ _); refine wp_box _ rfl 24 _ rfl (uC sch [] (-1) [] q f) rfl ?_; intro w1 g1 B1 F1; simp only [Act.put, List.setIfInBounds_toArray, List.set_cons_zero, List.set_cons_succ])
    | ((with_reducible show wpList _ _ _ (⟨some 4, .alloc _, _, _, _, _⟩ :: _) _ _); refine wp_new _ rfl 24 rfl _ z24 ?_; intro w2 g2 B2 F2; simp only [Act.put, List.setIfInBounds_toArray, List.set_cons_zero, List.set_cons_succ]; have S2 := Sp.new B1 F1 B2 F2; clear B1 F1 B2 F2)
    | (go_at_call 60; (with_reducible refine (H1.out _).mono ?_); (rintro e w9 ⟨rfl, hw⟩; subst w9))
    | (go_at_call 31; (with_reducible refine (H2.out _ S2.kp).mono ?_); (rintro e w3 ⟨rfl, hb⟩; have S3 := S2.step hb; clear hb))
    | ((with_reducible show wpList _ _ _ (⟨some 33, .build _ _, _, _, _, _⟩ :: _) _ _); refine wp_build0 _ rfl 24 rfl _ (b24 _) ?_; simp only [Act.put, List.setIfInBounds_toArray, List.set_cons_zero, List.set_cons_succ])
    | ((with_reducible show wpList _ _ _ (⟨none, .store 24 (.tmp 4) (.tmp 33), _, _, _, _⟩ :: _) _ _); refine wp_putAll _ rfl 24 (.tmp 4) (.tmp 33) rfl g2 24 _ (uC [] [] 0 [] [] []) rfl rfl S3.b2 rfl n24 (uC_one _ _ _ _ _ _) ?_; intro w8 B8 U8; simp only [Act.put]; have S8 := S3.set2 B8 U8; clear B8 U8))
  refine ret_cell2 4 5 24 rfl g2 (uC [] [] 0 [] [] []) _ rfl S8.b2.whole Tryz.underlying24 rfl n24 rfl (.int .i64 7) rfl ⟨rfl, S8.kp⟩
set_option maxHeartbeats 8000000 in
set_option maxRecDepth 100000 in
theorem sp_b (sch q f r : List UInt8) (w : World) (b A P : List UInt8) (c : Bool) (H1 : Hid (∀ w', Calls Tryz.prog 60 #[.string (str r), .string ⟨#[47, 47]⟩] w' fun e w2 => e = .returned (.tuple #[.string (str b), .bool true]) ∧ w2 = w')) (H2 : Hid (∀ w', Kept w w' → Calls Tryz.prog 31 #[.string (str b), .string ⟨#[47]⟩] w' fun e w2 => e = .returned (.tuple #[.string (str A), .string (str P), .bool c]) ∧ Below w'.heap.size w' w2)) (H3 : Hid (∀ w', Calls Tryz.prog 61 #[.string (str A), .string ⟨#[64]⟩] w' fun e w2 => e = .returned (.bool true) ∧ w2 = w')) : Calls Tryz.prog 37 #[uV ⟨sch, [], -1, [], q, f⟩, .string (str r)] w fun e w' => e = .returned (rU none) ∧ Below w.heap.size w w' := by
  go_enter Tryz.func37, Tryz.ntmps37
  go_wp2_with (first
    | ((with_reducible show wpList _ _ _ (⟨some 2, .box _ _, _, _, _, _⟩ :: _) _ _); refine wp_box _ rfl 24 _ rfl (uC sch [] (-1) [] q f) rfl ?_; intro w1 g1 B1 F1; simp only [Act.put, List.setIfInBounds_toArray, List.set_cons_zero, List.set_cons_succ])
    | ((with_reducible show wpList _ _ _ (⟨some 4, .alloc _, _, _, _, _⟩ :: _) _ _); refine wp_new _ rfl 24 rfl _ z24 ?_; intro w2 g2 B2 F2; simp only [Act.put, List.setIfInBounds_toArray, List.set_cons_zero, List.set_cons_succ]; have S2 := Sp.new B1 F1 B2 F2; clear B1 F1 B2 F2)
    | (go_at_call 60; (with_reducible refine (H1.out _).mono ?_); (rintro e w9 ⟨rfl, hw⟩; subst w9))
    | (go_at_call 31; (with_reducible refine (H2.out _ S2.kp).mono ?_); (rintro e w3 ⟨rfl, hb⟩; have S3 := S2.step hb; clear hb))
    | (go_at_call 61; (with_reducible refine (H3.out _).mono ?_); (rintro e w9 ⟨rfl, hw⟩; subst w9))
    | ((with_reducible show wpList _ _ _ (⟨some 33, .build _ _, _, _, _, _⟩ :: _) _ _); refine wp_build0 _ rfl 24 rfl _ (b24 _) ?_; simp only [Act.put, List.setIfInBounds_toArray, List.set_cons_zero, List.set_cons_succ])
    | ((with_reducible show wpList _ _ _ (⟨none, .store 24 (.tmp 4) (.tmp 33), _, _, _, _⟩ :: _) _ _); refine wp_putAll _ rfl 24 (.tmp 4) (.tmp 33) rfl g2 24 _ (uC [] [] 0 [] [] []) rfl rfl S3.b2 rfl n24 (uC_one _ _ _ _ _ _) ?_; intro w8 B8 U8; simp only [Act.put]; have S8 := S3.set2 B8 U8; clear B8 U8))
  refine ret_cell2 4 5 24 rfl g2 (uC [] [] 0 [] [] []) _ rfl S8.b2.whole Tryz.underlying24 rfl n24 rfl (.int .i64 7) rfl ⟨rfl, S8.kp⟩
set_option maxHeartbeats 8000000 in
set_option maxRecDepth 100000 in
theorem sp_c (sch q f r : List UInt8) (w : World) (b A P N D Hs : List UInt8) (c : Bool) (H1 : Hid (∀ w', Calls Tryz.prog 60 #[.string (str r), .string ⟨#[47, 47]⟩] w' fun e w2 => e = .returned (.tuple #[.string (str b), .bool true]) ∧ w2 = w')) (H2 : Hid (∀ w', Kept w w' → Calls Tryz.prog 31 #[.string (str b), .string ⟨#[47]⟩] w' fun e w2 => e = .returned (.tuple #[.string (str A), .string (str P), .bool c]) ∧ Below w'.heap.size w' w2)) (H3 : Hid (∀ w', Calls Tryz.prog 61 #[.string (str A), .string ⟨#[64]⟩] w' fun e w2 => e = .returned (.bool false) ∧ w2 = w')) (H4 : Hid (∀ w', Calls Tryz.prog 62 #[.string (str A)] w' fun e w2 => e = .returned (.tuple #[.string (str N), .string (str D)]) ∧ Below w'.heap.size w' w2)) (H5 : Hid (∀ w', Kept w w' → Calls Tryz.prog 63 #[.string (str N)] w' fun e w2 => e = .returned (.tuple #[.string (str Hs), .int .i64 7]) ∧ Below w'.heap.size w' w2)) : Calls Tryz.prog 37 #[uV ⟨sch, [], -1, [], q, f⟩, .string (str r)] w fun e w' => e = .returned (rU none) ∧ Below w.heap.size w w' := by
  go_enter Tryz.func37, Tryz.ntmps37
  go_wp2_with (first
    | ((with_reducible show wpList _ _ _ (⟨some 2, .box _ _, _, _, _, _⟩ :: _) _ _); refine wp_box _ rfl 24 _ rfl (uC sch [] (-1) [] q f) rfl ?_; intro w1 g1 B1 F1; simp only [Act.put, List.setIfInBounds_toArray, List.set_cons_zero, List.set_cons_succ])
    | ((with_reducible show wpList _ _ _ (⟨some 4, .alloc _, _, _, _, _⟩ :: _) _ _); refine wp_new _ rfl 24 rfl _ z24 ?_; intro w2 g2 B2 F2; simp only [Act.put, List.setIfInBounds_toArray, List.set_cons_zero, List.set_cons_succ]; have S2 := Sp.new B1 F1 B2 F2; clear B1 F1 B2 F2)
    | (go_at_call 60; (with_reducible refine (H1.out _).mono ?_); (rintro e w9 ⟨rfl, hw⟩; subst w9))
    | (go_at_call 31; (with_reducible refine (H2.out _ S2.kp).mono ?_); (rintro e w3 ⟨rfl, hb⟩; have S3 := S2.step hb; clear hb))
    | (go_at_call 61; (with_reducible refine (H3.out _).mono ?_); (rintro e w9 ⟨rfl, hw⟩; subst w9))
    | (go_at_call 62; (with_reducible refine (H4.out _).mono ?_); (rintro e w4 ⟨rfl, hb⟩; have S4 := S3.step hb; clear hb))
    | (go_at_call 63; (with_reducible refine (H5.out _ S4.kp).mono ?_); (rintro e w5 ⟨rfl, hb⟩; have S5 := S4.step hb; clear hb))
    | ((with_reducible show wpList _ _ _ (⟨some 46, .build _ _, _, _, _, _⟩ :: _) _ _); refine wp_build0 _ rfl 24 rfl _ (b24 _) ?_; simp only [Act.put, List.setIfInBounds_toArray, List.set_cons_zero, List.set_cons_succ])
    | ((with_reducible show wpList _ _ _ (⟨none, .store 24 (.tmp 4) (.tmp 46), _, _, _, _⟩ :: _) _ _); refine wp_putAll _ rfl 24 (.tmp 4) (.tmp 46) rfl g2 24 _ (uC [] [] 0 [] [] []) rfl rfl S5.b2 rfl n24 (uC_one _ _ _ _ _ _) ?_; intro w8 B8 U8; simp only [Act.put]; have S8 := S5.set2 B8 U8; clear B8 U8))
  refine ret_cell2 4 5 24 rfl g2 (uC [] [] 0 [] [] []) _ rfl S8.b2.whole Tryz.underlying24 rfl n24 rfl (.int .i64 7) rfl ⟨rfl, S8.kp⟩
set_option maxHeartbeats 8000000 in
set_option maxRecDepth 100000 in
theorem sp_d (sch q f r : List UInt8) (w : World) (p n : Int) (b A P N D Hs : List UInt8) (c : Bool) (H1 : Hid (∀ w', Calls Tryz.prog 60 #[.string (str r), .string ⟨#[47, 47]⟩] w' fun e w2 => e = .returned (.tuple #[.string (str b), .bool true]) ∧ w2 = w')) (H2 : Hid (∀ w', Kept w w' → Calls Tryz.prog 31 #[.string (str b), .string ⟨#[47]⟩] w' fun e w2 => e = .returned (.tuple #[.string (str A), .string (str P), .bool c]) ∧ Below w'.heap.size w' w2)) (H3 : Hid (∀ w', Calls Tryz.prog 61 #[.string (str A), .string ⟨#[64]⟩] w' fun e w2 => e = .returned (.bool false) ∧ w2 = w')) (H4 : Hid (∀ w', Calls Tryz.prog 62 #[.string (str A)] w' fun e w2 => e = .returned (.tuple #[.string (str N), .string (str D)]) ∧ Below w'.heap.size w' w2)) (H5 : Hid (∀ w', Kept w w' → Calls Tryz.prog 63 #[.string (str N)] w' fun e w2 => e = .returned (.tuple #[.string (str Hs), .int .i64 0]) ∧ Below w'.heap.size w' w2)) (H6 : Hid (∀ w', Kept w w' → Calls Tryz.prog 64 #[.string (str D), .int .i64 p] w' fun e w2 => e = .returned (.tuple #[.int .i64 n, .int .i64 7]) ∧ Below w'.heap.size w' w2)) (HM : Hid (∀ w', Calls Tryz.prog 59 #[] w' fun e w2 => e = .returned (.map (some w'.heap.size)) ∧ w2 = w'.alloc (.map es7.toArray 7))) (HL : Hid (∀ w' : World, (Instr.lookup 76 (.map (some w'.heap.size)) (.string (str sch)) false).run Tryz.prog (w'.alloc (.map es7.toArray 7)) = .ok (.int .i64 p) (w'.alloc (.map es7.toArray 7)))) : Calls Tryz.prog 37 #[uV ⟨sch, [], -1, [], q, f⟩, .string (str r)] w fun e w' => e = .returned (rU none) ∧ Below w.heap.size w w' := by
  go_enter Tryz.func37, Tryz.ntmps37
  go_wp2_with (first
    | ((with_reducible show wpList _ _ _ (⟨some 2, .box _ _, _, _, _, _⟩ :: _) _ _); refine wp_box _ rfl 24 _ rfl (uC sch [] (-1) [] q f) rfl ?_; intro w1 g1 B1 F1; simp only [Act.put, List.setIfInBounds_toArray, List.set_cons_zero, List.set_cons_succ])
    | ((with_reducible show wpList _ _ _ (⟨some 4, .alloc _, _, _, _, _⟩ :: _) _ _); refine wp_new _ rfl 24 rfl _ z24 ?_; intro w2 g2 B2 F2; simp only [Act.put, List.setIfInBounds_toArray, List.set_cons_zero, List.set_cons_succ]; have S2 := Sp.new B1 F1 B2 F2; clear B1 F1 B2 F2)
    | (go_at_call 60; (with_reducible refine (H1.out _).mono ?_); (rintro e w9 ⟨rfl, hw⟩; subst w9))
    | (go_at_call 31; (with_reducible refine (H2.out _ S2.kp).mono ?_); (rintro e w3 ⟨rfl, hb⟩; have S3 := S2.step hb; clear hb))
    | (go_at_call 61; (with_reducible refine (H3.out _).mono ?_); (rintro e w9 ⟨rfl, hw⟩; subst w9))
    | (go_at_call 62; (with_reducible refine (H4.out _).mono ?_); (rintro e w4 ⟨rfl, hb⟩; have S4 := S3.step hb; clear hb))
    | (go_at_call 63; (with_reducible refine (H5.out _ S4.kp).mono ?_); (rintro e w5 ⟨rfl, hb⟩; have S5 := S4.step hb; clear hb)))
  refine wp_region_held_drew (S := fun W => Kept w5 W) (by kernel_rfl) (Kept.refl w5).drew (fun hS => ?_)
  refine wpAnyH_take (i := 0) (oi := ⟨some 48, _, _, _, _, _⟩) (v := ?va0) rfl (by kernel_rfl) (by kernel_rfl) (by kernel_rfl) (fun _ _ _ h => h) (Or.inl ⟨by rfl, ?ya0⟩) hS ?ra0
  case ya0 => intro W hW; go_simp; first | done | with_reducible rfl
  simp only [Act.put, List.setIfInBounds_toArray, List.set_cons_zero, List.set_cons_succ]
  refine wpAnyH_take (i := 2) (oi := ⟨some 50, _, _, _, _, _⟩) (v := ?va2) rfl (by kernel_rfl) (by kernel_rfl) (by kernel_rfl) (fun _ _ _ h => h) (Or.inl ⟨by rfl, ?ya2⟩) hS ?ra2
  case ya2 => intro W hW; go_simp; first | done | with_reducible rfl
  simp only [Act.put, List.setIfInBounds_toArray, List.set_cons_zero, List.set_cons_succ]
  refine wpAnyH_take (i := 3) (oi := ⟨some 51, _, _, _, _, _⟩) (v := ?va3) rfl (by kernel_rfl) (by kernel_rfl) (by kernel_rfl) (fun _ _ _ h => h) (Or.inl ⟨by rfl, ?ya3⟩) hS ?ra3
  case ya3 => intro W hW; have hc : W.cell? ⟨g1, 0, none⟩ = some (.string (str sch)) := (S5.b1.kept hW).cell rfl; go_simp; first | done | with_reducible rfl
  simp only [Act.put, List.setIfInBounds_toArray, List.set_cons_zero, List.set_cons_succ]
  refine wpAnyH_ready (rs := [1]) (by kernel_rfl) (by simp) ?_
  refine (AllReadyH.cons (o := ⟨some 49, _, _, _, _, _⟩) rfl (fun K hK => ?_) AllReadyH.nil)
  try go_simp
  (with_reducible refine (HM.out _).mono ?_)
  rintro e w6 ⟨rfl, hw6⟩
  have hS6 : Kept w5 w6 := by rw [hw6]; exact Kept.alloc hS _
  have k6 : Kept w w6 := S5.kp.step hS6
  have hlk := HL.out w5.drew
  rw [← hw6] at hlk
  have hlk : (Instr.lookup 76 (.map (some w5.heap.size)) (.string (str sch)) false).run Tryz.prog w6 = .ok (.int .i64 p) w6 := hlk
  clear hw6
  refine hK.out _ _ hS6 (fun _ => ?_)
  clear hK K
  try simp only [Act.put, List.setIfInBounds_toArray, List.set_cons_zero, List.set_cons_succ]
  refine wpAnyH_ready (rs := [4]) (by kernel_rfl) (by simp) ?_
  refine (AllReadyH.cons (o := ⟨some 52, _, _, _, _, _⟩) rfl (fun K hK => ?_) AllReadyH.nil)
  try go_simp
  refine hK.out _ _ hS6 (fun _ => ?_)
  clear hK K
  try simp only [Act.put, List.setIfInBounds_toArray, List.set_cons_zero, List.set_cons_succ]
  refine wpAnyH_ready (rs := [5]) (by kernel_rfl) (by simp) ?_
  refine (AllReadyH.cons (o := ⟨some 53, _, _, _, _, _⟩) rfl (fun K hK => ?_) AllReadyH.nil)
  try go_simp
  (with_reducible refine (H6.out _ k6).mono ?_)
  rintro e w7 ⟨rfl, hb7⟩
  have hS7 : Kept w5 w7 := hS6.step hb7
  refine hK.out _ _ hS7 (fun _ => ?_)
  clear hK K hS hb7 hlk
  have hS := hS7
  have S7 := S5.step hS7
  clear hS7
  try simp only [Act.put, List.setIfInBounds_toArray, List.set_cons_zero, List.set_cons_succ]
  refine wpAnyH_take (i := 6) (oi := ⟨some 47, _, _, _, _, _⟩) (v := ?va6) rfl (by kernel_rfl) (by kernel_rfl) (by kernel_rfl) (fun _ _ _ h => h) (Or.inl ⟨by rfl, ?ya6⟩) hS ?ra6
  case ya6 => intro W hW; go_simp; first | done | with_reducible rfl
  simp only [Act.put, List.setIfInBounds_toArray, List.set_cons_zero, List.set_cons_succ]
  refine wpAnyH_take (i := 7) (oi := ⟨some 54, _, _, _, _, _⟩) (v := ?va7) rfl (by kernel_rfl) (by kernel_rfl) (by kernel_rfl) (fun _ _ _ h => h) (Or.inl ⟨by rfl, ?ya7⟩) hS ?ra7
  case ya7 => intro W hW; go_simp; first | done | with_reducible rfl
  simp only [Act.put, List.setIfInBounds_toArray, List.set_cons_zero, List.set_cons_succ]
  refine wpAnyH_take (i := 8) (oi := ⟨some 55, _, _, _, _, _⟩) (v := ?va8) rfl (by kernel_rfl) (by kernel_rfl) (by kernel_rfl) (fun _ _ _ h => h) (Or.inl ⟨by rfl, ?ya8⟩) hS ?ra8
  case ya8 => intro W hW; go_simp; first | done | with_reducible rfl
  simp only [Act.put, List.setIfInBounds_toArray, List.set_cons_zero, List.set_cons_succ]
  refine wpAnyH_take (i := 9) (oi := ⟨some 15, _, _, _, _, _⟩) (v := ?va9) rfl (by kernel_rfl) (by kernel_rfl) (by kernel_rfl) (fun _ _ _ h => h) (Or.inl ⟨by rfl, ?ya9⟩) hS ?ra9
  case ya9 => intro W hW; go_simp; first | done | with_reducible rfl
  simp only [Act.put, List.setIfInBounds_toArray, List.set_cons_zero, List.set_cons_succ]
  refine wpAnyH_take (i := 10) (oi := ⟨some 14, _, _, _, _, _⟩) (v := ?va10) rfl (by kernel_rfl) (by kernel_rfl) (by kernel_rfl) (fun _ _ _ h => h) (Or.inl ⟨by rfl, ?ya10⟩) hS ?ra10
  case ya10 => intro W hW; go_simp; first | done | with_reducible rfl
  simp only [Act.put, List.setIfInBounds_toArray, List.set_cons_zero, List.set_cons_succ]
  refine wpAnyH_done (by kernel_rfl) ?_ _
  clear hS
  go_wp2_with (first
    | ((with_reducible show wpList _ _ _ (⟨some 58, .build _ _, _, _, _, _⟩ :: _) _ _); refine wp_build0 _ rfl 24 rfl _ (b24 _) ?_; simp only [Act.put, List.setIfInBounds_toArray, List.set_cons_zero, List.set_cons_succ])
    | ((with_reducible show wpList _ _ _ (⟨none, .store 24 (.tmp 4) (.tmp 58), _, _, _, _⟩ :: _) _ _); refine wp_putAll _ rfl 24 (.tmp 4) (.tmp 58) rfl g2 24 _ (uC [] [] 0 [] [] []) rfl rfl S7.b2 rfl n24 (uC_one _ _ _ _ _ _) ?_; intro w8 B8 U8; simp only [Act.put]; have S8 := S7.set2 B8 U8; clear B8 U8))
  refine ret_cell2 4 5 24 rfl g2 (uC [] [] 0 [] [] []) _ rfl S8.b2.whole Tryz.underlying24 rfl n24 rfl (.int .i64 7) rfl ⟨rfl, S8.kp⟩
set_option maxHeartbeats 8000000 in
set_option maxRecDepth 100000 in
theorem sp_e (sch q f r : List UInt8) (w : World) (p n : Int) (b A P N D Hs Pa : List UInt8) (c : Bool) (H1 : Hid (∀ w', Calls Tryz.prog 60 #[.string (str r), .string ⟨#[47, 47]⟩] w' fun e w2 => e = .returned (.tuple #[.string (str b), .bool true]) ∧ w2 = w')) (H2 : Hid (∀ w', Kept w w' → Calls Tryz.prog 31 #[.string (str b), .string ⟨#[47]⟩] w' fun e w2 => e = .returned (.tuple #[.string (str A), .string (str P), .bool c]) ∧ Below w'.heap.size w' w2)) (H3 : Hid (∀ w', Calls Tryz.prog 61 #[.string (str A), .string ⟨#[64]⟩] w' fun e w2 => e = .returned (.bool false) ∧ w2 = w')) (H4 : Hid (∀ w', Calls Tryz.prog 62 #[.string (str A)] w' fun e w2 => e = .returned (.tuple #[.string (str N), .string (str D)]) ∧ Below w'.heap.size w' w2)) (H5 : Hid (∀ w', Kept w w' → Calls Tryz.prog 63 #[.string (str N)] w' fun e w2 => e = .returned (.tuple #[.string (str Hs), .int .i64 0]) ∧ Below w'.heap.size w' w2)) (H6 : Hid (∀ w', Kept w w' → Calls Tryz.prog 64 #[.string (str D), .int .i64 p] w' fun e w2 => e = .returned (.tuple #[.int .i64 n, .int .i64 0]) ∧ Below w'.heap.size w' w2)) (HM : Hid (∀ w', Calls Tryz.prog 59 #[] w' fun e w2 => e = .returned (.map (some w'.heap.size)) ∧ w2 = w'.alloc (.map es7.toArray 7))) (HL : Hid (∀ w' : World, (Instr.lookup 76 (.map (some w'.heap.size)) (.string (str sch)) false).run Tryz.prog (w'.alloc (.map es7.toArray 7)) = .ok (.int .i64 p) (w'.alloc (.map es7.toArray 7)))) (H7 : Hid (∀ w', Kept w w' → Calls Tryz.prog 65 #[.string (str P)] w' fun e w2 => e = .returned (.string (str Pa)) ∧ Below w'.heap.size w' w2)) : Calls Tryz.prog 37 #[uV ⟨sch, [], -1, [], q, f⟩, .string (str r)] w fun e w' => e = .returned (rU (some ⟨sch, Hs, n, Pa, q, f⟩)) ∧ Below w.heap.size w w' := by
  go_enter Tryz.func37, Tryz.ntmps37
  go_wp2_with (first
    | ((with_reducible show wpList _ _ _ (⟨some 2, .box _ _, _, _, _, _⟩ :: _) _ _); refine wp_box _ rfl 24 _ rfl (uC sch [] (-1) [] q f) rfl ?_; intro w1 g1 B1 F1; simp only [Act.put, List.setIfInBounds_toArray, List.set_cons_zero, List.set_cons_succ])
    | ((with_reducible show wpList _ _ _ (⟨some 4, .alloc _, _, _, _, _⟩ :: _) _ _); refine wp_new _ rfl 24 rfl _ z24 ?_; intro w2 g2 B2 F2; simp only [Act.put, List.setIfInBounds_toArray, List.set_cons_zero, List.set_cons_succ]; have S2 := Sp.new B1 F1 B2 F2; clear B1 F1 B2 F2)
    | (go_at_call 60; (with_reducible refine (H1.out _).mono ?_); (rintro e w9 ⟨rfl, hw⟩; subst w9))
    | (go_at_call 31; (with_reducible refine (H2.out _ S2.kp).mono ?_); (rintro e w3 ⟨rfl, hb⟩; have S3 := S2.step hb; clear hb))
    | (go_at_call 61; (with_reducible refine (H3.out _).mono ?_); (rintro e w9 ⟨rfl, hw⟩; subst w9))
    | (go_at_call 62; (with_reducible refine (H4.out _).mono ?_); (rintro e w4 ⟨rfl, hb⟩; have S4 := S3.step hb; clear hb))
    | (go_at_call 63; (with_reducible refine (H5.out _ S4.kp).mono ?_); (rintro e w5 ⟨rfl, hb⟩; have S5 := S4.step hb; clear hb)))
  refine wp_region_held_drew (S := fun W => Kept w5 W) (by kernel_rfl) (Kept.refl w5).drew (fun hS => ?_)
  refine wpAnyH_take (i := 0) (oi := ⟨some 48, _, _, _, _, _⟩) (v := ?va0) rfl (by kernel_rfl) (by kernel_rfl) (by kernel_rfl) (fun _ _ _ h => h) (Or.inl ⟨by rfl, ?ya0⟩) hS ?ra0
  case ya0 => intro W hW; go_simp; first | done | with_reducible rfl
  simp only [Act.put, List.setIfInBounds_toArray, List.set_cons_zero, List.set_cons_succ]
  refine wpAnyH_take (i := 2) (oi := ⟨some 50, _, _, _, _, _⟩) (v := ?va2) rfl (by kernel_rfl) (by kernel_rfl) (by kernel_rfl) (fun _ _ _ h => h) (Or.inl ⟨by rfl, ?ya2⟩) hS ?ra2
  case ya2 => intro W hW; go_simp; first | done | with_reducible rfl
  simp only [Act.put, List.setIfInBounds_toArray, List.set_cons_zero, List.set_cons_succ]
  refine wpAnyH_take (i := 3) (oi := ⟨some 51, _, _, _, _, _⟩) (v := ?va3) rfl (by kernel_rfl) (by kernel_rfl) (by kernel_rfl) (fun _ _ _ h => h) (Or.inl ⟨by rfl, ?ya3⟩) hS ?ra3
  case ya3 => intro W hW; have hc : W.cell? ⟨g1, 0, none⟩ = some (.string (str sch)) := (S5.b1.kept hW).cell rfl; go_simp; first | done | with_reducible rfl
  simp only [Act.put, List.setIfInBounds_toArray, List.set_cons_zero, List.set_cons_succ]
  refine wpAnyH_ready (rs := [1]) (by kernel_rfl) (by simp) ?_
  refine (AllReadyH.cons (o := ⟨some 49, _, _, _, _, _⟩) rfl (fun K hK => ?_) AllReadyH.nil)
  try go_simp
  (with_reducible refine (HM.out _).mono ?_)
  rintro e w6 ⟨rfl, hw6⟩
  have hS6 : Kept w5 w6 := by rw [hw6]; exact Kept.alloc hS _
  have k6 : Kept w w6 := S5.kp.step hS6
  have hlk := HL.out w5.drew
  rw [← hw6] at hlk
  have hlk : (Instr.lookup 76 (.map (some w5.heap.size)) (.string (str sch)) false).run Tryz.prog w6 = .ok (.int .i64 p) w6 := hlk
  clear hw6
  refine hK.out _ _ hS6 (fun _ => ?_)
  clear hK K
  try simp only [Act.put, List.setIfInBounds_toArray, List.set_cons_zero, List.set_cons_succ]
  refine wpAnyH_ready (rs := [4]) (by kernel_rfl) (by simp) ?_
  refine (AllReadyH.cons (o := ⟨some 52, _, _, _, _, _⟩) rfl (fun K hK => ?_) AllReadyH.nil)
  try go_simp
  refine hK.out _ _ hS6 (fun _ => ?_)
  clear hK K
  try simp only [Act.put, List.setIfInBounds_toArray, List.set_cons_zero, List.set_cons_succ]
  refine wpAnyH_ready (rs := [5]) (by kernel_rfl) (by simp) ?_
  refine (AllReadyH.cons (o := ⟨some 53, _, _, _, _, _⟩) rfl (fun K hK => ?_) AllReadyH.nil)
  try go_simp
  (with_reducible refine (H6.out _ k6).mono ?_)
  rintro e w7 ⟨rfl, hb7⟩
  have hS7 : Kept w5 w7 := hS6.step hb7
  refine hK.out _ _ hS7 (fun _ => ?_)
  clear hK K hS hb7 hlk
  have hS := hS7
  have S7 := S5.step hS7
  clear hS7
  try simp only [Act.put, List.setIfInBounds_toArray, List.set_cons_zero, List.set_cons_succ]
  refine wpAnyH_take (i := 6) (oi := ⟨some 47, _, _, _, _, _⟩) (v := ?va6) rfl (by kernel_rfl) (by kernel_rfl) (by kernel_rfl) (fun _ _ _ h => h) (Or.inl ⟨by rfl, ?ya6⟩) hS ?ra6
  case ya6 => intro W hW; go_simp; first | done | with_reducible rfl
  simp only [Act.put, List.setIfInBounds_toArray, List.set_cons_zero, List.set_cons_succ]
  refine wpAnyH_take (i := 7) (oi := ⟨some 54, _, _, _, _, _⟩) (v := ?va7) rfl (by kernel_rfl) (by kernel_rfl) (by kernel_rfl) (fun _ _ _ h => h) (Or.inl ⟨by rfl, ?ya7⟩) hS ?ra7
  case ya7 => intro W hW; go_simp; first | done | with_reducible rfl
  simp only [Act.put, List.setIfInBounds_toArray, List.set_cons_zero, List.set_cons_succ]
  refine wpAnyH_take (i := 8) (oi := ⟨some 55, _, _, _, _, _⟩) (v := ?va8) rfl (by kernel_rfl) (by kernel_rfl) (by kernel_rfl) (fun _ _ _ h => h) (Or.inl ⟨by rfl, ?ya8⟩) hS ?ra8
  case ya8 => intro W hW; go_simp; first | done | with_reducible rfl
  simp only [Act.put, List.setIfInBounds_toArray, List.set_cons_zero, List.set_cons_succ]
  refine wpAnyH_take (i := 9) (oi := ⟨some 15, _, _, _, _, _⟩) (v := ?va9) rfl (by kernel_rfl) (by kernel_rfl) (by kernel_rfl) (fun _ _ _ h => h) (Or.inl ⟨by rfl, ?ya9⟩) hS ?ra9
  case ya9 => intro W hW; go_simp; first | done | with_reducible rfl
  simp only [Act.put, List.setIfInBounds_toArray, List.set_cons_zero, List.set_cons_succ]
  refine wpAnyH_take (i := 10) (oi := ⟨some 14, _, _, _, _, _⟩) (v := ?va10) rfl (by kernel_rfl) (by kernel_rfl) (by kernel_rfl) (fun _ _ _ h => h) (Or.inl ⟨by rfl, ?ya10⟩) hS ?ra10
  case ya10 => intro W hW; go_simp; first | done | with_reducible rfl
  simp only [Act.put, List.setIfInBounds_toArray, List.set_cons_zero, List.set_cons_succ]
  refine wpAnyH_done (by kernel_rfl) ?_ _
  clear hS
  go_wp2_with (first
    | (go_at_call 65; (with_reducible refine (H7.out _ S7.kp).mono ?_); (rintro e w8 ⟨rfl, hb⟩; have S8 := S7.step hb; clear hb))
    | ((with_reducible show wpList _ _ _ (⟨none, .store 9 (.tmp 63) (.tmp 59), _, _, _, _⟩ :: _) _ _); refine wp_set _ rfl 9 (.tmp 63) (.tmp 59) rfl g1 1 24 _ (.string (str Hs)) rfl rfl rfl rfl S8.b1 (by simp [uC]) n9 ?_; intro w10 B U; simp only [Act.put]; have S10 := S8.set1 B U; clear B U)
    | ((with_reducible show wpList _ _ _ (⟨none, .store 3 (.tmp 64) (.tmp 60), _, _, _, _⟩ :: _) _ _); refine wp_set _ rfl 3 (.tmp 64) (.tmp 60) rfl g1 2 24 _ (.int .i64 n) rfl rfl rfl rfl S10.b1 (by simp [uC]) n3 ?_; intro w11 B U; simp only [Act.put]; have S11 := S10.set1 B U; clear B U)
    | ((with_reducible show wpList _ _ _ (⟨none, .store 9 (.tmp 65) (.tmp 62), _, _, _, _⟩ :: _) _ _); refine wp_set _ rfl 9 (.tmp 65) (.tmp 62) rfl g1 3 24 _ (.string (str Pa)) rfl rfl rfl rfl S11.b1 (by simp [uC]) n9 ?_; intro w12 B U; simp only [Act.put]; have S12 := S11.set1 B U; clear B U)
    | ((with_reducible show wpList _ _ _ (⟨some 66, .load 24 (.tmp 2), _, _, _, _⟩ :: _) _ _); refine wp_get _ rfl 24 (.tmp 2) rfl g1 0 (uC sch Hs n Pa q f) _ rfl S12.b1.whole Tryz.underlying24 rfl n24 ?_; simp only [Act.put, List.setIfInBounds_toArray, List.set_cons_zero, List.set_cons_succ])
    | ((with_reducible show wpList _ _ _ (⟨none, .store 24 (.tmp 4) (.tmp 66), _, _, _, _⟩ :: _) _ _); refine wp_putAll _ rfl 24 (.tmp 4) (.tmp 66) rfl g2 24 _ (uC sch Hs n Pa q f) rfl rfl S12.b2 rfl n24 (uC_one _ _ _ _ _ _) ?_; intro w13 B U; simp only [Act.put]; have S13 := S12.set2 B U; clear B U))
  refine ret_cell2 4 5 24 rfl g2 (uC sch Hs n Pa q f) _ rfl S13.b2.whole Tryz.underlying24 rfl n24 rfl (.int .i64 0) rfl ⟨rfl, S13.kp⟩
theorem spec_any (sch q f r : List UInt8) (p : Int) (hp : dp sch = some p) (w : World) (hl : r.length ≤ 3000000) (ht : Tb w) :
    Calls Tryz.prog 37 #[uV ⟨sch, [], -1, [], q, f⟩, .string (str r)] w fun e w' => e = .returned (rU (if ([47, 47] : List UInt8).isPrefixOf r then psp sch p (r.drop 2) q f else none)) ∧ Below w.heap.size w w' := by
  have hsl := (dp_form sch p hp).2.2.2
  have H1 := fun w' => Tryz.strings_CutPrefix (str r) ⟨#[47, 47]⟩ w'
  have e1 : Lib.hasPrefix r [47, 47] = ([47, 47] : List UInt8).isPrefixOf r := rfl
  have e2 : Lib.trimPrefix r [47, 47] = if Lib.hasPrefix r [47, 47] then r.drop 2 else r := rfl
  have H1 : ∀ w', Calls Tryz.prog 60 #[.string (str r), .string ⟨#[47, 47]⟩] w' fun e w2 => e = .returned (.tuple #[.string (str (Lib.trimPrefix r [47, 47])), .bool (Lib.hasPrefix r [47, 47])]) ∧ w2 = w' := H1
  rw [e2, e1] at H1
  have HM := Lib.hid schemes_any
  have HL : Hid (∀ w' : World, (Instr.lookup 76 (.map (some w'.heap.size)) (.string (str sch)) false).run Tryz.prog (w'.alloc (.map es7.toArray 7)) = .ok (.int .i64 p) (w'.alloc (.map es7.toArray 7))) := fun w' => by
    have := look (w'.alloc (.map es7.toArray 7)) w'.heap.size (Go.heap_alloc_new w' _) sch (by omega) false
    simpa [dpV, hp] using this
  have hcut : ∀ b : List UInt8, b.length ≤ 3000000 → Hid (∀ w', Kept w w' → Calls Tryz.prog 31 #[.string (str b), .string ⟨#[47]⟩] w' fun e w2 => e = .returned (.tuple #[.string (str (bef 47 b)), .string (str (aft 47 b)), .bool (b.contains 47)]) ∧ Below w'.heap.size w' w2) := fun b hb w' hk => cutb_any 47 b w' (by omega) (ht.kp hk)
  cases hx : ([47, 47] : List UInt8).isPrefixOf r with
  | false =>
    rw [hx] at H1
    exact sp_a sch q f r w r _ _ _ (Lib.hid H1) (hcut r hl)
  | true =>
    rw [hx] at H1
    simp only [if_true]
    simp only [if_true] at H1
    have hbl : (r.drop 2).length ≤ 3000000 := by rw [List.length_drop]; omega
    have H2 := hcut (r.drop 2) hbl
    have h1 := Lib.hid H1
    generalize r.drop 2 = b at hbl H2 h1 ⊢
    have hal := bef_len 47 b
    have hfl := aft_len 47 b
    have H3 : Hid (∀ w', Calls Tryz.prog 61 #[.string (str (bef 47 b)), .string ⟨#[64]⟩] w' fun e w2 => e = .returned (.bool ((bef 47 b).contains 64)) ∧ w2 = w') := fun w' => contains_any 64 (bef 47 b) w'
    unfold psp
    cases hc : (bef 47 b).contains 64 with
    | true =>
      rw [hc] at H3
      exact sp_b sch q f r w b _ _ _ h1 H2 H3
    | false =>
      rw [hc] at H3
      simp only [Bool.false_eq_true, if_false]
      have H4 : Hid (∀ w', Calls Tryz.prog 62 #[.string (str (bef 47 b))] w' fun e w2 => e = .returned (.tuple #[.string (str (cpt (bef 47 b)).1), .string (str (cpt (bef 47 b)).2)]) ∧ Below w'.heap.size w' w2) := fun w' => cutPort_any (bef 47 b) w' (by omega)
      have hnl : (cpt (bef 47 b)).1.length ≤ 3000000 ∧ (cpt (bef 47 b)).2.length ≤ 3000000 := by
        unfold cpt
        split
        · constructor
          · rw [List.length_take]; omega
          · rw [List.length_drop]; omega
        · exact ⟨by show (bef 47 b).length ≤ _; omega, by simp⟩
      have H5 : Hid (∀ w', Kept w w' → Calls Tryz.prog 63 #[.string (str (cpt (bef 47 b)).1)] w' fun e w2 => e = .returned (prsV (prs (cpt (bef 47 b)).1)) ∧ Below w'.heap.size w' w2) := fun w' hk => parse_any _ w' (by omega) (ht.kp hk).1
      have H6 : Hid (∀ w', Kept w w' → Calls Tryz.prog 64 #[.string (str (cpt (bef 47 b)).2), .int .i64 p] w' fun e w2 => e = .returned (ptV (prtN (cpt (bef 47 b)).2 p)) ∧ Below w'.heap.size w' w2) := fun w' hk => port_any _ p w' (by omega) (ht.kp hk)
      have H7 : Hid (∀ w', Kept w w' → Calls Tryz.prog 65 #[.string (str (aft 47 b))] w' fun e w2 => e = .returned (.string (str (pth (aft 47 b)))) ∧ Below w'.heap.size w' w2) := fun w' hk => path_any _ w' (by omega) (ht.kp hk)
      generalize cpt (bef 47 b) = nd at H4 H5 H6 hnl ⊢
      rcases hpr : prs nd.1 with ⟨h, e⟩
      unfold prsV errV at H5
      rw [hpr] at H5
      cases e with
      | true => exact sp_c sch q f r w b _ _ _ _ h _ h1 H2 H3 H4 H5
      | false =>
        simp only [Bool.false_eq_true, if_false]
        cases ho : prtN nd.2 p with
        | none =>
          rw [ho] at H6
          exact sp_d sch q f r w p 0 b _ _ _ _ h _ h1 H2 H3 H4 H5 H6 HM HL
        | some n =>
          rw [ho] at H6
          exact sp_e sch q f r w p n b _ _ _ _ h _ _ h1 H2 H3 H4 H5 H6 HM HL H7
end Go.Proofs.YtcepigekibidfaaGreatDoor
