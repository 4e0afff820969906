/-
  What transeptlaw08.WeburlClean answers: true; nothing that was there turns. Condition: the library's tables.
-/
import Derived.Test.YtcepigekibidfaaGreatDoorGr
import Derived.Test.YtcepigekibidfaaGreatDoorGn
import Derived.Test.YtcepigekibidfaaGreatDoorGj
import Derived.Test.YtcepigekibidfaaGreatDoorWfp
namespace Go.Proofs.YtcepigekibidfaaGreatDoor
open Go.RowKit

theorem i64_maskC (n : Int) (m : Int) (k : Nat) (h1 : (BitVec.ofInt 64 m).toNat = 2 ^ k - 1) (hk : k = 2) : bits .and .i64 n m = n % (2 ^ k : Nat) := by
  have key : (BitVec.ofInt 64 n &&& BitVec.ofInt 64 m).toNat = (n % ((2 ^ 64 : Nat) : Int)).toNat % 2 ^ k := by
    rw [BitVec.toNat_and, BitVec.toNat_ofInt, h1, Nat.and_two_pow_sub_one_eq_mod]
  show IntKind.i64.wrap ((BitVec.ofInt 64 n &&& BitVec.ofInt 64 m).toNat : Nat) = n % (2 ^ k : Nat)
  rw [key, IntKind.wrap_i64]
  subst hk
  omega
theorem Hl.allocC {w wi : World} {L : List (Nat × List Value)} (h : Hl w wi L) {o : Obj} : Hl w (wi.alloc o) L := h.step ((Below.refl _ _).alloc (Nat.le_refl _) o)
theorem szC2 {a b : List UInt8} (h : a.length + b.length ≤ 9000) : ¬ (9223372036854775807 : Nat) < (str a).size + (str b).size := by rw [str_size, str_size]; omega
theorem szCl {b : List UInt8} {n : Nat} (h : n + b.length ≤ 9000) : ¬ (9223372036854775807 : Nat) < n + (str b).size := by rw [str_size]; omega
theorem szCr {a : List UInt8} {n : Nat} (h : a.length + n ≤ 9000) : ¬ (9223372036854775807 : Nat) < (str a).size + n := by rw [str_size]; omega
section
variable {ops : Array Oper} {o : Oper} {a : Act} {K : Act → World → Prop} {Q : Exit → Act → World → Prop} {E : Prop}
/-- A variable of a struct type, made in a region that draws its order. -/
theorem step_new8 (w : World) (hgd : o.guard = none) (t : TypeId) (ho : o.op = .alloc t) (Z : List Value) (hz : (Tryz.prog.info? t).map (fun i => i.zero) = some (some (.agg Z.toArray)))
    (h : ∀ w' g, Blk w' g t Z → Fresh w w' g → K (a.put o.dst (.pointer (some ⟨g, 0, none⟩))) w') :
    if Region.wanted o (yielded ops a.tmps) = true then Oper.wp Tryz.prog o a w K Q else E := by
  have hw : Region.wanted o (yielded ops a.tmps) = true := by simp [Region.wanted, hgd]
  rw [if_pos hw]
  have h := h (w.alloc (.cells Z.toArray t)) _ (Blk.new w t Z) (Fresh.alloc w _)
  have hzv : ∀ w, (zeroValue t).run Tryz.prog w = .ok (.agg Z.toArray) w := by
    intro w
    cases hq : Tryz.prog.info? t with
    | none => simp [hq] at hz
    | some i =>
      simp [hq] at hz
      simp [zeroValue, typeInfo, hq, hz]
  unfold Oper.wp execOp
  simp only [ho, Instr.alloc, Sem.run_bind, hzv, Result.andThen_ok, Sem.run_pure, newVar, newRow, newObj, Value.cells]
  exact h
end
theorem Hl.put {w wi wk : World} {g : Nat} {C : List Value} {L : List (Nat × List Value)} (h : Hl w wi L) (hne : ∀ x ∈ L, x.1 ≠ g) (hg : w.heap.size ≤ g) (u : Upd g wi wk) (b : Blk wk g 24 C) : Hl w wk ((g, C) :: L) := by
  refine ⟨h.1.base (u.below hg), fun x hx => ?_⟩
  rcases List.mem_cons.1 hx with rfl | hx
  · exact ⟨b.lt, b⟩
  · have h1 := h.2 x hx
    exact ⟨by have := u.size; omega, h1.2.upd u (hne x hx)⟩
theorem Hl.tl {w wi : World} {x : Nat × List Value} {L : List (Nat × List Value)} (h : Hl w wi (x :: L)) : Hl w wi L := ⟨h.1, fun y hy => h.2 y (List.mem_cons_of_mem _ hy)⟩
theorem Hl.before {w wi wj : World} {g : Nat} {L : List (Nat × List Value)} (h : Hl w wi L) (f : Fresh wi wj g) : (∀ x ∈ L, x.1 ≠ g) ∧ w.heap.size ≤ g := ⟨fun x hx => by have := (h.2 x hx).1; rw [f.is]; omega, by rw [f.is]; exact h.1.size⟩
/-- The first k bytes, letters ahead of place C in upper case. -/
def ups (s : List UInt8) (C k : Nat) : List UInt8 := ((s.take k).take C).map upc ++ (s.take k).drop C
theorem ups_lo (s : List UInt8) (C k : Nat) (hk : k < s.length) (h : k < C) (c : UInt8) (hc : c = s.getD k 0) : ups s C (k + 1) = ups s C k ++ [upc c] := by
  unfold ups
  have e : s.take (k + 1) = s.take k ++ [c] := by
    rw [List.take_add_one, List.getElem?_eq_getElem hk, hc, List.getD_eq_getElem?_getD, List.getElem?_eq_getElem hk]
    rfl
  have hl : (s.take k).length = k := by rw [List.length_take]; omega
  have t1 : (s.take k ++ [c]).take C = s.take k ++ [c] := List.take_of_length_le (by rw [List.length_append, hl]; simp; omega)
  have t2 : (s.take k).take C = s.take k := List.take_of_length_le (by omega)
  have d1 : (s.take k ++ [c]).drop C = [] := List.drop_eq_nil_of_le (by rw [List.length_append, hl]; simp; omega)
  have d2 : (s.take k).drop C = [] := List.drop_eq_nil_of_le (by omega)
  rw [e, t1, t2, d1, d2]
  simp
theorem ups_hi (s : List UInt8) (C k : Nat) (hk : k < s.length) (h : ¬ k < C) (c : UInt8) (hc : c = s.getD k 0) : ups s C (k + 1) = ups s C k ++ [c] := by
  unfold ups
  have e : s.take (k + 1) = s.take k ++ [c] := by
    rw [List.take_add_one, List.getElem?_eq_getElem hk, hc, List.getD_eq_getElem?_getD, List.getElem?_eq_getElem hk]
    rfl
  have hl : (s.take k).length = k := by rw [List.length_take]; omega
  rw [e, List.take_append_of_le_length (by omega), List.drop_append_of_le_length (by omega), List.append_assoc]
theorem ups_len (s : List UInt8) (C k : Nat) : (ups s C k).length ≤ k := by
  unfold ups
  rw [List.length_append, List.length_map, ← List.length_append, List.take_append_drop, List.length_take]
  omega
theorem ups_all (s : List UInt8) (C : Nat) : ups s C s.length = (s.take C).map upc ++ s.drop C := by
  unfold ups
  rw [List.take_length]
theorem upc_no (c : UInt8) (h : c.toNat < 97 ∨ 122 < c.toNat) : upc c = c := by
  unfold upc
  rw [if_neg (by omega)]
theorem upc_yes (c : UInt8) (h : 97 ≤ c.toNat ∧ c.toNat ≤ 122) : (upc c).toNat = c.toNat - 32 := by
  unfold upc
  rw [if_pos h]
  have h1 : (32 : UInt8) ≤ c := by rw [UInt8.le_iff_toNat_le]; show 32 ≤ _; omega
  rw [UInt8.toNat_sub_of_le c 32 h1]
  rfl
set_option maxHeartbeats 8000000 in
set_option maxRecDepth 100000 in
theorem cl_0_col (u : U) (en : Int) (l s0 S1 s P D X1 X2 X3 X Up : List UInt8) (n1 n2 : Int) (m N N1 k y CC : Nat) (w : World) (hm : min (l.length : Int) 300 = (m : Int)) (hm2 : m ≤ l.length) (hts : (str l).extract 0 m = str s0) (hsl : (str l).size = l.length) (a1 : ⟨#[104]⟩ ++ str s0 = str S1) (a2 : str S1 ++ ⟨#[122]⟩ = str s) (q1 : ¬ (9223372036854775807 : Nat) < 1 + (str s0).size) (q2 : ¬ (9223372036854775807 : Nat) < (str S1).size + 1) (hN : N = s.length) (hN2 : N ≤ 302) (hN1 : (N : Int) + 1 = (N1 : Int)) (hN1w : IntKind.i64.wrap (N1 : Int) = (N1 : Int)) (hy : bits .and .i64 n1 65535 = (y : Int)) (hk' : Int.tmod (y : Int) (N1 : Int) = (k : Int)) (hkN : k ≤ N) (hz : bits .and .i64 n2 3 = 0) (HS : Hid (∀ w', Kept w w' → Calls Tryz.prog 13 #[] w' fun e w2 => e = .returned (.bool true) ∧ Below w'.heap.size w' w2)) (HU : Hid (∀ w', Kept w w' → Calls Tryz.prog 14 #[.string (str s)] w' fun e w2 => e = .returned (.tuple #[.agg (uC u.sch u.host u.port u.path u.q u.f).toArray, .int .i64 en]) ∧ Below w'.heap.size w' w2)) (HV : Hid (∀ w', Kept w w' → Calls Tryz.prog 14 #[.string (str X)] w' fun e w2 => e = .returned (.tuple #[.agg (uC u.sch u.host u.port u.path u.q u.f).toArray, .int .i64 en]) ∧ Below w'.heap.size w' w2)) (HW : Hid (∀ w', Kept w w' → Calls Tryz.prog 14 #[.string (str Up)] w' fun e w2 => e = .returned (.tuple #[.agg (uC u.sch u.host u.port u.path u.q u.f).toArray, .int .i64 en]) ∧ Below w'.heap.size w' w2)) (HF : Hid (∀ w', Calls Tryz.prog 26 #[.string (str s), .int .u8 58] w' fun e w2 => e = .returned (.int .i64 (CC : Int)) ∧ w2 = w')) (t1 : (str s).extract 0 k = str P) (t2 : (str s).extract k N = str D) (b1 : ⟨#[32, 0, 10]⟩ ++ str P = str X1) (b2 : str X1 ++ ⟨#[9]⟩ = str X2) (b3 : str X2 ++ str D = str X3) (b4 : str X3 ++ ⟨#[9, 32, 31]⟩ = str X) (r1 : ¬ (9223372036854775807 : Nat) < 3 + (str P).size) (r2 : ¬ (9223372036854775807 : Nat) < (str X1).size + 1) (r3 : ¬ (9223372036854775807 : Nat) < (str X2).size + (str D).size) (r4 : ¬ (9223372036854775807 : Nat) < (str X3).size + 3) (hUp : Hid (ups s CC N = Up)) (hcc : ((CC : Int) == (N : Int)) = false) : Calls Tryz.prog 6 #[.string (str l), .int .i64 n1, .int .i64 n2] w fun e w' => e = .returned (.bool true) ∧ Below w.heap.size w w' := by
    have hsz := str_size s
    have hgb : Hid (∀ k, k < N → ∀ h, ((str s)[k]'h).toNat = (s.getD k 0).toNat) := fun k hk h => str_at s k (by omega) h
    have hlo : Hid (∀ k, k < N → k < CC → ups s CC (k + 1) = ups s CC k ++ [upc (s.getD k 0)]) := fun k hk h => ups_lo s CC k (by omega) h _ rfl
    have hhi : Hid (∀ k, k < N → ¬ k < CC → ups s CC (k + 1) = ups s CC k ++ [s.getD k 0]) := fun k hk h => ups_hi s CC k (by omega) h _ rfl
    have hle : Hid (∀ k, (ups s CC k).length ≤ k) := fun k => ups_len s CC k
    rw [← hN] at hsz
    clear hN
    have hee : (en == en) = true := by simp
    go_enter Tryz.func6, Tryz.ntmps6
    go_wp2_with (first
      | (go_at_call 13; (with_reducible refine (HS.out _ (Hl.nil w).kp).mono ?_); (rintro e w1 ⟨rfl, hb⟩; have H0 := (Hl.nil w).step hb; clear hb))
      | (go_at_call 14; (with_reducible refine (HU.out _ H0.kp).mono ?_); (rintro e wa1 ⟨rfl, hb⟩; have G1 := H0.step hb; clear hb))
      | ((with_reducible show wpList _ _ _ (⟨some 8, .alloc _, _, _, _, _⟩ :: _) _ _); refine wp_new _ rfl 24 rfl _ z24 ?_; intro wb1 g1 B1 F1; simp only [Act.put, List.setIfInBounds_toArray, List.set_cons_zero, List.set_cons_succ])
      | ((with_reducible show wpList _ _ _ (⟨none, .store 24 (.tmp 8) (.tmp 31), _, _, _, _⟩ :: _) _ _); refine wp_putAll _ rfl 24 (.tmp 8) (.tmp 31) rfl g1 24 _ (uC u.sch u.host u.port u.path u.q u.f) rfl rfl B1 rfl n24 (uC_one _ _ _ _ _ _) ?_; intro wc1 B U; simp only [Act.put]; have H1 := G1.new F1 U B; clear B U F1 B1 G1))
    have H1a := H1.allocC (o := .cells #[.string ⟨#[9]⟩, .string ⟨#[10]⟩, .string ⟨#[13]⟩, .string ⟨#[13, 10, 9]⟩] 9)
    refine wp_region_held_drew (S := fun W => Hl w W [(g1, uC u.sch u.host u.port u.path u.q u.f)]) (by kernel_rfl) (H1a.step (Below.refl _ _).drew) (fun hS => ?_)
    clear H0 H1 H1a
    refine wpAnyH_take (i := 0) (oi := ⟨some 45, _, _, _, _, _⟩) (v := ?va0) rfl (by kernel_rfl) (by kernel_rfl) (by kernel_rfl) (fun _ _ _ h => h) (Or.inl ⟨by rfl, ?ya0⟩) hS ?ra0
    case ya0 => intro W hW; go_simp; first | done | with_reducible rfl
    simp only [Act.put, List.setIfInBounds_toArray, List.set_cons_zero, List.set_cons_succ]
    refine wpAnyH_take (i := 1) (oi := ⟨some 46, _, _, _, _, _⟩) (v := ?va1) rfl (by kernel_rfl) (by kernel_rfl) (by kernel_rfl) (fun _ _ _ h => h) (Or.inl ⟨by rfl, ?ya1⟩) hS ?ra1
    case ya1 => intro W hW; go_simp; first | done | with_reducible rfl
    simp only [Act.put, List.setIfInBounds_toArray, List.set_cons_zero, List.set_cons_succ]
    refine wpAnyH_take (i := 2) (oi := ⟨some 47, _, _, _, _, _⟩) (v := ?va2) rfl (by kernel_rfl) (by kernel_rfl) (by kernel_rfl) (fun _ _ _ h => h) (Or.inl ⟨by rfl, ?ya2⟩) hS ?ra2
    case ya2 => intro W hW; go_simp; first | done | with_reducible rfl
    simp only [Act.put, List.setIfInBounds_toArray, List.set_cons_zero, List.set_cons_succ]
    refine wpAnyH_take (i := 3) (oi := ⟨some 48, _, _, _, _, _⟩) (v := ?va3) rfl (by kernel_rfl) (by kernel_rfl) (by kernel_rfl) (fun _ _ _ h => h) (Or.inl ⟨by rfl, ?ya3⟩) hS ?ra3
    case ya3 => intro W hW; go_simp; first | done | with_reducible rfl
    simp only [Act.put, List.setIfInBounds_toArray, List.set_cons_zero, List.set_cons_succ]
    refine wpAnyH_take (i := 4) (oi := ⟨some 49, _, _, _, _, _⟩) (v := ?va4) rfl (by kernel_rfl) (by kernel_rfl) (by kernel_rfl) (fun _ _ _ h => h) (Or.inl ⟨by rfl, ?ya4⟩) hS ?ra4
    case ya4 => intro W hW; go_simp; first | done | with_reducible rfl
    simp only [Act.put, List.setIfInBounds_toArray, List.set_cons_zero, List.set_cons_succ]
    refine wpAnyH_take (i := 5) (oi := ⟨some 50, _, _, _, _, _⟩) (v := ?va5) rfl (by kernel_rfl) (by kernel_rfl) (by kernel_rfl) (fun _ _ _ h => h) (Or.inl ⟨by rfl, ?ya5⟩) hS ?ra5
    case ya5 => intro W hW; go_simp; first | done | with_reducible rfl
    simp only [Act.put, List.setIfInBounds_toArray, List.set_cons_zero, List.set_cons_succ]
    refine wpAnyH_take (i := 6) (oi := ⟨some 51, _, _, _, _, _⟩) (v := ?va6) rfl (by kernel_rfl) (by kernel_rfl) (by kernel_rfl) (fun _ _ _ h => h) (Or.inl ⟨by rfl, ?ya6⟩) hS ?ra6
    case ya6 => intro W hW; go_simp; first | done | with_reducible rfl
    simp only [Act.put, List.setIfInBounds_toArray, List.set_cons_zero, List.set_cons_succ]
    refine wpAnyH_take (i := 7) (oi := ⟨some 52, _, _, _, _, _⟩) (v := ?va7) rfl (by kernel_rfl) (by kernel_rfl) (by kernel_rfl) (fun _ _ _ h => h) (Or.inl ⟨by rfl, ?ya7⟩) hS ?ra7
    case ya7 => intro W hW; go_simp; first | done | with_reducible rfl
    simp only [Act.put, List.setIfInBounds_toArray, List.set_cons_zero, List.set_cons_succ]
    refine wpAnyH_take (i := 8) (oi := ⟨some 53, _, _, _, _, _⟩) (v := ?va8) rfl (by kernel_rfl) (by kernel_rfl) (by kernel_rfl) (fun _ _ _ h => h) (Or.inl ⟨by rfl, ?ya8⟩) hS ?ra8
    case ya8 => intro W hW; go_simp; first | done | with_reducible rfl
    simp only [Act.put, List.setIfInBounds_toArray, List.set_cons_zero, List.set_cons_succ]
    refine wpAnyH_take (i := 9) (oi := ⟨some 54, _, _, _, _, _⟩) (v := ?va9) rfl (by kernel_rfl) (by kernel_rfl) (by kernel_rfl) (fun _ _ _ h => h) (Or.inl ⟨by rfl, ?ya9⟩) hS ?ra9
    case ya9 => intro W hW; go_simp; first | done | with_reducible rfl
    simp only [Act.put, List.setIfInBounds_toArray, List.set_cons_zero, List.set_cons_succ]
    refine wpAnyH_take (i := 10) (oi := ⟨some 55, _, _, _, _, _⟩) (v := ?va10) rfl (by kernel_rfl) (by kernel_rfl) (by kernel_rfl) (fun _ _ _ h => h) (Or.inl ⟨by rfl, ?ya10⟩) hS ?ra10
    case ya10 => intro W hW; go_simp; first | done | with_reducible rfl
    simp only [Act.put, List.setIfInBounds_toArray, List.set_cons_zero, List.set_cons_succ]
    refine wpAnyH_ready (rs := [11, 15]) (by kernel_rfl) (by simp) ?_
    refine (AllReadyH.cons (o := ⟨some 56, _, _, _, _, _⟩) rfl (fun K hK => ?_) (AllReadyH.cons (o := ⟨some 12, _, _, _, _, _⟩) rfl (fun K hK => ?_) AllReadyH.nil))
    · try go_simp
      (with_reducible refine (HV.out _ hS.kp).mono ?_)
      rintro e w3 ⟨rfl, hbw3⟩
      have hS3 := hS.step hbw3
      refine hK.out _ _ hS3 (fun _ => ?_)
      clear hK K
      try simp only [Act.put, List.setIfInBounds_toArray, List.set_cons_zero, List.set_cons_succ]
      clear hS
      have hS := hS3
      clear hS3
      refine wpAnyH_take (i := 12) (oi := ⟨some 44, _, _, _, _, _⟩) (v := ?vb12) rfl (by kernel_rfl) (by kernel_rfl) (by kernel_rfl) (fun _ _ _ h => h) (Or.inl ⟨by rfl, ?yb12⟩) hS ?rb12
      case yb12 => intro W hW; go_simp; first | done | with_reducible rfl
      simp only [Act.put, List.setIfInBounds_toArray, List.set_cons_zero, List.set_cons_succ]
      refine wpAnyH_take (i := 13) (oi := ⟨some 57, _, _, _, _, _⟩) (v := ?vb13) rfl (by kernel_rfl) (by kernel_rfl) (by kernel_rfl) (fun _ _ _ h => h) (Or.inl ⟨by rfl, ?yb13⟩) hS ?rb13
      case yb13 => intro W hW; go_simp; first | done | with_reducible rfl
      simp only [Act.put, List.setIfInBounds_toArray, List.set_cons_zero, List.set_cons_succ]
      refine wpAnyH_take (i := 14) (oi := ⟨some 58, _, _, _, _, _⟩) (v := ?vb14) rfl (by kernel_rfl) (by kernel_rfl) (by kernel_rfl) (fun _ _ _ h => h) (Or.inl ⟨by rfl, ?yb14⟩) hS ?rb14
      case yb14 => intro W hW; go_simp; first | done | with_reducible rfl
      simp only [Act.put, List.setIfInBounds_toArray, List.set_cons_zero, List.set_cons_succ]
      refine wpAnyH_ready (rs := [15]) (by kernel_rfl) (by simp) ?_
      refine (AllReadyH.cons (o := ⟨some 12, _, _, _, _, _⟩) rfl (fun K hK => ?_) AllReadyH.nil)
      refine step_new8 _ rfl 24 rfl _ z24 ?_
      intro w4 g2 B2 F2
      have hS4 := hS.step F2.below
      refine hK.out _ _ hS4 (fun _ => ?_)
      clear hK K
      simp only [Act.put, List.setIfInBounds_toArray, List.set_cons_zero, List.set_cons_succ]
      refine wpAnyH_ready (rs := [16]) (by kernel_rfl) (by simp) ?_
      refine (AllReadyH.cons (o := ⟨none, _, _, _, _, _⟩) rfl (fun K hK => ?_) AllReadyH.nil)
      refine step_putAll _ rfl 24 (.tmp 12) (.tmp 57) rfl g2 24 _ (uC u.sch u.host u.port u.path u.q u.f) rfl rfl B2 rfl n24 (uC_one _ _ _ _ _ _) ?_
      intro w6 B6 U6
      have HH := hS.new F2 U6 B6
      refine hK.out _ _ HH.tl (fun _ => ?_)
      clear hK K hS4 B2 F2 B6 U6 hS
      have hS := HH.tl
      simp only [Act.put]
      refine wpAnyH_take (i := 17) (oi := ⟨some 13, _, _, _, _, _⟩) (v := ?vd17) rfl (by kernel_rfl) (by kernel_rfl) (by kernel_rfl) (fun _ _ _ h => h) (Or.inl ⟨by rfl, ?yd17⟩) hS ?rd17
      case yd17 => intro W hW; go_simp; first | done | with_reducible rfl
      simp only [Act.put, List.setIfInBounds_toArray, List.set_cons_zero, List.set_cons_succ]
      refine wpAnyH_done (by kernel_rfl) ?_ _
      have H2 := HH
      clear HH hS
      go_wp2_with (first
        | (go_at_call 26; (with_reducible refine (HF.out _).mono ?_); (rintro e w5 ⟨rfl, rfl⟩)))
      go_loopw [16, 15] (fun i v wr => ∃ k : Nat, k ≤ N ∧ i = .int .i64 (k : Int) ∧ v = .string (str (ups s CC k)) ∧ Hl w wr [(g2, uC u.sch u.host u.port u.path u.q u.f), (g1, uC u.sch u.host u.port u.path u.q u.f)]) (fun i _ _ => N - (intOf i).toNat)
      case atStart => exact ⟨0, by omega, rfl, by simp [ups, str], H2⟩
      case round =>
        obtain ⟨k, hk, rfl, rfl, H3⟩ := hrel
        clear H2
        have hL := hle.out k
        by_cases hlt : k < N
        · have hkS : (k : Int) < (N : Int) := by omega
          have HG := hgb.out k hlt
          have HLO := hlo.out k hlt
          have HHI := hhi.out k hlt
          obtain ⟨c, hc⟩ : ∃ c, c = s.getD k 0 := ⟨_, rfl⟩
          obtain ⟨b, hb⟩ : ∃ b, b = c.toNat := ⟨_, rfl⟩
          rw [← hc] at HG HLO HHI
          rw [← hb] at HG
          have hb9 : b < 256 := by rw [hb]; exact c.toNat_lt
          obtain ⟨A, hA⟩ : ∃ X, X = ups s CC k := ⟨_, rfl⟩
          obtain ⟨Y, hY⟩ : ∃ X, X = ups s CC (k + 1) := ⟨_, rfl⟩
          rw [← hA] at HLO HHI hL ⊢
          rw [← hY] at HLO HHI
          have sA : (str A).size ≤ 302 := by rw [str_size]; omega
          have HY := Lib.hid hY
          have HB := Lib.hid hb
          have hk1 : k + 1 ≤ N := hlt
          have key : ∀ d : UInt8, Y = A ++ [d] → Hid (str A ++ str [d] = str Y) := fun d e => by show _ = _; rw [e]; exact str_add _ _
          clear hc hb hA hY hL
          by_cases hC : k < CC
          · have hkC : (k : Int) < (CC : Int) := by omega
            have hcase : b < 97 ∨ (97 ≤ b ∧ b ≤ 122) ∨ 122 < b := by omega
            rcases hcase with hr | hr | hr
            · have c1 : decide ((97 : Int) ≤ (b : Int)) = false := by simp; omega
              have aY := (key c (by rw [HLO hC, upc_no c (by have := HB.out; omega)])).out
              have hrun := run_oneb wr b c HB.out
              have s1 : (str [c]).size = 1 := str_size _
              clear HLO HHI key hC hr
              go_wp2_with fail
              go_roundw
              case rel => exact ⟨k + 1, by omega, by go_num, by rw [HY.out], H3.allocC⟩
              case measure => simp [intOf]; omega
            · have c1 : decide ((97 : Int) ≤ (b : Int)) = true := by simp; omega
              have c2 : decide ((b : Int) ≤ 122) = true := by simp; omega
              have aY := (key (upc c) (HLO hC)).out
              have hup := upc_yes c (by have := HB.out; omega)
              rw [← HB.out] at hup
              obtain ⟨b2, hb2⟩ : ∃ b2, b2 = b - 32 := ⟨_, rfl⟩
              have hb3 : (b : Int) - 32 = (b2 : Int) := by omega
              have hb4 : IntKind.u8.wrap (b2 : Int) = (b2 : Int) := by rw [IntKind.wrap_u8]; omega
              have hrun := run_oneb wr b2 (upc c) (by rw [hb2, hup])
              have s1 : (str [upc c]).size = 1 := str_size _
              clear HLO HHI key hC hr hb2 hup
              generalize upc c = d at aY hrun s1
              go_wp2_with fail
              go_roundw
              case rel => exact ⟨k + 1, by omega, by go_num, by rw [HY.out], H3.allocC⟩
              case measure => simp [intOf]; omega
            · have c1 : decide ((97 : Int) ≤ (b : Int)) = true := by simp; omega
              have c2 : decide ((b : Int) ≤ 122) = false := by simp; omega
              have aY := (key c (by rw [HLO hC, upc_no c (by have := HB.out; omega)])).out
              have hrun := run_oneb wr b c HB.out
              have s1 : (str [c]).size = 1 := str_size _
              clear HLO HHI key hC hr
              go_wp2_with fail
              go_roundw
              case rel => exact ⟨k + 1, by omega, by go_num, by rw [HY.out], H3.allocC⟩
              case measure => simp [intOf]; omega
          · have hkC : ¬ (k : Int) < (CC : Int) := by omega
            have aY := (key c (HHI hC)).out
            have hrun := run_oneb wr b c HB.out
            have s1 : (str [c]).size = 1 := str_size _
            clear HLO HHI key hC
            go_wp2_with fail
            go_roundw
            case rel => exact ⟨k + 1, by omega, by go_num, by rw [HY.out], H3.allocC⟩
            case measure => simp [intOf]; omega
        · have hkS : ¬ (k : Int) < (N : Int) := by omega
          obtain rfl : k = N := by omega
          rw [hUp.out]
          clear hlt hL hk hUp
          go_wp2_with (first
            | (go_at_call 14; (with_reducible refine (HW.out _ H3.kp).mono ?_); (rintro e wa3 ⟨rfl, hb⟩; have G3 := H3.step hb; clear hb))
            | ((with_reducible show wpList _ _ _ (⟨some 18, .alloc _, _, _, _, _⟩ :: _) _ _); refine wp_new _ rfl 24 rfl _ z24 ?_; intro wb3 g3 B3 F3; simp only [Act.put, List.setIfInBounds_toArray, List.set_cons_zero, List.set_cons_succ])
            | ((with_reducible show wpList _ _ _ (⟨none, .store 24 (.tmp 18) (.tmp 91), _, _, _, _⟩ :: _) _ _); refine wp_putAll _ rfl 24 (.tmp 18) (.tmp 91) rfl g3 24 _ (uC u.sch u.host u.port u.path u.q u.f) rfl rfl B3 rfl n24 (uC_one _ _ _ _ _ _) ?_; intro wc3 B U; simp only [Act.put]; have H4 := G3.new F3 U B; clear B U F3 B3 G3)
            | ((with_reducible show wpList _ _ _ (⟨some 95, .load 24 (.tmp 8), _, _, _, _⟩ :: _) _ _); refine wp_getU _ (by rfl) (.tmp 8) rfl g1 u rfl (H4.at (x := (g1, uC u.sch u.host u.port u.path u.q u.f)) (by simp)) ?_; simp only [Act.put, List.setIfInBounds_toArray, List.set_cons_zero, List.set_cons_succ])
            | ((with_reducible show wpList _ _ _ (⟨some 96, .load 24 (.tmp 12), _, _, _, _⟩ :: _) _ _); refine wp_getU _ (by rfl) (.tmp 12) rfl g2 u rfl (H4.at (x := (g2, uC u.sch u.host u.port u.path u.q u.f)) (by simp)) ?_; simp only [Act.put, List.setIfInBounds_toArray, List.set_cons_zero, List.set_cons_succ])
            | ((with_reducible show wpList _ _ _ (⟨some 97, .binOp .eql 24 _ _ _, _, _, _, _⟩ :: _) _ _); refine wp_eqU _ (by rfl) (.tmp 95) (.tmp 96) rfl u u rfl rfl true ⟨fun _ => rfl, fun _ => rfl⟩ ?_; simp only [Act.put, List.setIfInBounds_toArray, List.set_cons_zero, List.set_cons_succ])
            | ((with_reducible show wpList _ _ _ (⟨some 110, .load 24 (.tmp 8), _, _, _, _⟩ :: _) _ _); refine wp_getU _ (by rfl) (.tmp 8) rfl g1 u rfl (H4.at (x := (g1, uC u.sch u.host u.port u.path u.q u.f)) (by simp)) ?_; simp only [Act.put, List.setIfInBounds_toArray, List.set_cons_zero, List.set_cons_succ])
            | ((with_reducible show wpList _ _ _ (⟨some 111, .load 24 (.tmp 18), _, _, _, _⟩ :: _) _ _); refine wp_getU _ (by rfl) (.tmp 18) rfl g3 u rfl (H4.at (x := (g3, uC u.sch u.host u.port u.path u.q u.f)) (by simp)) ?_; simp only [Act.put, List.setIfInBounds_toArray, List.set_cons_zero, List.set_cons_succ])
            | ((with_reducible show wpList _ _ _ (⟨some 112, .binOp .eql 24 _ _ _, _, _, _, _⟩ :: _) _ _); refine wp_eqU _ (by rfl) (.tmp 110) (.tmp 111) rfl u u rfl rfl true ⟨fun _ => rfl, fun _ => rfl⟩ ?_; simp only [Act.put, List.setIfInBounds_toArray, List.set_cons_zero, List.set_cons_succ]))
          go_ret
          exact ⟨by simp, H4.kp⟩
    · refine step_new8 _ rfl 24 rfl _ z24 ?_
      intro w4 g2 B2 F2
      have hbf := hS.before F2
      have hS4 := hS.step F2.below
      refine hK.out _ _ hS4 (fun _ => ?_)
      clear hK K hS
      have hS := hS4
      clear hS4 F2
      simp only [Act.put, List.setIfInBounds_toArray, List.set_cons_zero, List.set_cons_succ]
      refine wpAnyH_ready (rs := [11]) (by kernel_rfl) (by simp) ?_
      refine (AllReadyH.cons (o := ⟨some 56, _, _, _, _, _⟩) rfl (fun K hK => ?_) AllReadyH.nil)
      try go_simp
      (with_reducible refine (HV.out _ hS.kp).mono ?_)
      rintro e w3 ⟨rfl, hbw3⟩
      have hS3 := hS.step hbw3
      refine hK.out _ _ hS3 (fun _ => ?_)
      clear hK K
      try simp only [Act.put, List.setIfInBounds_toArray, List.set_cons_zero, List.set_cons_succ]
      have B3 := B2.kept hbw3
      clear hS B2 hbw3
      have hS := hS3
      clear hS3
      refine wpAnyH_take (i := 12) (oi := ⟨some 44, _, _, _, _, _⟩) (v := ?vc12) rfl (by kernel_rfl) (by kernel_rfl) (by kernel_rfl) (fun _ _ _ h => h) (Or.inl ⟨by rfl, ?yc12⟩) hS ?rc12
      case yc12 => intro W hW; go_simp; first | done | with_reducible rfl
      simp only [Act.put, List.setIfInBounds_toArray, List.set_cons_zero, List.set_cons_succ]
      refine wpAnyH_take (i := 13) (oi := ⟨some 57, _, _, _, _, _⟩) (v := ?vc13) rfl (by kernel_rfl) (by kernel_rfl) (by kernel_rfl) (fun _ _ _ h => h) (Or.inl ⟨by rfl, ?yc13⟩) hS ?rc13
      case yc13 => intro W hW; go_simp; first | done | with_reducible rfl
      simp only [Act.put, List.setIfInBounds_toArray, List.set_cons_zero, List.set_cons_succ]
      refine wpAnyH_take (i := 14) (oi := ⟨some 58, _, _, _, _, _⟩) (v := ?vc14) rfl (by kernel_rfl) (by kernel_rfl) (by kernel_rfl) (fun _ _ _ h => h) (Or.inl ⟨by rfl, ?yc14⟩) hS ?rc14
      case yc14 => intro W hW; go_simp; first | done | with_reducible rfl
      simp only [Act.put, List.setIfInBounds_toArray, List.set_cons_zero, List.set_cons_succ]
      refine wpAnyH_ready (rs := [16]) (by kernel_rfl) (by simp) ?_
      refine (AllReadyH.cons (o := ⟨none, _, _, _, _, _⟩) rfl (fun K hK => ?_) AllReadyH.nil)
      refine step_putAll _ rfl 24 (.tmp 12) (.tmp 57) rfl g2 24 _ (uC u.sch u.host u.port u.path u.q u.f) rfl rfl B3 rfl n24 (uC_one _ _ _ _ _ _) ?_
      intro w6 B6 U6
      have HH := hS.put hbf.1 hbf.2 U6 B6
      refine hK.out _ _ HH.tl (fun _ => ?_)
      clear hK K B3 B6 U6 hbf hS
      have hS := HH.tl
      simp only [Act.put]
      refine wpAnyH_take (i := 17) (oi := ⟨some 13, _, _, _, _, _⟩) (v := ?ve17) rfl (by kernel_rfl) (by kernel_rfl) (by kernel_rfl) (fun _ _ _ h => h) (Or.inl ⟨by rfl, ?ye17⟩) hS ?re17
      case ye17 => intro W hW; go_simp; first | done | with_reducible rfl
      simp only [Act.put, List.setIfInBounds_toArray, List.set_cons_zero, List.set_cons_succ]
      refine wpAnyH_done (by kernel_rfl) ?_ _
      have H2 := HH
      clear HH hS
      go_wp2_with (first
        | (go_at_call 26; (with_reducible refine (HF.out _).mono ?_); (rintro e w5 ⟨rfl, rfl⟩)))
      go_loopw [16, 15] (fun i v wr => ∃ k : Nat, k ≤ N ∧ i = .int .i64 (k : Int) ∧ v = .string (str (ups s CC k)) ∧ Hl w wr [(g2, uC u.sch u.host u.port u.path u.q u.f), (g1, uC u.sch u.host u.port u.path u.q u.f)]) (fun i _ _ => N - (intOf i).toNat)
      case atStart => exact ⟨0, by omega, rfl, by simp [ups, str], H2⟩
      case round =>
        obtain ⟨k, hk, rfl, rfl, H3⟩ := hrel
        clear H2
        have hL := hle.out k
        by_cases hlt : k < N
        · have hkS : (k : Int) < (N : Int) := by omega
          have HG := hgb.out k hlt
          have HLO := hlo.out k hlt
          have HHI := hhi.out k hlt
          obtain ⟨c, hc⟩ : ∃ c, c = s.getD k 0 := ⟨_, rfl⟩
          obtain ⟨b, hb⟩ : ∃ b, b = c.toNat := ⟨_, rfl⟩
          rw [← hc] at HG HLO HHI
          rw [← hb] at HG
          have hb9 : b < 256 := by rw [hb]; exact c.toNat_lt
          obtain ⟨A, hA⟩ : ∃ X, X = ups s CC k := ⟨_, rfl⟩
          obtain ⟨Y, hY⟩ : ∃ X, X = ups s CC (k + 1) := ⟨_, rfl⟩
          rw [← hA] at HLO HHI hL ⊢
          rw [← hY] at HLO HHI
          have sA : (str A).size ≤ 302 := by rw [str_size]; omega
          have HY := Lib.hid hY
          have HB := Lib.hid hb
          have hk1 : k + 1 ≤ N := hlt
          have key : ∀ d : UInt8, Y = A ++ [d] → Hid (str A ++ str [d] = str Y) := fun d e => by show _ = _; rw [e]; exact str_add _ _
          clear hc hb hA hY hL
          by_cases hC : k < CC
          · have hkC : (k : Int) < (CC : Int) := by omega
            have hcase : b < 97 ∨ (97 ≤ b ∧ b ≤ 122) ∨ 122 < b := by omega
            rcases hcase with hr | hr | hr
            · have c1 : decide ((97 : Int) ≤ (b : Int)) = false := by simp; omega
              have aY := (key c (by rw [HLO hC, upc_no c (by have := HB.out; omega)])).out
              have hrun := run_oneb wr b c HB.out
              have s1 : (str [c]).size = 1 := str_size _
              clear HLO HHI key hC hr
              go_wp2_with fail
              go_roundw
              case rel => exact ⟨k + 1, by omega, by go_num, by rw [HY.out], H3.allocC⟩
              case measure => simp [intOf]; omega
            · have c1 : decide ((97 : Int) ≤ (b : Int)) = true := by simp; omega
              have c2 : decide ((b : Int) ≤ 122) = true := by simp; omega
              have aY := (key (upc c) (HLO hC)).out
              have hup := upc_yes c (by have := HB.out; omega)
              rw [← HB.out] at hup
              obtain ⟨b2, hb2⟩ : ∃ b2, b2 = b - 32 := ⟨_, rfl⟩
              have hb3 : (b : Int) - 32 = (b2 : Int) := by omega
              have hb4 : IntKind.u8.wrap (b2 : Int) = (b2 : Int) := by rw [IntKind.wrap_u8]; omega
              have hrun := run_oneb wr b2 (upc c) (by rw [hb2, hup])
              have s1 : (str [upc c]).size = 1 := str_size _
              clear HLO HHI key hC hr hb2 hup
              generalize upc c = d at aY hrun s1
              go_wp2_with fail
              go_roundw
              case rel => exact ⟨k + 1, by omega, by go_num, by rw [HY.out], H3.allocC⟩
              case measure => simp [intOf]; omega
            · have c1 : decide ((97 : Int) ≤ (b : Int)) = true := by simp; omega
              have c2 : decide ((b : Int) ≤ 122) = false := by simp; omega
              have aY := (key c (by rw [HLO hC, upc_no c (by have := HB.out; omega)])).out
              have hrun := run_oneb wr b c HB.out
              have s1 : (str [c]).size = 1 := str_size _
              clear HLO HHI key hC hr
              go_wp2_with fail
              go_roundw
              case rel => exact ⟨k + 1, by omega, by go_num, by rw [HY.out], H3.allocC⟩
              case measure => simp [intOf]; omega
          · have hkC : ¬ (k : Int) < (CC : Int) := by omega
            have aY := (key c (HHI hC)).out
            have hrun := run_oneb wr b c HB.out
            have s1 : (str [c]).size = 1 := str_size _
            clear HLO HHI key hC
            go_wp2_with fail
            go_roundw
            case rel => exact ⟨k + 1, by omega, by go_num, by rw [HY.out], H3.allocC⟩
            case measure => simp [intOf]; omega
        · have hkS : ¬ (k : Int) < (N : Int) := by omega
          obtain rfl : k = N := by omega
          rw [hUp.out]
          clear hlt hL hk hUp
          go_wp2_with (first
            | (go_at_call 14; (with_reducible refine (HW.out _ H3.kp).mono ?_); (rintro e wa3 ⟨rfl, hb⟩; have G3 := H3.step hb; clear hb))
            | ((with_reducible show wpList _ _ _ (⟨some 18, .alloc _, _, _, _, _⟩ :: _) _ _); refine wp_new _ rfl 24 rfl _ z24 ?_; intro wb3 g3 B3 F3; simp only [Act.put, List.setIfInBounds_toArray, List.set_cons_zero, List.set_cons_succ])
            | ((with_reducible show wpList _ _ _ (⟨none, .store 24 (.tmp 18) (.tmp 91), _, _, _, _⟩ :: _) _ _); refine wp_putAll _ rfl 24 (.tmp 18) (.tmp 91) rfl g3 24 _ (uC u.sch u.host u.port u.path u.q u.f) rfl rfl B3 rfl n24 (uC_one _ _ _ _ _ _) ?_; intro wc3 B U; simp only [Act.put]; have H4 := G3.new F3 U B; clear B U F3 B3 G3)
            | ((with_reducible show wpList _ _ _ (⟨some 95, .load 24 (.tmp 8), _, _, _, _⟩ :: _) _ _); refine wp_getU _ (by rfl) (.tmp 8) rfl g1 u rfl (H4.at (x := (g1, uC u.sch u.host u.port u.path u.q u.f)) (by simp)) ?_; simp only [Act.put, List.setIfInBounds_toArray, List.set_cons_zero, List.set_cons_succ])
            | ((with_reducible show wpList _ _ _ (⟨some 96, .load 24 (.tmp 12), _, _, _, _⟩ :: _) _ _); refine wp_getU _ (by rfl) (.tmp 12) rfl g2 u rfl (H4.at (x := (g2, uC u.sch u.host u.port u.path u.q u.f)) (by simp)) ?_; simp only [Act.put, List.setIfInBounds_toArray, List.set_cons_zero, List.set_cons_succ])
            | ((with_reducible show wpList _ _ _ (⟨some 97, .binOp .eql 24 _ _ _, _, _, _, _⟩ :: _) _ _); refine wp_eqU _ (by rfl) (.tmp 95) (.tmp 96) rfl u u rfl rfl true ⟨fun _ => rfl, fun _ => rfl⟩ ?_; simp only [Act.put, List.setIfInBounds_toArray, List.set_cons_zero, List.set_cons_succ])
            | ((with_reducible show wpList _ _ _ (⟨some 110, .load 24 (.tmp 8), _, _, _, _⟩ :: _) _ _); refine wp_getU _ (by rfl) (.tmp 8) rfl g1 u rfl (H4.at (x := (g1, uC u.sch u.host u.port u.path u.q u.f)) (by simp)) ?_; simp only [Act.put, List.setIfInBounds_toArray, List.set_cons_zero, List.set_cons_succ])
            | ((with_reducible show wpList _ _ _ (⟨some 111, .load 24 (.tmp 18), _, _, _, _⟩ :: _) _ _); refine wp_getU _ (by rfl) (.tmp 18) rfl g3 u rfl (H4.at (x := (g3, uC u.sch u.host u.port u.path u.q u.f)) (by simp)) ?_; simp only [Act.put, List.setIfInBounds_toArray, List.set_cons_zero, List.set_cons_succ])
            | ((with_reducible show wpList _ _ _ (⟨some 112, .binOp .eql 24 _ _ _, _, _, _, _⟩ :: _) _ _); refine wp_eqU _ (by rfl) (.tmp 110) (.tmp 111) rfl u u rfl rfl true ⟨fun _ => rfl, fun _ => rfl⟩ ?_; simp only [Act.put, List.setIfInBounds_toArray, List.set_cons_zero, List.set_cons_succ]))
          go_ret
          exact ⟨by simp, H4.kp⟩
set_option maxHeartbeats 8000000 in
set_option maxRecDepth 100000 in
theorem cl_0_no (u v : U) (en em : Int) (l s0 S1 s P D X1 X2 X3 X Up : List UInt8) (n1 n2 : Int) (m N N1 k y CC : Nat) (w : World) (hm : min (l.length : Int) 300 = (m : Int)) (hm2 : m ≤ l.length) (hts : (str l).extract 0 m = str s0) (hsl : (str l).size = l.length) (a1 : ⟨#[104]⟩ ++ str s0 = str S1) (a2 : str S1 ++ ⟨#[122]⟩ = str s) (q1 : ¬ (9223372036854775807 : Nat) < 1 + (str s0).size) (q2 : ¬ (9223372036854775807 : Nat) < (str S1).size + 1) (hN : N = s.length) (hN2 : N ≤ 302) (hN1 : (N : Int) + 1 = (N1 : Int)) (hN1w : IntKind.i64.wrap (N1 : Int) = (N1 : Int)) (hy : bits .and .i64 n1 65535 = (y : Int)) (hk' : Int.tmod (y : Int) (N1 : Int) = (k : Int)) (hkN : k ≤ N) (hz : bits .and .i64 n2 3 = 0) (HS : Hid (∀ w', Kept w w' → Calls Tryz.prog 13 #[] w' fun e w2 => e = .returned (.bool true) ∧ Below w'.heap.size w' w2)) (HU : Hid (∀ w', Kept w w' → Calls Tryz.prog 14 #[.string (str s)] w' fun e w2 => e = .returned (.tuple #[.agg (uC u.sch u.host u.port u.path u.q u.f).toArray, .int .i64 en]) ∧ Below w'.heap.size w' w2)) (HV : Hid (∀ w', Kept w w' → Calls Tryz.prog 14 #[.string (str X)] w' fun e w2 => e = .returned (.tuple #[.agg (uC u.sch u.host u.port u.path u.q u.f).toArray, .int .i64 en]) ∧ Below w'.heap.size w' w2)) (HW : Hid (∀ w', Kept w w' → Calls Tryz.prog 14 #[.string (str Up)] w' fun e w2 => e = .returned (.tuple #[.agg (uC v.sch v.host v.port v.path v.q v.f).toArray, .int .i64 em]) ∧ Below w'.heap.size w' w2)) (HF : Hid (∀ w', Calls Tryz.prog 26 #[.string (str s), .int .u8 58] w' fun e w2 => e = .returned (.int .i64 (CC : Int)) ∧ w2 = w')) (t1 : (str s).extract 0 k = str P) (t2 : (str s).extract k N = str D) (b1 : ⟨#[32, 0, 10]⟩ ++ str P = str X1) (b2 : str X1 ++ ⟨#[9]⟩ = str X2) (b3 : str X2 ++ str D = str X3) (b4 : str X3 ++ ⟨#[9, 32, 31]⟩ = str X) (r1 : ¬ (9223372036854775807 : Nat) < 3 + (str P).size) (r2 : ¬ (9223372036854775807 : Nat) < (str X1).size + 1) (r3 : ¬ (9223372036854775807 : Nat) < (str X2).size + (str D).size) (r4 : ¬ (9223372036854775807 : Nat) < (str X3).size + 3) (hUp : Hid (ups s CC N = Up)) (hcc : ((CC : Int) == (N : Int)) = true) : Calls Tryz.prog 6 #[.string (str l), .int .i64 n1, .int .i64 n2] w fun e w' => e = .returned (.bool true) ∧ Below w.heap.size w w' := by
    have hsz := str_size s
    have hgb : Hid (∀ k, k < N → ∀ h, ((str s)[k]'h).toNat = (s.getD k 0).toNat) := fun k hk h => str_at s k (by omega) h
    have hlo : Hid (∀ k, k < N → k < CC → ups s CC (k + 1) = ups s CC k ++ [upc (s.getD k 0)]) := fun k hk h => ups_lo s CC k (by omega) h _ rfl
    have hhi : Hid (∀ k, k < N → ¬ k < CC → ups s CC (k + 1) = ups s CC k ++ [s.getD k 0]) := fun k hk h => ups_hi s CC k (by omega) h _ rfl
    have hle : Hid (∀ k, (ups s CC k).length ≤ k) := fun k => ups_len s CC k
    rw [← hN] at hsz
    clear hN
    have hee : (en == en) = true := by simp
    go_enter Tryz.func6, Tryz.ntmps6
    go_wp2_with (first
      | (go_at_call 13; (with_reducible refine (HS.out _ (Hl.nil w).kp).mono ?_); (rintro e w1 ⟨rfl, hb⟩; have H0 := (Hl.nil w).step hb; clear hb))
      | (go_at_call 14; (with_reducible refine (HU.out _ H0.kp).mono ?_); (rintro e wa1 ⟨rfl, hb⟩; have G1 := H0.step hb; clear hb))
      | ((with_reducible show wpList _ _ _ (⟨some 8, .alloc _, _, _, _, _⟩ :: _) _ _); refine wp_new _ rfl 24 rfl _ z24 ?_; intro wb1 g1 B1 F1; simp only [Act.put, List.setIfInBounds_toArray, List.set_cons_zero, List.set_cons_succ])
      | ((with_reducible show wpList _ _ _ (⟨none, .store 24 (.tmp 8) (.tmp 31), _, _, _, _⟩ :: _) _ _); refine wp_putAll _ rfl 24 (.tmp 8) (.tmp 31) rfl g1 24 _ (uC u.sch u.host u.port u.path u.q u.f) rfl rfl B1 rfl n24 (uC_one _ _ _ _ _ _) ?_; intro wc1 B U; simp only [Act.put]; have H1 := G1.new F1 U B; clear B U F1 B1 G1))
    have H1a := H1.allocC (o := .cells #[.string ⟨#[9]⟩, .string ⟨#[10]⟩, .string ⟨#[13]⟩, .string ⟨#[13, 10, 9]⟩] 9)
    refine wp_region_held_drew (S := fun W => Hl w W [(g1, uC u.sch u.host u.port u.path u.q u.f)]) (by kernel_rfl) (H1a.step (Below.refl _ _).drew) (fun hS => ?_)
    clear H0 H1 H1a
    refine wpAnyH_take (i := 0) (oi := ⟨some 45, _, _, _, _, _⟩) (v := ?va0) rfl (by kernel_rfl) (by kernel_rfl) (by kernel_rfl) (fun _ _ _ h => h) (Or.inl ⟨by rfl, ?ya0⟩) hS ?ra0
    case ya0 => intro W hW; go_simp; first | done | with_reducible rfl
    simp only [Act.put, List.setIfInBounds_toArray, List.set_cons_zero, List.set_cons_succ]
    refine wpAnyH_take (i := 1) (oi := ⟨some 46, _, _, _, _, _⟩) (v := ?va1) rfl (by kernel_rfl) (by kernel_rfl) (by kernel_rfl) (fun _ _ _ h => h) (Or.inl ⟨by rfl, ?ya1⟩) hS ?ra1
    case ya1 => intro W hW; go_simp; first | done | with_reducible rfl
    simp only [Act.put, List.setIfInBounds_toArray, List.set_cons_zero, List.set_cons_succ]
    refine wpAnyH_take (i := 2) (oi := ⟨some 47, _, _, _, _, _⟩) (v := ?va2) rfl (by kernel_rfl) (by kernel_rfl) (by kernel_rfl) (fun _ _ _ h => h) (Or.inl ⟨by rfl, ?ya2⟩) hS ?ra2
    case ya2 => intro W hW; go_simp; first | done | with_reducible rfl
    simp only [Act.put, List.setIfInBounds_toArray, List.set_cons_zero, List.set_cons_succ]
    refine wpAnyH_take (i := 3) (oi := ⟨some 48, _, _, _, _, _⟩) (v := ?va3) rfl (by kernel_rfl) (by kernel_rfl) (by kernel_rfl) (fun _ _ _ h => h) (Or.inl ⟨by rfl, ?ya3⟩) hS ?ra3
    case ya3 => intro W hW; go_simp; first | done | with_reducible rfl
    simp only [Act.put, List.setIfInBounds_toArray, List.set_cons_zero, List.set_cons_succ]
    refine wpAnyH_take (i := 4) (oi := ⟨some 49, _, _, _, _, _⟩) (v := ?va4) rfl (by kernel_rfl) (by kernel_rfl) (by kernel_rfl) (fun _ _ _ h => h) (Or.inl ⟨by rfl, ?ya4⟩) hS ?ra4
    case ya4 => intro W hW; go_simp; first | done | with_reducible rfl
    simp only [Act.put, List.setIfInBounds_toArray, List.set_cons_zero, List.set_cons_succ]
    refine wpAnyH_take (i := 5) (oi := ⟨some 50, _, _, _, _, _⟩) (v := ?va5) rfl (by kernel_rfl) (by kernel_rfl) (by kernel_rfl) (fun _ _ _ h => h) (Or.inl ⟨by rfl, ?ya5⟩) hS ?ra5
    case ya5 => intro W hW; go_simp; first | done | with_reducible rfl
    simp only [Act.put, List.setIfInBounds_toArray, List.set_cons_zero, List.set_cons_succ]
    refine wpAnyH_take (i := 6) (oi := ⟨some 51, _, _, _, _, _⟩) (v := ?va6) rfl (by kernel_rfl) (by kernel_rfl) (by kernel_rfl) (fun _ _ _ h => h) (Or.inl ⟨by rfl, ?ya6⟩) hS ?ra6
    case ya6 => intro W hW; go_simp; first | done | with_reducible rfl
    simp only [Act.put, List.setIfInBounds_toArray, List.set_cons_zero, List.set_cons_succ]
    refine wpAnyH_take (i := 7) (oi := ⟨some 52, _, _, _, _, _⟩) (v := ?va7) rfl (by kernel_rfl) (by kernel_rfl) (by kernel_rfl) (fun _ _ _ h => h) (Or.inl ⟨by rfl, ?ya7⟩) hS ?ra7
    case ya7 => intro W hW; go_simp; first | done | with_reducible rfl
    simp only [Act.put, List.setIfInBounds_toArray, List.set_cons_zero, List.set_cons_succ]
    refine wpAnyH_take (i := 8) (oi := ⟨some 53, _, _, _, _, _⟩) (v := ?va8) rfl (by kernel_rfl) (by kernel_rfl) (by kernel_rfl) (fun _ _ _ h => h) (Or.inl ⟨by rfl, ?ya8⟩) hS ?ra8
    case ya8 => intro W hW; go_simp; first | done | with_reducible rfl
    simp only [Act.put, List.setIfInBounds_toArray, List.set_cons_zero, List.set_cons_succ]
    refine wpAnyH_take (i := 9) (oi := ⟨some 54, _, _, _, _, _⟩) (v := ?va9) rfl (by kernel_rfl) (by kernel_rfl) (by kernel_rfl) (fun _ _ _ h => h) (Or.inl ⟨by rfl, ?ya9⟩) hS ?ra9
    case ya9 => intro W hW; go_simp; first | done | with_reducible rfl
    simp only [Act.put, List.setIfInBounds_toArray, List.set_cons_zero, List.set_cons_succ]
    refine wpAnyH_take (i := 10) (oi := ⟨some 55, _, _, _, _, _⟩) (v := ?va10) rfl (by kernel_rfl) (by kernel_rfl) (by kernel_rfl) (fun _ _ _ h => h) (Or.inl ⟨by rfl, ?ya10⟩) hS ?ra10
    case ya10 => intro W hW; go_simp; first | done | with_reducible rfl
    simp only [Act.put, List.setIfInBounds_toArray, List.set_cons_zero, List.set_cons_succ]
    refine wpAnyH_ready (rs := [11, 15]) (by kernel_rfl) (by simp) ?_
    refine (AllReadyH.cons (o := ⟨some 56, _, _, _, _, _⟩) rfl (fun K hK => ?_) (AllReadyH.cons (o := ⟨some 12, _, _, _, _, _⟩) rfl (fun K hK => ?_) AllReadyH.nil))
    · try go_simp
      (with_reducible refine (HV.out _ hS.kp).mono ?_)
      rintro e w3 ⟨rfl, hbw3⟩
      have hS3 := hS.step hbw3
      refine hK.out _ _ hS3 (fun _ => ?_)
      clear hK K
      try simp only [Act.put, List.setIfInBounds_toArray, List.set_cons_zero, List.set_cons_succ]
      clear hS
      have hS := hS3
      clear hS3
      refine wpAnyH_take (i := 12) (oi := ⟨some 44, _, _, _, _, _⟩) (v := ?vb12) rfl (by kernel_rfl) (by kernel_rfl) (by kernel_rfl) (fun _ _ _ h => h) (Or.inl ⟨by rfl, ?yb12⟩) hS ?rb12
      case yb12 => intro W hW; go_simp; first | done | with_reducible rfl
      simp only [Act.put, List.setIfInBounds_toArray, List.set_cons_zero, List.set_cons_succ]
      refine wpAnyH_take (i := 13) (oi := ⟨some 57, _, _, _, _, _⟩) (v := ?vb13) rfl (by kernel_rfl) (by kernel_rfl) (by kernel_rfl) (fun _ _ _ h => h) (Or.inl ⟨by rfl, ?yb13⟩) hS ?rb13
      case yb13 => intro W hW; go_simp; first | done | with_reducible rfl
      simp only [Act.put, List.setIfInBounds_toArray, List.set_cons_zero, List.set_cons_succ]
      refine wpAnyH_take (i := 14) (oi := ⟨some 58, _, _, _, _, _⟩) (v := ?vb14) rfl (by kernel_rfl) (by kernel_rfl) (by kernel_rfl) (fun _ _ _ h => h) (Or.inl ⟨by rfl, ?yb14⟩) hS ?rb14
      case yb14 => intro W hW; go_simp; first | done | with_reducible rfl
      simp only [Act.put, List.setIfInBounds_toArray, List.set_cons_zero, List.set_cons_succ]
      refine wpAnyH_ready (rs := [15]) (by kernel_rfl) (by simp) ?_
      refine (AllReadyH.cons (o := ⟨some 12, _, _, _, _, _⟩) rfl (fun K hK => ?_) AllReadyH.nil)
      refine step_new8 _ rfl 24 rfl _ z24 ?_
      intro w4 g2 B2 F2
      have hS4 := hS.step F2.below
      refine hK.out _ _ hS4 (fun _ => ?_)
      clear hK K
      simp only [Act.put, List.setIfInBounds_toArray, List.set_cons_zero, List.set_cons_succ]
      refine wpAnyH_ready (rs := [16]) (by kernel_rfl) (by simp) ?_
      refine (AllReadyH.cons (o := ⟨none, _, _, _, _, _⟩) rfl (fun K hK => ?_) AllReadyH.nil)
      refine step_putAll _ rfl 24 (.tmp 12) (.tmp 57) rfl g2 24 _ (uC u.sch u.host u.port u.path u.q u.f) rfl rfl B2 rfl n24 (uC_one _ _ _ _ _ _) ?_
      intro w6 B6 U6
      have HH := hS.new F2 U6 B6
      refine hK.out _ _ HH.tl (fun _ => ?_)
      clear hK K hS4 B2 F2 B6 U6 hS
      have hS := HH.tl
      simp only [Act.put]
      refine wpAnyH_take (i := 17) (oi := ⟨some 13, _, _, _, _, _⟩) (v := ?vd17) rfl (by kernel_rfl) (by kernel_rfl) (by kernel_rfl) (fun _ _ _ h => h) (Or.inl ⟨by rfl, ?yd17⟩) hS ?rd17
      case yd17 => intro W hW; go_simp; first | done | with_reducible rfl
      simp only [Act.put, List.setIfInBounds_toArray, List.set_cons_zero, List.set_cons_succ]
      refine wpAnyH_done (by kernel_rfl) ?_ _
      have H2 := HH
      clear HH hS
      go_wp2_with (first
        | (go_at_call 26; (with_reducible refine (HF.out _).mono ?_); (rintro e w5 ⟨rfl, rfl⟩)))
      go_loopw [16, 15] (fun i v wr => ∃ k : Nat, k ≤ N ∧ i = .int .i64 (k : Int) ∧ v = .string (str (ups s CC k)) ∧ Hl w wr [(g2, uC u.sch u.host u.port u.path u.q u.f), (g1, uC u.sch u.host u.port u.path u.q u.f)]) (fun i _ _ => N - (intOf i).toNat)
      case atStart => exact ⟨0, by omega, rfl, by simp [ups, str], H2⟩
      case round =>
        obtain ⟨k, hk, rfl, rfl, H3⟩ := hrel
        clear H2
        have hL := hle.out k
        by_cases hlt : k < N
        · have hkS : (k : Int) < (N : Int) := by omega
          have HG := hgb.out k hlt
          have HLO := hlo.out k hlt
          have HHI := hhi.out k hlt
          obtain ⟨c, hc⟩ : ∃ c, c = s.getD k 0 := ⟨_, rfl⟩
          obtain ⟨b, hb⟩ : ∃ b, b = c.toNat := ⟨_, rfl⟩
          rw [← hc] at HG HLO HHI
          rw [← hb] at HG
          have hb9 : b < 256 := by rw [hb]; exact c.toNat_lt
          obtain ⟨A, hA⟩ : ∃ X, X = ups s CC k := ⟨_, rfl⟩
          obtain ⟨Y, hY⟩ : ∃ X, X = ups s CC (k + 1) := ⟨_, rfl⟩
          rw [← hA] at HLO HHI hL ⊢
          rw [← hY] at HLO HHI
          have sA : (str A).size ≤ 302 := by rw [str_size]; omega
          have HY := Lib.hid hY
          have HB := Lib.hid hb
          have hk1 : k + 1 ≤ N := hlt
          have key : ∀ d : UInt8, Y = A ++ [d] → Hid (str A ++ str [d] = str Y) := fun d e => by show _ = _; rw [e]; exact str_add _ _
          clear hc hb hA hY hL
          by_cases hC : k < CC
          · have hkC : (k : Int) < (CC : Int) := by omega
            have hcase : b < 97 ∨ (97 ≤ b ∧ b ≤ 122) ∨ 122 < b := by omega
            rcases hcase with hr | hr | hr
            · have c1 : decide ((97 : Int) ≤ (b : Int)) = false := by simp; omega
              have aY := (key c (by rw [HLO hC, upc_no c (by have := HB.out; omega)])).out
              have hrun := run_oneb wr b c HB.out
              have s1 : (str [c]).size = 1 := str_size _
              clear HLO HHI key hC hr
              go_wp2_with fail
              go_roundw
              case rel => exact ⟨k + 1, by omega, by go_num, by rw [HY.out], H3.allocC⟩
              case measure => simp [intOf]; omega
            · have c1 : decide ((97 : Int) ≤ (b : Int)) = true := by simp; omega
              have c2 : decide ((b : Int) ≤ 122) = true := by simp; omega
              have aY := (key (upc c) (HLO hC)).out
              have hup := upc_yes c (by have := HB.out; omega)
              rw [← HB.out] at hup
              obtain ⟨b2, hb2⟩ : ∃ b2, b2 = b - 32 := ⟨_, rfl⟩
              have hb3 : (b : Int) - 32 = (b2 : Int) := by omega
              have hb4 : IntKind.u8.wrap (b2 : Int) = (b2 : Int) := by rw [IntKind.wrap_u8]; omega
              have hrun := run_oneb wr b2 (upc c) (by rw [hb2, hup])
              have s1 : (str [upc c]).size = 1 := str_size _
              clear HLO HHI key hC hr hb2 hup
              generalize upc c = d at aY hrun s1
              go_wp2_with fail
              go_roundw
              case rel => exact ⟨k + 1, by omega, by go_num, by rw [HY.out], H3.allocC⟩
              case measure => simp [intOf]; omega
            · have c1 : decide ((97 : Int) ≤ (b : Int)) = true := by simp; omega
              have c2 : decide ((b : Int) ≤ 122) = false := by simp; omega
              have aY := (key c (by rw [HLO hC, upc_no c (by have := HB.out; omega)])).out
              have hrun := run_oneb wr b c HB.out
              have s1 : (str [c]).size = 1 := str_size _
              clear HLO HHI key hC hr
              go_wp2_with fail
              go_roundw
              case rel => exact ⟨k + 1, by omega, by go_num, by rw [HY.out], H3.allocC⟩
              case measure => simp [intOf]; omega
          · have hkC : ¬ (k : Int) < (CC : Int) := by omega
            have aY := (key c (HHI hC)).out
            have hrun := run_oneb wr b c HB.out
            have s1 : (str [c]).size = 1 := str_size _
            clear HLO HHI key hC
            go_wp2_with fail
            go_roundw
            case rel => exact ⟨k + 1, by omega, by go_num, by rw [HY.out], H3.allocC⟩
            case measure => simp [intOf]; omega
        · have hkS : ¬ (k : Int) < (N : Int) := by omega
          obtain rfl : k = N := by omega
          rw [hUp.out]
          clear hlt hL hk hUp
          go_wp2_with (first
            | (go_at_call 14; (with_reducible refine (HW.out _ H3.kp).mono ?_); (rintro e wa3 ⟨rfl, hb⟩; have G3 := H3.step hb; clear hb))
            | ((with_reducible show wpList _ _ _ (⟨some 18, .alloc _, _, _, _, _⟩ :: _) _ _); refine wp_new _ rfl 24 rfl _ z24 ?_; intro wb3 g3 B3 F3; simp only [Act.put, List.setIfInBounds_toArray, List.set_cons_zero, List.set_cons_succ])
            | ((with_reducible show wpList _ _ _ (⟨none, .store 24 (.tmp 18) (.tmp 91), _, _, _, _⟩ :: _) _ _); refine wp_putAll _ rfl 24 (.tmp 18) (.tmp 91) rfl g3 24 _ (uC v.sch v.host v.port v.path v.q v.f) rfl rfl B3 rfl n24 (uC_one _ _ _ _ _ _) ?_; intro wc3 B U; simp only [Act.put]; have H4 := G3.new F3 U B; clear B U F3 B3 G3)
            | ((with_reducible show wpList _ _ _ (⟨some 95, .load 24 (.tmp 8), _, _, _, _⟩ :: _) _ _); refine wp_getU _ (by rfl) (.tmp 8) rfl g1 u rfl (H4.at (x := (g1, uC u.sch u.host u.port u.path u.q u.f)) (by simp)) ?_; simp only [Act.put, List.setIfInBounds_toArray, List.set_cons_zero, List.set_cons_succ])
            | ((with_reducible show wpList _ _ _ (⟨some 96, .load 24 (.tmp 12), _, _, _, _⟩ :: _) _ _); refine wp_getU _ (by rfl) (.tmp 12) rfl g2 u rfl (H4.at (x := (g2, uC u.sch u.host u.port u.path u.q u.f)) (by simp)) ?_; simp only [Act.put, List.setIfInBounds_toArray, List.set_cons_zero, List.set_cons_succ])
            | ((with_reducible show wpList _ _ _ (⟨some 97, .binOp .eql 24 _ _ _, _, _, _, _⟩ :: _) _ _); refine wp_eqU _ (by rfl) (.tmp 95) (.tmp 96) rfl u u rfl rfl true ⟨fun _ => rfl, fun _ => rfl⟩ ?_; simp only [Act.put, List.setIfInBounds_toArray, List.set_cons_zero, List.set_cons_succ]))
          go_ret
          exact ⟨by simp, H4.kp⟩
    · refine step_new8 _ rfl 24 rfl _ z24 ?_
      intro w4 g2 B2 F2
      have hbf := hS.before F2
      have hS4 := hS.step F2.below
      refine hK.out _ _ hS4 (fun _ => ?_)
      clear hK K hS
      have hS := hS4
      clear hS4 F2
      simp only [Act.put, List.setIfInBounds_toArray, List.set_cons_zero, List.set_cons_succ]
      refine wpAnyH_ready (rs := [11]) (by kernel_rfl) (by simp) ?_
      refine (AllReadyH.cons (o := ⟨some 56, _, _, _, _, _⟩) rfl (fun K hK => ?_) AllReadyH.nil)
      try go_simp
      (with_reducible refine (HV.out _ hS.kp).mono ?_)
      rintro e w3 ⟨rfl, hbw3⟩
      have hS3 := hS.step hbw3
      refine hK.out _ _ hS3 (fun _ => ?_)
      clear hK K
      try simp only [Act.put, List.setIfInBounds_toArray, List.set_cons_zero, List.set_cons_succ]
      have B3 := B2.kept hbw3
      clear hS B2 hbw3
      have hS := hS3
      clear hS3
      refine wpAnyH_take (i := 12) (oi := ⟨some 44, _, _, _, _, _⟩) (v := ?vc12) rfl (by kernel_rfl) (by kernel_rfl) (by kernel_rfl) (fun _ _ _ h => h) (Or.inl ⟨by rfl, ?yc12⟩) hS ?rc12
      case yc12 => intro W hW; go_simp; first | done | with_reducible rfl
      simp only [Act.put, List.setIfInBounds_toArray, List.set_cons_zero, List.set_cons_succ]
      refine wpAnyH_take (i := 13) (oi := ⟨some 57, _, _, _, _, _⟩) (v := ?vc13) rfl (by kernel_rfl) (by kernel_rfl) (by kernel_rfl) (fun _ _ _ h => h) (Or.inl ⟨by rfl, ?yc13⟩) hS ?rc13
      case yc13 => intro W hW; go_simp; first | done | with_reducible rfl
      simp only [Act.put, List.setIfInBounds_toArray, List.set_cons_zero, List.set_cons_succ]
      refine wpAnyH_take (i := 14) (oi := ⟨some 58, _, _, _, _, _⟩) (v := ?vc14) rfl (by kernel_rfl) (by kernel_rfl) (by kernel_rfl) (fun _ _ _ h => h) (Or.inl ⟨by rfl, ?yc14⟩) hS ?rc14
      case yc14 => intro W hW; go_simp; first | done | with_reducible rfl
      simp only [Act.put, List.setIfInBounds_toArray, List.set_cons_zero, List.set_cons_succ]
      refine wpAnyH_ready (rs := [16]) (by kernel_rfl) (by simp) ?_
      refine (AllReadyH.cons (o := ⟨none, _, _, _, _, _⟩) rfl (fun K hK => ?_) AllReadyH.nil)
      refine step_putAll _ rfl 24 (.tmp 12) (.tmp 57) rfl g2 24 _ (uC u.sch u.host u.port u.path u.q u.f) rfl rfl B3 rfl n24 (uC_one _ _ _ _ _ _) ?_
      intro w6 B6 U6
      have HH := hS.put hbf.1 hbf.2 U6 B6
      refine hK.out _ _ HH.tl (fun _ => ?_)
      clear hK K B3 B6 U6 hbf hS
      have hS := HH.tl
      simp only [Act.put]
      refine wpAnyH_take (i := 17) (oi := ⟨some 13, _, _, _, _, _⟩) (v := ?ve17) rfl (by kernel_rfl) (by kernel_rfl) (by kernel_rfl) (fun _ _ _ h => h) (Or.inl ⟨by rfl, ?ye17⟩) hS ?re17
      case ye17 => intro W hW; go_simp; first | done | with_reducible rfl
      simp only [Act.put, List.setIfInBounds_toArray, List.set_cons_zero, List.set_cons_succ]
      refine wpAnyH_done (by kernel_rfl) ?_ _
      have H2 := HH
      clear HH hS
      go_wp2_with (first
        | (go_at_call 26; (with_reducible refine (HF.out _).mono ?_); (rintro e w5 ⟨rfl, rfl⟩)))
      go_loopw [16, 15] (fun i v wr => ∃ k : Nat, k ≤ N ∧ i = .int .i64 (k : Int) ∧ v = .string (str (ups s CC k)) ∧ Hl w wr [(g2, uC u.sch u.host u.port u.path u.q u.f), (g1, uC u.sch u.host u.port u.path u.q u.f)]) (fun i _ _ => N - (intOf i).toNat)
      case atStart => exact ⟨0, by omega, rfl, by simp [ups, str], H2⟩
      case round =>
        obtain ⟨k, hk, rfl, rfl, H3⟩ := hrel
        clear H2
        have hL := hle.out k
        by_cases hlt : k < N
        · have hkS : (k : Int) < (N : Int) := by omega
          have HG := hgb.out k hlt
          have HLO := hlo.out k hlt
          have HHI := hhi.out k hlt
          obtain ⟨c, hc⟩ : ∃ c, c = s.getD k 0 := ⟨_, rfl⟩
          obtain ⟨b, hb⟩ : ∃ b, b = c.toNat := ⟨_, rfl⟩
          rw [← hc] at HG HLO HHI
          rw [← hb] at HG
          have hb9 : b < 256 := by rw [hb]; exact c.toNat_lt
          obtain ⟨A, hA⟩ : ∃ X, X = ups s CC k := ⟨_, rfl⟩
          obtain ⟨Y, hY⟩ : ∃ X, X = ups s CC (k + 1) := ⟨_, rfl⟩
          rw [← hA] at HLO HHI hL ⊢
          rw [← hY] at HLO HHI
          have sA : (str A).size ≤ 302 := by rw [str_size]; omega
          have HY := Lib.hid hY
          have HB := Lib.hid hb
          have hk1 : k + 1 ≤ N := hlt
          have key : ∀ d : UInt8, Y = A ++ [d] → Hid (str A ++ str [d] = str Y) := fun d e => by show _ = _; rw [e]; exact str_add _ _
          clear hc hb hA hY hL
          by_cases hC : k < CC
          · have hkC : (k : Int) < (CC : Int) := by omega
            have hcase : b < 97 ∨ (97 ≤ b ∧ b ≤ 122) ∨ 122 < b := by omega
            rcases hcase with hr | hr | hr
            · have c1 : decide ((97 : Int) ≤ (b : Int)) = false := by simp; omega
              have aY := (key c (by rw [HLO hC, upc_no c (by have := HB.out; omega)])).out
              have hrun := run_oneb wr b c HB.out
              have s1 : (str [c]).size = 1 := str_size _
              clear HLO HHI key hC hr
              go_wp2_with fail
              go_roundw
              case rel => exact ⟨k + 1, by omega, by go_num, by rw [HY.out], H3.allocC⟩
              case measure => simp [intOf]; omega
            · have c1 : decide ((97 : Int) ≤ (b : Int)) = true := by simp; omega
              have c2 : decide ((b : Int) ≤ 122) = true := by simp; omega
              have aY := (key (upc c) (HLO hC)).out
              have hup := upc_yes c (by have := HB.out; omega)
              rw [← HB.out] at hup
              obtain ⟨b2, hb2⟩ : ∃ b2, b2 = b - 32 := ⟨_, rfl⟩
              have hb3 : (b : Int) - 32 = (b2 : Int) := by omega
              have hb4 : IntKind.u8.wrap (b2 : Int) = (b2 : Int) := by rw [IntKind.wrap_u8]; omega
              have hrun := run_oneb wr b2 (upc c) (by rw [hb2, hup])
              have s1 : (str [upc c]).size = 1 := str_size _
              clear HLO HHI key hC hr hb2 hup
              generalize upc c = d at aY hrun s1
              go_wp2_with fail
              go_roundw
              case rel => exact ⟨k + 1, by omega, by go_num, by rw [HY.out], H3.allocC⟩
              case measure => simp [intOf]; omega
            · have c1 : decide ((97 : Int) ≤ (b : Int)) = true := by simp; omega
              have c2 : decide ((b : Int) ≤ 122) = false := by simp; omega
              have aY := (key c (by rw [HLO hC, upc_no c (by have := HB.out; omega)])).out
              have hrun := run_oneb wr b c HB.out
              have s1 : (str [c]).size = 1 := str_size _
              clear HLO HHI key hC hr
              go_wp2_with fail
              go_roundw
              case rel => exact ⟨k + 1, by omega, by go_num, by rw [HY.out], H3.allocC⟩
              case measure => simp [intOf]; omega
          · have hkC : ¬ (k : Int) < (CC : Int) := by omega
            have aY := (key c (HHI hC)).out
            have hrun := run_oneb wr b c HB.out
            have s1 : (str [c]).size = 1 := str_size _
            clear HLO HHI key hC
            go_wp2_with fail
            go_roundw
            case rel => exact ⟨k + 1, by omega, by go_num, by rw [HY.out], H3.allocC⟩
            case measure => simp [intOf]; omega
        · have hkS : ¬ (k : Int) < (N : Int) := by omega
          obtain rfl : k = N := by omega
          rw [hUp.out]
          clear hlt hL hk hUp
          go_wp2_with (first
            | (go_at_call 14; (with_reducible refine (HW.out _ H3.kp).mono ?_); (rintro e wa3 ⟨rfl, hb⟩; have G3 := H3.step hb; clear hb))
            | ((with_reducible show wpList _ _ _ (⟨some 18, .alloc _, _, _, _, _⟩ :: _) _ _); refine wp_new _ rfl 24 rfl _ z24 ?_; intro wb3 g3 B3 F3; simp only [Act.put, List.setIfInBounds_toArray, List.set_cons_zero, List.set_cons_succ])
            | ((with_reducible show wpList _ _ _ (⟨none, .store 24 (.tmp 18) (.tmp 91), _, _, _, _⟩ :: _) _ _); refine wp_putAll _ rfl 24 (.tmp 18) (.tmp 91) rfl g3 24 _ (uC v.sch v.host v.port v.path v.q v.f) rfl rfl B3 rfl n24 (uC_one _ _ _ _ _ _) ?_; intro wc3 B U; simp only [Act.put]; have H4 := G3.new F3 U B; clear B U F3 B3 G3)
            | ((with_reducible show wpList _ _ _ (⟨some 95, .load 24 (.tmp 8), _, _, _, _⟩ :: _) _ _); refine wp_getU _ (by rfl) (.tmp 8) rfl g1 u rfl (H4.at (x := (g1, uC u.sch u.host u.port u.path u.q u.f)) (by simp)) ?_; simp only [Act.put, List.setIfInBounds_toArray, List.set_cons_zero, List.set_cons_succ])
            | ((with_reducible show wpList _ _ _ (⟨some 96, .load 24 (.tmp 12), _, _, _, _⟩ :: _) _ _); refine wp_getU _ (by rfl) (.tmp 12) rfl g2 u rfl (H4.at (x := (g2, uC u.sch u.host u.port u.path u.q u.f)) (by simp)) ?_; simp only [Act.put, List.setIfInBounds_toArray, List.set_cons_zero, List.set_cons_succ])
            | ((with_reducible show wpList _ _ _ (⟨some 97, .binOp .eql 24 _ _ _, _, _, _, _⟩ :: _) _ _); refine wp_eqU _ (by rfl) (.tmp 95) (.tmp 96) rfl u u rfl rfl true ⟨fun _ => rfl, fun _ => rfl⟩ ?_; simp only [Act.put, List.setIfInBounds_toArray, List.set_cons_zero, List.set_cons_succ]))
          go_ret
          exact ⟨by simp, H4.kp⟩
set_option maxHeartbeats 8000000 in
set_option maxRecDepth 100000 in
theorem cl_1_col (u : U) (en : Int) (l s0 S1 s P D X1 X2 X3 X Up : List UInt8) (n1 n2 : Int) (m N N1 k y CC : Nat) (w : World) (hm : min (l.length : Int) 300 = (m : Int)) (hm2 : m ≤ l.length) (hts : (str l).extract 0 m = str s0) (hsl : (str l).size = l.length) (a1 : ⟨#[104]⟩ ++ str s0 = str S1) (a2 : str S1 ++ ⟨#[122]⟩ = str s) (q1 : ¬ (9223372036854775807 : Nat) < 1 + (str s0).size) (q2 : ¬ (9223372036854775807 : Nat) < (str S1).size + 1) (hN : N = s.length) (hN2 : N ≤ 302) (hN1 : (N : Int) + 1 = (N1 : Int)) (hN1w : IntKind.i64.wrap (N1 : Int) = (N1 : Int)) (hy : bits .and .i64 n1 65535 = (y : Int)) (hk' : Int.tmod (y : Int) (N1 : Int) = (k : Int)) (hkN : k ≤ N) (hz : bits .and .i64 n2 3 = 1) (HS : Hid (∀ w', Kept w w' → Calls Tryz.prog 13 #[] w' fun e w2 => e = .returned (.bool true) ∧ Below w'.heap.size w' w2)) (HU : Hid (∀ w', Kept w w' → Calls Tryz.prog 14 #[.string (str s)] w' fun e w2 => e = .returned (.tuple #[.agg (uC u.sch u.host u.port u.path u.q u.f).toArray, .int .i64 en]) ∧ Below w'.heap.size w' w2)) (HV : Hid (∀ w', Kept w w' → Calls Tryz.prog 14 #[.string (str X)] w' fun e w2 => e = .returned (.tuple #[.agg (uC u.sch u.host u.port u.path u.q u.f).toArray, .int .i64 en]) ∧ Below w'.heap.size w' w2)) (HW : Hid (∀ w', Kept w w' → Calls Tryz.prog 14 #[.string (str Up)] w' fun e w2 => e = .returned (.tuple #[.agg (uC u.sch u.host u.port u.path u.q u.f).toArray, .int .i64 en]) ∧ Below w'.heap.size w' w2)) (HF : Hid (∀ w', Calls Tryz.prog 26 #[.string (str s), .int .u8 58] w' fun e w2 => e = .returned (.int .i64 (CC : Int)) ∧ w2 = w')) (t1 : (str s).extract 0 k = str P) (t2 : (str s).extract k N = str D) (b1 : ⟨#[32, 0, 10]⟩ ++ str P = str X1) (b2 : str X1 ++ ⟨#[10]⟩ = str X2) (b3 : str X2 ++ str D = str X3) (b4 : str X3 ++ ⟨#[9, 32, 31]⟩ = str X) (r1 : ¬ (9223372036854775807 : Nat) < 3 + (str P).size) (r2 : ¬ (9223372036854775807 : Nat) < (str X1).size + 1) (r3 : ¬ (9223372036854775807 : Nat) < (str X2).size + (str D).size) (r4 : ¬ (9223372036854775807 : Nat) < (str X3).size + 3) (hUp : Hid (ups s CC N = Up)) (hcc : ((CC : Int) == (N : Int)) = false) : Calls Tryz.prog 6 #[.string (str l), .int .i64 n1, .int .i64 n2] w fun e w' => e = .returned (.bool true) ∧ Below w.heap.size w w' := by
    have hsz := str_size s
    have hgb : Hid (∀ k, k < N → ∀ h, ((str s)[k]'h).toNat = (s.getD k 0).toNat) := fun k hk h => str_at s k (by omega) h
    have hlo : Hid (∀ k, k < N → k < CC → ups s CC (k + 1) = ups s CC k ++ [upc (s.getD k 0)]) := fun k hk h => ups_lo s CC k (by omega) h _ rfl
    have hhi : Hid (∀ k, k < N → ¬ k < CC → ups s CC (k + 1) = ups s CC k ++ [s.getD k 0]) := fun k hk h => ups_hi s CC k (by omega) h _ rfl
    have hle : Hid (∀ k, (ups s CC k).length ≤ k) := fun k => ups_len s CC k
    rw [← hN] at hsz
    clear hN
    have hee : (en == en) = true := by simp
    go_enter Tryz.func6, Tryz.ntmps6
    go_wp2_with (first
      | (go_at_call 13; (with_reducible refine (HS.out _ (Hl.nil w).kp).mono ?_); (rintro e w1 ⟨rfl, hb⟩; have H0 := (Hl.nil w).step hb; clear hb))
      | (go_at_call 14; (with_reducible refine (HU.out _ H0.kp).mono ?_); (rintro e wa1 ⟨rfl, hb⟩; have G1 := H0.step hb; clear hb))
      | ((with_reducible show wpList _ _ _ (⟨some 8, .alloc _, _, _, _, _⟩ :: _) _ _); refine wp_new _ rfl 24 rfl _ z24 ?_; intro wb1 g1 B1 F1; simp only [Act.put, List.setIfInBounds_toArray, List.set_cons_zero, List.set_cons_succ])
      | ((with_reducible show wpList _ _ _ (⟨none, .store 24 (.tmp 8) (.tmp 31), _, _, _, _⟩ :: _) _ _); refine wp_putAll _ rfl 24 (.tmp 8) (.tmp 31) rfl g1 24 _ (uC u.sch u.host u.port u.path u.q u.f) rfl rfl B1 rfl n24 (uC_one _ _ _ _ _ _) ?_; intro wc1 B U; simp only [Act.put]; have H1 := G1.new F1 U B; clear B U F1 B1 G1))
    have H1a := H1.allocC (o := .cells #[.string ⟨#[9]⟩, .string ⟨#[10]⟩, .string ⟨#[13]⟩, .string ⟨#[13, 10, 9]⟩] 9)
    refine wp_region_held_drew (S := fun W => Hl w W [(g1, uC u.sch u.host u.port u.path u.q u.f)]) (by kernel_rfl) (H1a.step (Below.refl _ _).drew) (fun hS => ?_)
    clear H0 H1 H1a
    refine wpAnyH_take (i := 0) (oi := ⟨some 45, _, _, _, _, _⟩) (v := ?va0) rfl (by kernel_rfl) (by kernel_rfl) (by kernel_rfl) (fun _ _ _ h => h) (Or.inl ⟨by rfl, ?ya0⟩) hS ?ra0
    case ya0 => intro W hW; go_simp; first | done | with_reducible rfl
    simp only [Act.put, List.setIfInBounds_toArray, List.set_cons_zero, List.set_cons_succ]
    refine wpAnyH_take (i := 1) (oi := ⟨some 46, _, _, _, _, _⟩) (v := ?va1) rfl (by kernel_rfl) (by kernel_rfl) (by kernel_rfl) (fun _ _ _ h => h) (Or.inl ⟨by rfl, ?ya1⟩) hS ?ra1
    case ya1 => intro W hW; go_simp; first | done | with_reducible rfl
    simp only [Act.put, List.setIfInBounds_toArray, List.set_cons_zero, List.set_cons_succ]
    refine wpAnyH_take (i := 2) (oi := ⟨some 47, _, _, _, _, _⟩) (v := ?va2) rfl (by kernel_rfl) (by kernel_rfl) (by kernel_rfl) (fun _ _ _ h => h) (Or.inl ⟨by rfl, ?ya2⟩) hS ?ra2
    case ya2 => intro W hW; go_simp; first | done | with_reducible rfl
    simp only [Act.put, List.setIfInBounds_toArray, List.set_cons_zero, List.set_cons_succ]
    refine wpAnyH_take (i := 3) (oi := ⟨some 48, _, _, _, _, _⟩) (v := ?va3) rfl (by kernel_rfl) (by kernel_rfl) (by kernel_rfl) (fun _ _ _ h => h) (Or.inl ⟨by rfl, ?ya3⟩) hS ?ra3
    case ya3 => intro W hW; go_simp; first | done | with_reducible rfl
    simp only [Act.put, List.setIfInBounds_toArray, List.set_cons_zero, List.set_cons_succ]
    refine wpAnyH_take (i := 4) (oi := ⟨some 49, _, _, _, _, _⟩) (v := ?va4) rfl (by kernel_rfl) (by kernel_rfl) (by kernel_rfl) (fun _ _ _ h => h) (Or.inl ⟨by rfl, ?ya4⟩) hS ?ra4
    case ya4 => intro W hW; go_simp; first | done | with_reducible rfl
    simp only [Act.put, List.setIfInBounds_toArray, List.set_cons_zero, List.set_cons_succ]
    refine wpAnyH_take (i := 5) (oi := ⟨some 50, _, _, _, _, _⟩) (v := ?va5) rfl (by kernel_rfl) (by kernel_rfl) (by kernel_rfl) (fun _ _ _ h => h) (Or.inl ⟨by rfl, ?ya5⟩) hS ?ra5
    case ya5 => intro W hW; go_simp; first | done | with_reducible rfl
    simp only [Act.put, List.setIfInBounds_toArray, List.set_cons_zero, List.set_cons_succ]
    refine wpAnyH_take (i := 6) (oi := ⟨some 51, _, _, _, _, _⟩) (v := ?va6) rfl (by kernel_rfl) (by kernel_rfl) (by kernel_rfl) (fun _ _ _ h => h) (Or.inl ⟨by rfl, ?ya6⟩) hS ?ra6
    case ya6 => intro W hW; go_simp; first | done | with_reducible rfl
    simp only [Act.put, List.setIfInBounds_toArray, List.set_cons_zero, List.set_cons_succ]
    refine wpAnyH_take (i := 7) (oi := ⟨some 52, _, _, _, _, _⟩) (v := ?va7) rfl (by kernel_rfl) (by kernel_rfl) (by kernel_rfl) (fun _ _ _ h => h) (Or.inl ⟨by rfl, ?ya7⟩) hS ?ra7
    case ya7 => intro W hW; go_simp; first | done | with_reducible rfl
    simp only [Act.put, List.setIfInBounds_toArray, List.set_cons_zero, List.set_cons_succ]
    refine wpAnyH_take (i := 8) (oi := ⟨some 53, _, _, _, _, _⟩) (v := ?va8) rfl (by kernel_rfl) (by kernel_rfl) (by kernel_rfl) (fun _ _ _ h => h) (Or.inl ⟨by rfl, ?ya8⟩) hS ?ra8
    case ya8 => intro W hW; go_simp; first | done | with_reducible rfl
    simp only [Act.put, List.setIfInBounds_toArray, List.set_cons_zero, List.set_cons_succ]
    refine wpAnyH_take (i := 9) (oi := ⟨some 54, _, _, _, _, _⟩) (v := ?va9) rfl (by kernel_rfl) (by kernel_rfl) (by kernel_rfl) (fun _ _ _ h => h) (Or.inl ⟨by rfl, ?ya9⟩) hS ?ra9
    case ya9 => intro W hW; go_simp; first | done | with_reducible rfl
    simp only [Act.put, List.setIfInBounds_toArray, List.set_cons_zero, List.set_cons_succ]
    refine wpAnyH_take (i := 10) (oi := ⟨some 55, _, _, _, _, _⟩) (v := ?va10) rfl (by kernel_rfl) (by kernel_rfl) (by kernel_rfl) (fun _ _ _ h => h) (Or.inl ⟨by rfl, ?ya10⟩) hS ?ra10
    case ya10 => intro W hW; go_simp; first | done | with_reducible rfl
    simp only [Act.put, List.setIfInBounds_toArray, List.set_cons_zero, List.set_cons_succ]
    refine wpAnyH_ready (rs := [11, 15]) (by kernel_rfl) (by simp) ?_
    refine (AllReadyH.cons (o := ⟨some 56, _, _, _, _, _⟩) rfl (fun K hK => ?_) (AllReadyH.cons (o := ⟨some 12, _, _, _, _, _⟩) rfl (fun K hK => ?_) AllReadyH.nil))
    · try go_simp
      (with_reducible refine (HV.out _ hS.kp).mono ?_)
      rintro e w3 ⟨rfl, hbw3⟩
      have hS3 := hS.step hbw3
      refine hK.out _ _ hS3 (fun _ => ?_)
      clear hK K
      try simp only [Act.put, List.setIfInBounds_toArray, List.set_cons_zero, List.set_cons_succ]
      clear hS
      have hS := hS3
      clear hS3
      refine wpAnyH_take (i := 12) (oi := ⟨some 44, _, _, _, _, _⟩) (v := ?vb12) rfl (by kernel_rfl) (by kernel_rfl) (by kernel_rfl) (fun _ _ _ h => h) (Or.inl ⟨by rfl, ?yb12⟩) hS ?rb12
      case yb12 => intro W hW; go_simp; first | done | with_reducible rfl
      simp only [Act.put, List.setIfInBounds_toArray, List.set_cons_zero, List.set_cons_succ]
      refine wpAnyH_take (i := 13) (oi := ⟨some 57, _, _, _, _, _⟩) (v := ?vb13) rfl (by kernel_rfl) (by kernel_rfl) (by kernel_rfl) (fun _ _ _ h => h) (Or.inl ⟨by rfl, ?yb13⟩) hS ?rb13
      case yb13 => intro W hW; go_simp; first | done | with_reducible rfl
      simp only [Act.put, List.setIfInBounds_toArray, List.set_cons_zero, List.set_cons_succ]
      refine wpAnyH_take (i := 14) (oi := ⟨some 58, _, _, _, _, _⟩) (v := ?vb14) rfl (by kernel_rfl) (by kernel_rfl) (by kernel_rfl) (fun _ _ _ h => h) (Or.inl ⟨by rfl, ?yb14⟩) hS ?rb14
      case yb14 => intro W hW; go_simp; first | done | with_reducible rfl
      simp only [Act.put, List.setIfInBounds_toArray, List.set_cons_zero, List.set_cons_succ]
      refine wpAnyH_ready (rs := [15]) (by kernel_rfl) (by simp) ?_
      refine (AllReadyH.cons (o := ⟨some 12, _, _, _, _, _⟩) rfl (fun K hK => ?_) AllReadyH.nil)
      refine step_new8 _ rfl 24 rfl _ z24 ?_
      intro w4 g2 B2 F2
      have hS4 := hS.step F2.below
      refine hK.out _ _ hS4 (fun _ => ?_)
      clear hK K
      simp only [Act.put, List.setIfInBounds_toArray, List.set_cons_zero, List.set_cons_succ]
      refine wpAnyH_ready (rs := [16]) (by kernel_rfl) (by simp) ?_
      refine (AllReadyH.cons (o := ⟨none, _, _, _, _, _⟩) rfl (fun K hK => ?_) AllReadyH.nil)
      refine step_putAll _ rfl 24 (.tmp 12) (.tmp 57) rfl g2 24 _ (uC u.sch u.host u.port u.path u.q u.f) rfl rfl B2 rfl n24 (uC_one _ _ _ _ _ _) ?_
      intro w6 B6 U6
      have HH := hS.new F2 U6 B6
      refine hK.out _ _ HH.tl (fun _ => ?_)
      clear hK K hS4 B2 F2 B6 U6 hS
      have hS := HH.tl
      simp only [Act.put]
      refine wpAnyH_take (i := 17) (oi := ⟨some 13, _, _, _, _, _⟩) (v := ?vd17) rfl (by kernel_rfl) (by kernel_rfl) (by kernel_rfl) (fun _ _ _ h => h) (Or.inl ⟨by rfl, ?yd17⟩) hS ?rd17
      case yd17 => intro W hW; go_simp; first | done | with_reducible rfl
      simp only [Act.put, List.setIfInBounds_toArray, List.set_cons_zero, List.set_cons_succ]
      refine wpAnyH_done (by kernel_rfl) ?_ _
      have H2 := HH
      clear HH hS
      go_wp2_with (first
        | (go_at_call 26; (with_reducible refine (HF.out _).mono ?_); (rintro e w5 ⟨rfl, rfl⟩)))
      go_loopw [16, 15] (fun i v wr => ∃ k : Nat, k ≤ N ∧ i = .int .i64 (k : Int) ∧ v = .string (str (ups s CC k)) ∧ Hl w wr [(g2, uC u.sch u.host u.port u.path u.q u.f), (g1, uC u.sch u.host u.port u.path u.q u.f)]) (fun i _ _ => N - (intOf i).toNat)
      case atStart => exact ⟨0, by omega, rfl, by simp [ups, str], H2⟩
      case round =>
        obtain ⟨k, hk, rfl, rfl, H3⟩ := hrel
        clear H2
        have hL := hle.out k
        by_cases hlt : k < N
        · have hkS : (k : Int) < (N : Int) := by omega
          have HG := hgb.out k hlt
          have HLO := hlo.out k hlt
          have HHI := hhi.out k hlt
          obtain ⟨c, hc⟩ : ∃ c, c = s.getD k 0 := ⟨_, rfl⟩
          obtain ⟨b, hb⟩ : ∃ b, b = c.toNat := ⟨_, rfl⟩
          rw [← hc] at HG HLO HHI
          rw [← hb] at HG
          have hb9 : b < 256 := by rw [hb]; exact c.toNat_lt
          obtain ⟨A, hA⟩ : ∃ X, X = ups s CC k := ⟨_, rfl⟩
          obtain ⟨Y, hY⟩ : ∃ X, X = ups s CC (k + 1) := ⟨_, rfl⟩
          rw [← hA] at HLO HHI hL ⊢
          rw [← hY] at HLO HHI
          have sA : (str A).size ≤ 302 := by rw [str_size]; omega
          have HY := Lib.hid hY
          have HB := Lib.hid hb
          have hk1 : k + 1 ≤ N := hlt
          have key : ∀ d : UInt8, Y = A ++ [d] → Hid (str A ++ str [d] = str Y) := fun d e => by show _ = _; rw [e]; exact str_add _ _
          clear hc hb hA hY hL
          by_cases hC : k < CC
          · have hkC : (k : Int) < (CC : Int) := by omega
            have hcase : b < 97 ∨ (97 ≤ b ∧ b ≤ 122) ∨ 122 < b := by omega
            rcases hcase with hr | hr | hr
            · have c1 : decide ((97 : Int) ≤ (b : Int)) = false := by simp; omega
              have aY := (key c (by rw [HLO hC, upc_no c (by have := HB.out; omega)])).out
              have hrun := run_oneb wr b c HB.out
              have s1 : (str [c]).size = 1 := str_size _
              clear HLO HHI key hC hr
              go_wp2_with fail
              go_roundw
              case rel => exact ⟨k + 1, by omega, by go_num, by rw [HY.out], H3.allocC⟩
              case measure => simp [intOf]; omega
            · have c1 : decide ((97 : Int) ≤ (b : Int)) = true := by simp; omega
              have c2 : decide ((b : Int) ≤ 122) = true := by simp; omega
              have aY := (key (upc c) (HLO hC)).out
              have hup := upc_yes c (by have := HB.out; omega)
              rw [← HB.out] at hup
              obtain ⟨b2, hb2⟩ : ∃ b2, b2 = b - 32 := ⟨_, rfl⟩
              have hb3 : (b : Int) - 32 = (b2 : Int) := by omega
              have hb4 : IntKind.u8.wrap (b2 : Int) = (b2 : Int) := by rw [IntKind.wrap_u8]; omega
              have hrun := run_oneb wr b2 (upc c) (by rw [hb2, hup])
              have s1 : (str [upc c]).size = 1 := str_size _
              clear HLO HHI key hC hr hb2 hup
              generalize upc c = d at aY hrun s1
              go_wp2_with fail
              go_roundw
              case rel => exact ⟨k + 1, by omega, by go_num, by rw [HY.out], H3.allocC⟩
              case measure => simp [intOf]; omega
            · have c1 : decide ((97 : Int) ≤ (b : Int)) = true := by simp; omega
              have c2 : decide ((b : Int) ≤ 122) = false := by simp; omega
              have aY := (key c (by rw [HLO hC, upc_no c (by have := HB.out; omega)])).out
              have hrun := run_oneb wr b c HB.out
              have s1 : (str [c]).size = 1 := str_size _
              clear HLO HHI key hC hr
              go_wp2_with fail
              go_roundw
              case rel => exact ⟨k + 1, by omega, by go_num, by rw [HY.out], H3.allocC⟩
              case measure => simp [intOf]; omega
          · have hkC : ¬ (k : Int) < (CC : Int) := by omega
            have aY := (key c (HHI hC)).out
            have hrun := run_oneb wr b c HB.out
            have s1 : (str [c]).size = 1 := str_size _
            clear HLO HHI key hC
            go_wp2_with fail
            go_roundw
            case rel => exact ⟨k + 1, by omega, by go_num, by rw [HY.out], H3.allocC⟩
            case measure => simp [intOf]; omega
        · have hkS : ¬ (k : Int) < (N : Int) := by omega
          obtain rfl : k = N := by omega
          rw [hUp.out]
          clear hlt hL hk hUp
          go_wp2_with (first
            | (go_at_call 14; (with_reducible refine (HW.out _ H3.kp).mono ?_); (rintro e wa3 ⟨rfl, hb⟩; have G3 := H3.step hb; clear hb))
            | ((with_reducible show wpList _ _ _ (⟨some 18, .alloc _, _, _, _, _⟩ :: _) _ _); refine wp_new _ rfl 24 rfl _ z24 ?_; intro wb3 g3 B3 F3; simp only [Act.put, List.setIfInBounds_toArray, List.set_cons_zero, List.set_cons_succ])
            | ((with_reducible show wpList _ _ _ (⟨none, .store 24 (.tmp 18) (.tmp 91), _, _, _, _⟩ :: _) _ _); refine wp_putAll _ rfl 24 (.tmp 18) (.tmp 91) rfl g3 24 _ (uC u.sch u.host u.port u.path u.q u.f) rfl rfl B3 rfl n24 (uC_one _ _ _ _ _ _) ?_; intro wc3 B U; simp only [Act.put]; have H4 := G3.new F3 U B; clear B U F3 B3 G3)
            | ((with_reducible show wpList _ _ _ (⟨some 95, .load 24 (.tmp 8), _, _, _, _⟩ :: _) _ _); refine wp_getU _ (by rfl) (.tmp 8) rfl g1 u rfl (H4.at (x := (g1, uC u.sch u.host u.port u.path u.q u.f)) (by simp)) ?_; simp only [Act.put, List.setIfInBounds_toArray, List.set_cons_zero, List.set_cons_succ])
            | ((with_reducible show wpList _ _ _ (⟨some 96, .load 24 (.tmp 12), _, _, _, _⟩ :: _) _ _); refine wp_getU _ (by rfl) (.tmp 12) rfl g2 u rfl (H4.at (x := (g2, uC u.sch u.host u.port u.path u.q u.f)) (by simp)) ?_; simp only [Act.put, List.setIfInBounds_toArray, List.set_cons_zero, List.set_cons_succ])
            | ((with_reducible show wpList _ _ _ (⟨some 97, .binOp .eql 24 _ _ _, _, _, _, _⟩ :: _) _ _); refine wp_eqU _ (by rfl) (.tmp 95) (.tmp 96) rfl u u rfl rfl true ⟨fun _ => rfl, fun _ => rfl⟩ ?_; simp only [Act.put, List.setIfInBounds_toArray, List.set_cons_zero, List.set_cons_succ])
            | ((with_reducible show wpList _ _ _ (⟨some 110, .load 24 (.tmp 8), _, _, _, _⟩ :: _) _ _); refine wp_getU _ (by rfl) (.tmp 8) rfl g1 u rfl (H4.at (x := (g1, uC u.sch u.host u.port u.path u.q u.f)) (by simp)) ?_; simp only [Act.put, List.setIfInBounds_toArray, List.set_cons_zero, List.set_cons_succ])
            | ((with_reducible show wpList _ _ _ (⟨some 111, .load 24 (.tmp 18), _, _, _, _⟩ :: _) _ _); refine wp_getU _ (by rfl) (.tmp 18) rfl g3 u rfl (H4.at (x := (g3, uC u.sch u.host u.port u.path u.q u.f)) (by simp)) ?_; simp only [Act.put, List.setIfInBounds_toArray, List.set_cons_zero, List.set_cons_succ])
            | ((with_reducible show wpList _ _ _ (⟨some 112, .binOp .eql 24 _ _ _, _, _, _, _⟩ :: _) _ _); refine wp_eqU _ (by rfl) (.tmp 110) (.tmp 111) rfl u u rfl rfl true ⟨fun _ => rfl, fun _ => rfl⟩ ?_; simp only [Act.put, List.setIfInBounds_toArray, List.set_cons_zero, List.set_cons_succ]))
          go_ret
          exact ⟨by simp, H4.kp⟩
    · refine step_new8 _ rfl 24 rfl _ z24 ?_
      intro w4 g2 B2 F2
      have hbf := hS.before F2
      have hS4 := hS.step F2.below
      refine hK.out _ _ hS4 (fun _ => ?_)
      clear hK K hS
      have hS := hS4
      clear hS4 F2
      simp only [Act.put, List.setIfInBounds_toArray, List.set_cons_zero, List.set_cons_succ]
      refine wpAnyH_ready (rs := [11]) (by kernel_rfl) (by simp) ?_
      refine (AllReadyH.cons (o := ⟨some 56, _, _, _, _, _⟩) rfl (fun K hK => ?_) AllReadyH.nil)
      try go_simp
      (with_reducible refine (HV.out _ hS.kp).mono ?_)
      rintro e w3 ⟨rfl, hbw3⟩
      have hS3 := hS.step hbw3
      refine hK.out _ _ hS3 (fun _ => ?_)
      clear hK K
      try simp only [Act.put, List.setIfInBounds_toArray, List.set_cons_zero, List.set_cons_succ]
      have B3 := B2.kept hbw3
      clear hS B2 hbw3
      have hS := hS3
      clear hS3
      refine wpAnyH_take (i := 12) (oi := ⟨some 44, _, _, _, _, _⟩) (v := ?vc12) rfl (by kernel_rfl) (by kernel_rfl) (by kernel_rfl) (fun _ _ _ h => h) (Or.inl ⟨by rfl, ?yc12⟩) hS ?rc12
      case yc12 => intro W hW; go_simp; first | done | with_reducible rfl
      simp only [Act.put, List.setIfInBounds_toArray, List.set_cons_zero, List.set_cons_succ]
      refine wpAnyH_take (i := 13) (oi := ⟨some 57, _, _, _, _, _⟩) (v := ?vc13) rfl (by kernel_rfl) (by kernel_rfl) (by kernel_rfl) (fun _ _ _ h => h) (Or.inl ⟨by rfl, ?yc13⟩) hS ?rc13
      case yc13 => intro W hW; go_simp; first | done | with_reducible rfl
      simp only [Act.put, List.setIfInBounds_toArray, List.set_cons_zero, List.set_cons_succ]
      refine wpAnyH_take (i := 14) (oi := ⟨some 58, _, _, _, _, _⟩) (v := ?vc14) rfl (by kernel_rfl) (by kernel_rfl) (by kernel_rfl) (fun _ _ _ h => h) (Or.inl ⟨by rfl, ?yc14⟩) hS ?rc14
      case yc14 => intro W hW; go_simp; first | done | with_reducible rfl
      simp only [Act.put, List.setIfInBounds_toArray, List.set_cons_zero, List.set_cons_succ]
      refine wpAnyH_ready (rs := [16]) (by kernel_rfl) (by simp) ?_
      refine (AllReadyH.cons (o := ⟨none, _, _, _, _, _⟩) rfl (fun K hK => ?_) AllReadyH.nil)
      refine step_putAll _ rfl 24 (.tmp 12) (.tmp 57) rfl g2 24 _ (uC u.sch u.host u.port u.path u.q u.f) rfl rfl B3 rfl n24 (uC_one _ _ _ _ _ _) ?_
      intro w6 B6 U6
      have HH := hS.put hbf.1 hbf.2 U6 B6
      refine hK.out _ _ HH.tl (fun _ => ?_)
      clear hK K B3 B6 U6 hbf hS
      have hS := HH.tl
      simp only [Act.put]
      refine wpAnyH_take (i := 17) (oi := ⟨some 13, _, _, _, _, _⟩) (v := ?ve17) rfl (by kernel_rfl) (by kernel_rfl) (by kernel_rfl) (fun _ _ _ h => h) (Or.inl ⟨by rfl, ?ye17⟩) hS ?re17
      case ye17 => intro W hW; go_simp; first | done | with_reducible rfl
      simp only [Act.put, List.setIfInBounds_toArray, List.set_cons_zero, List.set_cons_succ]
      refine wpAnyH_done (by kernel_rfl) ?_ _
      have H2 := HH
      clear HH hS
      go_wp2_with (first
        | (go_at_call 26; (with_reducible refine (HF.out _).mono ?_); (rintro e w5 ⟨rfl, rfl⟩)))
      go_loopw [16, 15] (fun i v wr => ∃ k : Nat, k ≤ N ∧ i = .int .i64 (k : Int) ∧ v = .string (str (ups s CC k)) ∧ Hl w wr [(g2, uC u.sch u.host u.port u.path u.q u.f), (g1, uC u.sch u.host u.port u.path u.q u.f)]) (fun i _ _ => N - (intOf i).toNat)
      case atStart => exact ⟨0, by omega, rfl, by simp [ups, str], H2⟩
      case round =>
        obtain ⟨k, hk, rfl, rfl, H3⟩ := hrel
        clear H2
        have hL := hle.out k
        by_cases hlt : k < N
        · have hkS : (k : Int) < (N : Int) := by omega
          have HG := hgb.out k hlt
          have HLO := hlo.out k hlt
          have HHI := hhi.out k hlt
          obtain ⟨c, hc⟩ : ∃ c, c = s.getD k 0 := ⟨_, rfl⟩
          obtain ⟨b, hb⟩ : ∃ b, b = c.toNat := ⟨_, rfl⟩
          rw [← hc] at HG HLO HHI
          rw [← hb] at HG
          have hb9 : b < 256 := by rw [hb]; exact c.toNat_lt
          obtain ⟨A, hA⟩ : ∃ X, X = ups s CC k := ⟨_, rfl⟩
          obtain ⟨Y, hY⟩ : ∃ X, X = ups s CC (k + 1) := ⟨_, rfl⟩
          rw [← hA] at HLO HHI hL ⊢
          rw [← hY] at HLO HHI
          have sA : (str A).size ≤ 302 := by rw [str_size]; omega
          have HY := Lib.hid hY
          have HB := Lib.hid hb
          have hk1 : k + 1 ≤ N := hlt
          have key : ∀ d : UInt8, Y = A ++ [d] → Hid (str A ++ str [d] = str Y) := fun d e => by show _ = _; rw [e]; exact str_add _ _
          clear hc hb hA hY hL
          by_cases hC : k < CC
          · have hkC : (k : Int) < (CC : Int) := by omega
            have hcase : b < 97 ∨ (97 ≤ b ∧ b ≤ 122) ∨ 122 < b := by omega
            rcases hcase with hr | hr | hr
            · have c1 : decide ((97 : Int) ≤ (b : Int)) = false := by simp; omega
              have aY := (key c (by rw [HLO hC, upc_no c (by have := HB.out; omega)])).out
              have hrun := run_oneb wr b c HB.out
              have s1 : (str [c]).size = 1 := str_size _
              clear HLO HHI key hC hr
              go_wp2_with fail
              go_roundw
              case rel => exact ⟨k + 1, by omega, by go_num, by rw [HY.out], H3.allocC⟩
              case measure => simp [intOf]; omega
            · have c1 : decide ((97 : Int) ≤ (b : Int)) = true := by simp; omega
              have c2 : decide ((b : Int) ≤ 122) = true := by simp; omega
              have aY := (key (upc c) (HLO hC)).out
              have hup := upc_yes c (by have := HB.out; omega)
              rw [← HB.out] at hup
              obtain ⟨b2, hb2⟩ : ∃ b2, b2 = b - 32 := ⟨_, rfl⟩
              have hb3 : (b : Int) - 32 = (b2 : Int) := by omega
              have hb4 : IntKind.u8.wrap (b2 : Int) = (b2 : Int) := by rw [IntKind.wrap_u8]; omega
              have hrun := run_oneb wr b2 (upc c) (by rw [hb2, hup])
              have s1 : (str [upc c]).size = 1 := str_size _
              clear HLO HHI key hC hr hb2 hup
              generalize upc c = d at aY hrun s1
              go_wp2_with fail
              go_roundw
              case rel => exact ⟨k + 1, by omega, by go_num, by rw [HY.out], H3.allocC⟩
              case measure => simp [intOf]; omega
            · have c1 : decide ((97 : Int) ≤ (b : Int)) = true := by simp; omega
              have c2 : decide ((b : Int) ≤ 122) = false := by simp; omega
              have aY := (key c (by rw [HLO hC, upc_no c (by have := HB.out; omega)])).out
              have hrun := run_oneb wr b c HB.out
              have s1 : (str [c]).size = 1 := str_size _
              clear HLO HHI key hC hr
              go_wp2_with fail
              go_roundw
              case rel => exact ⟨k + 1, by omega, by go_num, by rw [HY.out], H3.allocC⟩
              case measure => simp [intOf]; omega
          · have hkC : ¬ (k : Int) < (CC : Int) := by omega
            have aY := (key c (HHI hC)).out
            have hrun := run_oneb wr b c HB.out
            have s1 : (str [c]).size = 1 := str_size _
            clear HLO HHI key hC
            go_wp2_with fail
            go_roundw
            case rel => exact ⟨k + 1, by omega, by go_num, by rw [HY.out], H3.allocC⟩
            case measure => simp [intOf]; omega
        · have hkS : ¬ (k : Int) < (N : Int) := by omega
          obtain rfl : k = N := by omega
          rw [hUp.out]
          clear hlt hL hk hUp
          go_wp2_with (first
            | (go_at_call 14; (with_reducible refine (HW.out _ H3.kp).mono ?_); (rintro e wa3 ⟨rfl, hb⟩; have G3 := H3.step hb; clear hb))
            | ((with_reducible show wpList _ _ _ (⟨some 18, .alloc _, _, _, _, _⟩ :: _) _ _); refine wp_new _ rfl 24 rfl _ z24 ?_; intro wb3 g3 B3 F3; simp only [Act.put, List.setIfInBounds_toArray, List.set_cons_zero, List.set_cons_succ])
            | ((with_reducible show wpList _ _ _ (⟨none, .store 24 (.tmp 18) (.tmp 91), _, _, _, _⟩ :: _) _ _); refine wp_putAll _ rfl 24 (.tmp 18) (.tmp 91) rfl g3 24 _ (uC u.sch u.host u.port u.path u.q u.f) rfl rfl B3 rfl n24 (uC_one _ _ _ _ _ _) ?_; intro wc3 B U; simp only [Act.put]; have H4 := G3.new F3 U B; clear B U F3 B3 G3)
            | ((with_reducible show wpList _ _ _ (⟨some 95, .load 24 (.tmp 8), _, _, _, _⟩ :: _) _ _); refine wp_getU _ (by rfl) (.tmp 8) rfl g1 u rfl (H4.at (x := (g1, uC u.sch u.host u.port u.path u.q u.f)) (by simp)) ?_; simp only [Act.put, List.setIfInBounds_toArray, List.set_cons_zero, List.set_cons_succ])
            | ((with_reducible show wpList _ _ _ (⟨some 96, .load 24 (.tmp 12), _, _, _, _⟩ :: _) _ _); refine wp_getU _ (by rfl) (.tmp 12) rfl g2 u rfl (H4.at (x := (g2, uC u.sch u.host u.port u.path u.q u.f)) (by simp)) ?_; simp only [Act.put, List.setIfInBounds_toArray, List.set_cons_zero, List.set_cons_succ])
            | ((with_reducible show wpList _ _ _ (⟨some 97, .binOp .eql 24 _ _ _, _, _, _, _⟩ :: _) _ _); refine wp_eqU _ (by rfl) (.tmp 95) (.tmp 96) rfl u u rfl rfl true ⟨fun _ => rfl, fun _ => rfl⟩ ?_; simp only [Act.put, List.setIfInBounds_toArray, List.set_cons_zero, List.set_cons_succ])
            | ((with_reducible show wpList _ _ _ (⟨some 110, .load 24 (.tmp 8), _, _, _, _⟩ :: _) _ _); refine wp_getU _ (by rfl) (.tmp 8) rfl g1 u rfl (H4.at (x := (g1, uC u.sch u.host u.port u.path u.q u.f)) (by simp)) ?_; simp only [Act.put, List.setIfInBounds_toArray, List.set_cons_zero, List.set_cons_succ])
            | ((with_reducible show wpList _ _ _ (⟨some 111, .load 24 (.tmp 18), _, _, _, _⟩ :: _) _ _); refine wp_getU _ (by rfl) (.tmp 18) rfl g3 u rfl (H4.at (x := (g3, uC u.sch u.host u.port u.path u.q u.f)) (by simp)) ?_; simp only [Act.put, List.setIfInBounds_toArray, List.set_cons_zero, List.set_cons_succ])
            | ((with_reducible show wpList _ _ _ (⟨some 112, .binOp .eql 24 _ _ _, _, _, _, _⟩ :: _) _ _); refine wp_eqU _ (by rfl) (.tmp 110) (.tmp 111) rfl u u rfl rfl true ⟨fun _ => rfl, fun _ => rfl⟩ ?_; simp only [Act.put, List.setIfInBounds_toArray, List.set_cons_zero, List.set_cons_succ]))
          go_ret
          exact ⟨by simp, H4.kp⟩
set_option maxHeartbeats 8000000 in
set_option maxRecDepth 100000 in
theorem cl_1_no (u v : U) (en em : Int) (l s0 S1 s P D X1 X2 X3 X Up : List UInt8) (n1 n2 : Int) (m N N1 k y CC : Nat) (w : World) (hm : min (l.length : Int) 300 = (m : Int)) (hm2 : m ≤ l.length) (hts : (str l).extract 0 m = str s0) (hsl : (str l).size = l.length) (a1 : ⟨#[104]⟩ ++ str s0 = str S1) (a2 : str S1 ++ ⟨#[122]⟩ = str s) (q1 : ¬ (9223372036854775807 : Nat) < 1 + (str s0).size) (q2 : ¬ (9223372036854775807 : Nat) < (str S1).size + 1) (hN : N = s.length) (hN2 : N ≤ 302) (hN1 : (N : Int) + 1 = (N1 : Int)) (hN1w : IntKind.i64.wrap (N1 : Int) = (N1 : Int)) (hy : bits .and .i64 n1 65535 = (y : Int)) (hk' : Int.tmod (y : Int) (N1 : Int) = (k : Int)) (hkN : k ≤ N) (hz : bits .and .i64 n2 3 = 1) (HS : Hid (∀ w', Kept w w' → Calls Tryz.prog 13 #[] w' fun e w2 => e = .returned (.bool true) ∧ Below w'.heap.size w' w2)) (HU : Hid (∀ w', Kept w w' → Calls Tryz.prog 14 #[.string (str s)] w' fun e w2 => e = .returned (.tuple #[.agg (uC u.sch u.host u.port u.path u.q u.f).toArray, .int .i64 en]) ∧ Below w'.heap.size w' w2)) (HV : Hid (∀ w', Kept w w' → Calls Tryz.prog 14 #[.string (str X)] w' fun e w2 => e = .returned (.tuple #[.agg (uC u.sch u.host u.port u.path u.q u.f).toArray, .int .i64 en]) ∧ Below w'.heap.size w' w2)) (HW : Hid (∀ w', Kept w w' → Calls Tryz.prog 14 #[.string (str Up)] w' fun e w2 => e = .returned (.tuple #[.agg (uC v.sch v.host v.port v.path v.q v.f).toArray, .int .i64 em]) ∧ Below w'.heap.size w' w2)) (HF : Hid (∀ w', Calls Tryz.prog 26 #[.string (str s), .int .u8 58] w' fun e w2 => e = .returned (.int .i64 (CC : Int)) ∧ w2 = w')) (t1 : (str s).extract 0 k = str P) (t2 : (str s).extract k N = str D) (b1 : ⟨#[32, 0, 10]⟩ ++ str P = str X1) (b2 : str X1 ++ ⟨#[10]⟩ = str X2) (b3 : str X2 ++ str D = str X3) (b4 : str X3 ++ ⟨#[9, 32, 31]⟩ = str X) (r1 : ¬ (9223372036854775807 : Nat) < 3 + (str P).size) (r2 : ¬ (9223372036854775807 : Nat) < (str X1).size + 1) (r3 : ¬ (9223372036854775807 : Nat) < (str X2).size + (str D).size) (r4 : ¬ (9223372036854775807 : Nat) < (str X3).size + 3) (hUp : Hid (ups s CC N = Up)) (hcc : ((CC : Int) == (N : Int)) = true) : Calls Tryz.prog 6 #[.string (str l), .int .i64 n1, .int .i64 n2] w fun e w' => e = .returned (.bool true) ∧ Below w.heap.size w w' := by
    have hsz := str_size s
    have hgb : Hid (∀ k, k < N → ∀ h, ((str s)[k]'h).toNat = (s.getD k 0).toNat) := fun k hk h => str_at s k (by omega) h
    have hlo : Hid (∀ k, k < N → k < CC → ups s CC (k + 1) = ups s CC k ++ [upc (s.getD k 0)]) := fun k hk h => ups_lo s CC k (by omega) h _ rfl
    have hhi : Hid (∀ k, k < N → ¬ k < CC → ups s CC (k + 1) = ups s CC k ++ [s.getD k 0]) := fun k hk h => ups_hi s CC k (by omega) h _ rfl
    have hle : Hid (∀ k, (ups s CC k).length ≤ k) := fun k => ups_len s CC k
    rw [← hN] at hsz
    clear hN
    have hee : (en == en) = true := by simp
    go_enter Tryz.func6, Tryz.ntmps6
    go_wp2_with (first
      | (go_at_call 13; (with_reducible refine (HS.out _ (Hl.nil w).kp).mono ?_); (rintro e w1 ⟨rfl, hb⟩; have H0 := (Hl.nil w).step hb; clear hb))
      | (go_at_call 14; (with_reducible refine (HU.out _ H0.kp).mono ?_); (rintro e wa1 ⟨rfl, hb⟩; have G1 := H0.step hb; clear hb))
      | ((with_reducible show wpList _ _ _ (⟨some 8, .alloc _, _, _, _, _⟩ :: _) _ _); refine wp_new _ rfl 24 rfl _ z24 ?_; intro wb1 g1 B1 F1; simp only [Act.put, List.setIfInBounds_toArray, List.set_cons_zero, List.set_cons_succ])
      | ((with_reducible show wpList _ _ _ (⟨none, .store 24 (.tmp 8) (.tmp 31), _, _, _, _⟩ :: _) _ _); refine wp_putAll _ rfl 24 (.tmp 8) (.tmp 31) rfl g1 24 _ (uC u.sch u.host u.port u.path u.q u.f) rfl rfl B1 rfl n24 (uC_one _ _ _ _ _ _) ?_; intro wc1 B U; simp only [Act.put]; have H1 := G1.new F1 U B; clear B U F1 B1 G1))
    have H1a := H1.allocC (o := .cells #[.string ⟨#[9]⟩, .string ⟨#[10]⟩, .string ⟨#[13]⟩, .string ⟨#[13, 10, 9]⟩] 9)
    refine wp_region_held_drew (S := fun W => Hl w W [(g1, uC u.sch u.host u.port u.path u.q u.f)]) (by kernel_rfl) (H1a.step (Below.refl _ _).drew) (fun hS => ?_)
    clear H0 H1 H1a
    refine wpAnyH_take (i := 0) (oi := ⟨some 45, _, _, _, _, _⟩) (v := ?va0) rfl (by kernel_rfl) (by kernel_rfl) (by kernel_rfl) (fun _ _ _ h => h) (Or.inl ⟨by rfl, ?ya0⟩) hS ?ra0
    case ya0 => intro W hW; go_simp; first | done | with_reducible rfl
    simp only [Act.put, List.setIfInBounds_toArray, List.set_cons_zero, List.set_cons_succ]
    refine wpAnyH_take (i := 1) (oi := ⟨some 46, _, _, _, _, _⟩) (v := ?va1) rfl (by kernel_rfl) (by kernel_rfl) (by kernel_rfl) (fun _ _ _ h => h) (Or.inl ⟨by rfl, ?ya1⟩) hS ?ra1
    case ya1 => intro W hW; go_simp; first | done | with_reducible rfl
    simp only [Act.put, List.setIfInBounds_toArray, List.set_cons_zero, List.set_cons_succ]
    refine wpAnyH_take (i := 2) (oi := ⟨some 47, _, _, _, _, _⟩) (v := ?va2) rfl (by kernel_rfl) (by kernel_rfl) (by kernel_rfl) (fun _ _ _ h => h) (Or.inl ⟨by rfl, ?ya2⟩) hS ?ra2
    case ya2 => intro W hW; go_simp; first | done | with_reducible rfl
    simp only [Act.put, List.setIfInBounds_toArray, List.set_cons_zero, List.set_cons_succ]
    refine wpAnyH_take (i := 3) (oi := ⟨some 48, _, _, _, _, _⟩) (v := ?va3) rfl (by kernel_rfl) (by kernel_rfl) (by kernel_rfl) (fun _ _ _ h => h) (Or.inl ⟨by rfl, ?ya3⟩) hS ?ra3
    case ya3 => intro W hW; go_simp; first | done | with_reducible rfl
    simp only [Act.put, List.setIfInBounds_toArray, List.set_cons_zero, List.set_cons_succ]
    refine wpAnyH_take (i := 4) (oi := ⟨some 49, _, _, _, _, _⟩) (v := ?va4) rfl (by kernel_rfl) (by kernel_rfl) (by kernel_rfl) (fun _ _ _ h => h) (Or.inl ⟨by rfl, ?ya4⟩) hS ?ra4
    case ya4 => intro W hW; go_simp; first | done | with_reducible rfl
    simp only [Act.put, List.setIfInBounds_toArray, List.set_cons_zero, List.set_cons_succ]
    refine wpAnyH_take (i := 5) (oi := ⟨some 50, _, _, _, _, _⟩) (v := ?va5) rfl (by kernel_rfl) (by kernel_rfl) (by kernel_rfl) (fun _ _ _ h => h) (Or.inl ⟨by rfl, ?ya5⟩) hS ?ra5
    case ya5 => intro W hW; go_simp; first | done | with_reducible rfl
    simp only [Act.put, List.setIfInBounds_toArray, List.set_cons_zero, List.set_cons_succ]
    refine wpAnyH_take (i := 6) (oi := ⟨some 51, _, _, _, _, _⟩) (v := ?va6) rfl (by kernel_rfl) (by kernel_rfl) (by kernel_rfl) (fun _ _ _ h => h) (Or.inl ⟨by rfl, ?ya6⟩) hS ?ra6
    case ya6 => intro W hW; go_simp; first | done | with_reducible rfl
    simp only [Act.put, List.setIfInBounds_toArray, List.set_cons_zero, List.set_cons_succ]
    refine wpAnyH_take (i := 7) (oi := ⟨some 52, _, _, _, _, _⟩) (v := ?va7) rfl (by kernel_rfl) (by kernel_rfl) (by kernel_rfl) (fun _ _ _ h => h) (Or.inl ⟨by rfl, ?ya7⟩) hS ?ra7
    case ya7 => intro W hW; go_simp; first | done | with_reducible rfl
    simp only [Act.put, List.setIfInBounds_toArray, List.set_cons_zero, List.set_cons_succ]
    refine wpAnyH_take (i := 8) (oi := ⟨some 53, _, _, _, _, _⟩) (v := ?va8) rfl (by kernel_rfl) (by kernel_rfl) (by kernel_rfl) (fun _ _ _ h => h) (Or.inl ⟨by rfl, ?ya8⟩) hS ?ra8
    case ya8 => intro W hW; go_simp; first | done | with_reducible rfl
    simp only [Act.put, List.setIfInBounds_toArray, List.set_cons_zero, List.set_cons_succ]
    refine wpAnyH_take (i := 9) (oi := ⟨some 54, _, _, _, _, _⟩) (v := ?va9) rfl (by kernel_rfl) (by kernel_rfl) (by kernel_rfl) (fun _ _ _ h => h) (Or.inl ⟨by rfl, ?ya9⟩) hS ?ra9
    case ya9 => intro W hW; go_simp; first | done | with_reducible rfl
    simp only [Act.put, List.setIfInBounds_toArray, List.set_cons_zero, List.set_cons_succ]
    refine wpAnyH_take (i := 10) (oi := ⟨some 55, _, _, _, _, _⟩) (v := ?va10) rfl (by kernel_rfl) (by kernel_rfl) (by kernel_rfl) (fun _ _ _ h => h) (Or.inl ⟨by rfl, ?ya10⟩) hS ?ra10
    case ya10 => intro W hW; go_simp; first | done | with_reducible rfl
    simp only [Act.put, List.setIfInBounds_toArray, List.set_cons_zero, List.set_cons_succ]
    refine wpAnyH_ready (rs := [11, 15]) (by kernel_rfl) (by simp) ?_
    refine (AllReadyH.cons (o := ⟨some 56, _, _, _, _, _⟩) rfl (fun K hK => ?_) (AllReadyH.cons (o := ⟨some 12, _, _, _, _, _⟩) rfl (fun K hK => ?_) AllReadyH.nil))
    · try go_simp
      (with_reducible refine (HV.out _ hS.kp).mono ?_)
      rintro e w3 ⟨rfl, hbw3⟩
      have hS3 := hS.step hbw3
      refine hK.out _ _ hS3 (fun _ => ?_)
      clear hK K
      try simp only [Act.put, List.setIfInBounds_toArray, List.set_cons_zero, List.set_cons_succ]
      clear hS
      have hS := hS3
      clear hS3
      refine wpAnyH_take (i := 12) (oi := ⟨some 44, _, _, _, _, _⟩) (v := ?vb12) rfl (by kernel_rfl) (by kernel_rfl) (by kernel_rfl) (fun _ _ _ h => h) (Or.inl ⟨by rfl, ?yb12⟩) hS ?rb12
      case yb12 => intro W hW; go_simp; first | done | with_reducible rfl
      simp only [Act.put, List.setIfInBounds_toArray, List.set_cons_zero, List.set_cons_succ]
      refine wpAnyH_take (i := 13) (oi := ⟨some 57, _, _, _, _, _⟩) (v := ?vb13) rfl (by kernel_rfl) (by kernel_rfl) (by kernel_rfl) (fun _ _ _ h => h) (Or.inl ⟨by rfl, ?yb13⟩) hS ?rb13
      case yb13 => intro W hW; go_simp; first | done | with_reducible rfl
      simp only [Act.put, List.setIfInBounds_toArray, List.set_cons_zero, List.set_cons_succ]
      refine wpAnyH_take (i := 14) (oi := ⟨some 58, _, _, _, _, _⟩) (v := ?vb14) rfl (by kernel_rfl) (by kernel_rfl) (by kernel_rfl) (fun _ _ _ h => h) (Or.inl ⟨by rfl, ?yb14⟩) hS ?rb14
      case yb14 => intro W hW; go_simp; first | done | with_reducible rfl
      simp only [Act.put, List.setIfInBounds_toArray, List.set_cons_zero, List.set_cons_succ]
      refine wpAnyH_ready (rs := [15]) (by kernel_rfl) (by simp) ?_
      refine (AllReadyH.cons (o := ⟨some 12, _, _, _, _, _⟩) rfl (fun K hK => ?_) AllReadyH.nil)
      refine step_new8 _ rfl 24 rfl _ z24 ?_
      intro w4 g2 B2 F2
      have hS4 := hS.step F2.below
      refine hK.out _ _ hS4 (fun _ => ?_)
      clear hK K
      simp only [Act.put, List.setIfInBounds_toArray, List.set_cons_zero, List.set_cons_succ]
      refine wpAnyH_ready (rs := [16]) (by kernel_rfl) (by simp) ?_
      refine (AllReadyH.cons (o := ⟨none, _, _, _, _, _⟩) rfl (fun K hK => ?_) AllReadyH.nil)
      refine step_putAll _ rfl 24 (.tmp 12) (.tmp 57) rfl g2 24 _ (uC u.sch u.host u.port u.path u.q u.f) rfl rfl B2 rfl n24 (uC_one _ _ _ _ _ _) ?_
      intro w6 B6 U6
      have HH := hS.new F2 U6 B6
      refine hK.out _ _ HH.tl (fun _ => ?_)
      clear hK K hS4 B2 F2 B6 U6 hS
      have hS := HH.tl
      simp only [Act.put]
      refine wpAnyH_take (i := 17) (oi := ⟨some 13, _, _, _, _, _⟩) (v := ?vd17) rfl (by kernel_rfl) (by kernel_rfl) (by kernel_rfl) (fun _ _ _ h => h) (Or.inl ⟨by rfl, ?yd17⟩) hS ?rd17
      case yd17 => intro W hW; go_simp; first | done | with_reducible rfl
      simp only [Act.put, List.setIfInBounds_toArray, List.set_cons_zero, List.set_cons_succ]
      refine wpAnyH_done (by kernel_rfl) ?_ _
      have H2 := HH
      clear HH hS
      go_wp2_with (first
        | (go_at_call 26; (with_reducible refine (HF.out _).mono ?_); (rintro e w5 ⟨rfl, rfl⟩)))
      go_loopw [16, 15] (fun i v wr => ∃ k : Nat, k ≤ N ∧ i = .int .i64 (k : Int) ∧ v = .string (str (ups s CC k)) ∧ Hl w wr [(g2, uC u.sch u.host u.port u.path u.q u.f), (g1, uC u.sch u.host u.port u.path u.q u.f)]) (fun i _ _ => N - (intOf i).toNat)
      case atStart => exact ⟨0, by omega, rfl, by simp [ups, str], H2⟩
      case round =>
        obtain ⟨k, hk, rfl, rfl, H3⟩ := hrel
        clear H2
        have hL := hle.out k
        by_cases hlt : k < N
        · have hkS : (k : Int) < (N : Int) := by omega
          have HG := hgb.out k hlt
          have HLO := hlo.out k hlt
          have HHI := hhi.out k hlt
          obtain ⟨c, hc⟩ : ∃ c, c = s.getD k 0 := ⟨_, rfl⟩
          obtain ⟨b, hb⟩ : ∃ b, b = c.toNat := ⟨_, rfl⟩
          rw [← hc] at HG HLO HHI
          rw [← hb] at HG
          have hb9 : b < 256 := by rw [hb]; exact c.toNat_lt
          obtain ⟨A, hA⟩ : ∃ X, X = ups s CC k := ⟨_, rfl⟩
          obtain ⟨Y, hY⟩ : ∃ X, X = ups s CC (k + 1) := ⟨_, rfl⟩
          rw [← hA] at HLO HHI hL ⊢
          rw [← hY] at HLO HHI
          have sA : (str A).size ≤ 302 := by rw [str_size]; omega
          have HY := Lib.hid hY
          have HB := Lib.hid hb
          have hk1 : k + 1 ≤ N := hlt
          have key : ∀ d : UInt8, Y = A ++ [d] → Hid (str A ++ str [d] = str Y) := fun d e => by show _ = _; rw [e]; exact str_add _ _
          clear hc hb hA hY hL
          by_cases hC : k < CC
          · have hkC : (k : Int) < (CC : Int) := by omega
            have hcase : b < 97 ∨ (97 ≤ b ∧ b ≤ 122) ∨ 122 < b := by omega
            rcases hcase with hr | hr | hr
            · have c1 : decide ((97 : Int) ≤ (b : Int)) = false := by simp; omega
              have aY := (key c (by rw [HLO hC, upc_no c (by have := HB.out; omega)])).out
              have hrun := run_oneb wr b c HB.out
              have s1 : (str [c]).size = 1 := str_size _
              clear HLO HHI key hC hr
              go_wp2_with fail
              go_roundw
              case rel => exact ⟨k + 1, by omega, by go_num, by rw [HY.out], H3.allocC⟩
              case measure => simp [intOf]; omega
            · have c1 : decide ((97 : Int) ≤ (b : Int)) = true := by simp; omega
              have c2 : decide ((b : Int) ≤ 122) = true := by simp; omega
              have aY := (key (upc c) (HLO hC)).out
              have hup := upc_yes c (by have := HB.out; omega)
              rw [← HB.out] at hup
              obtain ⟨b2, hb2⟩ : ∃ b2, b2 = b - 32 := ⟨_, rfl⟩
              have hb3 : (b : Int) - 32 = (b2 : Int) := by omega
              have hb4 : IntKind.u8.wrap (b2 : Int) = (b2 : Int) := by rw [IntKind.wrap_u8]; omega
              have hrun := run_oneb wr b2 (upc c) (by rw [hb2, hup])
              have s1 : (str [upc c]).size = 1 := str_size _
              clear HLO HHI key hC hr hb2 hup
              generalize upc c = d at aY hrun s1
              go_wp2_with fail
              go_roundw
              case rel => exact ⟨k + 1, by omega, by go_num, by rw [HY.out], H3.allocC⟩
              case measure => simp [intOf]; omega
            · have c1 : decide ((97 : Int) ≤ (b : Int)) = true := by simp; omega
              have c2 : decide ((b : Int) ≤ 122) = false := by simp; omega
              have aY := (key c (by rw [HLO hC, upc_no c (by have := HB.out; omega)])).out
              have hrun := run_oneb wr b c HB.out
              have s1 : (str [c]).size = 1 := str_size _
              clear HLO HHI key hC hr
              go_wp2_with fail
              go_roundw
              case rel => exact ⟨k + 1, by omega, by go_num, by rw [HY.out], H3.allocC⟩
              case measure => simp [intOf]; omega
          · have hkC : ¬ (k : Int) < (CC : Int) := by omega
            have aY := (key c (HHI hC)).out
            have hrun := run_oneb wr b c HB.out
            have s1 : (str [c]).size = 1 := str_size _
            clear HLO HHI key hC
            go_wp2_with fail
            go_roundw
            case rel => exact ⟨k + 1, by omega, by go_num, by rw [HY.out], H3.allocC⟩
            case measure => simp [intOf]; omega
        · have hkS : ¬ (k : Int) < (N : Int) := by omega
          obtain rfl : k = N := by omega
          rw [hUp.out]
          clear hlt hL hk hUp
          go_wp2_with (first
            | (go_at_call 14; (with_reducible refine (HW.out _ H3.kp).mono ?_); (rintro e wa3 ⟨rfl, hb⟩; have G3 := H3.step hb; clear hb))
            | ((with_reducible show wpList _ _ _ (⟨some 18, .alloc _, _, _, _, _⟩ :: _) _ _); refine wp_new _ rfl 24 rfl _ z24 ?_; intro wb3 g3 B3 F3; simp only [Act.put, List.setIfInBounds_toArray, List.set_cons_zero, List.set_cons_succ])
            | ((with_reducible show wpList _ _ _ (⟨none, .store 24 (.tmp 18) (.tmp 91), _, _, _, _⟩ :: _) _ _); refine wp_putAll _ rfl 24 (.tmp 18) (.tmp 91) rfl g3 24 _ (uC v.sch v.host v.port v.path v.q v.f) rfl rfl B3 rfl n24 (uC_one _ _ _ _ _ _) ?_; intro wc3 B U; simp only [Act.put]; have H4 := G3.new F3 U B; clear B U F3 B3 G3)
            | ((with_reducible show wpList _ _ _ (⟨some 95, .load 24 (.tmp 8), _, _, _, _⟩ :: _) _ _); refine wp_getU _ (by rfl) (.tmp 8) rfl g1 u rfl (H4.at (x := (g1, uC u.sch u.host u.port u.path u.q u.f)) (by simp)) ?_; simp only [Act.put, List.setIfInBounds_toArray, List.set_cons_zero, List.set_cons_succ])
            | ((with_reducible show wpList _ _ _ (⟨some 96, .load 24 (.tmp 12), _, _, _, _⟩ :: _) _ _); refine wp_getU _ (by rfl) (.tmp 12) rfl g2 u rfl (H4.at (x := (g2, uC u.sch u.host u.port u.path u.q u.f)) (by simp)) ?_; simp only [Act.put, List.setIfInBounds_toArray, List.set_cons_zero, List.set_cons_succ])
            | ((with_reducible show wpList _ _ _ (⟨some 97, .binOp .eql 24 _ _ _, _, _, _, _⟩ :: _) _ _); refine wp_eqU _ (by rfl) (.tmp 95) (.tmp 96) rfl u u rfl rfl true ⟨fun _ => rfl, fun _ => rfl⟩ ?_; simp only [Act.put, List.setIfInBounds_toArray, List.set_cons_zero, List.set_cons_succ]))
          go_ret
          exact ⟨by simp, H4.kp⟩
    · refine step_new8 _ rfl 24 rfl _ z24 ?_
      intro w4 g2 B2 F2
      have hbf := hS.before F2
      have hS4 := hS.step F2.below
      refine hK.out _ _ hS4 (fun _ => ?_)
      clear hK K hS
      have hS := hS4
      clear hS4 F2
      simp only [Act.put, List.setIfInBounds_toArray, List.set_cons_zero, List.set_cons_succ]
      refine wpAnyH_ready (rs := [11]) (by kernel_rfl) (by simp) ?_
      refine (AllReadyH.cons (o := ⟨some 56, _, _, _, _, _⟩) rfl (fun K hK => ?_) AllReadyH.nil)
      try go_simp
      (with_reducible refine (HV.out _ hS.kp).mono ?_)
      rintro e w3 ⟨rfl, hbw3⟩
      have hS3 := hS.step hbw3
      refine hK.out _ _ hS3 (fun _ => ?_)
      clear hK K
      try simp only [Act.put, List.setIfInBounds_toArray, List.set_cons_zero, List.set_cons_succ]
      have B3 := B2.kept hbw3
      clear hS B2 hbw3
      have hS := hS3
      clear hS3
      refine wpAnyH_take (i := 12) (oi := ⟨some 44, _, _, _, _, _⟩) (v := ?vc12) rfl (by kernel_rfl) (by kernel_rfl) (by kernel_rfl) (fun _ _ _ h => h) (Or.inl ⟨by rfl, ?yc12⟩) hS ?rc12
      case yc12 => intro W hW; go_simp; first | done | with_reducible rfl
      simp only [Act.put, List.setIfInBounds_toArray, List.set_cons_zero, List.set_cons_succ]
      refine wpAnyH_take (i := 13) (oi := ⟨some 57, _, _, _, _, _⟩) (v := ?vc13) rfl (by kernel_rfl) (by kernel_rfl) (by kernel_rfl) (fun _ _ _ h => h) (Or.inl ⟨by rfl, ?yc13⟩) hS ?rc13
      case yc13 => intro W hW; go_simp; first | done | with_reducible rfl
      simp only [Act.put, List.setIfInBounds_toArray, List.set_cons_zero, List.set_cons_succ]
      refine wpAnyH_take (i := 14) (oi := ⟨some 58, _, _, _, _, _⟩) (v := ?vc14) rfl (by kernel_rfl) (by kernel_rfl) (by kernel_rfl) (fun _ _ _ h => h) (Or.inl ⟨by rfl, ?yc14⟩) hS ?rc14
      case yc14 => intro W hW; go_simp; first | done | with_reducible rfl
      simp only [Act.put, List.setIfInBounds_toArray, List.set_cons_zero, List.set_cons_succ]
      refine wpAnyH_ready (rs := [16]) (by kernel_rfl) (by simp) ?_
      refine (AllReadyH.cons (o := ⟨none, _, _, _, _, _⟩) rfl (fun K hK => ?_) AllReadyH.nil)
      refine step_putAll _ rfl 24 (.tmp 12) (.tmp 57) rfl g2 24 _ (uC u.sch u.host u.port u.path u.q u.f) rfl rfl B3 rfl n24 (uC_one _ _ _ _ _ _) ?_
      intro w6 B6 U6
      have HH := hS.put hbf.1 hbf.2 U6 B6
      refine hK.out _ _ HH.tl (fun _ => ?_)
      clear hK K B3 B6 U6 hbf hS
      have hS := HH.tl
      simp only [Act.put]
      refine wpAnyH_take (i := 17) (oi := ⟨some 13, _, _, _, _, _⟩) (v := ?ve17) rfl (by kernel_rfl) (by kernel_rfl) (by kernel_rfl) (fun _ _ _ h => h) (Or.inl ⟨by rfl, ?ye17⟩) hS ?re17
      case ye17 => intro W hW; go_simp; first | done | with_reducible rfl
      simp only [Act.put, List.setIfInBounds_toArray, List.set_cons_zero, List.set_cons_succ]
      refine wpAnyH_done (by kernel_rfl) ?_ _
      have H2 := HH
      clear HH hS
      go_wp2_with (first
        | (go_at_call 26; (with_reducible refine (HF.out _).mono ?_); (rintro e w5 ⟨rfl, rfl⟩)))
      go_loopw [16, 15] (fun i v wr => ∃ k : Nat, k ≤ N ∧ i = .int .i64 (k : Int) ∧ v = .string (str (ups s CC k)) ∧ Hl w wr [(g2, uC u.sch u.host u.port u.path u.q u.f), (g1, uC u.sch u.host u.port u.path u.q u.f)]) (fun i _ _ => N - (intOf i).toNat)
      case atStart => exact ⟨0, by omega, rfl, by simp [ups, str], H2⟩
      case round =>
        obtain ⟨k, hk, rfl, rfl, H3⟩ := hrel
        clear H2
        have hL := hle.out k
        by_cases hlt : k < N
        · have hkS : (k : Int) < (N : Int) := by omega
          have HG := hgb.out k hlt
          have HLO := hlo.out k hlt
          have HHI := hhi.out k hlt
          obtain ⟨c, hc⟩ : ∃ c, c = s.getD k 0 := ⟨_, rfl⟩
          obtain ⟨b, hb⟩ : ∃ b, b = c.toNat := ⟨_, rfl⟩
          rw [← hc] at HG HLO HHI
          rw [← hb] at HG
          have hb9 : b < 256 := by rw [hb]; exact c.toNat_lt
          obtain ⟨A, hA⟩ : ∃ X, X = ups s CC k := ⟨_, rfl⟩
          obtain ⟨Y, hY⟩ : ∃ X, X = ups s CC (k + 1) := ⟨_, rfl⟩
          rw [← hA] at HLO HHI hL ⊢
          rw [← hY] at HLO HHI
          have sA : (str A).size ≤ 302 := by rw [str_size]; omega
          have HY := Lib.hid hY
          have HB := Lib.hid hb
          have hk1 : k + 1 ≤ N := hlt
          have key : ∀ d : UInt8, Y = A ++ [d] → Hid (str A ++ str [d] = str Y) := fun d e => by show _ = _; rw [e]; exact str_add _ _
          clear hc hb hA hY hL
          by_cases hC : k < CC
          · have hkC : (k : Int) < (CC : Int) := by omega
            have hcase : b < 97 ∨ (97 ≤ b ∧ b ≤ 122) ∨ 122 < b := by omega
            rcases hcase with hr | hr | hr
            · have c1 : decide ((97 : Int) ≤ (b : Int)) = false := by simp; omega
              have aY := (key c (by rw [HLO hC, upc_no c (by have := HB.out; omega)])).out
              have hrun := run_oneb wr b c HB.out
              have s1 : (str [c]).size = 1 := str_size _
              clear HLO HHI key hC hr
              go_wp2_with fail
              go_roundw
              case rel => exact ⟨k + 1, by omega, by go_num, by rw [HY.out], H3.allocC⟩
              case measure => simp [intOf]; omega
            · have c1 : decide ((97 : Int) ≤ (b : Int)) = true := by simp; omega
              have c2 : decide ((b : Int) ≤ 122) = true := by simp; omega
              have aY := (key (upc c) (HLO hC)).out
              have hup := upc_yes c (by have := HB.out; omega)
              rw [← HB.out] at hup
              obtain ⟨b2, hb2⟩ : ∃ b2, b2 = b - 32 := ⟨_, rfl⟩
              have hb3 : (b : Int) - 32 = (b2 : Int) := by omega
              have hb4 : IntKind.u8.wrap (b2 : Int) = (b2 : Int) := by rw [IntKind.wrap_u8]; omega
              have hrun := run_oneb wr b2 (upc c) (by rw [hb2, hup])
              have s1 : (str [upc c]).size = 1 := str_size _
              clear HLO HHI key hC hr hb2 hup
              generalize upc c = d at aY hrun s1
              go_wp2_with fail
              go_roundw
              case rel => exact ⟨k + 1, by omega, by go_num, by rw [HY.out], H3.allocC⟩
              case measure => simp [intOf]; omega
            · have c1 : decide ((97 : Int) ≤ (b : Int)) = true := by simp; omega
              have c2 : decide ((b : Int) ≤ 122) = false := by simp; omega
              have aY := (key c (by rw [HLO hC, upc_no c (by have := HB.out; omega)])).out
              have hrun := run_oneb wr b c HB.out
              have s1 : (str [c]).size = 1 := str_size _
              clear HLO HHI key hC hr
              go_wp2_with fail
              go_roundw
              case rel => exact ⟨k + 1, by omega, by go_num, by rw [HY.out], H3.allocC⟩
              case measure => simp [intOf]; omega
          · have hkC : ¬ (k : Int) < (CC : Int) := by omega
            have aY := (key c (HHI hC)).out
            have hrun := run_oneb wr b c HB.out
            have s1 : (str [c]).size = 1 := str_size _
            clear HLO HHI key hC
            go_wp2_with fail
            go_roundw
            case rel => exact ⟨k + 1, by omega, by go_num, by rw [HY.out], H3.allocC⟩
            case measure => simp [intOf]; omega
        · have hkS : ¬ (k : Int) < (N : Int) := by omega
          obtain rfl : k = N := by omega
          rw [hUp.out]
          clear hlt hL hk hUp
          go_wp2_with (first
            | (go_at_call 14; (with_reducible refine (HW.out _ H3.kp).mono ?_); (rintro e wa3 ⟨rfl, hb⟩; have G3 := H3.step hb; clear hb))
            | ((with_reducible show wpList _ _ _ (⟨some 18, .alloc _, _, _, _, _⟩ :: _) _ _); refine wp_new _ rfl 24 rfl _ z24 ?_; intro wb3 g3 B3 F3; simp only [Act.put, List.setIfInBounds_toArray, List.set_cons_zero, List.set_cons_succ])
            | ((with_reducible show wpList _ _ _ (⟨none, .store 24 (.tmp 18) (.tmp 91), _, _, _, _⟩ :: _) _ _); refine wp_putAll _ rfl 24 (.tmp 18) (.tmp 91) rfl g3 24 _ (uC v.sch v.host v.port v.path v.q v.f) rfl rfl B3 rfl n24 (uC_one _ _ _ _ _ _) ?_; intro wc3 B U; simp only [Act.put]; have H4 := G3.new F3 U B; clear B U F3 B3 G3)
            | ((with_reducible show wpList _ _ _ (⟨some 95, .load 24 (.tmp 8), _, _, _, _⟩ :: _) _ _); refine wp_getU _ (by rfl) (.tmp 8) rfl g1 u rfl (H4.at (x := (g1, uC u.sch u.host u.port u.path u.q u.f)) (by simp)) ?_; simp only [Act.put, List.setIfInBounds_toArray, List.set_cons_zero, List.set_cons_succ])
            | ((with_reducible show wpList _ _ _ (⟨some 96, .load 24 (.tmp 12), _, _, _, _⟩ :: _) _ _); refine wp_getU _ (by rfl) (.tmp 12) rfl g2 u rfl (H4.at (x := (g2, uC u.sch u.host u.port u.path u.q u.f)) (by simp)) ?_; simp only [Act.put, List.setIfInBounds_toArray, List.set_cons_zero, List.set_cons_succ])
            | ((with_reducible show wpList _ _ _ (⟨some 97, .binOp .eql 24 _ _ _, _, _, _, _⟩ :: _) _ _); refine wp_eqU _ (by rfl) (.tmp 95) (.tmp 96) rfl u u rfl rfl true ⟨fun _ => rfl, fun _ => rfl⟩ ?_; simp only [Act.put, List.setIfInBounds_toArray, List.set_cons_zero, List.set_cons_succ]))
          go_ret
          exact ⟨by simp, H4.kp⟩
set_option maxHeartbeats 8000000 in
set_option maxRecDepth 100000 in
theorem cl_2_col (u : U) (en : Int) (l s0 S1 s P D X1 X2 X3 X Up : List UInt8) (n1 n2 : Int) (m N N1 k y CC : Nat) (w : World) (hm : min (l.length : Int) 300 = (m : Int)) (hm2 : m ≤ l.length) (hts : (str l).extract 0 m = str s0) (hsl : (str l).size = l.length) (a1 : ⟨#[104]⟩ ++ str s0 = str S1) (a2 : str S1 ++ ⟨#[122]⟩ = str s) (q1 : ¬ (9223372036854775807 : Nat) < 1 + (str s0).size) (q2 : ¬ (9223372036854775807 : Nat) < (str S1).size + 1) (hN : N = s.length) (hN2 : N ≤ 302) (hN1 : (N : Int) + 1 = (N1 : Int)) (hN1w : IntKind.i64.wrap (N1 : Int) = (N1 : Int)) (hy : bits .and .i64 n1 65535 = (y : Int)) (hk' : Int.tmod (y : Int) (N1 : Int) = (k : Int)) (hkN : k ≤ N) (hz : bits .and .i64 n2 3 = 2) (HS : Hid (∀ w', Kept w w' → Calls Tryz.prog 13 #[] w' fun e w2 => e = .returned (.bool true) ∧ Below w'.heap.size w' w2)) (HU : Hid (∀ w', Kept w w' → Calls Tryz.prog 14 #[.string (str s)] w' fun e w2 => e = .returned (.tuple #[.agg (uC u.sch u.host u.port u.path u.q u.f).toArray, .int .i64 en]) ∧ Below w'.heap.size w' w2)) (HV : Hid (∀ w', Kept w w' → Calls Tryz.prog 14 #[.string (str X)] w' fun e w2 => e = .returned (.tuple #[.agg (uC u.sch u.host u.port u.path u.q u.f).toArray, .int .i64 en]) ∧ Below w'.heap.size w' w2)) (HW : Hid (∀ w', Kept w w' → Calls Tryz.prog 14 #[.string (str Up)] w' fun e w2 => e = .returned (.tuple #[.agg (uC u.sch u.host u.port u.path u.q u.f).toArray, .int .i64 en]) ∧ Below w'.heap.size w' w2)) (HF : Hid (∀ w', Calls Tryz.prog 26 #[.string (str s), .int .u8 58] w' fun e w2 => e = .returned (.int .i64 (CC : Int)) ∧ w2 = w')) (t1 : (str s).extract 0 k = str P) (t2 : (str s).extract k N = str D) (b1 : ⟨#[32, 0, 10]⟩ ++ str P = str X1) (b2 : str X1 ++ ⟨#[13]⟩ = str X2) (b3 : str X2 ++ str D = str X3) (b4 : str X3 ++ ⟨#[9, 32, 31]⟩ = str X) (r1 : ¬ (9223372036854775807 : Nat) < 3 + (str P).size) (r2 : ¬ (9223372036854775807 : Nat) < (str X1).size + 1) (r3 : ¬ (9223372036854775807 : Nat) < (str X2).size + (str D).size) (r4 : ¬ (9223372036854775807 : Nat) < (str X3).size + 3) (hUp : Hid (ups s CC N = Up)) (hcc : ((CC : Int) == (N : Int)) = false) : Calls Tryz.prog 6 #[.string (str l), .int .i64 n1, .int .i64 n2] w fun e w' => e = .returned (.bool true) ∧ Below w.heap.size w w' := by
    have hsz := str_size s
    have hgb : Hid (∀ k, k < N → ∀ h, ((str s)[k]'h).toNat = (s.getD k 0).toNat) := fun k hk h => str_at s k (by omega) h
    have hlo : Hid (∀ k, k < N → k < CC → ups s CC (k + 1) = ups s CC k ++ [upc (s.getD k 0)]) := fun k hk h => ups_lo s CC k (by omega) h _ rfl
    have hhi : Hid (∀ k, k < N → ¬ k < CC → ups s CC (k + 1) = ups s CC k ++ [s.getD k 0]) := fun k hk h => ups_hi s CC k (by omega) h _ rfl
    have hle : Hid (∀ k, (ups s CC k).length ≤ k) := fun k => ups_len s CC k
    rw [← hN] at hsz
    clear hN
    have hee : (en == en) = true := by simp
    go_enter Tryz.func6, Tryz.ntmps6
    go_wp2_with (first
      | (go_at_call 13; (with_reducible refine (HS.out _ (Hl.nil w).kp).mono ?_); (rintro e w1 ⟨rfl, hb⟩; have H0 := (Hl.nil w).step hb; clear hb))
      | (go_at_call 14; (with_reducible refine (HU.out _ H0.kp).mono ?_); (rintro e wa1 ⟨rfl, hb⟩; have G1 := H0.step hb; clear hb))
      | ((with_reducible show wpList _ _ _ (⟨some 8, .alloc _, _, _, _, _⟩ :: _) _ _); refine wp_new _ rfl 24 rfl _ z24 ?_; intro wb1 g1 B1 F1; simp only [Act.put, List.setIfInBounds_toArray, List.set_cons_zero, List.set_cons_succ])
      | ((with_reducible show wpList _ _ _ (⟨none, .store 24 (.tmp 8) (.tmp 31), _, _, _, _⟩ :: _) _ _); refine wp_putAll _ rfl 24 (.tmp 8) (.tmp 31) rfl g1 24 _ (uC u.sch u.host u.port u.path u.q u.f) rfl rfl B1 rfl n24 (uC_one _ _ _ _ _ _) ?_; intro wc1 B U; simp only [Act.put]; have H1 := G1.new F1 U B; clear B U F1 B1 G1))
    have H1a := H1.allocC (o := .cells #[.string ⟨#[9]⟩, .string ⟨#[10]⟩, .string ⟨#[13]⟩, .string ⟨#[13, 10, 9]⟩] 9)
    refine wp_region_held_drew (S := fun W => Hl w W [(g1, uC u.sch u.host u.port u.path u.q u.f)]) (by kernel_rfl) (H1a.step (Below.refl _ _).drew) (fun hS => ?_)
    clear H0 H1 H1a
    refine wpAnyH_take (i := 0) (oi := ⟨some 45, _, _, _, _, _⟩) (v := ?va0) rfl (by kernel_rfl) (by kernel_rfl) (by kernel_rfl) (fun _ _ _ h => h) (Or.inl ⟨by rfl, ?ya0⟩) hS ?ra0
    case ya0 => intro W hW; go_simp; first | done | with_reducible rfl
    simp only [Act.put, List.setIfInBounds_toArray, List.set_cons_zero, List.set_cons_succ]
    refine wpAnyH_take (i := 1) (oi := ⟨some 46, _, _, _, _, _⟩) (v := ?va1) rfl (by kernel_rfl) (by kernel_rfl) (by kernel_rfl) (fun _ _ _ h => h) (Or.inl ⟨by rfl, ?ya1⟩) hS ?ra1
    case ya1 => intro W hW; go_simp; first | done | with_reducible rfl
    simp only [Act.put, List.setIfInBounds_toArray, List.set_cons_zero, List.set_cons_succ]
    refine wpAnyH_take (i := 2) (oi := ⟨some 47, _, _, _, _, _⟩) (v := ?va2) rfl (by kernel_rfl) (by kernel_rfl) (by kernel_rfl) (fun _ _ _ h => h) (Or.inl ⟨by rfl, ?ya2⟩) hS ?ra2
    case ya2 => intro W hW; go_simp; first | done | with_reducible rfl
    simp only [Act.put, List.setIfInBounds_toArray, List.set_cons_zero, List.set_cons_succ]
    refine wpAnyH_take (i := 3) (oi := ⟨some 48, _, _, _, _, _⟩) (v := ?va3) rfl (by kernel_rfl) (by kernel_rfl) (by kernel_rfl) (fun _ _ _ h => h) (Or.inl ⟨by rfl, ?ya3⟩) hS ?ra3
    case ya3 => intro W hW; go_simp; first | done | with_reducible rfl
    simp only [Act.put, List.setIfInBounds_toArray, List.set_cons_zero, List.set_cons_succ]
    refine wpAnyH_take (i := 4) (oi := ⟨some 49, _, _, _, _, _⟩) (v := ?va4) rfl (by kernel_rfl) (by kernel_rfl) (by kernel_rfl) (fun _ _ _ h => h) (Or.inl ⟨by rfl, ?ya4⟩) hS ?ra4
    case ya4 => intro W hW; go_simp; first | done | with_reducible rfl
    simp only [Act.put, List.setIfInBounds_toArray, List.set_cons_zero, List.set_cons_succ]
    refine wpAnyH_take (i := 5) (oi := ⟨some 50, _, _, _, _, _⟩) (v := ?va5) rfl (by kernel_rfl) (by kernel_rfl) (by kernel_rfl) (fun _ _ _ h => h) (Or.inl ⟨by rfl, ?ya5⟩) hS ?ra5
    case ya5 => intro W hW; go_simp; first | done | with_reducible rfl
    simp only [Act.put, List.setIfInBounds_toArray, List.set_cons_zero, List.set_cons_succ]
    refine wpAnyH_take (i := 6) (oi := ⟨some 51, _, _, _, _, _⟩) (v := ?va6) rfl (by kernel_rfl) (by kernel_rfl) (by kernel_rfl) (fun _ _ _ h => h) (Or.inl ⟨by rfl, ?ya6⟩) hS ?ra6
    case ya6 => intro W hW; go_simp; first | done | with_reducible rfl
    simp only [Act.put, List.setIfInBounds_toArray, List.set_cons_zero, List.set_cons_succ]
    refine wpAnyH_take (i := 7) (oi := ⟨some 52, _, _, _, _, _⟩) (v := ?va7) rfl (by kernel_rfl) (by kernel_rfl) (by kernel_rfl) (fun _ _ _ h => h) (Or.inl ⟨by rfl, ?ya7⟩) hS ?ra7
    case ya7 => intro W hW; go_simp; first | done | with_reducible rfl
    simp only [Act.put, List.setIfInBounds_toArray, List.set_cons_zero, List.set_cons_succ]
    refine wpAnyH_take (i := 8) (oi := ⟨some 53, _, _, _, _, _⟩) (v := ?va8) rfl (by kernel_rfl) (by kernel_rfl) (by kernel_rfl) (fun _ _ _ h => h) (Or.inl ⟨by rfl, ?ya8⟩) hS ?ra8
    case ya8 => intro W hW; go_simp; first | done | with_reducible rfl
    simp only [Act.put, List.setIfInBounds_toArray, List.set_cons_zero, List.set_cons_succ]
    refine wpAnyH_take (i := 9) (oi := ⟨some 54, _, _, _, _, _⟩) (v := ?va9) rfl (by kernel_rfl) (by kernel_rfl) (by kernel_rfl) (fun _ _ _ h => h) (Or.inl ⟨by rfl, ?ya9⟩) hS ?ra9
    case ya9 => intro W hW; go_simp; first | done | with_reducible rfl
    simp only [Act.put, List.setIfInBounds_toArray, List.set_cons_zero, List.set_cons_succ]
    refine wpAnyH_take (i := 10) (oi := ⟨some 55, _, _, _, _, _⟩) (v := ?va10) rfl (by kernel_rfl) (by kernel_rfl) (by kernel_rfl) (fun _ _ _ h => h) (Or.inl ⟨by rfl, ?ya10⟩) hS ?ra10
    case ya10 => intro W hW; go_simp; first | done | with_reducible rfl
    simp only [Act.put, List.setIfInBounds_toArray, List.set_cons_zero, List.set_cons_succ]
    refine wpAnyH_ready (rs := [11, 15]) (by kernel_rfl) (by simp) ?_
    refine (AllReadyH.cons (o := ⟨some 56, _, _, _, _, _⟩) rfl (fun K hK => ?_) (AllReadyH.cons (o := ⟨some 12, _, _, _, _, _⟩) rfl (fun K hK => ?_) AllReadyH.nil))
    · try go_simp
      (with_reducible refine (HV.out _ hS.kp).mono ?_)
      rintro e w3 ⟨rfl, hbw3⟩
      have hS3 := hS.step hbw3
      refine hK.out _ _ hS3 (fun _ => ?_)
      clear hK K
      try simp only [Act.put, List.setIfInBounds_toArray, List.set_cons_zero, List.set_cons_succ]
      clear hS
      have hS := hS3
      clear hS3
      refine wpAnyH_take (i := 12) (oi := ⟨some 44, _, _, _, _, _⟩) (v := ?vb12) rfl (by kernel_rfl) (by kernel_rfl) (by kernel_rfl) (fun _ _ _ h => h) (Or.inl ⟨by rfl, ?yb12⟩) hS ?rb12
      case yb12 => intro W hW; go_simp; first | done | with_reducible rfl
      simp only [Act.put, List.setIfInBounds_toArray, List.set_cons_zero, List.set_cons_succ]
      refine wpAnyH_take (i := 13) (oi := ⟨some 57, _, _, _, _, _⟩) (v := ?vb13) rfl (by kernel_rfl) (by kernel_rfl) (by kernel_rfl) (fun _ _ _ h => h) (Or.inl ⟨by rfl, ?yb13⟩) hS ?rb13
      case yb13 => intro W hW; go_simp; first | done | with_reducible rfl
      simp only [Act.put, List.setIfInBounds_toArray, List.set_cons_zero, List.set_cons_succ]
      refine wpAnyH_take (i := 14) (oi := ⟨some 58, _, _, _, _, _⟩) (v := ?vb14) rfl (by kernel_rfl) (by kernel_rfl) (by kernel_rfl) (fun _ _ _ h => h) (Or.inl ⟨by rfl, ?yb14⟩) hS ?rb14
      case yb14 => intro W hW; go_simp; first | done | with_reducible rfl
      simp only [Act.put, List.setIfInBounds_toArray, List.set_cons_zero, List.set_cons_succ]
      refine wpAnyH_ready (rs := [15]) (by kernel_rfl) (by simp) ?_
      refine (AllReadyH.cons (o := ⟨some 12, _, _, _, _, _⟩) rfl (fun K hK => ?_) AllReadyH.nil)
      refine step_new8 _ rfl 24 rfl _ z24 ?_
      intro w4 g2 B2 F2
      have hS4 := hS.step F2.below
      refine hK.out _ _ hS4 (fun _ => ?_)
      clear hK K
      simp only [Act.put, List.setIfInBounds_toArray, List.set_cons_zero, List.set_cons_succ]
      refine wpAnyH_ready (rs := [16]) (by kernel_rfl) (by simp) ?_
      refine (AllReadyH.cons (o := ⟨none, _, _, _, _, _⟩) rfl (fun K hK => ?_) AllReadyH.nil)
      refine step_putAll _ rfl 24 (.tmp 12) (.tmp 57) rfl g2 24 _ (uC u.sch u.host u.port u.path u.q u.f) rfl rfl B2 rfl n24 (uC_one _ _ _ _ _ _) ?_
      intro w6 B6 U6
      have HH := hS.new F2 U6 B6
      refine hK.out _ _ HH.tl (fun _ => ?_)
      clear hK K hS4 B2 F2 B6 U6 hS
      have hS := HH.tl
      simp only [Act.put]
      refine wpAnyH_take (i := 17) (oi := ⟨some 13, _, _, _, _, _⟩) (v := ?vd17) rfl (by kernel_rfl) (by kernel_rfl) (by kernel_rfl) (fun _ _ _ h => h) (Or.inl ⟨by rfl, ?yd17⟩) hS ?rd17
      case yd17 => intro W hW; go_simp; first | done | with_reducible rfl
      simp only [Act.put, List.setIfInBounds_toArray, List.set_cons_zero, List.set_cons_succ]
      refine wpAnyH_done (by kernel_rfl) ?_ _
      have H2 := HH
      clear HH hS
      go_wp2_with (first
        | (go_at_call 26; (with_reducible refine (HF.out _).mono ?_); (rintro e w5 ⟨rfl, rfl⟩)))
      go_loopw [16, 15] (fun i v wr => ∃ k : Nat, k ≤ N ∧ i = .int .i64 (k : Int) ∧ v = .string (str (ups s CC k)) ∧ Hl w wr [(g2, uC u.sch u.host u.port u.path u.q u.f), (g1, uC u.sch u.host u.port u.path u.q u.f)]) (fun i _ _ => N - (intOf i).toNat)
      case atStart => exact ⟨0, by omega, rfl, by simp [ups, str], H2⟩
      case round =>
        obtain ⟨k, hk, rfl, rfl, H3⟩ := hrel
        clear H2
        have hL := hle.out k
        by_cases hlt : k < N
        · have hkS : (k : Int) < (N : Int) := by omega
          have HG := hgb.out k hlt
          have HLO := hlo.out k hlt
          have HHI := hhi.out k hlt
          obtain ⟨c, hc⟩ : ∃ c, c = s.getD k 0 := ⟨_, rfl⟩
          obtain ⟨b, hb⟩ : ∃ b, b = c.toNat := ⟨_, rfl⟩
          rw [← hc] at HG HLO HHI
          rw [← hb] at HG
          have hb9 : b < 256 := by rw [hb]; exact c.toNat_lt
          obtain ⟨A, hA⟩ : ∃ X, X = ups s CC k := ⟨_, rfl⟩
          obtain ⟨Y, hY⟩ : ∃ X, X = ups s CC (k + 1) := ⟨_, rfl⟩
          rw [← hA] at HLO HHI hL ⊢
          rw [← hY] at HLO HHI
          have sA : (str A).size ≤ 302 := by rw [str_size]; omega
          have HY := Lib.hid hY
          have HB := Lib.hid hb
          have hk1 : k + 1 ≤ N := hlt
          have key : ∀ d : UInt8, Y = A ++ [d] → Hid (str A ++ str [d] = str Y) := fun d e => by show _ = _; rw [e]; exact str_add _ _
          clear hc hb hA hY hL
          by_cases hC : k < CC
          · have hkC : (k : Int) < (CC : Int) := by omega
            have hcase : b < 97 ∨ (97 ≤ b ∧ b ≤ 122) ∨ 122 < b := by omega
            rcases hcase with hr | hr | hr
            · have c1 : decide ((97 : Int) ≤ (b : Int)) = false := by simp; omega
              have aY := (key c (by rw [HLO hC, upc_no c (by have := HB.out; omega)])).out
              have hrun := run_oneb wr b c HB.out
              have s1 : (str [c]).size = 1 := str_size _
              clear HLO HHI key hC hr
              go_wp2_with fail
              go_roundw
              case rel => exact ⟨k + 1, by omega, by go_num, by rw [HY.out], H3.allocC⟩
              case measure => simp [intOf]; omega
            · have c1 : decide ((97 : Int) ≤ (b : Int)) = true := by simp; omega
              have c2 : decide ((b : Int) ≤ 122) = true := by simp; omega
              have aY := (key (upc c) (HLO hC)).out
              have hup := upc_yes c (by have := HB.out; omega)
              rw [← HB.out] at hup
              obtain ⟨b2, hb2⟩ : ∃ b2, b2 = b - 32 := ⟨_, rfl⟩
              have hb3 : (b : Int) - 32 = (b2 : Int) := by omega
              have hb4 : IntKind.u8.wrap (b2 : Int) = (b2 : Int) := by rw [IntKind.wrap_u8]; omega
              have hrun := run_oneb wr b2 (upc c) (by rw [hb2, hup])
              have s1 : (str [upc c]).size = 1 := str_size _
              clear HLO HHI key hC hr hb2 hup
              generalize upc c = d at aY hrun s1
              go_wp2_with fail
              go_roundw
              case rel => exact ⟨k + 1, by omega, by go_num, by rw [HY.out], H3.allocC⟩
              case measure => simp [intOf]; omega
            · have c1 : decide ((97 : Int) ≤ (b : Int)) = true := by simp; omega
              have c2 : decide ((b : Int) ≤ 122) = false := by simp; omega
              have aY := (key c (by rw [HLO hC, upc_no c (by have := HB.out; omega)])).out
              have hrun := run_oneb wr b c HB.out
              have s1 : (str [c]).size = 1 := str_size _
              clear HLO HHI key hC hr
              go_wp2_with fail
              go_roundw
              case rel => exact ⟨k + 1, by omega, by go_num, by rw [HY.out], H3.allocC⟩
              case measure => simp [intOf]; omega
          · have hkC : ¬ (k : Int) < (CC : Int) := by omega
            have aY := (key c (HHI hC)).out
            have hrun := run_oneb wr b c HB.out
            have s1 : (str [c]).size = 1 := str_size _
            clear HLO HHI key hC
            go_wp2_with fail
            go_roundw
            case rel => exact ⟨k + 1, by omega, by go_num, by rw [HY.out], H3.allocC⟩
            case measure => simp [intOf]; omega
        · have hkS : ¬ (k : Int) < (N : Int) := by omega
          obtain rfl : k = N := by omega
          rw [hUp.out]
          clear hlt hL hk hUp
          go_wp2_with (first
            | (go_at_call 14; (with_reducible refine (HW.out _ H3.kp).mono ?_); (rintro e wa3 ⟨rfl, hb⟩; have G3 := H3.step hb; clear hb))
            | ((with_reducible show wpList _ _ _ (⟨some 18, .alloc _, _, _, _, _⟩ :: _) _ _); refine wp_new _ rfl 24 rfl _ z24 ?_; intro wb3 g3 B3 F3; simp only [Act.put, List.setIfInBounds_toArray, List.set_cons_zero, List.set_cons_succ])
            | ((with_reducible show wpList _ _ _ (⟨none, .store 24 (.tmp 18) (.tmp 91), _, _, _, _⟩ :: _) _ _); refine wp_putAll _ rfl 24 (.tmp 18) (.tmp 91) rfl g3 24 _ (uC u.sch u.host u.port u.path u.q u.f) rfl rfl B3 rfl n24 (uC_one _ _ _ _ _ _) ?_; intro wc3 B U; simp only [Act.put]; have H4 := G3.new F3 U B; clear B U F3 B3 G3)
            | ((with_reducible show wpList _ _ _ (⟨some 95, .load 24 (.tmp 8), _, _, _, _⟩ :: _) _ _); refine wp_getU _ (by rfl) (.tmp 8) rfl g1 u rfl (H4.at (x := (g1, uC u.sch u.host u.port u.path u.q u.f)) (by simp)) ?_; simp only [Act.put, List.setIfInBounds_toArray, List.set_cons_zero, List.set_cons_succ])
            | ((with_reducible show wpList _ _ _ (⟨some 96, .load 24 (.tmp 12), _, _, _, _⟩ :: _) _ _); refine wp_getU _ (by rfl) (.tmp 12) rfl g2 u rfl (H4.at (x := (g2, uC u.sch u.host u.port u.path u.q u.f)) (by simp)) ?_; simp only [Act.put, List.setIfInBounds_toArray, List.set_cons_zero, List.set_cons_succ])
            | ((with_reducible show wpList _ _ _ (⟨some 97, .binOp .eql 24 _ _ _, _, _, _, _⟩ :: _) _ _); refine wp_eqU _ (by rfl) (.tmp 95) (.tmp 96) rfl u u rfl rfl true ⟨fun _ => rfl, fun _ => rfl⟩ ?_; simp only [Act.put, List.setIfInBounds_toArray, List.set_cons_zero, List.set_cons_succ])
            | ((with_reducible show wpList _ _ _ (⟨some 110, .load 24 (.tmp 8), _, _, _, _⟩ :: _) _ _); refine wp_getU _ (by rfl) (.tmp 8) rfl g1 u rfl (H4.at (x := (g1, uC u.sch u.host u.port u.path u.q u.f)) (by simp)) ?_; simp only [Act.put, List.setIfInBounds_toArray, List.set_cons_zero, List.set_cons_succ])
            | ((with_reducible show wpList _ _ _ (⟨some 111, .load 24 (.tmp 18), _, _, _, _⟩ :: _) _ _); refine wp_getU _ (by rfl) (.tmp 18) rfl g3 u rfl (H4.at (x := (g3, uC u.sch u.host u.port u.path u.q u.f)) (by simp)) ?_; simp only [Act.put, List.setIfInBounds_toArray, List.set_cons_zero, List.set_cons_succ])
            | ((with_reducible show wpList _ _ _ (⟨some 112, .binOp .eql 24 _ _ _, _, _, _, _⟩ :: _) _ _); refine wp_eqU _ (by rfl) (.tmp 110) (.tmp 111) rfl u u rfl rfl true ⟨fun _ => rfl, fun _ => rfl⟩ ?_; simp only [Act.put, List.setIfInBounds_toArray, List.set_cons_zero, List.set_cons_succ]))
          go_ret
          exact ⟨by simp, H4.kp⟩
    · refine step_new8 _ rfl 24 rfl _ z24 ?_
      intro w4 g2 B2 F2
      have hbf := hS.before F2
      have hS4 := hS.step F2.below
      refine hK.out _ _ hS4 (fun _ => ?_)
      clear hK K hS
      have hS := hS4
      clear hS4 F2
      simp only [Act.put, List.setIfInBounds_toArray, List.set_cons_zero, List.set_cons_succ]
      refine wpAnyH_ready (rs := [11]) (by kernel_rfl) (by simp) ?_
      refine (AllReadyH.cons (o := ⟨some 56, _, _, _, _, _⟩) rfl (fun K hK => ?_) AllReadyH.nil)
      try go_simp
      (with_reducible refine (HV.out _ hS.kp).mono ?_)
      rintro e w3 ⟨rfl, hbw3⟩
      have hS3 := hS.step hbw3
      refine hK.out _ _ hS3 (fun _ => ?_)
      clear hK K
      try simp only [Act.put, List.setIfInBounds_toArray, List.set_cons_zero, List.set_cons_succ]
      have B3 := B2.kept hbw3
      clear hS B2 hbw3
      have hS := hS3
      clear hS3
      refine wpAnyH_take (i := 12) (oi := ⟨some 44, _, _, _, _, _⟩) (v := ?vc12) rfl (by kernel_rfl) (by kernel_rfl) (by kernel_rfl) (fun _ _ _ h => h) (Or.inl ⟨by rfl, ?yc12⟩) hS ?rc12
      case yc12 => intro W hW; go_simp; first | done | with_reducible rfl
      simp only [Act.put, List.setIfInBounds_toArray, List.set_cons_zero, List.set_cons_succ]
      refine wpAnyH_take (i := 13) (oi := ⟨some 57, _, _, _, _, _⟩) (v := ?vc13) rfl (by kernel_rfl) (by kernel_rfl) (by kernel_rfl) (fun _ _ _ h => h) (Or.inl ⟨by rfl, ?yc13⟩) hS ?rc13
      case yc13 => intro W hW; go_simp; first | done | with_reducible rfl
      simp only [Act.put, List.setIfInBounds_toArray, List.set_cons_zero, List.set_cons_succ]
      refine wpAnyH_take (i := 14) (oi := ⟨some 58, _, _, _, _, _⟩) (v := ?vc14) rfl (by kernel_rfl) (by kernel_rfl) (by kernel_rfl) (fun _ _ _ h => h) (Or.inl ⟨by rfl, ?yc14⟩) hS ?rc14
      case yc14 => intro W hW; go_simp; first | done | with_reducible rfl
      simp only [Act.put, List.setIfInBounds_toArray, List.set_cons_zero, List.set_cons_succ]
      refine wpAnyH_ready (rs := [16]) (by kernel_rfl) (by simp) ?_
      refine (AllReadyH.cons (o := ⟨none, _, _, _, _, _⟩) rfl (fun K hK => ?_) AllReadyH.nil)
      refine step_putAll _ rfl 24 (.tmp 12) (.tmp 57) rfl g2 24 _ (uC u.sch u.host u.port u.path u.q u.f) rfl rfl B3 rfl n24 (uC_one _ _ _ _ _ _) ?_
      intro w6 B6 U6
      have HH := hS.put hbf.1 hbf.2 U6 B6
      refine hK.out _ _ HH.tl (fun _ => ?_)
      clear hK K B3 B6 U6 hbf hS
      have hS := HH.tl
      simp only [Act.put]
      refine wpAnyH_take (i := 17) (oi := ⟨some 13, _, _, _, _, _⟩) (v := ?ve17) rfl (by kernel_rfl) (by kernel_rfl) (by kernel_rfl) (fun _ _ _ h => h) (Or.inl ⟨by rfl, ?ye17⟩) hS ?re17
      case ye17 => intro W hW; go_simp; first | done | with_reducible rfl
      simp only [Act.put, List.setIfInBounds_toArray, List.set_cons_zero, List.set_cons_succ]
      refine wpAnyH_done (by kernel_rfl) ?_ _
      have H2 := HH
      clear HH hS
      go_wp2_with (first
        | (go_at_call 26; (with_reducible refine (HF.out _).mono ?_); (rintro e w5 ⟨rfl, rfl⟩)))
      go_loopw [16, 15] (fun i v wr => ∃ k : Nat, k ≤ N ∧ i = .int .i64 (k : Int) ∧ v = .string (str (ups s CC k)) ∧ Hl w wr [(g2, uC u.sch u.host u.port u.path u.q u.f), (g1, uC u.sch u.host u.port u.path u.q u.f)]) (fun i _ _ => N - (intOf i).toNat)
      case atStart => exact ⟨0, by omega, rfl, by simp [ups, str], H2⟩
      case round =>
        obtain ⟨k, hk, rfl, rfl, H3⟩ := hrel
        clear H2
        have hL := hle.out k
        by_cases hlt : k < N
        · have hkS : (k : Int) < (N : Int) := by omega
          have HG := hgb.out k hlt
          have HLO := hlo.out k hlt
          have HHI := hhi.out k hlt
          obtain ⟨c, hc⟩ : ∃ c, c = s.getD k 0 := ⟨_, rfl⟩
          obtain ⟨b, hb⟩ : ∃ b, b = c.toNat := ⟨_, rfl⟩
          rw [← hc] at HG HLO HHI
          rw [← hb] at HG
          have hb9 : b < 256 := by rw [hb]; exact c.toNat_lt
          obtain ⟨A, hA⟩ : ∃ X, X = ups s CC k := ⟨_, rfl⟩
          obtain ⟨Y, hY⟩ : ∃ X, X = ups s CC (k + 1) := ⟨_, rfl⟩
          rw [← hA] at HLO HHI hL ⊢
          rw [← hY] at HLO HHI
          have sA : (str A).size ≤ 302 := by rw [str_size]; omega
          have HY := Lib.hid hY
          have HB := Lib.hid hb
          have hk1 : k + 1 ≤ N := hlt
          have key : ∀ d : UInt8, Y = A ++ [d] → Hid (str A ++ str [d] = str Y) := fun d e => by show _ = _; rw [e]; exact str_add _ _
          clear hc hb hA hY hL
          by_cases hC : k < CC
          · have hkC : (k : Int) < (CC : Int) := by omega
            have hcase : b < 97 ∨ (97 ≤ b ∧ b ≤ 122) ∨ 122 < b := by omega
            rcases hcase with hr | hr | hr
            · have c1 : decide ((97 : Int) ≤ (b : Int)) = false := by simp; omega
              have aY := (key c (by rw [HLO hC, upc_no c (by have := HB.out; omega)])).out
              have hrun := run_oneb wr b c HB.out
              have s1 : (str [c]).size = 1 := str_size _
              clear HLO HHI key hC hr
              go_wp2_with fail
              go_roundw
              case rel => exact ⟨k + 1, by omega, by go_num, by rw [HY.out], H3.allocC⟩
              case measure => simp [intOf]; omega
            · have c1 : decide ((97 : Int) ≤ (b : Int)) = true := by simp; omega
              have c2 : decide ((b : Int) ≤ 122) = true := by simp; omega
              have aY := (key (upc c) (HLO hC)).out
              have hup := upc_yes c (by have := HB.out; omega)
              rw [← HB.out] at hup
              obtain ⟨b2, hb2⟩ : ∃ b2, b2 = b - 32 := ⟨_, rfl⟩
              have hb3 : (b : Int) - 32 = (b2 : Int) := by omega
              have hb4 : IntKind.u8.wrap (b2 : Int) = (b2 : Int) := by rw [IntKind.wrap_u8]; omega
              have hrun := run_oneb wr b2 (upc c) (by rw [hb2, hup])
              have s1 : (str [upc c]).size = 1 := str_size _
              clear HLO HHI key hC hr hb2 hup
              generalize upc c = d at aY hrun s1
              go_wp2_with fail
              go_roundw
              case rel => exact ⟨k + 1, by omega, by go_num, by rw [HY.out], H3.allocC⟩
              case measure => simp [intOf]; omega
            · have c1 : decide ((97 : Int) ≤ (b : Int)) = true := by simp; omega
              have c2 : decide ((b : Int) ≤ 122) = false := by simp; omega
              have aY := (key c (by rw [HLO hC, upc_no c (by have := HB.out; omega)])).out
              have hrun := run_oneb wr b c HB.out
              have s1 : (str [c]).size = 1 := str_size _
              clear HLO HHI key hC hr
              go_wp2_with fail
              go_roundw
              case rel => exact ⟨k + 1, by omega, by go_num, by rw [HY.out], H3.allocC⟩
              case measure => simp [intOf]; omega
          · have hkC : ¬ (k : Int) < (CC : Int) := by omega
            have aY := (key c (HHI hC)).out
            have hrun := run_oneb wr b c HB.out
            have s1 : (str [c]).size = 1 := str_size _
            clear HLO HHI key hC
            go_wp2_with fail
            go_roundw
            case rel => exact ⟨k + 1, by omega, by go_num, by rw [HY.out], H3.allocC⟩
            case measure => simp [intOf]; omega
        · have hkS : ¬ (k : Int) < (N : Int) := by omega
          obtain rfl : k = N := by omega
          rw [hUp.out]
          clear hlt hL hk hUp
          go_wp2_with (first
            | (go_at_call 14; (with_reducible refine (HW.out _ H3.kp).mono ?_); (rintro e wa3 ⟨rfl, hb⟩; have G3 := H3.step hb; clear hb))
            | ((with_reducible show wpList _ _ _ (⟨some 18, .alloc _, _, _, _, _⟩ :: _) _ _); refine wp_new _ rfl 24 rfl _ z24 ?_; intro wb3 g3 B3 F3; simp only [Act.put, List.setIfInBounds_toArray, List.set_cons_zero, List.set_cons_succ])
            | ((with_reducible show wpList _ _ _ (⟨none, .store 24 (.tmp 18) (.tmp 91), _, _, _, _⟩ :: _) _ _); refine wp_putAll _ rfl 24 (.tmp 18) (.tmp 91) rfl g3 24 _ (uC u.sch u.host u.port u.path u.q u.f) rfl rfl B3 rfl n24 (uC_one _ _ _ _ _ _) ?_; intro wc3 B U; simp only [Act.put]; have H4 := G3.new F3 U B; clear B U F3 B3 G3)
            | ((with_reducible show wpList _ _ _ (⟨some 95, .load 24 (.tmp 8), _, _, _, _⟩ :: _) _ _); refine wp_getU _ (by rfl) (.tmp 8) rfl g1 u rfl (H4.at (x := (g1, uC u.sch u.host u.port u.path u.q u.f)) (by simp)) ?_; simp only [Act.put, List.setIfInBounds_toArray, List.set_cons_zero, List.set_cons_succ])
            | ((with_reducible show wpList _ _ _ (⟨some 96, .load 24 (.tmp 12), _, _, _, _⟩ :: _) _ _); refine wp_getU _ (by rfl) (.tmp 12) rfl g2 u rfl (H4.at (x := (g2, uC u.sch u.host u.port u.path u.q u.f)) (by simp)) ?_; simp only [Act.put, List.setIfInBounds_toArray, List.set_cons_zero, List.set_cons_succ])
            | ((with_reducible show wpList _ _ _ (⟨some 97, .binOp .eql 24 _ _ _, _, _, _, _⟩ :: _) _ _); refine wp_eqU _ (by rfl) (.tmp 95) (.tmp 96) rfl u u rfl rfl true ⟨fun _ => rfl, fun _ => rfl⟩ ?_; simp only [Act.put, List.setIfInBounds_toArray, List.set_cons_zero, List.set_cons_succ])
            | ((with_reducible show wpList _ _ _ (⟨some 110, .load 24 (.tmp 8), _, _, _, _⟩ :: _) _ _); refine wp_getU _ (by rfl) (.tmp 8) rfl g1 u rfl (H4.at (x := (g1, uC u.sch u.host u.port u.path u.q u.f)) (by simp)) ?_; simp only [Act.put, List.setIfInBounds_toArray, List.set_cons_zero, List.set_cons_succ])
            | ((with_reducible show wpList _ _ _ (⟨some 111, .load 24 (.tmp 18), _, _, _, _⟩ :: _) _ _); refine wp_getU _ (by rfl) (.tmp 18) rfl g3 u rfl (H4.at (x := (g3, uC u.sch u.host u.port u.path u.q u.f)) (by simp)) ?_; simp only [Act.put, List.setIfInBounds_toArray, List.set_cons_zero, List.set_cons_succ])
            | ((with_reducible show wpList _ _ _ (⟨some 112, .binOp .eql 24 _ _ _, _, _, _, _⟩ :: _) _ _); refine wp_eqU _ (by rfl) (.tmp 110) (.tmp 111) rfl u u rfl rfl true ⟨fun _ => rfl, fun _ => rfl⟩ ?_; simp only [Act.put, List.setIfInBounds_toArray, List.set_cons_zero, List.set_cons_succ]))
          go_ret
          exact ⟨by simp, H4.kp⟩
set_option maxHeartbeats 8000000 in
set_option maxRecDepth 100000 in
theorem cl_2_no (u v : U) (en em : Int) (l s0 S1 s P D X1 X2 X3 X Up : List UInt8) (n1 n2 : Int) (m N N1 k y CC : Nat) (w : World) (hm : min (l.length : Int) 300 = (m : Int)) (hm2 : m ≤ l.length) (hts : (str l).extract 0 m = str s0) (hsl : (str l).size = l.length) (a1 : ⟨#[104]⟩ ++ str s0 = str S1) (a2 : str S1 ++ ⟨#[122]⟩ = str s) (q1 : ¬ (9223372036854775807 : Nat) < 1 + (str s0).size) (q2 : ¬ (9223372036854775807 : Nat) < (str S1).size + 1) (hN : N = s.length) (hN2 : N ≤ 302) (hN1 : (N : Int) + 1 = (N1 : Int)) (hN1w : IntKind.i64.wrap (N1 : Int) = (N1 : Int)) (hy : bits .and .i64 n1 65535 = (y : Int)) (hk' : Int.tmod (y : Int) (N1 : Int) = (k : Int)) (hkN : k ≤ N) (hz : bits .and .i64 n2 3 = 2) (HS : Hid (∀ w', Kept w w' → Calls Tryz.prog 13 #[] w' fun e w2 => e = .returned (.bool true) ∧ Below w'.heap.size w' w2)) (HU : Hid (∀ w', Kept w w' → Calls Tryz.prog 14 #[.string (str s)] w' fun e w2 => e = .returned (.tuple #[.agg (uC u.sch u.host u.port u.path u.q u.f).toArray, .int .i64 en]) ∧ Below w'.heap.size w' w2)) (HV : Hid (∀ w', Kept w w' → Calls Tryz.prog 14 #[.string (str X)] w' fun e w2 => e = .returned (.tuple #[.agg (uC u.sch u.host u.port u.path u.q u.f).toArray, .int .i64 en]) ∧ Below w'.heap.size w' w2)) (HW : Hid (∀ w', Kept w w' → Calls Tryz.prog 14 #[.string (str Up)] w' fun e w2 => e = .returned (.tuple #[.agg (uC v.sch v.host v.port v.path v.q v.f).toArray, .int .i64 em]) ∧ Below w'.heap.size w' w2)) (HF : Hid (∀ w', Calls Tryz.prog 26 #[.string (str s), .int .u8 58] w' fun e w2 => e = .returned (.int .i64 (CC : Int)) ∧ w2 = w')) (t1 : (str s).extract 0 k = str P) (t2 : (str s).extract k N = str D) (b1 : ⟨#[32, 0, 10]⟩ ++ str P = str X1) (b2 : str X1 ++ ⟨#[13]⟩ = str X2) (b3 : str X2 ++ str D = str X3) (b4 : str X3 ++ ⟨#[9, 32, 31]⟩ = str X) (r1 : ¬ (9223372036854775807 : Nat) < 3 + (str P).size) (r2 : ¬ (9223372036854775807 : Nat) < (str X1).size + 1) (r3 : ¬ (9223372036854775807 : Nat) < (str X2).size + (str D).size) (r4 : ¬ (9223372036854775807 : Nat) < (str X3).size + 3) (hUp : Hid (ups s CC N = Up)) (hcc : ((CC : Int) == (N : Int)) = true) : Calls Tryz.prog 6 #[.string (str l), .int .i64 n1, .int .i64 n2] w fun e w' => e = .returned (.bool true) ∧ Below w.heap.size w w' := by
    have hsz := str_size s
    have hgb : Hid (∀ k, k < N → ∀ h, ((str s)[k]'h).toNat = (s.getD k 0).toNat) := fun k hk h => str_at s k (by omega) h
    have hlo : Hid (∀ k, k < N → k < CC → ups s CC (k + 1) = ups s CC k ++ [upc (s.getD k 0)]) := fun k hk h => ups_lo s CC k (by omega) h _ rfl
    have hhi : Hid (∀ k, k < N → ¬ k < CC → ups s CC (k + 1) = ups s CC k ++ [s.getD k 0]) := fun k hk h => ups_hi s CC k (by omega) h _ rfl
    have hle : Hid (∀ k, (ups s CC k).length ≤ k) := fun k => ups_len s CC k
    rw [← hN] at hsz
    clear hN
    have hee : (en == en) = true := by simp
    go_enter Tryz.func6, Tryz.ntmps6
    go_wp2_with (first
      | (go_at_call 13; (with_reducible refine (HS.out _ (Hl.nil w).kp).mono ?_); (rintro e w1 ⟨rfl, hb⟩; have H0 := (Hl.nil w).step hb; clear hb))
      | (go_at_call 14; (with_reducible refine (HU.out _ H0.kp).mono ?_); (rintro e wa1 ⟨rfl, hb⟩; have G1 := H0.step hb; clear hb))
      | ((with_reducible show wpList _ _ _ (⟨some 8, .alloc _, _, _, _, _⟩ :: _) _ _); refine wp_new _ rfl 24 rfl _ z24 ?_; intro wb1 g1 B1 F1; simp only [Act.put, List.setIfInBounds_toArray, List.set_cons_zero, List.set_cons_succ])
      | ((with_reducible show wpList _ _ _ (⟨none, .store 24 (.tmp 8) (.tmp 31), _, _, _, _⟩ :: _) _ _); refine wp_putAll _ rfl 24 (.tmp 8) (.tmp 31) rfl g1 24 _ (uC u.sch u.host u.port u.path u.q u.f) rfl rfl B1 rfl n24 (uC_one _ _ _ _ _ _) ?_; intro wc1 B U; simp only [Act.put]; have H1 := G1.new F1 U B; clear B U F1 B1 G1))
    have H1a := H1.allocC (o := .cells #[.string ⟨#[9]⟩, .string ⟨#[10]⟩, .string ⟨#[13]⟩, .string ⟨#[13, 10, 9]⟩] 9)
    refine wp_region_held_drew (S := fun W => Hl w W [(g1, uC u.sch u.host u.port u.path u.q u.f)]) (by kernel_rfl) (H1a.step (Below.refl _ _).drew) (fun hS => ?_)
    clear H0 H1 H1a
    refine wpAnyH_take (i := 0) (oi := ⟨some 45, _, _, _, _, _⟩) (v := ?va0) rfl (by kernel_rfl) (by kernel_rfl) (by kernel_rfl) (fun _ _ _ h => h) (Or.inl ⟨by rfl, ?ya0⟩) hS ?ra0
    case ya0 => intro W hW; go_simp; first | done | with_reducible rfl
    simp only [Act.put, List.setIfInBounds_toArray, List.set_cons_zero, List.set_cons_succ]
    refine wpAnyH_take (i := 1) (oi := ⟨some 46, _, _, _, _, _⟩) (v := ?va1) rfl (by kernel_rfl) (by kernel_rfl) (by kernel_rfl) (fun _ _ _ h => h) (Or.inl ⟨by rfl, ?ya1⟩) hS ?ra1
    case ya1 => intro W hW; go_simp; first | done | with_reducible rfl
    simp only [Act.put, List.setIfInBounds_toArray, List.set_cons_zero, List.set_cons_succ]
    refine wpAnyH_take (i := 2) (oi := ⟨some 47, _, _, _, _, _⟩) (v := ?va2) rfl (by kernel_rfl) (by kernel_rfl) (by kernel_rfl) (fun _ _ _ h => h) (Or.inl ⟨by rfl, ?ya2⟩) hS ?ra2
    case ya2 => intro W hW; go_simp; first | done | with_reducible rfl
    simp only [Act.put, List.setIfInBounds_toArray, List.set_cons_zero, List.set_cons_succ]
    refine wpAnyH_take (i := 3) (oi := ⟨some 48, _, _, _, _, _⟩) (v := ?va3) rfl (by kernel_rfl) (by kernel_rfl) (by kernel_rfl) (fun _ _ _ h => h) (Or.inl ⟨by rfl, ?ya3⟩) hS ?ra3
    case ya3 => intro W hW; go_simp; first | done | with_reducible rfl
    simp only [Act.put, List.setIfInBounds_toArray, List.set_cons_zero, List.set_cons_succ]
    refine wpAnyH_take (i := 4) (oi := ⟨some 49, _, _, _, _, _⟩) (v := ?va4) rfl (by kernel_rfl) (by kernel_rfl) (by kernel_rfl) (fun _ _ _ h => h) (Or.inl ⟨by rfl, ?ya4⟩) hS ?ra4
    case ya4 => intro W hW; go_simp; first | done | with_reducible rfl
    simp only [Act.put, List.setIfInBounds_toArray, List.set_cons_zero, List.set_cons_succ]
    refine wpAnyH_take (i := 5) (oi := ⟨some 50, _, _, _, _, _⟩) (v := ?va5) rfl (by kernel_rfl) (by kernel_rfl) (by kernel_rfl) (fun _ _ _ h => h) (Or.inl ⟨by rfl, ?ya5⟩) hS ?ra5
    case ya5 => intro W hW; go_simp; first | done | with_reducible rfl
    simp only [Act.put, List.setIfInBounds_toArray, List.set_cons_zero, List.set_cons_succ]
    refine wpAnyH_take (i := 6) (oi := ⟨some 51, _, _, _, _, _⟩) (v := ?va6) rfl (by kernel_rfl) (by kernel_rfl) (by kernel_rfl) (fun _ _ _ h => h) (Or.inl ⟨by rfl, ?ya6⟩) hS ?ra6
    case ya6 => intro W hW; go_simp; first | done | with_reducible rfl
    simp only [Act.put, List.setIfInBounds_toArray, List.set_cons_zero, List.set_cons_succ]
    refine wpAnyH_take (i := 7) (oi := ⟨some 52, _, _, _, _, _⟩) (v := ?va7) rfl (by kernel_rfl) (by kernel_rfl) (by kernel_rfl) (fun _ _ _ h => h) (Or.inl ⟨by rfl, ?ya7⟩) hS ?ra7
    case ya7 => intro W hW; go_simp; first | done | with_reducible rfl
    simp only [Act.put, List.setIfInBounds_toArray, List.set_cons_zero, List.set_cons_succ]
    refine wpAnyH_take (i := 8) (oi := ⟨some 53, _, _, _, _, _⟩) (v := ?va8) rfl (by kernel_rfl) (by kernel_rfl) (by kernel_rfl) (fun _ _ _ h => h) (Or.inl ⟨by rfl, ?ya8⟩) hS ?ra8
    case ya8 => intro W hW; go_simp; first | done | with_reducible rfl
    simp only [Act.put, List.setIfInBounds_toArray, List.set_cons_zero, List.set_cons_succ]
    refine wpAnyH_take (i := 9) (oi := ⟨some 54, _, _, _, _, _⟩) (v := ?va9) rfl (by kernel_rfl) (by kernel_rfl) (by kernel_rfl) (fun _ _ _ h => h) (Or.inl ⟨by rfl, ?ya9⟩) hS ?ra9
    case ya9 => intro W hW; go_simp; first | done | with_reducible rfl
    simp only [Act.put, List.setIfInBounds_toArray, List.set_cons_zero, List.set_cons_succ]
    refine wpAnyH_take (i := 10) (oi := ⟨some 55, _, _, _, _, _⟩) (v := ?va10) rfl (by kernel_rfl) (by kernel_rfl) (by kernel_rfl) (fun _ _ _ h => h) (Or.inl ⟨by rfl, ?ya10⟩) hS ?ra10
    case ya10 => intro W hW; go_simp; first | done | with_reducible rfl
    simp only [Act.put, List.setIfInBounds_toArray, List.set_cons_zero, List.set_cons_succ]
    refine wpAnyH_ready (rs := [11, 15]) (by kernel_rfl) (by simp) ?_
    refine (AllReadyH.cons (o := ⟨some 56, _, _, _, _, _⟩) rfl (fun K hK => ?_) (AllReadyH.cons (o := ⟨some 12, _, _, _, _, _⟩) rfl (fun K hK => ?_) AllReadyH.nil))
    · try go_simp
      (with_reducible refine (HV.out _ hS.kp).mono ?_)
      rintro e w3 ⟨rfl, hbw3⟩
      have hS3 := hS.step hbw3
      refine hK.out _ _ hS3 (fun _ => ?_)
      clear hK K
      try simp only [Act.put, List.setIfInBounds_toArray, List.set_cons_zero, List.set_cons_succ]
      clear hS
      have hS := hS3
      clear hS3
      refine wpAnyH_take (i := 12) (oi := ⟨some 44, _, _, _, _, _⟩) (v := ?vb12) rfl (by kernel_rfl) (by kernel_rfl) (by kernel_rfl) (fun _ _ _ h => h) (Or.inl ⟨by rfl, ?yb12⟩) hS ?rb12
      case yb12 => intro W hW; go_simp; first | done | with_reducible rfl
      simp only [Act.put, List.setIfInBounds_toArray, List.set_cons_zero, List.set_cons_succ]
      refine wpAnyH_take (i := 13) (oi := ⟨some 57, _, _, _, _, _⟩) (v := ?vb13) rfl (by kernel_rfl) (by kernel_rfl) (by kernel_rfl) (fun _ _ _ h => h) (Or.inl ⟨by rfl, ?yb13⟩) hS ?rb13
      case yb13 => intro W hW; go_simp; first | done | with_reducible rfl
      simp only [Act.put, List.setIfInBounds_toArray, List.set_cons_zero, List.set_cons_succ]
      refine wpAnyH_take (i := 14) (oi := ⟨some 58, _, _, _, _, _⟩) (v := ?vb14) rfl (by kernel_rfl) (by kernel_rfl) (by kernel_rfl) (fun _ _ _ h => h) (Or.inl ⟨by rfl, ?yb14⟩) hS ?rb14
      case yb14 => intro W hW; go_simp; first | done | with_reducible rfl
      simp only [Act.put, List.setIfInBounds_toArray, List.set_cons_zero, List.set_cons_succ]
      refine wpAnyH_ready (rs := [15]) (by kernel_rfl) (by simp) ?_
      refine (AllReadyH.cons (o := ⟨some 12, _, _, _, _, _⟩) rfl (fun K hK => ?_) AllReadyH.nil)
      refine step_new8 _ rfl 24 rfl _ z24 ?_
      intro w4 g2 B2 F2
      have hS4 := hS.step F2.below
      refine hK.out _ _ hS4 (fun _ => ?_)
      clear hK K
      simp only [Act.put, List.setIfInBounds_toArray, List.set_cons_zero, List.set_cons_succ]
      refine wpAnyH_ready (rs := [16]) (by kernel_rfl) (by simp) ?_
      refine (AllReadyH.cons (o := ⟨none, _, _, _, _, _⟩) rfl (fun K hK => ?_) AllReadyH.nil)
      refine step_putAll _ rfl 24 (.tmp 12) (.tmp 57) rfl g2 24 _ (uC u.sch u.host u.port u.path u.q u.f) rfl rfl B2 rfl n24 (uC_one _ _ _ _ _ _) ?_
      intro w6 B6 U6
      have HH := hS.new F2 U6 B6
      refine hK.out _ _ HH.tl (fun _ => ?_)
      clear hK K hS4 B2 F2 B6 U6 hS
      have hS := HH.tl
      simp only [Act.put]
      refine wpAnyH_take (i := 17) (oi := ⟨some 13, _, _, _, _, _⟩) (v := ?vd17) rfl (by kernel_rfl) (by kernel_rfl) (by kernel_rfl) (fun _ _ _ h => h) (Or.inl ⟨by rfl, ?yd17⟩) hS ?rd17
      case yd17 => intro W hW; go_simp; first | done | with_reducible rfl
      simp only [Act.put, List.setIfInBounds_toArray, List.set_cons_zero, List.set_cons_succ]
      refine wpAnyH_done (by kernel_rfl) ?_ _
      have H2 := HH
      clear HH hS
      go_wp2_with (first
        | (go_at_call 26; (with_reducible refine (HF.out _).mono ?_); (rintro e w5 ⟨rfl, rfl⟩)))
      go_loopw [16, 15] (fun i v wr => ∃ k : Nat, k ≤ N ∧ i = .int .i64 (k : Int) ∧ v = .string (str (ups s CC k)) ∧ Hl w wr [(g2, uC u.sch u.host u.port u.path u.q u.f), (g1, uC u.sch u.host u.port u.path u.q u.f)]) (fun i _ _ => N - (intOf i).toNat)
      case atStart => exact ⟨0, by omega, rfl, by simp [ups, str], H2⟩
      case round =>
        obtain ⟨k, hk, rfl, rfl, H3⟩ := hrel
        clear H2
        have hL := hle.out k
        by_cases hlt : k < N
        · have hkS : (k : Int) < (N : Int) := by omega
          have HG := hgb.out k hlt
          have HLO := hlo.out k hlt
          have HHI := hhi.out k hlt
          obtain ⟨c, hc⟩ : ∃ c, c = s.getD k 0 := ⟨_, rfl⟩
          obtain ⟨b, hb⟩ : ∃ b, b = c.toNat := ⟨_, rfl⟩
          rw [← hc] at HG HLO HHI
          rw [← hb] at HG
          have hb9 : b < 256 := by rw [hb]; exact c.toNat_lt
          obtain ⟨A, hA⟩ : ∃ X, X = ups s CC k := ⟨_, rfl⟩
          obtain ⟨Y, hY⟩ : ∃ X, X = ups s CC (k + 1) := ⟨_, rfl⟩
          rw [← hA] at HLO HHI hL ⊢
          rw [← hY] at HLO HHI
          have sA : (str A).size ≤ 302 := by rw [str_size]; omega
          have HY := Lib.hid hY
          have HB := Lib.hid hb
          have hk1 : k + 1 ≤ N := hlt
          have key : ∀ d : UInt8, Y = A ++ [d] → Hid (str A ++ str [d] = str Y) := fun d e => by show _ = _; rw [e]; exact str_add _ _
          clear hc hb hA hY hL
          by_cases hC : k < CC
          · have hkC : (k : Int) < (CC : Int) := by omega
            have hcase : b < 97 ∨ (97 ≤ b ∧ b ≤ 122) ∨ 122 < b := by omega
            rcases hcase with hr | hr | hr
            · have c1 : decide ((97 : Int) ≤ (b : Int)) = false := by simp; omega
              have aY := (key c (by rw [HLO hC, upc_no c (by have := HB.out; omega)])).out
              have hrun := run_oneb wr b c HB.out
              have s1 : (str [c]).size = 1 := str_size _
              clear HLO HHI key hC hr
              go_wp2_with fail
              go_roundw
              case rel => exact ⟨k + 1, by omega, by go_num, by rw [HY.out], H3.allocC⟩
              case measure => simp [intOf]; omega
            · have c1 : decide ((97 : Int) ≤ (b : Int)) = true := by simp; omega
              have c2 : decide ((b : Int) ≤ 122) = true := by simp; omega
              have aY := (key (upc c) (HLO hC)).out
              have hup := upc_yes c (by have := HB.out; omega)
              rw [← HB.out] at hup
              obtain ⟨b2, hb2⟩ : ∃ b2, b2 = b - 32 := ⟨_, rfl⟩
              have hb3 : (b : Int) - 32 = (b2 : Int) := by omega
              have hb4 : IntKind.u8.wrap (b2 : Int) = (b2 : Int) := by rw [IntKind.wrap_u8]; omega
              have hrun := run_oneb wr b2 (upc c) (by rw [hb2, hup])
              have s1 : (str [upc c]).size = 1 := str_size _
              clear HLO HHI key hC hr hb2 hup
              generalize upc c = d at aY hrun s1
              go_wp2_with fail
              go_roundw
              case rel => exact ⟨k + 1, by omega, by go_num, by rw [HY.out], H3.allocC⟩
              case measure => simp [intOf]; omega
            · have c1 : decide ((97 : Int) ≤ (b : Int)) = true := by simp; omega
              have c2 : decide ((b : Int) ≤ 122) = false := by simp; omega
              have aY := (key c (by rw [HLO hC, upc_no c (by have := HB.out; omega)])).out
              have hrun := run_oneb wr b c HB.out
              have s1 : (str [c]).size = 1 := str_size _
              clear HLO HHI key hC hr
              go_wp2_with fail
              go_roundw
              case rel => exact ⟨k + 1, by omega, by go_num, by rw [HY.out], H3.allocC⟩
              case measure => simp [intOf]; omega
          · have hkC : ¬ (k : Int) < (CC : Int) := by omega
            have aY := (key c (HHI hC)).out
            have hrun := run_oneb wr b c HB.out
            have s1 : (str [c]).size = 1 := str_size _
            clear HLO HHI key hC
            go_wp2_with fail
            go_roundw
            case rel => exact ⟨k + 1, by omega, by go_num, by rw [HY.out], H3.allocC⟩
            case measure => simp [intOf]; omega
        · have hkS : ¬ (k : Int) < (N : Int) := by omega
          obtain rfl : k = N := by omega
          rw [hUp.out]
          clear hlt hL hk hUp
          go_wp2_with (first
            | (go_at_call 14; (with_reducible refine (HW.out _ H3.kp).mono ?_); (rintro e wa3 ⟨rfl, hb⟩; have G3 := H3.step hb; clear hb))
            | ((with_reducible show wpList _ _ _ (⟨some 18, .alloc _, _, _, _, _⟩ :: _) _ _); refine wp_new _ rfl 24 rfl _ z24 ?_; intro wb3 g3 B3 F3; simp only [Act.put, List.setIfInBounds_toArray, List.set_cons_zero, List.set_cons_succ])
            | ((with_reducible show wpList _ _ _ (⟨none, .store 24 (.tmp 18) (.tmp 91), _, _, _, _⟩ :: _) _ _); refine wp_putAll _ rfl 24 (.tmp 18) (.tmp 91) rfl g3 24 _ (uC v.sch v.host v.port v.path v.q v.f) rfl rfl B3 rfl n24 (uC_one _ _ _ _ _ _) ?_; intro wc3 B U; simp only [Act.put]; have H4 := G3.new F3 U B; clear B U F3 B3 G3)
            | ((with_reducible show wpList _ _ _ (⟨some 95, .load 24 (.tmp 8), _, _, _, _⟩ :: _) _ _); refine wp_getU _ (by rfl) (.tmp 8) rfl g1 u rfl (H4.at (x := (g1, uC u.sch u.host u.port u.path u.q u.f)) (by simp)) ?_; simp only [Act.put, List.setIfInBounds_toArray, List.set_cons_zero, List.set_cons_succ])
            | ((with_reducible show wpList _ _ _ (⟨some 96, .load 24 (.tmp 12), _, _, _, _⟩ :: _) _ _); refine wp_getU _ (by rfl) (.tmp 12) rfl g2 u rfl (H4.at (x := (g2, uC u.sch u.host u.port u.path u.q u.f)) (by simp)) ?_; simp only [Act.put, List.setIfInBounds_toArray, List.set_cons_zero, List.set_cons_succ])
            | ((with_reducible show wpList _ _ _ (⟨some 97, .binOp .eql 24 _ _ _, _, _, _, _⟩ :: _) _ _); refine wp_eqU _ (by rfl) (.tmp 95) (.tmp 96) rfl u u rfl rfl true ⟨fun _ => rfl, fun _ => rfl⟩ ?_; simp only [Act.put, List.setIfInBounds_toArray, List.set_cons_zero, List.set_cons_succ]))
          go_ret
          exact ⟨by simp, H4.kp⟩
    · refine step_new8 _ rfl 24 rfl _ z24 ?_
      intro w4 g2 B2 F2
      have hbf := hS.before F2
      have hS4 := hS.step F2.below
      refine hK.out _ _ hS4 (fun _ => ?_)
      clear hK K hS
      have hS := hS4
      clear hS4 F2
      simp only [Act.put, List.setIfInBounds_toArray, List.set_cons_zero, List.set_cons_succ]
      refine wpAnyH_ready (rs := [11]) (by kernel_rfl) (by simp) ?_
      refine (AllReadyH.cons (o := ⟨some 56, _, _, _, _, _⟩) rfl (fun K hK => ?_) AllReadyH.nil)
      try go_simp
      (with_reducible refine (HV.out _ hS.kp).mono ?_)
      rintro e w3 ⟨rfl, hbw3⟩
      have hS3 := hS.step hbw3
      refine hK.out _ _ hS3 (fun _ => ?_)
      clear hK K
      try simp only [Act.put, List.setIfInBounds_toArray, List.set_cons_zero, List.set_cons_succ]
      have B3 := B2.kept hbw3
      clear hS B2 hbw3
      have hS := hS3
      clear hS3
      refine wpAnyH_take (i := 12) (oi := ⟨some 44, _, _, _, _, _⟩) (v := ?vc12) rfl (by kernel_rfl) (by kernel_rfl) (by kernel_rfl) (fun _ _ _ h => h) (Or.inl ⟨by rfl, ?yc12⟩) hS ?rc12
      case yc12 => intro W hW; go_simp; first | done | with_reducible rfl
      simp only [Act.put, List.setIfInBounds_toArray, List.set_cons_zero, List.set_cons_succ]
      refine wpAnyH_take (i := 13) (oi := ⟨some 57, _, _, _, _, _⟩) (v := ?vc13) rfl (by kernel_rfl) (by kernel_rfl) (by kernel_rfl) (fun _ _ _ h => h) (Or.inl ⟨by rfl, ?yc13⟩) hS ?rc13
      case yc13 => intro W hW; go_simp; first | done | with_reducible rfl
      simp only [Act.put, List.setIfInBounds_toArray, List.set_cons_zero, List.set_cons_succ]
      refine wpAnyH_take (i := 14) (oi := ⟨some 58, _, _, _, _, _⟩) (v := ?vc14) rfl (by kernel_rfl) (by kernel_rfl) (by kernel_rfl) (fun _ _ _ h => h) (Or.inl ⟨by rfl, ?yc14⟩) hS ?rc14
      case yc14 => intro W hW; go_simp; first | done | with_reducible rfl
      simp only [Act.put, List.setIfInBounds_toArray, List.set_cons_zero, List.set_cons_succ]
      refine wpAnyH_ready (rs := [16]) (by kernel_rfl) (by simp) ?_
      refine (AllReadyH.cons (o := ⟨none, _, _, _, _, _⟩) rfl (fun K hK => ?_) AllReadyH.nil)
      refine step_putAll _ rfl 24 (.tmp 12) (.tmp 57) rfl g2 24 _ (uC u.sch u.host u.port u.path u.q u.f) rfl rfl B3 rfl n24 (uC_one _ _ _ _ _ _) ?_
      intro w6 B6 U6
      have HH := hS.put hbf.1 hbf.2 U6 B6
      refine hK.out _ _ HH.tl (fun _ => ?_)
      clear hK K B3 B6 U6 hbf hS
      have hS := HH.tl
      simp only [Act.put]
      refine wpAnyH_take (i := 17) (oi := ⟨some 13, _, _, _, _, _⟩) (v := ?ve17) rfl (by kernel_rfl) (by kernel_rfl) (by kernel_rfl) (fun _ _ _ h => h) (Or.inl ⟨by rfl, ?ye17⟩) hS ?re17
      case ye17 => intro W hW; go_simp; first | done | with_reducible rfl
      simp only [Act.put, List.setIfInBounds_toArray, List.set_cons_zero, List.set_cons_succ]
      refine wpAnyH_done (by kernel_rfl) ?_ _
      have H2 := HH
      clear HH hS
      go_wp2_with (first
        | (go_at_call 26; (with_reducible refine (HF.out _).mono ?_); (rintro e w5 ⟨rfl, rfl⟩)))
      go_loopw [16, 15] (fun i v wr => ∃ k : Nat, k ≤ N ∧ i = .int .i64 (k : Int) ∧ v = .string (str (ups s CC k)) ∧ Hl w wr [(g2, uC u.sch u.host u.port u.path u.q u.f), (g1, uC u.sch u.host u.port u.path u.q u.f)]) (fun i _ _ => N - (intOf i).toNat)
      case atStart => exact ⟨0, by omega, rfl, by simp [ups, str], H2⟩
      case round =>
        obtain ⟨k, hk, rfl, rfl, H3⟩ := hrel
        clear H2
        have hL := hle.out k
        by_cases hlt : k < N
        · have hkS : (k : Int) < (N : Int) := by omega
          have HG := hgb.out k hlt
          have HLO := hlo.out k hlt
          have HHI := hhi.out k hlt
          obtain ⟨c, hc⟩ : ∃ c, c = s.getD k 0 := ⟨_, rfl⟩
          obtain ⟨b, hb⟩ : ∃ b, b = c.toNat := ⟨_, rfl⟩
          rw [← hc] at HG HLO HHI
          rw [← hb] at HG
          have hb9 : b < 256 := by rw [hb]; exact c.toNat_lt
          obtain ⟨A, hA⟩ : ∃ X, X = ups s CC k := ⟨_, rfl⟩
          obtain ⟨Y, hY⟩ : ∃ X, X = ups s CC (k + 1) := ⟨_, rfl⟩
          rw [← hA] at HLO HHI hL ⊢
          rw [← hY] at HLO HHI
          have sA : (str A).size ≤ 302 := by rw [str_size]; omega
          have HY := Lib.hid hY
          have HB := Lib.hid hb
          have hk1 : k + 1 ≤ N := hlt
          have key : ∀ d : UInt8, Y = A ++ [d] → Hid (str A ++ str [d] = str Y) := fun d e => by show _ = _; rw [e]; exact str_add _ _
          clear hc hb hA hY hL
          by_cases hC : k < CC
          · have hkC : (k : Int) < (CC : Int) := by omega
            have hcase : b < 97 ∨ (97 ≤ b ∧ b ≤ 122) ∨ 122 < b := by omega
            rcases hcase with hr | hr | hr
            · have c1 : decide ((97 : Int) ≤ (b : Int)) = false := by simp; omega
              have aY := (key c (by rw [HLO hC, upc_no c (by have := HB.out; omega)])).out
              have hrun := run_oneb wr b c HB.out
              have s1 : (str [c]).size = 1 := str_size _
              clear HLO HHI key hC hr
              go_wp2_with fail
              go_roundw
              case rel => exact ⟨k + 1, by omega, by go_num, by rw [HY.out], H3.allocC⟩
              case measure => simp [intOf]; omega
            · have c1 : decide ((97 : Int) ≤ (b : Int)) = true := by simp; omega
              have c2 : decide ((b : Int) ≤ 122) = true := by simp; omega
              have aY := (key (upc c) (HLO hC)).out
              have hup := upc_yes c (by have := HB.out; omega)
              rw [← HB.out] at hup
              obtain ⟨b2, hb2⟩ : ∃ b2, b2 = b - 32 := ⟨_, rfl⟩
              have hb3 : (b : Int) - 32 = (b2 : Int) := by omega
              have hb4 : IntKind.u8.wrap (b2 : Int) = (b2 : Int) := by rw [IntKind.wrap_u8]; omega
              have hrun := run_oneb wr b2 (upc c) (by rw [hb2, hup])
              have s1 : (str [upc c]).size = 1 := str_size _
              clear HLO HHI key hC hr hb2 hup
              generalize upc c = d at aY hrun s1
              go_wp2_with fail
              go_roundw
              case rel => exact ⟨k + 1, by omega, by go_num, by rw [HY.out], H3.allocC⟩
              case measure => simp [intOf]; omega
            · have c1 : decide ((97 : Int) ≤ (b : Int)) = true := by simp; omega
              have c2 : decide ((b : Int) ≤ 122) = false := by simp; omega
              have aY := (key c (by rw [HLO hC, upc_no c (by have := HB.out; omega)])).out
              have hrun := run_oneb wr b c HB.out
              have s1 : (str [c]).size = 1 := str_size _
              clear HLO HHI key hC hr
              go_wp2_with fail
              go_roundw
              case rel => exact ⟨k + 1, by omega, by go_num, by rw [HY.out], H3.allocC⟩
              case measure => simp [intOf]; omega
          · have hkC : ¬ (k : Int) < (CC : Int) := by omega
            have aY := (key c (HHI hC)).out
            have hrun := run_oneb wr b c HB.out
            have s1 : (str [c]).size = 1 := str_size _
            clear HLO HHI key hC
            go_wp2_with fail
            go_roundw
            case rel => exact ⟨k + 1, by omega, by go_num, by rw [HY.out], H3.allocC⟩
            case measure => simp [intOf]; omega
        · have hkS : ¬ (k : Int) < (N : Int) := by omega
          obtain rfl : k = N := by omega
          rw [hUp.out]
          clear hlt hL hk hUp
          go_wp2_with (first
            | (go_at_call 14; (with_reducible refine (HW.out _ H3.kp).mono ?_); (rintro e wa3 ⟨rfl, hb⟩; have G3 := H3.step hb; clear hb))
            | ((with_reducible show wpList _ _ _ (⟨some 18, .alloc _, _, _, _, _⟩ :: _) _ _); refine wp_new _ rfl 24 rfl _ z24 ?_; intro wb3 g3 B3 F3; simp only [Act.put, List.setIfInBounds_toArray, List.set_cons_zero, List.set_cons_succ])
            | ((with_reducible show wpList _ _ _ (⟨none, .store 24 (.tmp 18) (.tmp 91), _, _, _, _⟩ :: _) _ _); refine wp_putAll _ rfl 24 (.tmp 18) (.tmp 91) rfl g3 24 _ (uC v.sch v.host v.port v.path v.q v.f) rfl rfl B3 rfl n24 (uC_one _ _ _ _ _ _) ?_; intro wc3 B U; simp only [Act.put]; have H4 := G3.new F3 U B; clear B U F3 B3 G3)
            | ((with_reducible show wpList _ _ _ (⟨some 95, .load 24 (.tmp 8), _, _, _, _⟩ :: _) _ _); refine wp_getU _ (by rfl) (.tmp 8) rfl g1 u rfl (H4.at (x := (g1, uC u.sch u.host u.port u.path u.q u.f)) (by simp)) ?_; simp only [Act.put, List.setIfInBounds_toArray, List.set_cons_zero, List.set_cons_succ])
            | ((with_reducible show wpList _ _ _ (⟨some 96, .load 24 (.tmp 12), _, _, _, _⟩ :: _) _ _); refine wp_getU _ (by rfl) (.tmp 12) rfl g2 u rfl (H4.at (x := (g2, uC u.sch u.host u.port u.path u.q u.f)) (by simp)) ?_; simp only [Act.put, List.setIfInBounds_toArray, List.set_cons_zero, List.set_cons_succ])
            | ((with_reducible show wpList _ _ _ (⟨some 97, .binOp .eql 24 _ _ _, _, _, _, _⟩ :: _) _ _); refine wp_eqU _ (by rfl) (.tmp 95) (.tmp 96) rfl u u rfl rfl true ⟨fun _ => rfl, fun _ => rfl⟩ ?_; simp only [Act.put, List.setIfInBounds_toArray, List.set_cons_zero, List.set_cons_succ]))
          go_ret
          exact ⟨by simp, H4.kp⟩
set_option maxHeartbeats 8000000 in
set_option maxRecDepth 100000 in
theorem cl_3_col (u : U) (en : Int) (l s0 S1 s P D X1 X2 X3 X Up : List UInt8) (n1 n2 : Int) (m N N1 k y CC : Nat) (w : World) (hm : min (l.length : Int) 300 = (m : Int)) (hm2 : m ≤ l.length) (hts : (str l).extract 0 m = str s0) (hsl : (str l).size = l.length) (a1 : ⟨#[104]⟩ ++ str s0 = str S1) (a2 : str S1 ++ ⟨#[122]⟩ = str s) (q1 : ¬ (9223372036854775807 : Nat) < 1 + (str s0).size) (q2 : ¬ (9223372036854775807 : Nat) < (str S1).size + 1) (hN : N = s.length) (hN2 : N ≤ 302) (hN1 : (N : Int) + 1 = (N1 : Int)) (hN1w : IntKind.i64.wrap (N1 : Int) = (N1 : Int)) (hy : bits .and .i64 n1 65535 = (y : Int)) (hk' : Int.tmod (y : Int) (N1 : Int) = (k : Int)) (hkN : k ≤ N) (hz : bits .and .i64 n2 3 = 3) (HS : Hid (∀ w', Kept w w' → Calls Tryz.prog 13 #[] w' fun e w2 => e = .returned (.bool true) ∧ Below w'.heap.size w' w2)) (HU : Hid (∀ w', Kept w w' → Calls Tryz.prog 14 #[.string (str s)] w' fun e w2 => e = .returned (.tuple #[.agg (uC u.sch u.host u.port u.path u.q u.f).toArray, .int .i64 en]) ∧ Below w'.heap.size w' w2)) (HV : Hid (∀ w', Kept w w' → Calls Tryz.prog 14 #[.string (str X)] w' fun e w2 => e = .returned (.tuple #[.agg (uC u.sch u.host u.port u.path u.q u.f).toArray, .int .i64 en]) ∧ Below w'.heap.size w' w2)) (HW : Hid (∀ w', Kept w w' → Calls Tryz.prog 14 #[.string (str Up)] w' fun e w2 => e = .returned (.tuple #[.agg (uC u.sch u.host u.port u.path u.q u.f).toArray, .int .i64 en]) ∧ Below w'.heap.size w' w2)) (HF : Hid (∀ w', Calls Tryz.prog 26 #[.string (str s), .int .u8 58] w' fun e w2 => e = .returned (.int .i64 (CC : Int)) ∧ w2 = w')) (t1 : (str s).extract 0 k = str P) (t2 : (str s).extract k N = str D) (b1 : ⟨#[32, 0, 10]⟩ ++ str P = str X1) (b2 : str X1 ++ ⟨#[13, 10, 9]⟩ = str X2) (b3 : str X2 ++ str D = str X3) (b4 : str X3 ++ ⟨#[9, 32, 31]⟩ = str X) (r1 : ¬ (9223372036854775807 : Nat) < 3 + (str P).size) (r2 : ¬ (9223372036854775807 : Nat) < (str X1).size + 3) (r3 : ¬ (9223372036854775807 : Nat) < (str X2).size + (str D).size) (r4 : ¬ (9223372036854775807 : Nat) < (str X3).size + 3) (hUp : Hid (ups s CC N = Up)) (hcc : ((CC : Int) == (N : Int)) = false) : Calls Tryz.prog 6 #[.string (str l), .int .i64 n1, .int .i64 n2] w fun e w' => e = .returned (.bool true) ∧ Below w.heap.size w w' := by
    have hsz := str_size s
    have hgb : Hid (∀ k, k < N → ∀ h, ((str s)[k]'h).toNat = (s.getD k 0).toNat) := fun k hk h => str_at s k (by omega) h
    have hlo : Hid (∀ k, k < N → k < CC → ups s CC (k + 1) = ups s CC k ++ [upc (s.getD k 0)]) := fun k hk h => ups_lo s CC k (by omega) h _ rfl
    have hhi : Hid (∀ k, k < N → ¬ k < CC → ups s CC (k + 1) = ups s CC k ++ [s.getD k 0]) := fun k hk h => ups_hi s CC k (by omega) h _ rfl
    have hle : Hid (∀ k, (ups s CC k).length ≤ k) := fun k => ups_len s CC k
    rw [← hN] at hsz
    clear hN
    have hee : (en == en) = true := by simp
    go_enter Tryz.func6, Tryz.ntmps6
    go_wp2_with (first
      | (go_at_call 13; (with_reducible refine (HS.out _ (Hl.nil w).kp).mono ?_); (rintro e w1 ⟨rfl, hb⟩; have H0 := (Hl.nil w).step hb; clear hb))
      | (go_at_call 14; (with_reducible refine (HU.out _ H0.kp).mono ?_); (rintro e wa1 ⟨rfl, hb⟩; have G1 := H0.step hb; clear hb))
      | ((with_reducible show wpList _ _ _ (⟨some 8, .alloc _, _, _, _, _⟩ :: _) _ _); refine wp_new _ rfl 24 rfl _ z24 ?_; intro wb1 g1 B1 F1; simp only [Act.put, List.setIfInBounds_toArray, List.set_cons_zero, List.set_cons_succ])
      | ((with_reducible show wpList _ _ _ (⟨none, .store 24 (.tmp 8) (.tmp 31), _, _, _, _⟩ :: _) _ _); refine wp_putAll _ rfl 24 (.tmp 8) (.tmp 31) rfl g1 24 _ (uC u.sch u.host u.port u.path u.q u.f) rfl rfl B1 rfl n24 (uC_one _ _ _ _ _ _) ?_; intro wc1 B U; simp only [Act.put]; have H1 := G1.new F1 U B; clear B U F1 B1 G1))
    have H1a := H1.allocC (o := .cells #[.string ⟨#[9]⟩, .string ⟨#[10]⟩, .string ⟨#[13]⟩, .string ⟨#[13, 10, 9]⟩] 9)
    refine wp_region_held_drew (S := fun W => Hl w W [(g1, uC u.sch u.host u.port u.path u.q u.f)]) (by kernel_rfl) (H1a.step (Below.refl _ _).drew) (fun hS => ?_)
    clear H0 H1 H1a
    refine wpAnyH_take (i := 0) (oi := ⟨some 45, _, _, _, _, _⟩) (v := ?va0) rfl (by kernel_rfl) (by kernel_rfl) (by kernel_rfl) (fun _ _ _ h => h) (Or.inl ⟨by rfl, ?ya0⟩) hS ?ra0
    case ya0 => intro W hW; go_simp; first | done | with_reducible rfl
    simp only [Act.put, List.setIfInBounds_toArray, List.set_cons_zero, List.set_cons_succ]
    refine wpAnyH_take (i := 1) (oi := ⟨some 46, _, _, _, _, _⟩) (v := ?va1) rfl (by kernel_rfl) (by kernel_rfl) (by kernel_rfl) (fun _ _ _ h => h) (Or.inl ⟨by rfl, ?ya1⟩) hS ?ra1
    case ya1 => intro W hW; go_simp; first | done | with_reducible rfl
    simp only [Act.put, List.setIfInBounds_toArray, List.set_cons_zero, List.set_cons_succ]
    refine wpAnyH_take (i := 2) (oi := ⟨some 47, _, _, _, _, _⟩) (v := ?va2) rfl (by kernel_rfl) (by kernel_rfl) (by kernel_rfl) (fun _ _ _ h => h) (Or.inl ⟨by rfl, ?ya2⟩) hS ?ra2
    case ya2 => intro W hW; go_simp; first | done | with_reducible rfl
    simp only [Act.put, List.setIfInBounds_toArray, List.set_cons_zero, List.set_cons_succ]
    refine wpAnyH_take (i := 3) (oi := ⟨some 48, _, _, _, _, _⟩) (v := ?va3) rfl (by kernel_rfl) (by kernel_rfl) (by kernel_rfl) (fun _ _ _ h => h) (Or.inl ⟨by rfl, ?ya3⟩) hS ?ra3
    case ya3 => intro W hW; go_simp; first | done | with_reducible rfl
    simp only [Act.put, List.setIfInBounds_toArray, List.set_cons_zero, List.set_cons_succ]
    refine wpAnyH_take (i := 4) (oi := ⟨some 49, _, _, _, _, _⟩) (v := ?va4) rfl (by kernel_rfl) (by kernel_rfl) (by kernel_rfl) (fun _ _ _ h => h) (Or.inl ⟨by rfl, ?ya4⟩) hS ?ra4
    case ya4 => intro W hW; go_simp; first | done | with_reducible rfl
    simp only [Act.put, List.setIfInBounds_toArray, List.set_cons_zero, List.set_cons_succ]
    refine wpAnyH_take (i := 5) (oi := ⟨some 50, _, _, _, _, _⟩) (v := ?va5) rfl (by kernel_rfl) (by kernel_rfl) (by kernel_rfl) (fun _ _ _ h => h) (Or.inl ⟨by rfl, ?ya5⟩) hS ?ra5
    case ya5 => intro W hW; go_simp; first | done | with_reducible rfl
    simp only [Act.put, List.setIfInBounds_toArray, List.set_cons_zero, List.set_cons_succ]
    refine wpAnyH_take (i := 6) (oi := ⟨some 51, _, _, _, _, _⟩) (v := ?va6) rfl (by kernel_rfl) (by kernel_rfl) (by kernel_rfl) (fun _ _ _ h => h) (Or.inl ⟨by rfl, ?ya6⟩) hS ?ra6
    case ya6 => intro W hW; go_simp; first | done | with_reducible rfl
    simp only [Act.put, List.setIfInBounds_toArray, List.set_cons_zero, List.set_cons_succ]
    refine wpAnyH_take (i := 7) (oi := ⟨some 52, _, _, _, _, _⟩) (v := ?va7) rfl (by kernel_rfl) (by kernel_rfl) (by kernel_rfl) (fun _ _ _ h => h) (Or.inl ⟨by rfl, ?ya7⟩) hS ?ra7
    case ya7 => intro W hW; go_simp; first | done | with_reducible rfl
    simp only [Act.put, List.setIfInBounds_toArray, List.set_cons_zero, List.set_cons_succ]
    refine wpAnyH_take (i := 8) (oi := ⟨some 53, _, _, _, _, _⟩) (v := ?va8) rfl (by kernel_rfl) (by kernel_rfl) (by kernel_rfl) (fun _ _ _ h => h) (Or.inl ⟨by rfl, ?ya8⟩) hS ?ra8
    case ya8 => intro W hW; go_simp; first | done | with_reducible rfl
    simp only [Act.put, List.setIfInBounds_toArray, List.set_cons_zero, List.set_cons_succ]
    refine wpAnyH_take (i := 9) (oi := ⟨some 54, _, _, _, _, _⟩) (v := ?va9) rfl (by kernel_rfl) (by kernel_rfl) (by kernel_rfl) (fun _ _ _ h => h) (Or.inl ⟨by rfl, ?ya9⟩) hS ?ra9
    case ya9 => intro W hW; go_simp; first | done | with_reducible rfl
    simp only [Act.put, List.setIfInBounds_toArray, List.set_cons_zero, List.set_cons_succ]
    refine wpAnyH_take (i := 10) (oi := ⟨some 55, _, _, _, _, _⟩) (v := ?va10) rfl (by kernel_rfl) (by kernel_rfl) (by kernel_rfl) (fun _ _ _ h => h) (Or.inl ⟨by rfl, ?ya10⟩) hS ?ra10
    case ya10 => intro W hW; go_simp; first | done | with_reducible rfl
    simp only [Act.put, List.setIfInBounds_toArray, List.set_cons_zero, List.set_cons_succ]
    refine wpAnyH_ready (rs := [11, 15]) (by kernel_rfl) (by simp) ?_
    refine (AllReadyH.cons (o := ⟨some 56, _, _, _, _, _⟩) rfl (fun K hK => ?_) (AllReadyH.cons (o := ⟨some 12, _, _, _, _, _⟩) rfl (fun K hK => ?_) AllReadyH.nil))
    · try go_simp
      (with_reducible refine (HV.out _ hS.kp).mono ?_)
      rintro e w3 ⟨rfl, hbw3⟩
      have hS3 := hS.step hbw3
      refine hK.out _ _ hS3 (fun _ => ?_)
      clear hK K
      try simp only [Act.put, List.setIfInBounds_toArray, List.set_cons_zero, List.set_cons_succ]
      clear hS
      have hS := hS3
      clear hS3
      refine wpAnyH_take (i := 12) (oi := ⟨some 44, _, _, _, _, _⟩) (v := ?vb12) rfl (by kernel_rfl) (by kernel_rfl) (by kernel_rfl) (fun _ _ _ h => h) (Or.inl ⟨by rfl, ?yb12⟩) hS ?rb12
      case yb12 => intro W hW; go_simp; first | done | with_reducible rfl
      simp only [Act.put, List.setIfInBounds_toArray, List.set_cons_zero, List.set_cons_succ]
      refine wpAnyH_take (i := 13) (oi := ⟨some 57, _, _, _, _, _⟩) (v := ?vb13) rfl (by kernel_rfl) (by kernel_rfl) (by kernel_rfl) (fun _ _ _ h => h) (Or.inl ⟨by rfl, ?yb13⟩) hS ?rb13
      case yb13 => intro W hW; go_simp; first | done | with_reducible rfl
      simp only [Act.put, List.setIfInBounds_toArray, List.set_cons_zero, List.set_cons_succ]
      refine wpAnyH_take (i := 14) (oi := ⟨some 58, _, _, _, _, _⟩) (v := ?vb14) rfl (by kernel_rfl) (by kernel_rfl) (by kernel_rfl) (fun _ _ _ h => h) (Or.inl ⟨by rfl, ?yb14⟩) hS ?rb14
      case yb14 => intro W hW; go_simp; first | done | with_reducible rfl
      simp only [Act.put, List.setIfInBounds_toArray, List.set_cons_zero, List.set_cons_succ]
      refine wpAnyH_ready (rs := [15]) (by kernel_rfl) (by simp) ?_
      refine (AllReadyH.cons (o := ⟨some 12, _, _, _, _, _⟩) rfl (fun K hK => ?_) AllReadyH.nil)
      refine step_new8 _ rfl 24 rfl _ z24 ?_
      intro w4 g2 B2 F2
      have hS4 := hS.step F2.below
      refine hK.out _ _ hS4 (fun _ => ?_)
      clear hK K
      simp only [Act.put, List.setIfInBounds_toArray, List.set_cons_zero, List.set_cons_succ]
      refine wpAnyH_ready (rs := [16]) (by kernel_rfl) (by simp) ?_
      refine (AllReadyH.cons (o := ⟨none, _, _, _, _, _⟩) rfl (fun K hK => ?_) AllReadyH.nil)
      refine step_putAll _ rfl 24 (.tmp 12) (.tmp 57) rfl g2 24 _ (uC u.sch u.host u.port u.path u.q u.f) rfl rfl B2 rfl n24 (uC_one _ _ _ _ _ _) ?_
      intro w6 B6 U6
      have HH := hS.new F2 U6 B6
      refine hK.out _ _ HH.tl (fun _ => ?_)
      clear hK K hS4 B2 F2 B6 U6 hS
      have hS := HH.tl
      simp only [Act.put]
      refine wpAnyH_take (i := 17) (oi := ⟨some 13, _, _, _, _, _⟩) (v := ?vd17) rfl (by kernel_rfl) (by kernel_rfl) (by kernel_rfl) (fun _ _ _ h => h) (Or.inl ⟨by rfl, ?yd17⟩) hS ?rd17
      case yd17 => intro W hW; go_simp; first | done | with_reducible rfl
      simp only [Act.put, List.setIfInBounds_toArray, List.set_cons_zero, List.set_cons_succ]
      refine wpAnyH_done (by kernel_rfl) ?_ _
      have H2 := HH
      clear HH hS
      go_wp2_with (first
        | (go_at_call 26; (with_reducible refine (HF.out _).mono ?_); (rintro e w5 ⟨rfl, rfl⟩)))
      go_loopw [16, 15] (fun i v wr => ∃ k : Nat, k ≤ N ∧ i = .int .i64 (k : Int) ∧ v = .string (str (ups s CC k)) ∧ Hl w wr [(g2, uC u.sch u.host u.port u.path u.q u.f), (g1, uC u.sch u.host u.port u.path u.q u.f)]) (fun i _ _ => N - (intOf i).toNat)
      case atStart => exact ⟨0, by omega, rfl, by simp [ups, str], H2⟩
      case round =>
        obtain ⟨k, hk, rfl, rfl, H3⟩ := hrel
        clear H2
        have hL := hle.out k
        by_cases hlt : k < N
        · have hkS : (k : Int) < (N : Int) := by omega
          have HG := hgb.out k hlt
          have HLO := hlo.out k hlt
          have HHI := hhi.out k hlt
          obtain ⟨c, hc⟩ : ∃ c, c = s.getD k 0 := ⟨_, rfl⟩
          obtain ⟨b, hb⟩ : ∃ b, b = c.toNat := ⟨_, rfl⟩
          rw [← hc] at HG HLO HHI
          rw [← hb] at HG
          have hb9 : b < 256 := by rw [hb]; exact c.toNat_lt
          obtain ⟨A, hA⟩ : ∃ X, X = ups s CC k := ⟨_, rfl⟩
          obtain ⟨Y, hY⟩ : ∃ X, X = ups s CC (k + 1) := ⟨_, rfl⟩
          rw [← hA] at HLO HHI hL ⊢
          rw [← hY] at HLO HHI
          have sA : (str A).size ≤ 302 := by rw [str_size]; omega
          have HY := Lib.hid hY
          have HB := Lib.hid hb
          have hk1 : k + 1 ≤ N := hlt
          have key : ∀ d : UInt8, Y = A ++ [d] → Hid (str A ++ str [d] = str Y) := fun d e => by show _ = _; rw [e]; exact str_add _ _
          clear hc hb hA hY hL
          by_cases hC : k < CC
          · have hkC : (k : Int) < (CC : Int) := by omega
            have hcase : b < 97 ∨ (97 ≤ b ∧ b ≤ 122) ∨ 122 < b := by omega
            rcases hcase with hr | hr | hr
            · have c1 : decide ((97 : Int) ≤ (b : Int)) = false := by simp; omega
              have aY := (key c (by rw [HLO hC, upc_no c (by have := HB.out; omega)])).out
              have hrun := run_oneb wr b c HB.out
              have s1 : (str [c]).size = 1 := str_size _
              clear HLO HHI key hC hr
              go_wp2_with fail
              go_roundw
              case rel => exact ⟨k + 1, by omega, by go_num, by rw [HY.out], H3.allocC⟩
              case measure => simp [intOf]; omega
            · have c1 : decide ((97 : Int) ≤ (b : Int)) = true := by simp; omega
              have c2 : decide ((b : Int) ≤ 122) = true := by simp; omega
              have aY := (key (upc c) (HLO hC)).out
              have hup := upc_yes c (by have := HB.out; omega)
              rw [← HB.out] at hup
              obtain ⟨b2, hb2⟩ : ∃ b2, b2 = b - 32 := ⟨_, rfl⟩
              have hb3 : (b : Int) - 32 = (b2 : Int) := by omega
              have hb4 : IntKind.u8.wrap (b2 : Int) = (b2 : Int) := by rw [IntKind.wrap_u8]; omega
              have hrun := run_oneb wr b2 (upc c) (by rw [hb2, hup])
              have s1 : (str [upc c]).size = 1 := str_size _
              clear HLO HHI key hC hr hb2 hup
              generalize upc c = d at aY hrun s1
              go_wp2_with fail
              go_roundw
              case rel => exact ⟨k + 1, by omega, by go_num, by rw [HY.out], H3.allocC⟩
              case measure => simp [intOf]; omega
            · have c1 : decide ((97 : Int) ≤ (b : Int)) = true := by simp; omega
              have c2 : decide ((b : Int) ≤ 122) = false := by simp; omega
              have aY := (key c (by rw [HLO hC, upc_no c (by have := HB.out; omega)])).out
              have hrun := run_oneb wr b c HB.out
              have s1 : (str [c]).size = 1 := str_size _
              clear HLO HHI key hC hr
              go_wp2_with fail
              go_roundw
              case rel => exact ⟨k + 1, by omega, by go_num, by rw [HY.out], H3.allocC⟩
              case measure => simp [intOf]; omega
          · have hkC : ¬ (k : Int) < (CC : Int) := by omega
            have aY := (key c (HHI hC)).out
            have hrun := run_oneb wr b c HB.out
            have s1 : (str [c]).size = 1 := str_size _
            clear HLO HHI key hC
            go_wp2_with fail
            go_roundw
            case rel => exact ⟨k + 1, by omega, by go_num, by rw [HY.out], H3.allocC⟩
            case measure => simp [intOf]; omega
        · have hkS : ¬ (k : Int) < (N : Int) := by omega
          obtain rfl : k = N := by omega
          rw [hUp.out]
          clear hlt hL hk hUp
          go_wp2_with (first
            | (go_at_call 14; (with_reducible refine (HW.out _ H3.kp).mono ?_); (rintro e wa3 ⟨rfl, hb⟩; have G3 := H3.step hb; clear hb))
            | ((with_reducible show wpList _ _ _ (⟨some 18, .alloc _, _, _, _, _⟩ :: _) _ _); refine wp_new _ rfl 24 rfl _ z24 ?_; intro wb3 g3 B3 F3; simp only [Act.put, List.setIfInBounds_toArray, List.set_cons_zero, List.set_cons_succ])
            | ((with_reducible show wpList _ _ _ (⟨none, .store 24 (.tmp 18) (.tmp 91), _, _, _, _⟩ :: _) _ _); refine wp_putAll _ rfl 24 (.tmp 18) (.tmp 91) rfl g3 24 _ (uC u.sch u.host u.port u.path u.q u.f) rfl rfl B3 rfl n24 (uC_one _ _ _ _ _ _) ?_; intro wc3 B U; simp only [Act.put]; have H4 := G3.new F3 U B; clear B U F3 B3 G3)
            | ((with_reducible show wpList _ _ _ (⟨some 95, .load 24 (.tmp 8), _, _, _, _⟩ :: _) _ _); refine wp_getU _ (by rfl) (.tmp 8) rfl g1 u rfl (H4.at (x := (g1, uC u.sch u.host u.port u.path u.q u.f)) (by simp)) ?_; simp only [Act.put, List.setIfInBounds_toArray, List.set_cons_zero, List.set_cons_succ])
            | ((with_reducible show wpList _ _ _ (⟨some 96, .load 24 (.tmp 12), _, _, _, _⟩ :: _) _ _); refine wp_getU _ (by rfl) (.tmp 12) rfl g2 u rfl (H4.at (x := (g2, uC u.sch u.host u.port u.path u.q u.f)) (by simp)) ?_; simp only [Act.put, List.setIfInBounds_toArray, List.set_cons_zero, List.set_cons_succ])
            | ((with_reducible show wpList _ _ _ (⟨some 97, .binOp .eql 24 _ _ _, _, _, _, _⟩ :: _) _ _); refine wp_eqU _ (by rfl) (.tmp 95) (.tmp 96) rfl u u rfl rfl true ⟨fun _ => rfl, fun _ => rfl⟩ ?_; simp only [Act.put, List.setIfInBounds_toArray, List.set_cons_zero, List.set_cons_succ])
            | ((with_reducible show wpList _ _ _ (⟨some 110, .load 24 (.tmp 8), _, _, _, _⟩ :: _) _ _); refine wp_getU _ (by rfl) (.tmp 8) rfl g1 u rfl (H4.at (x := (g1, uC u.sch u.host u.port u.path u.q u.f)) (by simp)) ?_; simp only [Act.put, List.setIfInBounds_toArray, List.set_cons_zero, List.set_cons_succ])
            | ((with_reducible show wpList _ _ _ (⟨some 111, .load 24 (.tmp 18), _, _, _, _⟩ :: _) _ _); refine wp_getU _ (by rfl) (.tmp 18) rfl g3 u rfl (H4.at (x := (g3, uC u.sch u.host u.port u.path u.q u.f)) (by simp)) ?_; simp only [Act.put, List.setIfInBounds_toArray, List.set_cons_zero, List.set_cons_succ])
            | ((with_reducible show wpList _ _ _ (⟨some 112, .binOp .eql 24 _ _ _, _, _, _, _⟩ :: _) _ _); refine wp_eqU _ (by rfl) (.tmp 110) (.tmp 111) rfl u u rfl rfl true ⟨fun _ => rfl, fun _ => rfl⟩ ?_; simp only [Act.put, List.setIfInBounds_toArray, List.set_cons_zero, List.set_cons_succ]))
          go_ret
          exact ⟨by simp, H4.kp⟩
    · refine step_new8 _ rfl 24 rfl _ z24 ?_
      intro w4 g2 B2 F2
      have hbf := hS.before F2
      have hS4 := hS.step F2.below
      refine hK.out _ _ hS4 (fun _ => ?_)
      clear hK K hS
      have hS := hS4
      clear hS4 F2
      simp only [Act.put, List.setIfInBounds_toArray, List.set_cons_zero, List.set_cons_succ]
      refine wpAnyH_ready (rs := [11]) (by kernel_rfl) (by simp) ?_
      refine (AllReadyH.cons (o := ⟨some 56, _, _, _, _, _⟩) rfl (fun K hK => ?_) AllReadyH.nil)
      try go_simp
      (with_reducible refine (HV.out _ hS.kp).mono ?_)
      rintro e w3 ⟨rfl, hbw3⟩
      have hS3 := hS.step hbw3
      refine hK.out _ _ hS3 (fun _ => ?_)
      clear hK K
      try simp only [Act.put, List.setIfInBounds_toArray, List.set_cons_zero, List.set_cons_succ]
      have B3 := B2.kept hbw3
      clear hS B2 hbw3
      have hS := hS3
      clear hS3
      refine wpAnyH_take (i := 12) (oi := ⟨some 44, _, _, _, _, _⟩) (v := ?vc12) rfl (by kernel_rfl) (by kernel_rfl) (by kernel_rfl) (fun _ _ _ h => h) (Or.inl ⟨by rfl, ?yc12⟩) hS ?rc12
      case yc12 => intro W hW; go_simp; first | done | with_reducible rfl
      simp only [Act.put, List.setIfInBounds_toArray, List.set_cons_zero, List.set_cons_succ]
      refine wpAnyH_take (i := 13) (oi := ⟨some 57, _, _, _, _, _⟩) (v := ?vc13) rfl (by kernel_rfl) (by kernel_rfl) (by kernel_rfl) (fun _ _ _ h => h) (Or.inl ⟨by rfl, ?yc13⟩) hS ?rc13
      case yc13 => intro W hW; go_simp; first | done | with_reducible rfl
      simp only [Act.put, List.setIfInBounds_toArray, List.set_cons_zero, List.set_cons_succ]
      refine wpAnyH_take (i := 14) (oi := ⟨some 58, _, _, _, _, _⟩) (v := ?vc14) rfl (by kernel_rfl) (by kernel_rfl) (by kernel_rfl) (fun _ _ _ h => h) (Or.inl ⟨by rfl, ?yc14⟩) hS ?rc14
      case yc14 => intro W hW; go_simp; first | done | with_reducible rfl
      simp only [Act.put, List.setIfInBounds_toArray, List.set_cons_zero, List.set_cons_succ]
      refine wpAnyH_ready (rs := [16]) (by kernel_rfl) (by simp) ?_
      refine (AllReadyH.cons (o := ⟨none, _, _, _, _, _⟩) rfl (fun K hK => ?_) AllReadyH.nil)
      refine step_putAll _ rfl 24 (.tmp 12) (.tmp 57) rfl g2 24 _ (uC u.sch u.host u.port u.path u.q u.f) rfl rfl B3 rfl n24 (uC_one _ _ _ _ _ _) ?_
      intro w6 B6 U6
      have HH := hS.put hbf.1 hbf.2 U6 B6
      refine hK.out _ _ HH.tl (fun _ => ?_)
      clear hK K B3 B6 U6 hbf hS
      have hS := HH.tl
      simp only [Act.put]
      refine wpAnyH_take (i := 17) (oi := ⟨some 13, _, _, _, _, _⟩) (v := ?ve17) rfl (by kernel_rfl) (by kernel_rfl) (by kernel_rfl) (fun _ _ _ h => h) (Or.inl ⟨by rfl, ?ye17⟩) hS ?re17
      case ye17 => intro W hW; go_simp; first | done | with_reducible rfl
      simp only [Act.put, List.setIfInBounds_toArray, List.set_cons_zero, List.set_cons_succ]
      refine wpAnyH_done (by kernel_rfl) ?_ _
      have H2 := HH
      clear HH hS
      go_wp2_with (first
        | (go_at_call 26; (with_reducible refine (HF.out _).mono ?_); (rintro e w5 ⟨rfl, rfl⟩)))
      go_loopw [16, 15] (fun i v wr => ∃ k : Nat, k ≤ N ∧ i = .int .i64 (k : Int) ∧ v = .string (str (ups s CC k)) ∧ Hl w wr [(g2, uC u.sch u.host u.port u.path u.q u.f), (g1, uC u.sch u.host u.port u.path u.q u.f)]) (fun i _ _ => N - (intOf i).toNat)
      case atStart => exact ⟨0, by omega, rfl, by simp [ups, str], H2⟩
      case round =>
        obtain ⟨k, hk, rfl, rfl, H3⟩ := hrel
        clear H2
        have hL := hle.out k
        by_cases hlt : k < N
        · have hkS : (k : Int) < (N : Int) := by omega
          have HG := hgb.out k hlt
          have HLO := hlo.out k hlt
          have HHI := hhi.out k hlt
          obtain ⟨c, hc⟩ : ∃ c, c = s.getD k 0 := ⟨_, rfl⟩
          obtain ⟨b, hb⟩ : ∃ b, b = c.toNat := ⟨_, rfl⟩
          rw [← hc] at HG HLO HHI
          rw [← hb] at HG
          have hb9 : b < 256 := by rw [hb]; exact c.toNat_lt
          obtain ⟨A, hA⟩ : ∃ X, X = ups s CC k := ⟨_, rfl⟩
          obtain ⟨Y, hY⟩ : ∃ X, X = ups s CC (k + 1) := ⟨_, rfl⟩
          rw [← hA] at HLO HHI hL ⊢
          rw [← hY] at HLO HHI
          have sA : (str A).size ≤ 302 := by rw [str_size]; omega
          have HY := Lib.hid hY
          have HB := Lib.hid hb
          have hk1 : k + 1 ≤ N := hlt
          have key : ∀ d : UInt8, Y = A ++ [d] → Hid (str A ++ str [d] = str Y) := fun d e => by show _ = _; rw [e]; exact str_add _ _
          clear hc hb hA hY hL
          by_cases hC : k < CC
          · have hkC : (k : Int) < (CC : Int) := by omega
            have hcase : b < 97 ∨ (97 ≤ b ∧ b ≤ 122) ∨ 122 < b := by omega
            rcases hcase with hr | hr | hr
            · have c1 : decide ((97 : Int) ≤ (b : Int)) = false := by simp; omega
              have aY := (key c (by rw [HLO hC, upc_no c (by have := HB.out; omega)])).out
              have hrun := run_oneb wr b c HB.out
              have s1 : (str [c]).size = 1 := str_size _
              clear HLO HHI key hC hr
              go_wp2_with fail
              go_roundw
              case rel => exact ⟨k + 1, by omega, by go_num, by rw [HY.out], H3.allocC⟩
              case measure => simp [intOf]; omega
            · have c1 : decide ((97 : Int) ≤ (b : Int)) = true := by simp; omega
              have c2 : decide ((b : Int) ≤ 122) = true := by simp; omega
              have aY := (key (upc c) (HLO hC)).out
              have hup := upc_yes c (by have := HB.out; omega)
              rw [← HB.out] at hup
              obtain ⟨b2, hb2⟩ : ∃ b2, b2 = b - 32 := ⟨_, rfl⟩
              have hb3 : (b : Int) - 32 = (b2 : Int) := by omega
              have hb4 : IntKind.u8.wrap (b2 : Int) = (b2 : Int) := by rw [IntKind.wrap_u8]; omega
              have hrun := run_oneb wr b2 (upc c) (by rw [hb2, hup])
              have s1 : (str [upc c]).size = 1 := str_size _
              clear HLO HHI key hC hr hb2 hup
              generalize upc c = d at aY hrun s1
              go_wp2_with fail
              go_roundw
              case rel => exact ⟨k + 1, by omega, by go_num, by rw [HY.out], H3.allocC⟩
              case measure => simp [intOf]; omega
            · have c1 : decide ((97 : Int) ≤ (b : Int)) = true := by simp; omega
              have c2 : decide ((b : Int) ≤ 122) = false := by simp; omega
              have aY := (key c (by rw [HLO hC, upc_no c (by have := HB.out; omega)])).out
              have hrun := run_oneb wr b c HB.out
              have s1 : (str [c]).size = 1 := str_size _
              clear HLO HHI key hC hr
              go_wp2_with fail
              go_roundw
              case rel => exact ⟨k + 1, by omega, by go_num, by rw [HY.out], H3.allocC⟩
              case measure => simp [intOf]; omega
          · have hkC : ¬ (k : Int) < (CC : Int) := by omega
            have aY := (key c (HHI hC)).out
            have hrun := run_oneb wr b c HB.out
            have s1 : (str [c]).size = 1 := str_size _
            clear HLO HHI key hC
            go_wp2_with fail
            go_roundw
            case rel => exact ⟨k + 1, by omega, by go_num, by rw [HY.out], H3.allocC⟩
            case measure => simp [intOf]; omega
        · have hkS : ¬ (k : Int) < (N : Int) := by omega
          obtain rfl : k = N := by omega
          rw [hUp.out]
          clear hlt hL hk hUp
          go_wp2_with (first
            | (go_at_call 14; (with_reducible refine (HW.out _ H3.kp).mono ?_); (rintro e wa3 ⟨rfl, hb⟩; have G3 := H3.step hb; clear hb))
            | ((with_reducible show wpList _ _ _ (⟨some 18, .alloc _, _, _, _, _⟩ :: _) _ _); refine wp_new _ rfl 24 rfl _ z24 ?_; intro wb3 g3 B3 F3; simp only [Act.put, List.setIfInBounds_toArray, List.set_cons_zero, List.set_cons_succ])
            | ((with_reducible show wpList _ _ _ (⟨none, .store 24 (.tmp 18) (.tmp 91), _, _, _, _⟩ :: _) _ _); refine wp_putAll _ rfl 24 (.tmp 18) (.tmp 91) rfl g3 24 _ (uC u.sch u.host u.port u.path u.q u.f) rfl rfl B3 rfl n24 (uC_one _ _ _ _ _ _) ?_; intro wc3 B U; simp only [Act.put]; have H4 := G3.new F3 U B; clear B U F3 B3 G3)
            | ((with_reducible show wpList _ _ _ (⟨some 95, .load 24 (.tmp 8), _, _, _, _⟩ :: _) _ _); refine wp_getU _ (by rfl) (.tmp 8) rfl g1 u rfl (H4.at (x := (g1, uC u.sch u.host u.port u.path u.q u.f)) (by simp)) ?_; simp only [Act.put, List.setIfInBounds_toArray, List.set_cons_zero, List.set_cons_succ])
            | ((with_reducible show wpList _ _ _ (⟨some 96, .load 24 (.tmp 12), _, _, _, _⟩ :: _) _ _); refine wp_getU _ (by rfl) (.tmp 12) rfl g2 u rfl (H4.at (x := (g2, uC u.sch u.host u.port u.path u.q u.f)) (by simp)) ?_; simp only [Act.put, List.setIfInBounds_toArray, List.set_cons_zero, List.set_cons_succ])
            | ((with_reducible show wpList _ _ _ (⟨some 97, .binOp .eql 24 _ _ _, _, _, _, _⟩ :: _) _ _); refine wp_eqU _ (by rfl) (.tmp 95) (.tmp 96) rfl u u rfl rfl true ⟨fun _ => rfl, fun _ => rfl⟩ ?_; simp only [Act.put, List.setIfInBounds_toArray, List.set_cons_zero, List.set_cons_succ])
            | ((with_reducible show wpList _ _ _ (⟨some 110, .load 24 (.tmp 8), _, _, _, _⟩ :: _) _ _); refine wp_getU _ (by rfl) (.tmp 8) rfl g1 u rfl (H4.at (x := (g1, uC u.sch u.host u.port u.path u.q u.f)) (by simp)) ?_; simp only [Act.put, List.setIfInBounds_toArray, List.set_cons_zero, List.set_cons_succ])
            | ((with_reducible show wpList _ _ _ (⟨some 111, .load 24 (.tmp 18), _, _, _, _⟩ :: _) _ _); refine wp_getU _ (by rfl) (.tmp 18) rfl g3 u rfl (H4.at (x := (g3, uC u.sch u.host u.port u.path u.q u.f)) (by simp)) ?_; simp only [Act.put, List.setIfInBounds_toArray, List.set_cons_zero, List.set_cons_succ])
            | ((with_reducible show wpList _ _ _ (⟨some 112, .binOp .eql 24 _ _ _, _, _, _, _⟩ :: _) _ _); refine wp_eqU _ (by rfl) (.tmp 110) (.tmp 111) rfl u u rfl rfl true ⟨fun _ => rfl, fun _ => rfl⟩ ?_; simp only [Act.put, List.setIfInBounds_toArray, List.set_cons_zero, List.set_cons_succ]))
          go_ret
          exact ⟨by simp, H4.kp⟩
set_option maxHeartbeats 8000000 in
set_option maxRecDepth 100000 in
theorem cl_3_no (u v : U) (en em : Int) (l s0 S1 s P D X1 X2 X3 X Up : List UInt8) (n1 n2 : Int) (m N N1 k y CC : Nat) (w : World) (hm : min (l.length : Int) 300 = (m : Int)) (hm2 : m ≤ l.length) (hts : (str l).extract 0 m = str s0) (hsl : (str l).size = l.length) (a1 : ⟨#[104]⟩ ++ str s0 = str S1) (a2 : str S1 ++ ⟨#[122]⟩ = str s) (q1 : ¬ (9223372036854775807 : Nat) < 1 + (str s0).size) (q2 : ¬ (9223372036854775807 : Nat) < (str S1).size + 1) (hN : N = s.length) (hN2 : N ≤ 302) (hN1 : (N : Int) + 1 = (N1 : Int)) (hN1w : IntKind.i64.wrap (N1 : Int) = (N1 : Int)) (hy : bits .and .i64 n1 65535 = (y : Int)) (hk' : Int.tmod (y : Int) (N1 : Int) = (k : Int)) (hkN : k ≤ N) (hz : bits .and .i64 n2 3 = 3) (HS : Hid (∀ w', Kept w w' → Calls Tryz.prog 13 #[] w' fun e w2 => e = .returned (.bool true) ∧ Below w'.heap.size w' w2)) (HU : Hid (∀ w', Kept w w' → Calls Tryz.prog 14 #[.string (str s)] w' fun e w2 => e = .returned (.tuple #[.agg (uC u.sch u.host u.port u.path u.q u.f).toArray, .int .i64 en]) ∧ Below w'.heap.size w' w2)) (HV : Hid (∀ w', Kept w w' → Calls Tryz.prog 14 #[.string (str X)] w' fun e w2 => e = .returned (.tuple #[.agg (uC u.sch u.host u.port u.path u.q u.f).toArray, .int .i64 en]) ∧ Below w'.heap.size w' w2)) (HW : Hid (∀ w', Kept w w' → Calls Tryz.prog 14 #[.string (str Up)] w' fun e w2 => e = .returned (.tuple #[.agg (uC v.sch v.host v.port v.path v.q v.f).toArray, .int .i64 em]) ∧ Below w'.heap.size w' w2)) (HF : Hid (∀ w', Calls Tryz.prog 26 #[.string (str s), .int .u8 58] w' fun e w2 => e = .returned (.int .i64 (CC : Int)) ∧ w2 = w')) (t1 : (str s).extract 0 k = str P) (t2 : (str s).extract k N = str D) (b1 : ⟨#[32, 0, 10]⟩ ++ str P = str X1) (b2 : str X1 ++ ⟨#[13, 10, 9]⟩ = str X2) (b3 : str X2 ++ str D = str X3) (b4 : str X3 ++ ⟨#[9, 32, 31]⟩ = str X) (r1 : ¬ (9223372036854775807 : Nat) < 3 + (str P).size) (r2 : ¬ (9223372036854775807 : Nat) < (str X1).size + 3) (r3 : ¬ (9223372036854775807 : Nat) < (str X2).size + (str D).size) (r4 : ¬ (9223372036854775807 : Nat) < (str X3).size + 3) (hUp : Hid (ups s CC N = Up)) (hcc : ((CC : Int) == (N : Int)) = true) : Calls Tryz.prog 6 #[.string (str l), .int .i64 n1, .int .i64 n2] w fun e w' => e = .returned (.bool true) ∧ Below w.heap.size w w' := by
    have hsz := str_size s
    have hgb : Hid (∀ k, k < N → ∀ h, ((str s)[k]'h).toNat = (s.getD k 0).toNat) := fun k hk h => str_at s k (by omega) h
    have hlo : Hid (∀ k, k < N → k < CC → ups s CC (k + 1) = ups s CC k ++ [upc (s.getD k 0)]) := fun k hk h => ups_lo s CC k (by omega) h _ rfl
    have hhi : Hid (∀ k, k < N → ¬ k < CC → ups s CC (k + 1) = ups s CC k ++ [s.getD k 0]) := fun k hk h => ups_hi s CC k (by omega) h _ rfl
    have hle : Hid (∀ k, (ups s CC k).length ≤ k) := fun k => ups_len s CC k
    rw [← hN] at hsz
    clear hN
    have hee : (en == en) = true := by simp
    go_enter Tryz.func6, Tryz.ntmps6
    go_wp2_with (first
      | (go_at_call 13; (with_reducible refine (HS.out _ (Hl.nil w).kp).mono ?_); (rintro e w1 ⟨rfl, hb⟩; have H0 := (Hl.nil w).step hb; clear hb))
      | (go_at_call 14; (with_reducible refine (HU.out _ H0.kp).mono ?_); (rintro e wa1 ⟨rfl, hb⟩; have G1 := H0.step hb; clear hb))
      | ((with_reducible show wpList _ _ _ (⟨some 8, .alloc _, _, _, _, _⟩ :: _) _ _); refine wp_new _ rfl 24 rfl _ z24 ?_; intro wb1 g1 B1 F1; simp only [Act.put, List.setIfInBounds_toArray, List.set_cons_zero, List.set_cons_succ])
      | ((with_reducible show wpList _ _ _ (⟨none, .store 24 (.tmp 8) (.tmp 31), _, _, _, _⟩ :: _) _ _); refine wp_putAll _ rfl 24 (.tmp 8) (.tmp 31) rfl g1 24 _ (uC u.sch u.host u.port u.path u.q u.f) rfl rfl B1 rfl n24 (uC_one _ _ _ _ _ _) ?_; intro wc1 B U; simp only [Act.put]; have H1 := G1.new F1 U B; clear B U F1 B1 G1))
    have H1a := H1.allocC (o := .cells #[.string ⟨#[9]⟩, .string ⟨#[10]⟩, .string ⟨#[13]⟩, .string ⟨#[13, 10, 9]⟩] 9)
    refine wp_region_held_drew (S := fun W => Hl w W [(g1, uC u.sch u.host u.port u.path u.q u.f)]) (by kernel_rfl) (H1a.step (Below.refl _ _).drew) (fun hS => ?_)
    clear H0 H1 H1a
    refine wpAnyH_take (i := 0) (oi := ⟨some 45, _, _, _, _, _⟩) (v := ?va0) rfl (by kernel_rfl) (by kernel_rfl) (by kernel_rfl) (fun _ _ _ h => h) (Or.inl ⟨by rfl, ?ya0⟩) hS ?ra0
    case ya0 => intro W hW; go_simp; first | done | with_reducible rfl
    simp only [Act.put, List.setIfInBounds_toArray, List.set_cons_zero, List.set_cons_succ]
    refine wpAnyH_take (i := 1) (oi := ⟨some 46, _, _, _, _, _⟩) (v := ?va1) rfl (by kernel_rfl) (by kernel_rfl) (by kernel_rfl) (fun _ _ _ h => h) (Or.inl ⟨by rfl, ?ya1⟩) hS ?ra1
    case ya1 => intro W hW; go_simp; first | done | with_reducible rfl
    simp only [Act.put, List.setIfInBounds_toArray, List.set_cons_zero, List.set_cons_succ]
    refine wpAnyH_take (i := 2) (oi := ⟨some 47, _, _, _, _, _⟩) (v := ?va2) rfl (by kernel_rfl) (by kernel_rfl) (by kernel_rfl) (fun _ _ _ h => h) (Or.inl ⟨by rfl, ?ya2⟩) hS ?ra2
    case ya2 => intro W hW; go_simp; first | done | with_reducible rfl
    simp only [Act.put, List.setIfInBounds_toArray, List.set_cons_zero, List.set_cons_succ]
    refine wpAnyH_take (i := 3) (oi := ⟨some 48, _, _, _, _, _⟩) (v := ?va3) rfl (by kernel_rfl) (by kernel_rfl) (by kernel_rfl) (fun _ _ _ h => h) (Or.inl ⟨by rfl, ?ya3⟩) hS ?ra3
    case ya3 => intro W hW; go_simp; first | done | with_reducible rfl
    simp only [Act.put, List.setIfInBounds_toArray, List.set_cons_zero, List.set_cons_succ]
    refine wpAnyH_take (i := 4) (oi := ⟨some 49, _, _, _, _, _⟩) (v := ?va4) rfl (by kernel_rfl) (by kernel_rfl) (by kernel_rfl) (fun _ _ _ h => h) (Or.inl ⟨by rfl, ?ya4⟩) hS ?ra4
    case ya4 => intro W hW; go_simp; first | done | with_reducible rfl
    simp only [Act.put, List.setIfInBounds_toArray, List.set_cons_zero, List.set_cons_succ]
    refine wpAnyH_take (i := 5) (oi := ⟨some 50, _, _, _, _, _⟩) (v := ?va5) rfl (by kernel_rfl) (by kernel_rfl) (by kernel_rfl) (fun _ _ _ h => h) (Or.inl ⟨by rfl, ?ya5⟩) hS ?ra5
    case ya5 => intro W hW; go_simp; first | done | with_reducible rfl
    simp only [Act.put, List.setIfInBounds_toArray, List.set_cons_zero, List.set_cons_succ]
    refine wpAnyH_take (i := 6) (oi := ⟨some 51, _, _, _, _, _⟩) (v := ?va6) rfl (by kernel_rfl) (by kernel_rfl) (by kernel_rfl) (fun _ _ _ h => h) (Or.inl ⟨by rfl, ?ya6⟩) hS ?ra6
    case ya6 => intro W hW; go_simp; first | done | with_reducible rfl
    simp only [Act.put, List.setIfInBounds_toArray, List.set_cons_zero, List.set_cons_succ]
    refine wpAnyH_take (i := 7) (oi := ⟨some 52, _, _, _, _, _⟩) (v := ?va7) rfl (by kernel_rfl) (by kernel_rfl) (by kernel_rfl) (fun _ _ _ h => h) (Or.inl ⟨by rfl, ?ya7⟩) hS ?ra7
    case ya7 => intro W hW; go_simp; first | done | with_reducible rfl
    simp only [Act.put, List.setIfInBounds_toArray, List.set_cons_zero, List.set_cons_succ]
    refine wpAnyH_take (i := 8) (oi := ⟨some 53, _, _, _, _, _⟩) (v := ?va8) rfl (by kernel_rfl) (by kernel_rfl) (by kernel_rfl) (fun _ _ _ h => h) (Or.inl ⟨by rfl, ?ya8⟩) hS ?ra8
    case ya8 => intro W hW; go_simp; first | done | with_reducible rfl
    simp only [Act.put, List.setIfInBounds_toArray, List.set_cons_zero, List.set_cons_succ]
    refine wpAnyH_take (i := 9) (oi := ⟨some 54, _, _, _, _, _⟩) (v := ?va9) rfl (by kernel_rfl) (by kernel_rfl) (by kernel_rfl) (fun _ _ _ h => h) (Or.inl ⟨by rfl, ?ya9⟩) hS ?ra9
    case ya9 => intro W hW; go_simp; first | done | with_reducible rfl
    simp only [Act.put, List.setIfInBounds_toArray, List.set_cons_zero, List.set_cons_succ]
    refine wpAnyH_take (i := 10) (oi := ⟨some 55, _, _, _, _, _⟩) (v := ?va10) rfl (by kernel_rfl) (by kernel_rfl) (by kernel_rfl) (fun _ _ _ h => h) (Or.inl ⟨by rfl, ?ya10⟩) hS ?ra10
    case ya10 => intro W hW; go_simp; first | done | with_reducible rfl
    simp only [Act.put, List.setIfInBounds_toArray, List.set_cons_zero, List.set_cons_succ]
    refine wpAnyH_ready (rs := [11, 15]) (by kernel_rfl) (by simp) ?_
    refine (AllReadyH.cons (o := ⟨some 56, _, _, _, _, _⟩) rfl (fun K hK => ?_) (AllReadyH.cons (o := ⟨some 12, _, _, _, _, _⟩) rfl (fun K hK => ?_) AllReadyH.nil))
    · try go_simp
      (with_reducible refine (HV.out _ hS.kp).mono ?_)
      rintro e w3 ⟨rfl, hbw3⟩
      have hS3 := hS.step hbw3
      refine hK.out _ _ hS3 (fun _ => ?_)
      clear hK K
      try simp only [Act.put, List.setIfInBounds_toArray, List.set_cons_zero, List.set_cons_succ]
      clear hS
      have hS := hS3
      clear hS3
      refine wpAnyH_take (i := 12) (oi := ⟨some 44, _, _, _, _, _⟩) (v := ?vb12) rfl (by kernel_rfl) (by kernel_rfl) (by kernel_rfl) (fun _ _ _ h => h) (Or.inl ⟨by rfl, ?yb12⟩) hS ?rb12
      case yb12 => intro W hW; go_simp; first | done | with_reducible rfl
      simp only [Act.put, List.setIfInBounds_toArray, List.set_cons_zero, List.set_cons_succ]
      refine wpAnyH_take (i := 13) (oi := ⟨some 57, _, _, _, _, _⟩) (v := ?vb13) rfl (by kernel_rfl) (by kernel_rfl) (by kernel_rfl) (fun _ _ _ h => h) (Or.inl ⟨by rfl, ?yb13⟩) hS ?rb13
      case yb13 => intro W hW; go_simp; first | done | with_reducible rfl
      simp only [Act.put, List.setIfInBounds_toArray, List.set_cons_zero, List.set_cons_succ]
      refine wpAnyH_take (i := 14) (oi := ⟨some 58, _, _, _, _, _⟩) (v := ?vb14) rfl (by kernel_rfl) (by kernel_rfl) (by kernel_rfl) (fun _ _ _ h => h) (Or.inl ⟨by rfl, ?yb14⟩) hS ?rb14
      case yb14 => intro W hW; go_simp; first | done | with_reducible rfl
      simp only [Act.put, List.setIfInBounds_toArray, List.set_cons_zero, List.set_cons_succ]
      refine wpAnyH_ready (rs := [15]) (by kernel_rfl) (by simp) ?_
      refine (AllReadyH.cons (o := ⟨some 12, _, _, _, _, _⟩) rfl (fun K hK => ?_) AllReadyH.nil)
      refine step_new8 _ rfl 24 rfl _ z24 ?_
      intro w4 g2 B2 F2
      have hS4 := hS.step F2.below
      refine hK.out _ _ hS4 (fun _ => ?_)
      clear hK K
      simp only [Act.put, List.setIfInBounds_toArray, List.set_cons_zero, List.set_cons_succ]
      refine wpAnyH_ready (rs := [16]) (by kernel_rfl) (by simp) ?_
      refine (AllReadyH.cons (o := ⟨none, _, _, _, _, _⟩) rfl (fun K hK => ?_) AllReadyH.nil)
      refine step_putAll _ rfl 24 (.tmp 12) (.tmp 57) rfl g2 24 _ (uC u.sch u.host u.port u.path u.q u.f) rfl rfl B2 rfl n24 (uC_one _ _ _ _ _ _) ?_
      intro w6 B6 U6
      have HH := hS.new F2 U6 B6
      refine hK.out _ _ HH.tl (fun _ => ?_)
      clear hK K hS4 B2 F2 B6 U6 hS
      have hS := HH.tl
      simp only [Act.put]
      refine wpAnyH_take (i := 17) (oi := ⟨some 13, _, _, _, _, _⟩) (v := ?vd17) rfl (by kernel_rfl) (by kernel_rfl) (by kernel_rfl) (fun _ _ _ h => h) (Or.inl ⟨by rfl, ?yd17⟩) hS ?rd17
      case yd17 => intro W hW; go_simp; first | done | with_reducible rfl
      simp only [Act.put, List.setIfInBounds_toArray, List.set_cons_zero, List.set_cons_succ]
      refine wpAnyH_done (by kernel_rfl) ?_ _
      have H2 := HH
      clear HH hS
      go_wp2_with (first
        | (go_at_call 26; (with_reducible refine (HF.out _).mono ?_); (rintro e w5 ⟨rfl, rfl⟩)))
      go_loopw [16, 15] (fun i v wr => ∃ k : Nat, k ≤ N ∧ i = .int .i64 (k : Int) ∧ v = .string (str (ups s CC k)) ∧ Hl w wr [(g2, uC u.sch u.host u.port u.path u.q u.f), (g1, uC u.sch u.host u.port u.path u.q u.f)]) (fun i _ _ => N - (intOf i).toNat)
      case atStart => exact ⟨0, by omega, rfl, by simp [ups, str], H2⟩
      case round =>
        obtain ⟨k, hk, rfl, rfl, H3⟩ := hrel
        clear H2
        have hL := hle.out k
        by_cases hlt : k < N
        · have hkS : (k : Int) < (N : Int) := by omega
          have HG := hgb.out k hlt
          have HLO := hlo.out k hlt
          have HHI := hhi.out k hlt
          obtain ⟨c, hc⟩ : ∃ c, c = s.getD k 0 := ⟨_, rfl⟩
          obtain ⟨b, hb⟩ : ∃ b, b = c.toNat := ⟨_, rfl⟩
          rw [← hc] at HG HLO HHI
          rw [← hb] at HG
          have hb9 : b < 256 := by rw [hb]; exact c.toNat_lt
          obtain ⟨A, hA⟩ : ∃ X, X = ups s CC k := ⟨_, rfl⟩
          obtain ⟨Y, hY⟩ : ∃ X, X = ups s CC (k + 1) := ⟨_, rfl⟩
          rw [← hA] at HLO HHI hL ⊢
          rw [← hY] at HLO HHI
          have sA : (str A).size ≤ 302 := by rw [str_size]; omega
          have HY := Lib.hid hY
          have HB := Lib.hid hb
          have hk1 : k + 1 ≤ N := hlt
          have key : ∀ d : UInt8, Y = A ++ [d] → Hid (str A ++ str [d] = str Y) := fun d e => by show _ = _; rw [e]; exact str_add _ _
          clear hc hb hA hY hL
          by_cases hC : k < CC
          · have hkC : (k : Int) < (CC : Int) := by omega
            have hcase : b < 97 ∨ (97 ≤ b ∧ b ≤ 122) ∨ 122 < b := by omega
            rcases hcase with hr | hr | hr
            · have c1 : decide ((97 : Int) ≤ (b : Int)) = false := by simp; omega
              have aY := (key c (by rw [HLO hC, upc_no c (by have := HB.out; omega)])).out
              have hrun := run_oneb wr b c HB.out
              have s1 : (str [c]).size = 1 := str_size _
              clear HLO HHI key hC hr
              go_wp2_with fail
              go_roundw
              case rel => exact ⟨k + 1, by omega, by go_num, by rw [HY.out], H3.allocC⟩
              case measure => simp [intOf]; omega
            · have c1 : decide ((97 : Int) ≤ (b : Int)) = true := by simp; omega
              have c2 : decide ((b : Int) ≤ 122) = true := by simp; omega
              have aY := (key (upc c) (HLO hC)).out
              have hup := upc_yes c (by have := HB.out; omega)
              rw [← HB.out] at hup
              obtain ⟨b2, hb2⟩ : ∃ b2, b2 = b - 32 := ⟨_, rfl⟩
              have hb3 : (b : Int) - 32 = (b2 : Int) := by omega
              have hb4 : IntKind.u8.wrap (b2 : Int) = (b2 : Int) := by rw [IntKind.wrap_u8]; omega
              have hrun := run_oneb wr b2 (upc c) (by rw [hb2, hup])
              have s1 : (str [upc c]).size = 1 := str_size _
              clear HLO HHI key hC hr hb2 hup
              generalize upc c = d at aY hrun s1
              go_wp2_with fail
              go_roundw
              case rel => exact ⟨k + 1, by omega, by go_num, by rw [HY.out], H3.allocC⟩
              case measure => simp [intOf]; omega
            · have c1 : decide ((97 : Int) ≤ (b : Int)) = true := by simp; omega
              have c2 : decide ((b : Int) ≤ 122) = false := by simp; omega
              have aY := (key c (by rw [HLO hC, upc_no c (by have := HB.out; omega)])).out
              have hrun := run_oneb wr b c HB.out
              have s1 : (str [c]).size = 1 := str_size _
              clear HLO HHI key hC hr
              go_wp2_with fail
              go_roundw
              case rel => exact ⟨k + 1, by omega, by go_num, by rw [HY.out], H3.allocC⟩
              case measure => simp [intOf]; omega
          · have hkC : ¬ (k : Int) < (CC : Int) := by omega
            have aY := (key c (HHI hC)).out
            have hrun := run_oneb wr b c HB.out
            have s1 : (str [c]).size = 1 := str_size _
            clear HLO HHI key hC
            go_wp2_with fail
            go_roundw
            case rel => exact ⟨k + 1, by omega, by go_num, by rw [HY.out], H3.allocC⟩
            case measure => simp [intOf]; omega
        · have hkS : ¬ (k : Int) < (N : Int) := by omega
          obtain rfl : k = N := by omega
          rw [hUp.out]
          clear hlt hL hk hUp
          go_wp2_with (first
            | (go_at_call 14; (with_reducible refine (HW.out _ H3.kp).mono ?_); (rintro e wa3 ⟨rfl, hb⟩; have G3 := H3.step hb; clear hb))
            | ((with_reducible show wpList _ _ _ (⟨some 18, .alloc _, _, _, _, _⟩ :: _) _ _); refine wp_new _ rfl 24 rfl _ z24 ?_; intro wb3 g3 B3 F3; simp only [Act.put, List.setIfInBounds_toArray, List.set_cons_zero, List.set_cons_succ])
            | ((with_reducible show wpList _ _ _ (⟨none, .store 24 (.tmp 18) (.tmp 91), _, _, _, _⟩ :: _) _ _); refine wp_putAll _ rfl 24 (.tmp 18) (.tmp 91) rfl g3 24 _ (uC v.sch v.host v.port v.path v.q v.f) rfl rfl B3 rfl n24 (uC_one _ _ _ _ _ _) ?_; intro wc3 B U; simp only [Act.put]; have H4 := G3.new F3 U B; clear B U F3 B3 G3)
            | ((with_reducible show wpList _ _ _ (⟨some 95, .load 24 (.tmp 8), _, _, _, _⟩ :: _) _ _); refine wp_getU _ (by rfl) (.tmp 8) rfl g1 u rfl (H4.at (x := (g1, uC u.sch u.host u.port u.path u.q u.f)) (by simp)) ?_; simp only [Act.put, List.setIfInBounds_toArray, List.set_cons_zero, List.set_cons_succ])
            | ((with_reducible show wpList _ _ _ (⟨some 96, .load 24 (.tmp 12), _, _, _, _⟩ :: _) _ _); refine wp_getU _ (by rfl) (.tmp 12) rfl g2 u rfl (H4.at (x := (g2, uC u.sch u.host u.port u.path u.q u.f)) (by simp)) ?_; simp only [Act.put, List.setIfInBounds_toArray, List.set_cons_zero, List.set_cons_succ])
            | ((with_reducible show wpList _ _ _ (⟨some 97, .binOp .eql 24 _ _ _, _, _, _, _⟩ :: _) _ _); refine wp_eqU _ (by rfl) (.tmp 95) (.tmp 96) rfl u u rfl rfl true ⟨fun _ => rfl, fun _ => rfl⟩ ?_; simp only [Act.put, List.setIfInBounds_toArray, List.set_cons_zero, List.set_cons_succ]))
          go_ret
          exact ⟨by simp, H4.kp⟩
    · refine step_new8 _ rfl 24 rfl _ z24 ?_
      intro w4 g2 B2 F2
      have hbf := hS.before F2
      have hS4 := hS.step F2.below
      refine hK.out _ _ hS4 (fun _ => ?_)
      clear hK K hS
      have hS := hS4
      clear hS4 F2
      simp only [Act.put, List.setIfInBounds_toArray, List.set_cons_zero, List.set_cons_succ]
      refine wpAnyH_ready (rs := [11]) (by kernel_rfl) (by simp) ?_
      refine (AllReadyH.cons (o := ⟨some 56, _, _, _, _, _⟩) rfl (fun K hK => ?_) AllReadyH.nil)
      try go_simp
      (with_reducible refine (HV.out _ hS.kp).mono ?_)
      rintro e w3 ⟨rfl, hbw3⟩
      have hS3 := hS.step hbw3
      refine hK.out _ _ hS3 (fun _ => ?_)
      clear hK K
      try simp only [Act.put, List.setIfInBounds_toArray, List.set_cons_zero, List.set_cons_succ]
      have B3 := B2.kept hbw3
      clear hS B2 hbw3
      have hS := hS3
      clear hS3
      refine wpAnyH_take (i := 12) (oi := ⟨some 44, _, _, _, _, _⟩) (v := ?vc12) rfl (by kernel_rfl) (by kernel_rfl) (by kernel_rfl) (fun _ _ _ h => h) (Or.inl ⟨by rfl, ?yc12⟩) hS ?rc12
      case yc12 => intro W hW; go_simp; first | done | with_reducible rfl
      simp only [Act.put, List.setIfInBounds_toArray, List.set_cons_zero, List.set_cons_succ]
      refine wpAnyH_take (i := 13) (oi := ⟨some 57, _, _, _, _, _⟩) (v := ?vc13) rfl (by kernel_rfl) (by kernel_rfl) (by kernel_rfl) (fun _ _ _ h => h) (Or.inl ⟨by rfl, ?yc13⟩) hS ?rc13
      case yc13 => intro W hW; go_simp; first | done | with_reducible rfl
      simp only [Act.put, List.setIfInBounds_toArray, List.set_cons_zero, List.set_cons_succ]
      refine wpAnyH_take (i := 14) (oi := ⟨some 58, _, _, _, _, _⟩) (v := ?vc14) rfl (by kernel_rfl) (by kernel_rfl) (by kernel_rfl) (fun _ _ _ h => h) (Or.inl ⟨by rfl, ?yc14⟩) hS ?rc14
      case yc14 => intro W hW; go_simp; first | done | with_reducible rfl
      simp only [Act.put, List.setIfInBounds_toArray, List.set_cons_zero, List.set_cons_succ]
      refine wpAnyH_ready (rs := [16]) (by kernel_rfl) (by simp) ?_
      refine (AllReadyH.cons (o := ⟨none, _, _, _, _, _⟩) rfl (fun K hK => ?_) AllReadyH.nil)
      refine step_putAll _ rfl 24 (.tmp 12) (.tmp 57) rfl g2 24 _ (uC u.sch u.host u.port u.path u.q u.f) rfl rfl B3 rfl n24 (uC_one _ _ _ _ _ _) ?_
      intro w6 B6 U6
      have HH := hS.put hbf.1 hbf.2 U6 B6
      refine hK.out _ _ HH.tl (fun _ => ?_)
      clear hK K B3 B6 U6 hbf hS
      have hS := HH.tl
      simp only [Act.put]
      refine wpAnyH_take (i := 17) (oi := ⟨some 13, _, _, _, _, _⟩) (v := ?ve17) rfl (by kernel_rfl) (by kernel_rfl) (by kernel_rfl) (fun _ _ _ h => h) (Or.inl ⟨by rfl, ?ye17⟩) hS ?re17
      case ye17 => intro W hW; go_simp; first | done | with_reducible rfl
      simp only [Act.put, List.setIfInBounds_toArray, List.set_cons_zero, List.set_cons_succ]
      refine wpAnyH_done (by kernel_rfl) ?_ _
      have H2 := HH
      clear HH hS
      go_wp2_with (first
        | (go_at_call 26; (with_reducible refine (HF.out _).mono ?_); (rintro e w5 ⟨rfl, rfl⟩)))
      go_loopw [16, 15] (fun i v wr => ∃ k : Nat, k ≤ N ∧ i = .int .i64 (k : Int) ∧ v = .string (str (ups s CC k)) ∧ Hl w wr [(g2, uC u.sch u.host u.port u.path u.q u.f), (g1, uC u.sch u.host u.port u.path u.q u.f)]) (fun i _ _ => N - (intOf i).toNat)
      case atStart => exact ⟨0, by omega, rfl, by simp [ups, str], H2⟩
      case round =>
        obtain ⟨k, hk, rfl, rfl, H3⟩ := hrel
        clear H2
        have hL := hle.out k
        by_cases hlt : k < N
        · have hkS : (k : Int) < (N : Int) := by omega
          have HG := hgb.out k hlt
          have HLO := hlo.out k hlt
          have HHI := hhi.out k hlt
          obtain ⟨c, hc⟩ : ∃ c, c = s.getD k 0 := ⟨_, rfl⟩
          obtain ⟨b, hb⟩ : ∃ b, b = c.toNat := ⟨_, rfl⟩
          rw [← hc] at HG HLO HHI
          rw [← hb] at HG
          have hb9 : b < 256 := by rw [hb]; exact c.toNat_lt
          obtain ⟨A, hA⟩ : ∃ X, X = ups s CC k := ⟨_, rfl⟩
          obtain ⟨Y, hY⟩ : ∃ X, X = ups s CC (k + 1) := ⟨_, rfl⟩
          rw [← hA] at HLO HHI hL ⊢
          rw [← hY] at HLO HHI
          have sA : (str A).size ≤ 302 := by rw [str_size]; omega
          have HY := Lib.hid hY
          have HB := Lib.hid hb
          have hk1 : k + 1 ≤ N := hlt
          have key : ∀ d : UInt8, Y = A ++ [d] → Hid (str A ++ str [d] = str Y) := fun d e => by show _ = _; rw [e]; exact str_add _ _
          clear hc hb hA hY hL
          by_cases hC : k < CC
          · have hkC : (k : Int) < (CC : Int) := by omega
            have hcase : b < 97 ∨ (97 ≤ b ∧ b ≤ 122) ∨ 122 < b := by omega
            rcases hcase with hr | hr | hr
            · have c1 : decide ((97 : Int) ≤ (b : Int)) = false := by simp; omega
              have aY := (key c (by rw [HLO hC, upc_no c (by have := HB.out; omega)])).out
              have hrun := run_oneb wr b c HB.out
              have s1 : (str [c]).size = 1 := str_size _
              clear HLO HHI key hC hr
              go_wp2_with fail
              go_roundw
              case rel => exact ⟨k + 1, by omega, by go_num, by rw [HY.out], H3.allocC⟩
              case measure => simp [intOf]; omega
            · have c1 : decide ((97 : Int) ≤ (b : Int)) = true := by simp; omega
              have c2 : decide ((b : Int) ≤ 122) = true := by simp; omega
              have aY := (key (upc c) (HLO hC)).out
              have hup := upc_yes c (by have := HB.out; omega)
              rw [← HB.out] at hup
              obtain ⟨b2, hb2⟩ : ∃ b2, b2 = b - 32 := ⟨_, rfl⟩
              have hb3 : (b : Int) - 32 = (b2 : Int) := by omega
              have hb4 : IntKind.u8.wrap (b2 : Int) = (b2 : Int) := by rw [IntKind.wrap_u8]; omega
              have hrun := run_oneb wr b2 (upc c) (by rw [hb2, hup])
              have s1 : (str [upc c]).size = 1 := str_size _
              clear HLO HHI key hC hr hb2 hup
              generalize upc c = d at aY hrun s1
              go_wp2_with fail
              go_roundw
              case rel => exact ⟨k + 1, by omega, by go_num, by rw [HY.out], H3.allocC⟩
              case measure => simp [intOf]; omega
            · have c1 : decide ((97 : Int) ≤ (b : Int)) = true := by simp; omega
              have c2 : decide ((b : Int) ≤ 122) = false := by simp; omega
              have aY := (key c (by rw [HLO hC, upc_no c (by have := HB.out; omega)])).out
              have hrun := run_oneb wr b c HB.out
              have s1 : (str [c]).size = 1 := str_size _
              clear HLO HHI key hC hr
              go_wp2_with fail
              go_roundw
              case rel => exact ⟨k + 1, by omega, by go_num, by rw [HY.out], H3.allocC⟩
              case measure => simp [intOf]; omega
          · have hkC : ¬ (k : Int) < (CC : Int) := by omega
            have aY := (key c (HHI hC)).out
            have hrun := run_oneb wr b c HB.out
            have s1 : (str [c]).size = 1 := str_size _
            clear HLO HHI key hC
            go_wp2_with fail
            go_roundw
            case rel => exact ⟨k + 1, by omega, by go_num, by rw [HY.out], H3.allocC⟩
            case measure => simp [intOf]; omega
        · have hkS : ¬ (k : Int) < (N : Int) := by omega
          obtain rfl : k = N := by omega
          rw [hUp.out]
          clear hlt hL hk hUp
          go_wp2_with (first
            | (go_at_call 14; (with_reducible refine (HW.out _ H3.kp).mono ?_); (rintro e wa3 ⟨rfl, hb⟩; have G3 := H3.step hb; clear hb))
            | ((with_reducible show wpList _ _ _ (⟨some 18, .alloc _, _, _, _, _⟩ :: _) _ _); refine wp_new _ rfl 24 rfl _ z24 ?_; intro wb3 g3 B3 F3; simp only [Act.put, List.setIfInBounds_toArray, List.set_cons_zero, List.set_cons_succ])
            | ((with_reducible show wpList _ _ _ (⟨none, .store 24 (.tmp 18) (.tmp 91), _, _, _, _⟩ :: _) _ _); refine wp_putAll _ rfl 24 (.tmp 18) (.tmp 91) rfl g3 24 _ (uC v.sch v.host v.port v.path v.q v.f) rfl rfl B3 rfl n24 (uC_one _ _ _ _ _ _) ?_; intro wc3 B U; simp only [Act.put]; have H4 := G3.new F3 U B; clear B U F3 B3 G3)
            | ((with_reducible show wpList _ _ _ (⟨some 95, .load 24 (.tmp 8), _, _, _, _⟩ :: _) _ _); refine wp_getU _ (by rfl) (.tmp 8) rfl g1 u rfl (H4.at (x := (g1, uC u.sch u.host u.port u.path u.q u.f)) (by simp)) ?_; simp only [Act.put, List.setIfInBounds_toArray, List.set_cons_zero, List.set_cons_succ])
            | ((with_reducible show wpList _ _ _ (⟨some 96, .load 24 (.tmp 12), _, _, _, _⟩ :: _) _ _); refine wp_getU _ (by rfl) (.tmp 12) rfl g2 u rfl (H4.at (x := (g2, uC u.sch u.host u.port u.path u.q u.f)) (by simp)) ?_; simp only [Act.put, List.setIfInBounds_toArray, List.set_cons_zero, List.set_cons_succ])
            | ((with_reducible show wpList _ _ _ (⟨some 97, .binOp .eql 24 _ _ _, _, _, _, _⟩ :: _) _ _); refine wp_eqU _ (by rfl) (.tmp 95) (.tmp 96) rfl u u rfl rfl true ⟨fun _ => rfl, fun _ => rfl⟩ ?_; simp only [Act.put, List.setIfInBounds_toArray, List.set_cons_zero, List.set_cons_succ]))
          go_ret
          exact ⟨by simp, H4.kp⟩
end Go.Proofs.YtcepigekibidfaaGreatDoor
