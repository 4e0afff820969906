/-
  What host.brackets answers: an IPv6 as it is written; nothing that was there turns. Condition: eight pieces below 65536; the library's tables.
-/
import Derived.Test.YtcfgcakmffkpmaaDoorClo
namespace Go.Proofs.YtcfgcakmffkpmaaDoor
open Go.RowKit

/-- An IPv6 as it is written, without brackets. -/
def text6 (a : List Nat) : List UInt8 := hxs (fun j => a.getD j 0) (longest a).1 ++ (if (longest a).1 < (longest a).2 then [58, 58] else []) ++ hxs (fun j => a.getD ((longest a).2 + j) 0) (8 - (longest a).2)
def brk (a : List Nat) : List UInt8 := [91] ++ text6 a ++ [93]

theorem slice38h (w : World) (g q : Nat) (h : q ≤ 8) : (Instr.sliceAt 38 (.pointer (some ⟨g, 0, none⟩)) none (some (.int .i64 (q : Int))) none).run Tryd.prog w = .ok (.slice (some ⟨g, 0, none⟩) q 8) w := by
  have hsz : ∀ w, (sizeOf 37).run Tryd.prog w = .ok 1 w := fun w => Tryd.sizeOf37 w
  simp [Instr.sliceAt, run_underlying Tryd.underlying38, Instr.sureAddr, Instr.sliceBounds, Instr.sliceBound, asIntOf, hsz, h, Addr.add_lit]
theorem bs_two (w : World) (x y : Int) (a b : UInt8) (hx : x = (a.toNat : Int)) (hy : y = (b.toNat : Int)) : Bs (w.alloc (.cells #[.int .u8 x, .int .u8 y] 5)) (w.heap.size + 1) (some ⟨w.heap.size, 0, none⟩) 2 [a, b] := by
  subst hx hy
  have := Bs.new w [a, b] #[vb a, vb b] rfl 2 rfl
  simpa [vb] using this
theorem own_one (w : World) (base : Nat) (hb : base ≤ w.heap.size) : Own (w.alloc (.cells #[.int .u8 91] 5)) base (.slice (some ⟨w.heap.size, 0, none⟩) 1 1) 1 [91] :=
  ⟨rfl, .inr ⟨w.heap.size, 1, #[.int .u8 91], rfl, hb, Go.heap_alloc_new w _, Nat.le_refl _, by decide, rfl, rfl⟩⟩
theorem Cl.step {w0 : World} {g1 g3 : Nat} {C : List Value} {w w' : World} {v : Value} {n : Nat} {L : List UInt8} (h : Cl w0 g1 g3 C w v n L) (hb : Below w.heap.size w w') : Cl w0 g1 g3 C w' v n L :=
  ⟨h.kept.step hb, h.arr.kept hb, h.var.kept hb, h.own.kept hb⟩
theorem Cl.size {w0 : World} {g1 g3 : Nat} {C : List Value} {w : World} {v : Value} {n : Nat} {L : List UInt8} (h : Cl w0 g1 g3 C w v n L) : w0.heap.size ≤ w.heap.size := h.kept.size
theorem cl_start {w0 w1 : World} {g1 : Nat} {C : List Value} (hk : Kept w0 w1) (hb : Blk w1 g1 38 C) :
    Cl w0 g1 (w1.heap.size + 1) C ((w1.alloc (.cells #[.int .u8 91] 5)).alloc (.cells #[.slice (some ⟨w1.heap.size, 0, none⟩) 1 1] 39)) (.slice (some ⟨w1.heap.size, 0, none⟩) 1 1) 1 [91] := by
  refine ⟨(hk.alloc _).alloc _, (hb.alloc _).alloc _, ?_, (own_one w1 w0.heap.size hk.size).alloc _⟩
  have h := Blk.new (w1.alloc (.cells #[.int .u8 91] 5)) 39 [.slice (some ⟨w1.heap.size, 0, none⟩) 1 1]
  simpa using h
/-- Bytes behind, the slice put back into the text's variable. -/
theorem Cl.set {w0 : World} {g1 g3 : Nat} {C : List Value} {w w4 w5 : World} {v v4 : Value} {n n' : Nat} {L L' : List UInt8} (h : Cl w0 g1 g3 C w v n L) (hg : w0.heap.size ≤ g3) (hb : Below w0.heap.size w w4) (hk : KeepsBut 5 w w4) (hown : Own w4 w0.heap.size v4 n' L') (B5 : Blk w5 g3 39 [v4]) (U5 : Upd g3 w4 w5) : Cl w0 g1 g3 C w5 v4 n' L' := by
  have hne : g1 ≠ g3 := by
    intro e
    subst e
    have h1 : w.heap[g1]? = _ := h.arr
    have h2 : w.heap[g1]? = _ := h.var
    rw [h1] at h2
    cases h2
  exact ⟨(h.kept.base hb).base (U5.below hg), (h.arr.but hk (by decide)).upd U5 hne, B5, hown.upd U5 (h.var.but hk (by decide)) (by decide)⟩
theorem hg3_of {w w1 : World} (h : w.heap.size ≤ w1.heap.size) : w.heap.size ≤ w1.heap.size + 1 := by omega
theorem below_alloc (w : World) (o : Obj) : Below w.heap.size w (w.alloc o) := (Below.refl _ _).alloc (Nat.le_refl _) _
theorem type39 : (Tryd.prog.info? 39).map (fun i => i.zero) = some (some (.slice none 0 0)) := by kernel_rfl

set_option maxHeartbeats 8000000 in
set_option maxRecDepth 100000 in
theorem brk_any (a : List Nat) (ha : a.length = 8) (hlt : ∀ x ∈ a, x < 65536) (w : World) (ht : Tabs w) : Calls Tryd.prog 33 #[.agg (vhs a).toArray] w fun e w' => e = .returned (.string (str (brk a))) ∧ Below w.heap.size w w' := by
  have HL := Lib.hid (fun w => longest_any a ha w)
  have hle := longest_le a ha
  have hR : Hid (brk a = [91] ++ (hxs (fun j => a.getD j 0) (longest a).1 ++ (if (longest a).1 < (longest a).2 then [58, 58] else []) ++ hxs (fun j => a.getD ((longest a).2 + j) 0) (8 - (longest a).2)) ++ [93]) := rfl
  obtain ⟨R, hR'⟩ : ∃ R, R = brk a := ⟨_, rfl⟩
  rw [← hR'] at hR ⊢
  obtain ⟨fr, hfr⟩ : ∃ f, f = (longest a).1 := ⟨_, rfl⟩
  obtain ⟨to, hto⟩ : ∃ f, f = (longest a).2 := ⟨_, rfl⟩
  rw [← hfr, ← hto] at hR hle HL
  have hs38 := Lib.hid (size38' a ha)
  have hx : Hid (∀ i, a.getD i 0 < 65536) := fun i => by
    rw [List.getD_eq_getElem?_getD]
    cases h : a[i]? with
    | none => simp
    | some y => exact hlt y (List.mem_of_getElem? h)
  have hC1 : Hid (∀ j, j < fr → (vhs a)[0 + j]? = some (.int .u16 ((a.getD j 0 : Nat) : Int))) := fun j hj => by rw [Nat.zero_add]; exact vhs_at a j (by omega)
  have hC2 : Hid (∀ j, j < 8 - to → (vhs a)[to + j]? = some (.int .u16 ((a.getD (to + j) 0 : Nat) : Int))) := fun j hj => vhs_at a (to + j) (by omega)
  have hx2 : Hid (∀ i, a.getD (to + i) 0 < 65536) := fun i => hx.out (to + i)
  have HT := Lib.hid ht
  obtain ⟨hfr8, hto8⟩ : fr ≤ 8 ∧ to ≤ 8 := by omega
  clear hfr hto hR' ht hlt ha
  have hsl1 : ∀ (w' : World) (g : Nat), (Instr.sliceAt 38 (.pointer (some ⟨g, 0, none⟩)) none (some (.int .i64 (fr : Int))) none).run Tryd.prog w' = .ok (.slice (some ⟨g, 0, none⟩) fr 8) w' := fun w' g => slice38h w' g fr hfr8
  obtain ⟨o, ho⟩ : ∃ o, o = if 8 = to then 0 else to := ⟨_, rfl⟩
  obtain ⟨d, hd⟩ : ∃ d, d = 8 - to := ⟨_, rfl⟩
  have hsl2 : ∀ (w' : World) (g : Nat), (Instr.sliceAt 38 (.pointer (some ⟨g, 0, none⟩)) (some (.int .i64 (to : Int))) none none).run Tryd.prog w' = .ok (.slice (some ⟨g, o, none⟩) d d) w' := fun w' g => slice38' w' g to o d hto8 ho hd
  have hod : Hid (0 < d → o = to) := fun h => by rw [ho, if_neg (by omega)]
  have hd8 : d ≤ 8 := by omega
  rw [← hd] at hC2 hR
  have HD := Lib.hid (And.intro ho hd)
  clear ho hd
  have hX1 : Hid ((hxs (fun j => a.getD j 0) fr).length ≤ 40) := by have := hxs_len _ hx.out fr; show _ ≤ _; omega
  have hX2 : Hid ((hxs (fun j => a.getD (to + j) 0) d).length ≤ 40) := by have := hxs_len _ hx2.out d; show _ ≤ _; omega
  have HC1 : Hid (∀ g1 g3 w' v N L, w.heap.size ≤ g3 → N ≤ 1000 → Cl w g1 g3 (vhs a) w' v N L → Calls Tryd.prog 46 #[.slice (some ⟨g1, 0, none⟩) fr 8, .pointer (some ⟨g3, 0, none⟩)] w' fun e w2 => e = .returned (.tuple #[]) ∧ ∃ v', Cl w g1 g3 (vhs a) w2 v' (N + (hxs (fun j => a.getD j 0) fr).length) (L ++ hxs (fun j => a.getD j 0) fr)) :=
    fun g1 g3 w' v N L h1 h2 h3 => clo_any w HT.out g1 g3 h1 (vhs a) _ hx.out 0 fr 8 hfr8 hC1.out _ (fun _ => rfl) w' v N L h2 h3
  have HC2 : Hid (∀ g1 g3 w' v N L, w.heap.size ≤ g3 → N ≤ 1000 → Cl w g1 g3 (vhs a) w' v N L → Calls Tryd.prog 46 #[.slice (some ⟨g1, o, none⟩) d d, .pointer (some ⟨g3, 0, none⟩)] w' fun e w2 => e = .returned (.tuple #[]) ∧ ∃ v', Cl w g1 g3 (vhs a) w2 v' (N + (hxs (fun j => a.getD (to + j) 0) d).length) (L ++ hxs (fun j => a.getD (to + j) 0) d)) :=
    fun g1 g3 w' v N L h1 h2 h3 => clo_any w HT.out g1 g3 h1 (vhs a) (fun j => a.getD (to + j) 0) hx2.out to d d hd8 hC2.out (some ⟨g1, o, none⟩) (fun h => by rw [hod.out h]) w' v N L h2 h3
  obtain ⟨X1, hX1'⟩ : ∃ X, X = hxs (fun j => a.getD j 0) fr := ⟨_, rfl⟩
  obtain ⟨X2, hX2'⟩ : ∃ X, X = hxs (fun j => a.getD (to + j) 0) d := ⟨_, rfl⟩
  rw [← hX1'] at HC1 hX1 hR
  rw [← hX2'] at HC2 hX2 hR
  obtain ⟨n1, hn1⟩ : ∃ n, n = X1.length := ⟨_, rfl⟩
  obtain ⟨n2, hn2⟩ : ∃ n, n = X2.length := ⟨_, rfl⟩
  rw [← hn1] at HC1 hX1
  rw [← hn2] at HC2 hX2
  have hn19 : n1 ≤ 40 := hX1.out
  have hn29 : n2 ≤ 40 := hX2.out
  clear hX1' hX2' hn1 hn2 hX1 hX2 hC1 hC2 hx hx2 hod
  by_cases hft : fr < to
  · have hfti : (fr : Int) < (to : Int) := by omega
    rw [if_pos hft] at hR
    go_enter Tryd.func33, Tryd.ntmps33
    go_wp2_with (first
      | ((with_reducible show wpList _ _ _ (⟨some 1, .box _ _, _, _, _, _⟩ :: _) _ _); refine wp_box _ rfl 38 _ rfl (vhs a) rfl ?_; intro w1 g1 B1 F1; simp only [Act.put, List.setIfInBounds_toArray, List.set_cons_zero, List.set_cons_succ]; have hk1 := kept_of F1.below; have cl3 := cl_start hk1 B1; have hg3 := hg3_of hk1.size)
      | ((with_reducible show wpList _ _ _ (⟨some 10, .load 38 _, _, _, _, _⟩ :: _) _ _); refine wp_get _ rfl 38 (.tmp 1) rfl g1 0 (vhs a) _ rfl cl3.arr.whole Tryd.underlying38 rfl hs38.out ?_; simp only [Act.put, List.setIfInBounds_toArray, List.set_cons_zero, List.set_cons_succ])
      | (go_at_call 48; with_reducible refine (HL.out _).mono ?_; rintro e w4 ⟨rfl, hb4⟩; have cl4 := Lib.hid (cl3.step hb4); clear hb4 cl3)
      | (go_at_call 46; first
        | (with_reducible refine (HC1.out g1 _ w4 _ 1 [91] hg3 (by omega) cl4.out).mono ?_; rintro e w5 ⟨rfl, v5, cl5⟩; have cv5 := cl5.cell; obtain ⟨A5, c5, rfl, hc5, hs5⟩ := cl5.own.form; have CL5 := Lib.hid cl5; have hz5 := cl5.size; clear hs5 cl5)
        | (with_reducible refine (HC2.out g1 _ w7 _ (1 + n1 + 2) ([91] ++ X1 ++ [58, 58]) hg3 (by omega) CL7.out).mono ?_; rintro e w8 ⟨rfl, v8, cl8⟩; have cv8 := cl8.cell; obtain ⟨A8, c8, rfl, hc8, hs8⟩ := cl8.own.form; have CL8 := Lib.hid cl8; have hz8 := cl8.size; clear hs8 cl8))
      | ((with_reducible show wpList _ _ _ (⟨some 23, .call _, _, _, _, _⟩ :: _) _ _); refine wp_appK _ rfl (.tmp 21) (.tmp 22) rfl w.heap.size _ _ _ rfl (CL5.out.own.alloc _) (w5.heap.size + 1) _ 2 2 [58, 58] rfl (bs_two _ _ _ _ _ rfl rfl) (by omega) (by simp; omega) ?_; intro v6 w6 hown6 hb6 hkb6; obtain ⟨A6, c6, rfl, hc6, hs6⟩ := hown6.form; have bv6 := (CL5.out.var.alloc _).but hkb6 (by decide); simp only [Act.put, List.setIfInBounds_toArray, List.set_cons_zero, List.set_cons_succ])
      | ((with_reducible show wpList _ _ _ (⟨none, .store 39 (.tmp 3) (.tmp 23), _, _, _, _⟩ :: _) _ _); refine wp_set _ rfl 39 (.tmp 3) (.tmp 23) rfl (w1.heap.size + 1) 0 39 _ _ rfl rfl rfl rfl bv6 (by simp) size39 ?_; intro w7 B7 U7; simp only [Act.put]; have CL7 := Lib.hid ((CL5.out.step (below_alloc _ _)).set hg3 hb6 hkb6 hown6 B7 U7))
      | ((with_reducible show wpList _ _ _ (⟨some 30, .call _, _, _, _, _⟩ :: _) _ _); refine wp_app _ rfl (.tmp 28) (.tmp 29) rfl w.heap.size _ _ _ rfl (CL8.out.own.alloc _) (w8.heap.size + 1) _ 1 1 [93] rfl (Bs.one' _ _ _ rfl) (by omega) (by simp; omega) ?_; intro v9 w9 hown9 hb9; obtain ⟨A9, c9, rfl, hc9, hs9⟩ := hown9.form; simp only [Act.put, List.setIfInBounds_toArray, List.set_cons_zero, List.set_cons_succ])
      | ((with_reducible show wpList _ _ _ (⟨some 31, .convert _ _ _, _, _, _, _⟩ :: _) _ _); refine wp_str _ rfl (.tmp 30) rfl _ A9 _ c9 _ rfl hs9 ?_; simp only [Act.put, List.setIfInBounds_toArray, List.set_cons_zero, List.set_cons_succ]))
    go_ret
    refine ⟨?_, CL8.out.kept.base (((Below.refl _ _).alloc hz8 _).trans hb9)⟩
    rw [hR.out]
    simp
  · have hfti : ¬ (fr : Int) < (to : Int) := by omega
    rw [if_neg hft] at hR
    go_enter Tryd.func33, Tryd.ntmps33
    go_wp2_with (first
      | ((with_reducible show wpList _ _ _ (⟨some 1, .box _ _, _, _, _, _⟩ :: _) _ _); refine wp_box _ rfl 38 _ rfl (vhs a) rfl ?_; intro w1 g1 B1 F1; simp only [Act.put, List.setIfInBounds_toArray, List.set_cons_zero, List.set_cons_succ]; have hk1 := kept_of F1.below; have cl3 := cl_start hk1 B1; have hg3 := hg3_of hk1.size)
      | ((with_reducible show wpList _ _ _ (⟨some 10, .load 38 _, _, _, _, _⟩ :: _) _ _); refine wp_get _ rfl 38 (.tmp 1) rfl g1 0 (vhs a) _ rfl cl3.arr.whole Tryd.underlying38 rfl hs38.out ?_; simp only [Act.put, List.setIfInBounds_toArray, List.set_cons_zero, List.set_cons_succ])
      | (go_at_call 48; with_reducible refine (HL.out _).mono ?_; rintro e w4 ⟨rfl, hb4⟩; have cl4 := Lib.hid (cl3.step hb4); clear hb4 cl3)
      | (go_at_call 46; first
        | (with_reducible refine (HC1.out g1 _ w4 _ 1 [91] hg3 (by omega) cl4.out).mono ?_; rintro e w5 ⟨rfl, v5, cl5⟩; have cv5 := cl5.cell; obtain ⟨A5, c5, rfl, hc5, hs5⟩ := cl5.own.form; have CL5 := Lib.hid cl5; have hz5 := cl5.size; clear hs5 cl5)
        | (with_reducible refine (HC2.out g1 _ w5 _ (1 + n1) ([91] ++ X1) hg3 (by omega) CL5.out).mono ?_; rintro e w8 ⟨rfl, v8, cl8⟩; have cv8 := cl8.cell; obtain ⟨A8, c8, rfl, hc8, hs8⟩ := cl8.own.form; have CL8 := Lib.hid cl8; have hz8 := cl8.size; clear hs8 cl8))
      | ((with_reducible show wpList _ _ _ (⟨some 30, .call _, _, _, _, _⟩ :: _) _ _); refine wp_app _ rfl (.tmp 28) (.tmp 29) rfl w.heap.size _ _ _ rfl (CL8.out.own.alloc _) (w8.heap.size + 1) _ 1 1 [93] rfl (Bs.one' _ _ _ rfl) (by omega) (by simp; omega) ?_; intro v9 w9 hown9 hb9; obtain ⟨A9, c9, rfl, hc9, hs9⟩ := hown9.form; simp only [Act.put, List.setIfInBounds_toArray, List.set_cons_zero, List.set_cons_succ])
      | ((with_reducible show wpList _ _ _ (⟨some 31, .convert _ _ _, _, _, _, _⟩ :: _) _ _); refine wp_str _ rfl (.tmp 30) rfl _ A9 _ c9 _ rfl hs9 ?_; simp only [Act.put, List.setIfInBounds_toArray, List.set_cons_zero, List.set_cons_succ]))
    go_ret
    refine ⟨?_, CL8.out.kept.base (((Below.refl _ _).alloc hz8 _).trans hb9)⟩
    rw [hR.out]
    simp
end Go.Proofs.YtcfgcakmffkpmaaDoor
