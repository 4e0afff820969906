/-
  What percent.find answers: the function value of a set's number. No condition.
-/
import Derived.Test.YtkiafileelcknaaSets
namespace Go.Proofs.Ytkiafileelcknaa
open Go.RowKit

theorem z34 : (Try.prog.info? 34).map (·.size) = some 1 := by kernel_rfl
theorem y34 : (Try.prog.info? 34).map (fun i => i.zero) = some (some (.agg [Value.nilFunc].toArray)) := by kernel_rfl
theorem z42 : (Try.prog.info? 42).map (·.size) = some 6 := by kernel_rfl
theorem y42 : (Try.prog.info? 42).map (fun i => i.zero) = some (some (.agg [Value.nilFunc, .nilFunc, .nilFunc, .nilFunc, .nilFunc, .nilFunc].toArray)) := by kernel_rfl

set_option maxHeartbeats 1000000 in
theorem and_any (lo hi : Nat) (w : World) (f : Value) (p : UInt8 → Bool) (l : List UInt8) (hf : Has lo hi w f p) (hlo : lo ≤ w.heap.size) (hhi : hi ≤ w.heap.size) :
    Calls Try.prog 26 #[.agg #[f], .string (str l)] w fun e w' => ∃ f', e = .returned (.agg #[f']) ∧ Has lo w'.heap.size w' f' (fun c => p c || among l c) ∧ Below w.heap.size w w' := by
  have hmf : ∀ (fn : Fn) (first cap : Array Value) (w : World), (Instr.makeFunc fn first cap).run Try.prog w = .ok (.func fn first cap) w := fun _ _ _ _ => rfl
  have hb1 : Below w.heap.size w (((w.alloc (Obj.cells #[f] 34)).alloc (Obj.cells #[Value.string (str l)] 9)).alloc (Obj.cells #[Value.nilFunc] 34)) :=
    (((Below.refl _ _).alloc (Nat.le_refl _) _).alloc (by simp) _).alloc (by simp <;> omega) _
  have hblk : Blk (((w.alloc (Obj.cells #[f] 34)).alloc (Obj.cells #[Value.string (str l)] 9)).alloc (Obj.cells #[Value.nilFunc] 34)) (w.heap.size + 1 + 1) 34 [.nilFunc] := by
    have := Blk.new ((w.alloc (Obj.cells #[f] 34)).alloc (Obj.cells #[Value.string (str l)] 9)) 34 [.nilFunc]
    simpa using this
  have hA : Blk (((w.alloc (Obj.cells #[f] 34)).alloc (Obj.cells #[Value.string (str l)] 9)).alloc (Obj.cells #[Value.nilFunc] 34)) w.heap.size 34 [f] := ((Blk.new w 34 [f]).alloc _).alloc _
  have hB : Blk (((w.alloc (Obj.cells #[f] 34)).alloc (Obj.cells #[Value.string (str l)] 9)).alloc (Obj.cells #[Value.nilFunc] 34)) (w.heap.size + 1) 9 [.string (str l)] := by
    have := (Blk.new (w.alloc (Obj.cells #[f] 34)) 9 [.string (str l)]).alloc (Obj.cells #[Value.nilFunc] 34)
    simpa using this
  go_enter Try.func26, Try.ntmps26
  go_wp2_with ((with_reducible show wpList _ _ _ (⟨none, .store _ _ _, _, _, _, _⟩ :: _) _ _); refine wp_putAll _ rfl 34 _ _ rfl (w.heap.size + 1 + 1) 34 [.nilFunc] [.func (.func 27) #[] #[.pointer (some ⟨w.heap.size, 0, none⟩), .pointer (some ⟨w.heap.size + 1, 0, none⟩)]] rfl rfl hblk rfl (by kernel_rfl) (by simp [Value.oneCell']) ?_; intro w1 k1 u1)
  have hb2 : Below w.heap.size w w1 := hb1.trans (u1.below (by omega))
  have hA1 : Blk w1 w.heap.size 34 [f] := hA.upd u1 (by omega)
  have hB1 : Blk w1 (w.heap.size + 1) 9 [.string (str l)] := hB.upd u1 (by omega)
  refine ret_cell 4 34 rfl (w.heap.size + 1 + 1) _ _ rfl k1.whole Try.underlying34 rfl z34 rfl ⟨_, rfl, ?_, hb2⟩
  have h1 := hA1.lt
  have h2 := hB1.lt
  exact has27 lo w1.heap.size w1 w.heap.size (w.heap.size + 1) f p l ⟨hlo, h1⟩ ⟨by omega, h2⟩ hA1 hB1 ((hf.at_ (agree_below hb2 hhi)).wide (Nat.le_refl _) (Nat.le_trans hhi hb2.size))

section
variable {ops : Array Oper} {o : Oper} {a : Act} {K : Act → World → Prop} {Q : Exit → Act → World → Prop} {E : Prop}
theorem one6 {a b c d e f : Value} (h1 : a.oneCell' = true) (h2 : b.oneCell' = true) (h3 : c.oneCell' = true) (h4 : d.oneCell' = true) (h5 : e.oneCell' = true) (h6 : f.oneCell' = true) : ∀ u ∈ [a, b, c, d, e, f], u.oneCell' = true := by
  intro u hu
  simp only [List.mem_cons, List.not_mem_nil, or_false] at hu
  rcases hu with rfl | rfl | rfl | rfl | rfl | rfl <;> assumption
/-- A whole array is stored into its variable, in a region that draws its order. -/
theorem step_putAll (w : World) (hgd : o.guard = none) (t : TypeId) (x y : Operand) (ho : o.op = .store t x y) (b : Nat) (t0 : TypeId) (C cs : List Value)
    (hx : a.eval x = .pointer (some ⟨b, 0, none⟩)) (hy : a.eval y = .agg cs.toArray) (hb : Blk w b t0 C) (hn : cs.length = C.length) (hi : (Try.prog.info? t).map (·.size) = some cs.length) (h1 : ∀ u ∈ cs, u.oneCell' = true)
    (h : ∀ w', Blk w' b t0 cs → Upd b w w' → K (a.put o.dst undef) w') : if Region.wanted o (yielded ops a.tmps) = true then Oper.wp Try.prog o a w K Q else E := by
  have hw : Region.wanted o (yielded ops a.tmps) = true := by simp [Region.wanted, hgd]
  rw [if_pos hw]
  have e : C.take 0 ++ cs ++ C.drop (0 + cs.length) = cs := by
    rw [List.drop_eq_nil_of_le (by omega)]
    simp
  have hw' := setCells_blk b t0 cs 0 w C hb (by omega)
  rw [e] at hw'
  exact wp_store_mid t x y ho b 0 cs.toArray hx hy (by simpa using hb.there (o := 0) (n := cs.length) (by omega)) (by simpa using hi) (all_oneCell_toArray h1) (h _ hw' (Upd.setCells b cs 0 w))
end

def s0 : List UInt8 := [32, 34, 60, 62, 96]
def s1 : List UInt8 := [32, 34, 35, 60, 62]
def s2 : List UInt8 := [39]
def s3 : List UInt8 := [63, 94, 96, 123, 125]

theorem and_s0 (lo hi : Nat) (w : World) (f : Value) (p : UInt8 → Bool) (hf : Has lo hi w f p) (hlo : lo ≤ w.heap.size) (hhi : hi ≤ w.heap.size) :
    Calls Try.prog 26 #[.agg #[f], .string ⟨#[32, 34, 60, 62, 96]⟩] w fun e w' => ∃ f', e = .returned (.agg #[f']) ∧ Has lo w'.heap.size w' f' (fun c => p c || among s0 c) ∧ Below w.heap.size w w' := and_any lo hi w f p s0 hf hlo hhi
theorem and_s1 (lo hi : Nat) (w : World) (f : Value) (p : UInt8 → Bool) (hf : Has lo hi w f p) (hlo : lo ≤ w.heap.size) (hhi : hi ≤ w.heap.size) :
    Calls Try.prog 26 #[.agg #[f], .string ⟨#[32, 34, 35, 60, 62]⟩] w fun e w' => ∃ f', e = .returned (.agg #[f']) ∧ Has lo w'.heap.size w' f' (fun c => p c || among s1 c) ∧ Below w.heap.size w w' := and_any lo hi w f p s1 hf hlo hhi
theorem and_s2 (lo hi : Nat) (w : World) (f : Value) (p : UInt8 → Bool) (hf : Has lo hi w f p) (hlo : lo ≤ w.heap.size) (hhi : hi ≤ w.heap.size) :
    Calls Try.prog 26 #[.agg #[f], .string ⟨#[39]⟩] w fun e w' => ∃ f', e = .returned (.agg #[f']) ∧ Has lo w'.heap.size w' f' (fun c => p c || among s2 c) ∧ Below w.heap.size w w' := and_any lo hi w f p s2 hf hlo hhi
theorem and_s3 (lo hi : Nat) (w : World) (f : Value) (p : UInt8 → Bool) (hf : Has lo hi w f p) (hlo : lo ≤ w.heap.size) (hhi : hi ≤ w.heap.size) :
    Calls Try.prog 26 #[.agg #[f], .string ⟨#[63, 94, 96, 123, 125]⟩] w fun e w' => ∃ f', e = .returned (.agg #[f']) ∧ Has lo w'.heap.size w' f' (fun c => p c || among s3 c) ∧ Below w.heap.size w w' := and_any lo hi w f p s3 hf hlo hhi

set_option maxHeartbeats 4000000 in
set_option maxRecDepth 100000 in
theorem sets_any (w : World) :
    Calls Try.prog 22 #[] w fun e w' => ∃ f0 f1 f2 f3 f4 f5, e = .returned (.agg #[f0, f1, f2, f3, f4, f5]) ∧ Has w.heap.size w'.heap.size w' f0 (fun _ => false) ∧ Has w.heap.size w'.heap.size w' f1 c0
      ∧ Has w.heap.size w'.heap.size w' f2 (fun c => c0 c || among s0 c) ∧ Has w.heap.size w'.heap.size w' f3 (fun c => c0 c || among s1 c)
      ∧ Has w.heap.size w'.heap.size w' f4 (fun c => (c0 c || among s1 c) || among s2 c) ∧ Has w.heap.size w'.heap.size w' f5 (fun c => (c0 c || among s1 c) || among s3 c) ∧ Below w.heap.size w w' := by
  go_enter Try.func22, Try.ntmps22
  go_wp2_with (first
    | ((with_reducible show wpList _ _ _ (⟨some 0, .alloc _, _, _, _, _⟩ :: _) _ _); refine wp_new _ rfl 42 rfl _ y42 ?_; intro w1 g0 B1 F1; simp only [Act.put, List.setIfInBounds_toArray, List.set_cons_zero])
    | ((with_reducible show wpList _ _ _ (⟨some 1, .alloc _, _, _, _, _⟩ :: _) _ _); refine wp_new _ rfl 34 rfl _ y34 ?_; intro w2 g1 B2 F2; simp only [Act.put, List.setIfInBounds_toArray, List.set_cons_zero, List.set_cons_succ])
    | ((with_reducible show wpList _ _ _ (⟨none, .store 34 (.tmp 1) _, _, _, _, _⟩ :: _) _ _); refine wp_putAll _ rfl 34 (.tmp 1) (.tmp 4) rfl g1 34 _ [.func (.func 24) #[] #[]] rfl rfl B2 rfl z34 (by simp [Value.oneCell']) ?_; intro w3 B3 U3; simp only [Act.put])
    | ((with_reducible show wpList _ _ _ (⟨some 2, .alloc _, _, _, _, _⟩ :: _) _ _); refine wp_new _ rfl 34 rfl _ y34 ?_; intro w4 g2 B4 F4; simp only [Act.put, List.setIfInBounds_toArray, List.set_cons_zero, List.set_cons_succ])
    | ((with_reducible show wpList _ _ _ (⟨none, .store 34 (.tmp 2) _, _, _, _, _⟩ :: _) _ _); refine wp_putAll _ rfl 34 (.tmp 2) (.tmp 5) rfl g2 34 _ [.func (.func 25) #[] #[]] rfl rfl B4 rfl z34 (by simp [Value.oneCell']) ?_; intro w5 B5 U5; simp only [Act.put])
    | ((with_reducible show wpList _ _ _ (⟨some 6, .load _ _, _, _, _, _⟩ :: _) _ _); refine wp_get _ rfl 34 (.tmp 2) rfl g2 0 _ _ rfl B5.whole Try.underlying34 rfl z34 ?_; simp only [Act.put, List.setIfInBounds_toArray, List.set_cons_zero, List.set_cons_succ]))
  have hg0 := F1.is
  have hn1 := F1.size
  have hg1 := F2.is
  have hn2 := F2.size
  have hg2 := F4.is
  have hn4 := F4.size
  have hn3 := U3.size
  have hn5 := U5.size
  have b5 : Below w.heap.size w w5 := ((((F1.below).trans (F2.below.mono F1.below.size)).trans (U3.below (by omega))).trans (F4.below.mono (by omega))).trans (U5.below (by omega))
  have R5 : Blk w5 g0 42 _ := ((((B1.kept F2.below).upd U3 (by omega)).kept F4.below).upd U5 (by omega))
  have C5 : Blk w5 g1 34 _ := ((B3.kept F4.below).upd U5 (by omega))
  have LB : Hid (w.heap.size = g0 ∧ g0 < g1 ∧ g1 < g2 ∧ w5.heap.size = g2 + 1) := ⟨by omega, by omega, by omega, by omega⟩
  clear B1 F1 B2 F2 B3 U3 B4 F4 U5 hg0 hn1 hg1 hn2 hg2 hn4 hn3 hn5
  with_reducible refine (and_s1 (g0 + 1) (g0 + 1) w5 _ c0 (has25 _ _ w5) (by have := LB.out; omega) (by have := LB.out; omega)).mono ?_
  rintro e w6 ⟨q, rfl, hq, b6⟩
  have hq1 := hq.one
  have hq1' : ∀ u ∈ [q], u.oneCell' = true := by simpa using hq1
  have N6 : Blk w6 g1 34 _ := C5.kept b6
  have C6 : Blk w6 g2 34 _ := B5.kept b6
  have R6 : Blk w6 g0 42 _ := R5.kept b6
  clear B5 R5 C5
  go_wp2_with (first
    | ((with_reducible show wpList _ _ _ (⟨some 3, .alloc _, _, _, _, _⟩ :: _) _ _); refine wp_new _ rfl 34 rfl _ y34 ?_; intro w7 g3 B7 F7; simp only [Act.put, List.setIfInBounds_toArray, List.set_cons_zero, List.set_cons_succ])
    | ((with_reducible show wpList _ _ _ (⟨none, .store 34 (.tmp 3) _, _, _, _, _⟩ :: _) _ _); refine wp_putAll _ rfl 34 (.tmp 3) (.tmp 7) rfl g3 34 _ [q] rfl rfl B7 rfl z34 hq1' ?_; intro w8 Q8 U8; simp only [Act.put]))
  have hs : Hid (w5.heap.size ≤ w6.heap.size ∧ g3 = w6.heap.size ∧ w8.heap.size = g3 + 1) := ⟨b6.size, F7.is, by rw [U8.size, F7.size]⟩
  have b8 : Below w.heap.size w w8 := ((b5.trans (b6.mono b5.size)).trans (F7.below.mono (Nat.le_trans b5.size b6.size))).trans (U8.below (by have := hs.out; have := LB.out; omega))
  have N8 : Blk w8 g1 34 _ := (N6.kept F7.below).upd U8 (by have := hs.out; have := LB.out; omega)
  have C8 : Blk w8 g2 34 _ := (C6.kept F7.below).upd U8 (by have := hs.out; have := LB.out; omega)
  have R8 : Blk w8 g0 42 _ := (R6.kept F7.below).upd U8 (by have := hs.out; have := LB.out; omega)
  have hq8 : Has (g0 + 1) w6.heap.size w8 q (fun c => c0 c || among s1 c) := hq.at_ ((agree_below F7.below (Nat.le_refl _)).trans (agree_upd U8 (Or.inr (by have := hs.out; omega))))
  clear B7 F7 U8 b6 hq b5 N6 C6 R6
  have LC : Hid (w.heap.size = g0 ∧ g0 < g1 ∧ g1 < g2 ∧ g2 < g3 ∧ w6.heap.size ≤ w8.heap.size ∧ w8.heap.size = g3 + 1) := by have h1 := LB.out; have h2 := hs.out; refine ⟨?_, ?_, ?_, ?_, ?_, ?_⟩ <;> omega
  clear LB hs
  have hS0 : Chg g0 g0 w8 w8.drew := (Chg.refl g0 g0 w8).drew
  refine Code.wp_mono (Q := fun e a' w' => e = .normal ∧ ∃ f2 f4 f5, a' = ⟨#[.pointer (some ⟨g0, 0, none⟩), .pointer (some ⟨g1, 0, none⟩), .pointer (some ⟨g2, 0, none⟩), .pointer (some ⟨g3, 0, none⟩), .agg #[.func (.func 24) #[] #[]], .agg #[.func (.func 25) #[] #[]], .agg #[.func (.func 25) #[] #[]], .agg #[q], .agg #[.func (.func 24) #[] #[]], .agg #[.func (.func 25) #[] #[]], .agg #[.func (.func 25) #[] #[]], .agg #[f2], .agg #[q], .agg #[q], .agg #[f4], .agg #[q], .agg #[f5], .agg #[.func (.func 24) #[] #[], .func (.func 25) #[] #[], f2, q, f4, f5]], []⟩ ∧ Chg g0 g0 w8 w' ∧ Has (g0 + 1) w'.heap.size w' f2 (fun c => c0 c || among s0 c) ∧ Has (g0 + 1) w'.heap.size w' f4 (fun c => (c0 c || among s1 c) || among s2 c) ∧ Has (g0 + 1) w'.heap.size w' f5 (fun c => (c0 c || among s1 c) || among s3 c) ∧ Blk w' g0 42 [.func (.func 24) #[] #[], .func (.func 25) #[] #[], f2, q, f4, f5]) ?imp ?reg
  case reg =>
    refine wp_region_held_drew (S := fun W => Chg g0 g0 w8 W) (by kernel_rfl) hS0 (fun hS => ?_)
    refine wpAnyH_take (i := 0) (oi := ⟨some 8, _, _, _, _, _⟩) (v := _) rfl (by kernel_rfl) (by kernel_rfl) (by kernel_rfl) (fun _ _ _ h => by cases h.1) (yieldsIf_load_mid (by rfl) 34 (.tmp 1) rfl g1 0 rfl [.func (.func 24) #[] #[]] _ (fun W hW => (N8.chg hW (by have := LC.out; omega) (by have := LC.out; omega)).whole) Try.underlying34 rfl z34) hS ?_
    simp only [Act.put, List.setIfInBounds_toArray, List.set_cons_zero, List.set_cons_succ]
    refine wpAnyH_take (i := 1) (oi := ⟨some 9, _, _, _, _, _⟩) (v := _) rfl (by kernel_rfl) (by kernel_rfl) (by kernel_rfl) (fun _ _ _ h => by cases h.1) (yieldsIf_load_mid (by rfl) 34 (.tmp 2) rfl g2 0 rfl [.func (.func 25) #[] #[]] _ (fun W hW => (C8.chg hW (by have := LC.out; omega) (by have := LC.out; omega)).whole) Try.underlying34 rfl z34) hS ?_
    simp only [Act.put, List.setIfInBounds_toArray, List.set_cons_zero, List.set_cons_succ]
    refine wpAnyH_take (i := 2) (oi := ⟨some 10, _, _, _, _, _⟩) (v := _) rfl (by kernel_rfl) (by kernel_rfl) (by kernel_rfl) (fun _ _ _ h => by cases h.1) (yieldsIf_load_mid (by rfl) 34 (.tmp 2) rfl g2 0 rfl [.func (.func 25) #[] #[]] _ (fun W hW => (C8.chg hW (by have := LC.out; omega) (by have := LC.out; omega)).whole) Try.underlying34 rfl z34) hS ?_
    simp only [Act.put, List.setIfInBounds_toArray, List.set_cons_zero, List.set_cons_succ]
    refine wpAnyH_take (i := 4) (oi := ⟨some 12, _, _, _, _, _⟩) (v := _) rfl (by kernel_rfl) (by kernel_rfl) (by kernel_rfl) (fun _ _ _ h => by cases h.1) (yieldsIf_load_mid (by rfl) 34 (.tmp 3) rfl g3 0 rfl [q] _ (fun W hW => (Q8.chg hW (by have := LC.out; omega) (by have := LC.out; omega)).whole) Try.underlying34 rfl z34) hS ?_
    simp only [Act.put, List.setIfInBounds_toArray, List.set_cons_zero, List.set_cons_succ]
    refine wpAnyH_take (i := 5) (oi := ⟨some 13, _, _, _, _, _⟩) (v := _) rfl (by kernel_rfl) (by kernel_rfl) (by kernel_rfl) (fun _ _ _ h => by cases h.1) (yieldsIf_load_mid (by rfl) 34 (.tmp 3) rfl g3 0 rfl [q] _ (fun W hW => (Q8.chg hW (by have := LC.out; omega) (by have := LC.out; omega)).whole) Try.underlying34 rfl z34) hS ?_
    simp only [Act.put, List.setIfInBounds_toArray, List.set_cons_zero, List.set_cons_succ]
    refine wpAnyH_take (i := 7) (oi := ⟨some 15, _, _, _, _, _⟩) (v := _) rfl (by kernel_rfl) (by kernel_rfl) (by kernel_rfl) (fun _ _ _ h => by cases h.1) (yieldsIf_load_mid (by rfl) 34 (.tmp 3) rfl g3 0 rfl [q] _ (fun W hW => (Q8.chg hW (by have := LC.out; omega) (by have := LC.out; omega)).whole) Try.underlying34 rfl z34) hS ?_
    simp only [Act.put, List.setIfInBounds_toArray, List.set_cons_zero, List.set_cons_succ]
    have hK0 := hS
    refine wpAnyH_ready (rs := [3]) (by kernel_rfl) (by simp) ?_
    refine (AllReadyH.cons (o := ⟨some 11, _, _, _, _, _⟩) rfl (fun K hK => ?_) AllReadyH.nil)
    go_simp
    with_reducible refine (and_s0 (g0 + 1) (g0 + 1) _ _ c0 (has25 _ _ _) (by have := LC.out; have := hK0.size; omega) (by have := LC.out; have := hK0.size; omega)).mono ?_
    rintro e w9 ⟨f2, rfl, hf2, hb9⟩
    have hK9 : Chg g0 g0 w8 w9 := hK0.trans (Chg.of_below hb9)
    refine hK.out _ _ hK9 (fun _ => ?_)
    clear hK K
    try simp only [Act.put, List.setIfInBounds_toArray, List.set_cons_zero, List.set_cons_succ]
    refine wpAnyH_ready (rs := [6]) (by kernel_rfl) (by simp) ?_
    refine (AllReadyH.cons (o := ⟨some 14, _, _, _, _, _⟩) rfl (fun K hK => ?_) AllReadyH.nil)
    go_simp
    with_reducible refine (and_s2 (g0 + 1) w6.heap.size _ _ _ (hq8.at_ (agree_chg hK9 (by omega) (by have := LC.out; omega))) (by have := LC.out; have := hK9.size; omega) (by have := LC.out; have := hK9.size; omega)).mono ?_
    rintro e w10 ⟨f4, rfl, hf4, hb10⟩
    have hK10 : Chg g0 g0 w8 w10 := hK9.trans (Chg.of_below hb10)
    refine hK.out _ _ hK10 (fun _ => ?_)
    clear hK K
    try simp only [Act.put, List.setIfInBounds_toArray, List.set_cons_zero, List.set_cons_succ]
    refine wpAnyH_ready (rs := [8]) (by kernel_rfl) (by simp) ?_
    refine (AllReadyH.cons (o := ⟨some 16, _, _, _, _, _⟩) rfl (fun K hK => ?_) AllReadyH.nil)
    go_simp
    with_reducible refine (and_s3 (g0 + 1) w6.heap.size _ _ _ (hq8.at_ (agree_chg hK10 (by omega) (by have := LC.out; omega))) (by have := LC.out; have := hK10.size; omega) (by have := LC.out; have := hK10.size; omega)).mono ?_
    rintro e w11 ⟨f5, rfl, hf5, hb11⟩
    have hK11 : Chg g0 g0 w8 w11 := hK10.trans (Chg.of_below hb11)
    refine hK.out _ _ hK11 (fun _ => ?_)
    clear hK K
    try simp only [Act.put, List.setIfInBounds_toArray, List.set_cons_zero, List.set_cons_succ]
    have o2 := hf2.one
    have o4 := hf4.one
    have o5 := hf5.one
    refine wpAnyH_take (i := 9) (oi := ⟨some 17, _, _, _, _, _⟩) (v := ?va9) rfl (by kernel_rfl) (by kernel_rfl) (by kernel_rfl) (fun _ _ _ h => by cases h.1) (Or.inl ⟨by rfl, ?ya9⟩) hK11 ?ra9
    case ya9 => intro W hW; go_simp; first | done | with_reducible rfl
    simp only [Act.put, List.setIfInBounds_toArray, List.set_cons_zero, List.set_cons_succ]
    refine wpAnyH_ready (rs := [10]) (by kernel_rfl) (by simp) ?_
    refine (AllReadyH.cons (o := ⟨none, _, _, _, _, _⟩) rfl (fun K hK => ?_) AllReadyH.nil)
    refine step_putAll _ rfl 42 (.tmp 0) (.tmp 17) rfl g0 42 _ [.func (.func 24) #[] #[], .func (.func 25) #[] #[], f2, q, f4, f5] rfl rfl (((R8.drew.kept hb9).kept hb10).kept hb11) rfl z42 (one6 rfl rfl o2 hq1 o4 o5) ?_
    intro w12 R12 U12
    have hK12 : Chg g0 g0 w8 w12 := hK11.trans (Chg.upd1 U12 g0)
    refine hK.out _ _ hK12 (fun _ => ?_)
    clear hK K
    refine wpAnyH_done (by kernel_rfl) ?_ _
    have hz := U12.size
    refine ⟨rfl, f2, f4, f5, rfl, hK12, ?_, ?_, ?_, R12⟩
    · refine ((hf2.at_ ((agree_below hb10 (Nat.le_refl _)).trans ((agree_below hb11 hb10.size).trans (agree_upd U12 (Or.inl (by omega)))))).wide (Nat.le_refl _) ?_)
      have := hb10.size
      have := hb11.size
      omega
    · refine ((hf4.at_ ((agree_below hb11 (Nat.le_refl _)).trans (agree_upd U12 (Or.inl (by omega))))).wide (Nat.le_refl _) ?_)
      have := hb11.size
      omega
    · exact (hf5.at_ (agree_upd U12 (Or.inl (by omega)))).wide (Nat.le_refl _) (Nat.le_of_eq hz.symm)
  case imp =>
    rintro e a' w' ⟨rfl, f2, f4, f5, rfl, hc, h2, h4, h5, R⟩
    go_wp2
    refine ret_cell 0 42 rfl g0 _ _ rfl R.whole Try.underlying42 rfl z42 rfl ⟨_, _, _, _, _, _, rfl, has24 _ _ _, has25 _ _ _, ?_, ?_, ?_, ?_, ?_⟩
    · exact h2.wide (by have := LC.out; omega) (Nat.le_refl _)
    · exact (hq8.at_ (agree_chg hc (by omega) (by have := LC.out; omega))).wide (by have := LC.out; omega) (by have := LC.out; have := hc.size; omega)
    · exact h4.wide (by have := LC.out; omega) (Nat.le_refl _)
    · exact h5.wide (by have := LC.out; omega) (Nat.le_refl _)
    · exact b8.trans (hc.below (by have := LC.out; omega) (by have := LC.out; omega) (by have := LC.out; omega))

/-- Which bytes are in a set. -/
def inS (n : Int) : UInt8 → Bool :=
  if n = 1 then c0 else if n = 2 then fun c => c0 c || among s0 c else if n = 3 then fun c => c0 c || among s1 c else if n = 4 then fun c => (c0 c || among s1 c) || among s2 c else if n = 5 then fun c => (c0 c || among s1 c) || among s3 c else fun _ => false

theorem inS_out (n : Int) (h : n < 1 ∨ 5 < n) : inS n = fun _ => false := by
  unfold inS
  rw [if_neg (by omega), if_neg (by omega), if_neg (by omega), if_neg (by omega), if_neg (by omega)]

theorem index_0 (f0 f1 f2 f3 f4 f5 : Value) (w : World) : (Instr.index 42 (.agg #[f0, f1, f2, f3, f4, f5]) (.int .i64 0)).run Try.prog w = .ok (.agg #[f0]) w := by
  simp [Instr.index, asIntOf, run_underlying Try.underlying42, part, Try.isAgg34]
theorem index_1 (f0 f1 f2 f3 f4 f5 : Value) (w : World) : (Instr.index 42 (.agg #[f0, f1, f2, f3, f4, f5]) (.int .i64 1)).run Try.prog w = .ok (.agg #[f1]) w := by
  simp [Instr.index, asIntOf, run_underlying Try.underlying42, part, Try.isAgg34]
theorem index_2 (f0 f1 f2 f3 f4 f5 : Value) (w : World) : (Instr.index 42 (.agg #[f0, f1, f2, f3, f4, f5]) (.int .i64 2)).run Try.prog w = .ok (.agg #[f2]) w := by
  simp [Instr.index, asIntOf, run_underlying Try.underlying42, part, Try.isAgg34]
theorem index_3 (f0 f1 f2 f3 f4 f5 : Value) (w : World) : (Instr.index 42 (.agg #[f0, f1, f2, f3, f4, f5]) (.int .i64 3)).run Try.prog w = .ok (.agg #[f3]) w := by
  simp [Instr.index, asIntOf, run_underlying Try.underlying42, part, Try.isAgg34]
theorem index_4 (f0 f1 f2 f3 f4 f5 : Value) (w : World) : (Instr.index 42 (.agg #[f0, f1, f2, f3, f4, f5]) (.int .i64 4)).run Try.prog w = .ok (.agg #[f4]) w := by
  simp [Instr.index, asIntOf, run_underlying Try.underlying42, part, Try.isAgg34]
theorem index_5 (f0 f1 f2 f3 f4 f5 : Value) (w : World) : (Instr.index 42 (.agg #[f0, f1, f2, f3, f4, f5]) (.int .i64 5)).run Try.prog w = .ok (.agg #[f5]) w := by
  simp [Instr.index, asIntOf, run_underlying Try.underlying42, part, Try.isAgg34]

set_option maxHeartbeats 4000000 in
theorem find_any (n : Int) (w : World) :
    Calls Try.prog 17 #[.int .i64 n] w fun e w' => ∃ f, e = .returned (.agg #[f]) ∧ Has w.heap.size w'.heap.size w' f (inS n) ∧ Below w.heap.size w w' := by
  have hc : n < 1 ∨ 5 < n ∨ n = 1 ∨ n = 2 ∨ n = 3 ∨ n = 4 ∨ n = 5 := by omega
  rcases hc with h | h | rfl | rfl | rfl | rfl | rfl
  · have ix := index_0
    go_enter Try.func17, Try.ntmps17
    go_wp2_with (first
      | ((with_reducible show wpList _ _ _ (⟨some 2, .alloc _, _, _, _, _⟩ :: _) _ _); refine wp_new _ rfl 34 rfl _ y34 ?_; intro w1 g B1 F1; simp only [Act.put, List.setIfInBounds_toArray, List.set_cons_zero, List.set_cons_succ])
      | (go_at_call 22; with_reducible refine (sets_any w1).mono ?_; rintro e w2 ⟨f0, f1, f2, f3, f4, f5, rfl, h0, h1, h2, h3, h4, h5, b2⟩)
      | ((with_reducible show wpList _ _ _ (⟨none, .store 34 (.tmp 2) _, _, _, _, _⟩ :: _) _ _); refine wp_putAll _ rfl 34 (.tmp 2) (.tmp 11) rfl g 34 _ [f0] rfl rfl (B1.kept b2) rfl z34 (by simpa using h0.one) ?_; intro w3 B3 U3; simp only [Act.put]))
    refine ret_cell 2 34 rfl g _ _ rfl B3.whole Try.underlying34 rfl z34 rfl ⟨f0, rfl, ?_, ?_⟩
    · have hz := U3.size
      have hs1 := F1.size
      have hs2 := F1.is
      rw [hz, inS_out n (Or.inl h)]
      exact (h0.at_ (agree_upd U3 (Or.inl (by omega)))).wide (by omega) (Nat.le_refl _)
    · exact (F1.below.trans (b2.mono F1.below.size)).trans (U3.below (Nat.le_of_eq F1.is.symm))
  · have ix := index_0
    go_enter Try.func17, Try.ntmps17
    go_wp2_with (first
      | ((with_reducible show wpList _ _ _ (⟨some 2, .alloc _, _, _, _, _⟩ :: _) _ _); refine wp_new _ rfl 34 rfl _ y34 ?_; intro w1 g B1 F1; simp only [Act.put, List.setIfInBounds_toArray, List.set_cons_zero, List.set_cons_succ])
      | (go_at_call 22; with_reducible refine (sets_any w1).mono ?_; rintro e w2 ⟨f0, f1, f2, f3, f4, f5, rfl, h0, h1, h2, h3, h4, h5, b2⟩)
      | ((with_reducible show wpList _ _ _ (⟨none, .store 34 (.tmp 2) _, _, _, _, _⟩ :: _) _ _); refine wp_putAll _ rfl 34 (.tmp 2) (.tmp 11) rfl g 34 _ [f0] rfl rfl (B1.kept b2) rfl z34 (by simpa using h0.one) ?_; intro w3 B3 U3; simp only [Act.put]))
    refine ret_cell 2 34 rfl g _ _ rfl B3.whole Try.underlying34 rfl z34 rfl ⟨f0, rfl, ?_, ?_⟩
    · have hz := U3.size
      have hs1 := F1.size
      have hs2 := F1.is
      rw [hz, inS_out n (Or.inr h)]
      exact (h0.at_ (agree_upd U3 (Or.inl (by omega)))).wide (by omega) (Nat.le_refl _)
    · exact (F1.below.trans (b2.mono F1.below.size)).trans (U3.below (Nat.le_of_eq F1.is.symm))
  · have ix := index_1
    go_enter Try.func17, Try.ntmps17
    go_wp2_with (first
      | ((with_reducible show wpList _ _ _ (⟨some 2, .alloc _, _, _, _, _⟩ :: _) _ _); refine wp_new _ rfl 34 rfl _ y34 ?_; intro w1 g B1 F1; simp only [Act.put, List.setIfInBounds_toArray, List.set_cons_zero, List.set_cons_succ])
      | (go_at_call 22; with_reducible refine (sets_any w1).mono ?_; rintro e w2 ⟨f0, f1, f2, f3, f4, f5, rfl, h0, h1, h2, h3, h4, h5, b2⟩)
      | ((with_reducible show wpList _ _ _ (⟨none, .store 34 (.tmp 2) _, _, _, _, _⟩ :: _) _ _); refine wp_putAll _ rfl 34 (.tmp 2) (.tmp 11) rfl g 34 _ [f1] rfl rfl (B1.kept b2) rfl z34 (by simpa using h1.one) ?_; intro w3 B3 U3; simp only [Act.put]))
    refine ret_cell 2 34 rfl g _ _ rfl B3.whole Try.underlying34 rfl z34 rfl ⟨f1, rfl, ?_, ?_⟩
    · have hz := U3.size
      have hs1 := F1.size
      have hs2 := F1.is
      rw [hz]
      exact (h1.at_ (agree_upd U3 (Or.inl (by omega)))).wide (by omega) (Nat.le_refl _)
    · exact (F1.below.trans (b2.mono F1.below.size)).trans (U3.below (Nat.le_of_eq F1.is.symm))
  · have ix := index_2
    go_enter Try.func17, Try.ntmps17
    go_wp2_with (first
      | ((with_reducible show wpList _ _ _ (⟨some 2, .alloc _, _, _, _, _⟩ :: _) _ _); refine wp_new _ rfl 34 rfl _ y34 ?_; intro w1 g B1 F1; simp only [Act.put, List.setIfInBounds_toArray, List.set_cons_zero, List.set_cons_succ])
      | (go_at_call 22; with_reducible refine (sets_any w1).mono ?_; rintro e w2 ⟨f0, f1, f2, f3, f4, f5, rfl, h0, h1, h2, h3, h4, h5, b2⟩)
      | ((with_reducible show wpList _ _ _ (⟨none, .store 34 (.tmp 2) _, _, _, _, _⟩ :: _) _ _); refine wp_putAll _ rfl 34 (.tmp 2) (.tmp 11) rfl g 34 _ [f2] rfl rfl (B1.kept b2) rfl z34 (by simpa using h2.one) ?_; intro w3 B3 U3; simp only [Act.put]))
    refine ret_cell 2 34 rfl g _ _ rfl B3.whole Try.underlying34 rfl z34 rfl ⟨f2, rfl, ?_, ?_⟩
    · have hz := U3.size
      have hs1 := F1.size
      have hs2 := F1.is
      rw [hz]
      exact (h2.at_ (agree_upd U3 (Or.inl (by omega)))).wide (by omega) (Nat.le_refl _)
    · exact (F1.below.trans (b2.mono F1.below.size)).trans (U3.below (Nat.le_of_eq F1.is.symm))
  · have ix := index_3
    go_enter Try.func17, Try.ntmps17
    go_wp2_with (first
      | ((with_reducible show wpList _ _ _ (⟨some 2, .alloc _, _, _, _, _⟩ :: _) _ _); refine wp_new _ rfl 34 rfl _ y34 ?_; intro w1 g B1 F1; simp only [Act.put, List.setIfInBounds_toArray, List.set_cons_zero, List.set_cons_succ])
      | (go_at_call 22; with_reducible refine (sets_any w1).mono ?_; rintro e w2 ⟨f0, f1, f2, f3, f4, f5, rfl, h0, h1, h2, h3, h4, h5, b2⟩)
      | ((with_reducible show wpList _ _ _ (⟨none, .store 34 (.tmp 2) _, _, _, _, _⟩ :: _) _ _); refine wp_putAll _ rfl 34 (.tmp 2) (.tmp 11) rfl g 34 _ [f3] rfl rfl (B1.kept b2) rfl z34 (by simpa using h3.one) ?_; intro w3 B3 U3; simp only [Act.put]))
    refine ret_cell 2 34 rfl g _ _ rfl B3.whole Try.underlying34 rfl z34 rfl ⟨f3, rfl, ?_, ?_⟩
    · have hz := U3.size
      have hs1 := F1.size
      have hs2 := F1.is
      rw [hz]
      exact (h3.at_ (agree_upd U3 (Or.inl (by omega)))).wide (by omega) (Nat.le_refl _)
    · exact (F1.below.trans (b2.mono F1.below.size)).trans (U3.below (Nat.le_of_eq F1.is.symm))
  · have ix := index_4
    go_enter Try.func17, Try.ntmps17
    go_wp2_with (first
      | ((with_reducible show wpList _ _ _ (⟨some 2, .alloc _, _, _, _, _⟩ :: _) _ _); refine wp_new _ rfl 34 rfl _ y34 ?_; intro w1 g B1 F1; simp only [Act.put, List.setIfInBounds_toArray, List.set_cons_zero, List.set_cons_succ])
      | (go_at_call 22; with_reducible refine (sets_any w1).mono ?_; rintro e w2 ⟨f0, f1, f2, f3, f4, f5, rfl, h0, h1, h2, h3, h4, h5, b2⟩)
      | ((with_reducible show wpList _ _ _ (⟨none, .store 34 (.tmp 2) _, _, _, _, _⟩ :: _) _ _); refine wp_putAll _ rfl 34 (.tmp 2) (.tmp 11) rfl g 34 _ [f4] rfl rfl (B1.kept b2) rfl z34 (by simpa using h4.one) ?_; intro w3 B3 U3; simp only [Act.put]))
    refine ret_cell 2 34 rfl g _ _ rfl B3.whole Try.underlying34 rfl z34 rfl ⟨f4, rfl, ?_, ?_⟩
    · have hz := U3.size
      have hs1 := F1.size
      have hs2 := F1.is
      rw [hz]
      exact (h4.at_ (agree_upd U3 (Or.inl (by omega)))).wide (by omega) (Nat.le_refl _)
    · exact (F1.below.trans (b2.mono F1.below.size)).trans (U3.below (Nat.le_of_eq F1.is.symm))
  · have ix := index_5
    go_enter Try.func17, Try.ntmps17
    go_wp2_with (first
      | ((with_reducible show wpList _ _ _ (⟨some 2, .alloc _, _, _, _, _⟩ :: _) _ _); refine wp_new _ rfl 34 rfl _ y34 ?_; intro w1 g B1 F1; simp only [Act.put, List.setIfInBounds_toArray, List.set_cons_zero, List.set_cons_succ])
      | (go_at_call 22; with_reducible refine (sets_any w1).mono ?_; rintro e w2 ⟨f0, f1, f2, f3, f4, f5, rfl, h0, h1, h2, h3, h4, h5, b2⟩)
      | ((with_reducible show wpList _ _ _ (⟨none, .store 34 (.tmp 2) _, _, _, _, _⟩ :: _) _ _); refine wp_putAll _ rfl 34 (.tmp 2) (.tmp 11) rfl g 34 _ [f5] rfl rfl (B1.kept b2) rfl z34 (by simpa using h5.one) ?_; intro w3 B3 U3; simp only [Act.put]))
    refine ret_cell 2 34 rfl g _ _ rfl B3.whole Try.underlying34 rfl z34 rfl ⟨f5, rfl, ?_, ?_⟩
    · have hz := U3.size
      have hs1 := F1.size
      have hs2 := F1.is
      rw [hz]
      exact (h5.at_ (agree_upd U3 (Or.inl (by omega)))).wide (by omega) (Nat.le_refl _)
    · exact (F1.below.trans (b2.mono F1.below.size)).trans (U3.below (Nat.le_of_eq F1.is.symm))
end Go.Proofs.Ytkiafileelcknaa
