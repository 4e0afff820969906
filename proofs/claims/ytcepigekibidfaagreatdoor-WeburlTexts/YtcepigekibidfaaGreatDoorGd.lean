/-
  The sets of package percent: function values that tell whether a byte is in a set. No condition.
  What percent.find answers: the function value of a set's number. No condition.
  More mathematics of bytes with a percent sign: what is encoded stays so, and is decoded as it was. No program, no condition.
  What percent.In and percent.Encode answer; nothing that was there turns. Condition: texts of at most 100000000 bytes.
-/
import Derived.Test.YtcepigekibidfaaGreatDoorGa
import Derived.Shelf.Abstract
import Derived.Lib.Bytealg
import Derived.RegionTactic
import Derived.BigRegion
namespace Go.Proofs.YtcepigekibidfaaGreatDoor
open Go.RowKit

/-- The bytes that all sets have. -/
def c0 (c : UInt8) : Bool := decide (c.toNat < 32) || decide (126 < c.toNat)
/-- Is a byte among these? -/
def among (l : List UInt8) (c : UInt8) : Bool := l.contains c

/-- The blocks from lo to below hi are the same ones. -/
def Agree (lo hi : Nat) (w W : World) : Prop := ∀ k, lo ≤ k → k < hi → W.heap[k]? = w.heap[k]?
theorem Agree.trans {lo hi : Nat} {w w1 w2 : World} (h : Agree lo hi w w1) (k : Agree lo hi w1 w2) : Agree lo hi w w2 := fun i h1 h2 => (k i h1 h2).trans (h i h1 h2)
theorem Agree.mono {lo hi lo' hi' : Nat} {w W : World} (h : Agree lo hi w W) (h1 : lo ≤ lo') (h2 : hi' ≤ hi) : Agree lo' hi' w W := fun k a b => h k (by omega) (by omega)
theorem agree_below {lo hi B : Nat} {w W : World} (h : Below B w W) (hB : hi ≤ B) : Agree lo hi w W := fun k _ b => h.block k (by omega)
theorem agree_upd {lo hi b : Nat} {w W : World} (h : Upd b w W) (hb : b < lo ∨ hi ≤ b) : Agree lo hi w W := fun k _ _ => h.block k (by omega)
theorem agree_chg {lo hi b : Nat} {w W : World} (h : Chg b b w W) (hb : b < lo) (hh : hi ≤ w.heap.size) : Agree lo hi w W := fun k _ _ => h.block k (by omega) (by omega) (by omega)
theorem Blk.agree {w W : World} {lo hi b : Nat} {t : TypeId} {C : List Value} (h : Blk w b t C) (ha : Agree lo hi w W) (h1 : lo ≤ b) (h2 : b < hi) : Blk W b t C := (ha b h1 h2).trans h

/-- The function value f tells what p tells, in every world whose blocks from lo to below hi are those of w. -/
def Has (lo hi : Nat) (w : World) (f : Value) (p : UInt8 → Bool) : Prop :=
  ∃ g lb, f = .func (.func g) #[] lb ∧ Enters Tryz.prog g ∧ ∀ (W : World) (c : UInt8), Agree lo hi w W → Calls Tryz.prog g (#[vb c] ++ lb) W fun e w' => e = .returned (.bool (p c)) ∧ w' = W

theorem Has.at_ {lo hi : Nat} {w W : World} {f : Value} {p : UInt8 → Bool} (h : Has lo hi w f p) (ha : Agree lo hi w W) : Has lo hi W f p := by
  obtain ⟨g, lb, e, en, hc⟩ := h
  exact ⟨g, lb, e, en, fun W' c hb' => hc W' c (ha.trans hb')⟩
theorem Has.wide {lo hi lo' hi' : Nat} {w : World} {f : Value} {p : UInt8 → Bool} (h : Has lo hi w f p) (h1 : lo' ≤ lo) (h2 : hi ≤ hi') : Has lo' hi' w f p := by
  obtain ⟨g, lb, e, en, hc⟩ := h
  exact ⟨g, lb, e, en, fun W' c hb' => hc W' c (hb'.mono h1 h2)⟩
theorem Has.one {lo hi : Nat} {w : World} {f : Value} {p : UInt8 → Bool} (h : Has lo hi w f p) : f.oneCell' = true := by
  obtain ⟨g, lb, rfl, _⟩ := h
  rfl

theorem has24 (lo hi : Nat) (w : World) : Has lo hi w (.func (.func 136) #[] #[]) (fun _ => false) := by
  refine ⟨136, #[], rfl, enters_of Tryz.func136 (by kernel_rfl) rfl, fun W c _ => ?_⟩
  go_enter Tryz.func136, Tryz.ntmps136
  go_wp2
  go_ret
  exact ⟨rfl, rfl⟩

theorem has25 (lo hi : Nat) (w : World) : Has lo hi w (.func (.func 137) #[] #[]) c0 := by
  refine ⟨137, #[], rfl, enters_of Tryz.func137 (by kernel_rfl) rfl, fun W c _ => ?_⟩
  unfold c0 vb
  generalize c.toNat = n
  by_cases h1 : n < 32 <;> by_cases h2 : 126 < n
  all_goals
    go_enter Tryz.func137, Tryz.ntmps137
    go_wp2
    all_goals first | (exfalso; omega) | (go_ret; exact ⟨by simp [h1, h2] <;> omega, rfl⟩)

theorem index_ge (l : List UInt8) (c : UInt8) : (0 ≤ Lib.indexByte l c) ↔ among l c = true := by
  induction l with
  | nil => simp [Lib.indexByte, among]
  | cons b l ih =>
    unfold Lib.indexByte
    have := Lib.indexByte_ge l c
    simp only [among, List.contains_cons] at ih ⊢
    by_cases h : b = c
    · subst h
      simp
    · have h' : (c == b) = false := by simpa using fun e => h e.symm
      rw [if_neg (by simpa using h), h', Bool.false_or]
      split <;> rename_i h2
      · have : Lib.indexByte l c = -1 := by simpa using h2
        rw [this] at ih
        simpa using ih
      · have h3 : ¬ Lib.indexByte l c = -1 := by simpa using h2
        rw [← ih]
        omega

set_option maxRecDepth 100000 in
theorem indexByte_any (l : List UInt8) (c : UInt8) (w : World) : Calls Tryz.prog 88 #[.string (str l), vb c] w fun e w' => e = .returned (.int .i64 (Lib.indexByte l c)) ∧ w' = w := by
  have h29 : ∀ W, Calls Tryz.prog 109 #[.string (str l), vb c] W fun e w' => e = .returned (.int .i64 (Lib.indexByte l c)) ∧ w' = W := by
    intro W
    unfold vb
    go_enter Tryz.func109, Tryz.ntmps109
    go_wp2
    rw [run_callFunc_extern Tryz.func141 (by kernel_rfl) (by kernel_rfl) (by kernel_rfl) (e := Extern.BytealgIndexByte.indexByte) (by kernel_rfl), Lib.run_indexByteString]
    simp only [Result.andThen]
    rw [Oper.upon_value]
    go_wp2
    go_ret
    refine ⟨?_, rfl⟩
    simp [str]
  unfold vb at h29 ⊢
  go_enter Tryz.func88, Tryz.ntmps88
  go_wp2_with (go_at_call 109; refine (h29 _).mono ?_; rintro e w' ⟨rfl, rfl⟩)
  go_ret
  exact ⟨rfl, rfl⟩

set_option maxHeartbeats 1000000 in
theorem has27 (lo hi : Nat) (w : World) (A B : Nat) (f : Value) (p : UInt8 → Bool) (l : List UInt8) (hA : lo ≤ A ∧ A < hi) (hB : lo ≤ B ∧ B < hi) (bA : Blk w A 85 [f]) (bB : Blk w B 9 [.string (str l)]) (hf : Has lo hi w f p) :
    Has lo hi w (.func (.func 171) #[] #[.pointer (some ⟨A, 0, none⟩), .pointer (some ⟨B, 0, none⟩)]) (fun c => p c || among l c) := by
  refine ⟨171, _, rfl, enters_of Tryz.func171 (by kernel_rfl) rfl, fun W c hb => ?_⟩
  obtain ⟨g, lb, rfl, en, hc⟩ := hf
  have cA' : W.cell? ⟨A, 0, none⟩ = some (.func (.func g) #[] lb) := (bA.agree hb hA.1 hA.2).cell rfl
  have cB' : W.cell? ⟨B, 0, none⟩ = some (.string (str l)) := (bB.agree hb hB.1 hB.2).cell rfl
  have hcall := hc W c hb
  have hidx := indexByte_any l c W
  have hge := index_ge l c
  have hen : ∀ (args : Array Value) (w : World), (callFunc g args).run Tryz.prog w = .ok (.enter g args) w := en
  unfold vb at hcall hidx ⊢
  generalize Lib.indexByte l c = ix at hidx hge
  generalize c.toNat = n at hcall hidx ⊢
  cases hp : p c <;> rw [hp] at hcall
  all_goals
    go_enter Tryz.func171, Tryz.ntmps171
    go_wp2_with (first | (go_at_fn g; with_reducible refine hcall.mono ?_; rintro e w' ⟨rfl, rfl⟩) | (go_at_call 88; with_reducible refine hidx.mono ?_; rintro e w' ⟨rfl, rfl⟩))
    go_ret
    refine ⟨?_, rfl⟩
    simp [hp]
end Go.Proofs.YtcepigekibidfaaGreatDoor
namespace Go.Proofs.YtcepigekibidfaaGreatDoor
open Go.RowKit

theorem z34 : (Tryz.prog.info? 85).map (·.size) = some 1 := by kernel_rfl
theorem y34 : (Tryz.prog.info? 85).map (fun i => i.zero) = some (some (.agg [Value.nilFunc].toArray)) := by kernel_rfl
theorem z42 : (Tryz.prog.info? 131).map (·.size) = some 6 := by kernel_rfl
theorem y42 : (Tryz.prog.info? 131).map (fun i => i.zero) = some (some (.agg [Value.nilFunc, .nilFunc, .nilFunc, .nilFunc, .nilFunc, .nilFunc].toArray)) := by kernel_rfl

set_option maxHeartbeats 1000000 in
theorem and_any (lo hi : Nat) (w : World) (f : Value) (p : UInt8 → Bool) (l : List UInt8) (hf : Has lo hi w f p) (hlo : lo ≤ w.heap.size) (hhi : hi ≤ w.heap.size) :
    Calls Tryz.prog 138 #[.agg #[f], .string (str l)] w fun e w' => ∃ f', e = .returned (.agg #[f']) ∧ Has lo w'.heap.size w' f' (fun c => p c || among l c) ∧ Below w.heap.size w w' := by
  have hmf : ∀ (fn : Fn) (first cap : Array Value) (w : World), (Instr.makeFunc fn first cap).run Tryz.prog w = .ok (.func fn first cap) w := fun _ _ _ _ => rfl
  have hb1 : Below w.heap.size w (((w.alloc (Obj.cells #[f] 85)).alloc (Obj.cells #[Value.string (str l)] 9)).alloc (Obj.cells #[Value.nilFunc] 85)) :=
    (((Below.refl _ _).alloc (Nat.le_refl _) _).alloc (by simp) _).alloc (by simp <;> omega) _
  have hblk : Blk (((w.alloc (Obj.cells #[f] 85)).alloc (Obj.cells #[Value.string (str l)] 9)).alloc (Obj.cells #[Value.nilFunc] 85)) (w.heap.size + 1 + 1) 85 [.nilFunc] := by
    have := Blk.new ((w.alloc (Obj.cells #[f] 85)).alloc (Obj.cells #[Value.string (str l)] 9)) 85 [.nilFunc]
    simpa using this
  have hA : Blk (((w.alloc (Obj.cells #[f] 85)).alloc (Obj.cells #[Value.string (str l)] 9)).alloc (Obj.cells #[Value.nilFunc] 85)) w.heap.size 85 [f] := ((Blk.new w 85 [f]).alloc _).alloc _
  have hB : Blk (((w.alloc (Obj.cells #[f] 85)).alloc (Obj.cells #[Value.string (str l)] 9)).alloc (Obj.cells #[Value.nilFunc] 85)) (w.heap.size + 1) 9 [.string (str l)] := by
    have := (Blk.new (w.alloc (Obj.cells #[f] 85)) 9 [.string (str l)]).alloc (Obj.cells #[Value.nilFunc] 85)
    simpa using this
  go_enter Tryz.func138, Tryz.ntmps138
  go_wp2_with ((with_reducible show wpList _ _ _ (⟨none, .store _ _ _, _, _, _, _⟩ :: _) _ _); refine wp_putAll _ rfl 85 _ _ rfl (w.heap.size + 1 + 1) 85 [.nilFunc] [.func (.func 171) #[] #[.pointer (some ⟨w.heap.size, 0, none⟩), .pointer (some ⟨w.heap.size + 1, 0, none⟩)]] rfl rfl hblk rfl (by kernel_rfl) (by simp [Value.oneCell']) ?_; intro w1 k1 u1)
  have hb2 : Below w.heap.size w w1 := hb1.trans (u1.below (by omega))
  have hA1 : Blk w1 w.heap.size 85 [f] := hA.upd u1 (by omega)
  have hB1 : Blk w1 (w.heap.size + 1) 9 [.string (str l)] := hB.upd u1 (by omega)
  refine ret_cell 4 85 rfl (w.heap.size + 1 + 1) _ _ rfl k1.whole Tryz.underlying85 rfl z34 rfl ⟨_, rfl, ?_, hb2⟩
  have h1 := hA1.lt
  have h2 := hB1.lt
  exact has27 lo w1.heap.size w1 w.heap.size (w.heap.size + 1) f p l ⟨hlo, h1⟩ ⟨by omega, h2⟩ hA1 hB1 ((hf.at_ (agree_below hb2 hhi)).wide (Nat.le_refl _) (Nat.le_trans hhi hb2.size))

section
variable {ops : Array Oper} {o : Oper} {a : Act} {K : Act → World → Prop} {Q : Exit → Act → World → Prop} {E : Prop}
theorem one6 {a b c d e f : Value} (h1 : a.oneCell' = true) (h2 : b.oneCell' = true) (h3 : c.oneCell' = true) (h4 : d.oneCell' = true) (h5 : e.oneCell' = true) (h6 : f.oneCell' = true) : ∀ u ∈ [a, b, c, d, e, f], u.oneCell' = true := by
  intro u hu
  simp only [List.mem_cons, List.not_mem_nil, or_false] at hu
  rcases hu with rfl | rfl | rfl | rfl | rfl | rfl <;> assumption
/-- A whole array is stored into its variable, in a region that draws its order. -/
theorem step_putAll (w : World) (hgd : o.guard = none) (t : TypeId) (x y : Operand) (ho : o.op = .store t x y) (b : Nat) (t0 : TypeId) (C cs : List Value)
    (hx : a.eval x = .pointer (some ⟨b, 0, none⟩)) (hy : a.eval y = .agg cs.toArray) (hb : Blk w b t0 C) (hn : cs.length = C.length) (hi : (Tryz.prog.info? t).map (·.size) = some cs.length) (h1 : ∀ u ∈ cs, u.oneCell' = true)
    (h : ∀ w', Blk w' b t0 cs → Upd b w w' → K (a.put o.dst undef) w') : if Region.wanted o (yielded ops a.tmps) = true then Oper.wp Tryz.prog o a w K Q else E := by
  have hw : Region.wanted o (yielded ops a.tmps) = true := by simp [Region.wanted, hgd]
  rw [if_pos hw]
  have e : C.take 0 ++ cs ++ C.drop (0 + cs.length) = cs := by
    rw [List.drop_eq_nil_of_le (by omega)]
    simp
  have hw' := setCells_blk b t0 cs 0 w C hb (by omega)
  rw [e] at hw'
  exact wp_store_mid t x y ho b 0 cs.toArray hx hy (by simpa using hb.there (o := 0) (n := cs.length) (by omega)) (by simpa using hi) (all_oneCell_toArray h1) (h _ hw' (Upd.setCells b cs 0 w))
end

def s0 : List UInt8 := [32, 34, 60, 62, 96]
def s1 : List UInt8 := [32, 34, 35, 60, 62]
def s2 : List UInt8 := [39]
def s3 : List UInt8 := [63, 94, 96, 123, 125]

theorem and_s0 (lo hi : Nat) (w : World) (f : Value) (p : UInt8 → Bool) (hf : Has lo hi w f p) (hlo : lo ≤ w.heap.size) (hhi : hi ≤ w.heap.size) :
    Calls Tryz.prog 138 #[.agg #[f], .string ⟨#[32, 34, 60, 62, 96]⟩] w fun e w' => ∃ f', e = .returned (.agg #[f']) ∧ Has lo w'.heap.size w' f' (fun c => p c || among s0 c) ∧ Below w.heap.size w w' := and_any lo hi w f p s0 hf hlo hhi
theorem and_s1 (lo hi : Nat) (w : World) (f : Value) (p : UInt8 → Bool) (hf : Has lo hi w f p) (hlo : lo ≤ w.heap.size) (hhi : hi ≤ w.heap.size) :
    Calls Tryz.prog 138 #[.agg #[f], .string ⟨#[32, 34, 35, 60, 62]⟩] w fun e w' => ∃ f', e = .returned (.agg #[f']) ∧ Has lo w'.heap.size w' f' (fun c => p c || among s1 c) ∧ Below w.heap.size w w' := and_any lo hi w f p s1 hf hlo hhi
theorem and_s2 (lo hi : Nat) (w : World) (f : Value) (p : UInt8 → Bool) (hf : Has lo hi w f p) (hlo : lo ≤ w.heap.size) (hhi : hi ≤ w.heap.size) :
    Calls Tryz.prog 138 #[.agg #[f], .string ⟨#[39]⟩] w fun e w' => ∃ f', e = .returned (.agg #[f']) ∧ Has lo w'.heap.size w' f' (fun c => p c || among s2 c) ∧ Below w.heap.size w w' := and_any lo hi w f p s2 hf hlo hhi
theorem and_s3 (lo hi : Nat) (w : World) (f : Value) (p : UInt8 → Bool) (hf : Has lo hi w f p) (hlo : lo ≤ w.heap.size) (hhi : hi ≤ w.heap.size) :
    Calls Tryz.prog 138 #[.agg #[f], .string ⟨#[63, 94, 96, 123, 125]⟩] w fun e w' => ∃ f', e = .returned (.agg #[f']) ∧ Has lo w'.heap.size w' f' (fun c => p c || among s3 c) ∧ Below w.heap.size w w' := and_any lo hi w f p s3 hf hlo hhi

set_option maxHeartbeats 4000000 in
set_option maxRecDepth 100000 in
theorem sets_any (w : World) :
    Calls Tryz.prog 102 #[] w fun e w' => ∃ f0 f1 f2 f3 f4 f5, e = .returned (.agg #[f0, f1, f2, f3, f4, f5]) ∧ Has w.heap.size w'.heap.size w' f0 (fun _ => false) ∧ Has w.heap.size w'.heap.size w' f1 c0
      ∧ Has w.heap.size w'.heap.size w' f2 (fun c => c0 c || among s0 c) ∧ Has w.heap.size w'.heap.size w' f3 (fun c => c0 c || among s1 c)
      ∧ Has w.heap.size w'.heap.size w' f4 (fun c => (c0 c || among s1 c) || among s2 c) ∧ Has w.heap.size w'.heap.size w' f5 (fun c => (c0 c || among s1 c) || among s3 c) ∧ Below w.heap.size w w' := by
  go_enter Tryz.func102, Tryz.ntmps102
  go_wp2_with (first
    | ((with_reducible show wpList _ _ _ (⟨some 0, .alloc _, _, _, _, _⟩ :: _) _ _); refine wp_new _ rfl 131 rfl _ y42 ?_; intro w1 g0 B1 F1; simp only [Act.put, List.setIfInBounds_toArray, List.set_cons_zero])
    | ((with_reducible show wpList _ _ _ (⟨some 1, .alloc _, _, _, _, _⟩ :: _) _ _); refine wp_new _ rfl 85 rfl _ y34 ?_; intro w2 g1 B2 F2; simp only [Act.put, List.setIfInBounds_toArray, List.set_cons_zero, List.set_cons_succ])
    | ((with_reducible show wpList _ _ _ (⟨none, .store 85 (.tmp 1) _, _, _, _, _⟩ :: _) _ _); refine wp_putAll _ rfl 85 (.tmp 1) (.tmp 4) rfl g1 85 _ [.func (.func 136) #[] #[]] rfl rfl B2 rfl z34 (by simp [Value.oneCell']) ?_; intro w3 B3 U3; simp only [Act.put])
    | ((with_reducible show wpList _ _ _ (⟨some 2, .alloc _, _, _, _, _⟩ :: _) _ _); refine wp_new _ rfl 85 rfl _ y34 ?_; intro w4 g2 B4 F4; simp only [Act.put, List.setIfInBounds_toArray, List.set_cons_zero, List.set_cons_succ])
    | ((with_reducible show wpList _ _ _ (⟨none, .store 85 (.tmp 2) _, _, _, _, _⟩ :: _) _ _); refine wp_putAll _ rfl 85 (.tmp 2) (.tmp 5) rfl g2 85 _ [.func (.func 137) #[] #[]] rfl rfl B4 rfl z34 (by simp [Value.oneCell']) ?_; intro w5 B5 U5; simp only [Act.put])
    | ((with_reducible show wpList _ _ _ (⟨some 6, .load _ _, _, _, _, _⟩ :: _) _ _); refine wp_get _ rfl 85 (.tmp 2) rfl g2 0 _ _ rfl B5.whole Tryz.underlying85 rfl z34 ?_; simp only [Act.put, List.setIfInBounds_toArray, List.set_cons_zero, List.set_cons_succ]))
  have hg0 := F1.is
  have hn1 := F1.size
  have hg1 := F2.is
  have hn2 := F2.size
  have hg2 := F4.is
  have hn4 := F4.size
  have hn3 := U3.size
  have hn5 := U5.size
  have b5 : Below w.heap.size w w5 := ((((F1.below).trans (F2.below.mono F1.below.size)).trans (U3.below (by omega))).trans (F4.below.mono (by omega))).trans (U5.below (by omega))
  have R5 : Blk w5 g0 131 _ := ((((B1.kept F2.below).upd U3 (by omega)).kept F4.below).upd U5 (by omega))
  have C5 : Blk w5 g1 85 _ := ((B3.kept F4.below).upd U5 (by omega))
  have LB : Hid (w.heap.size = g0 ∧ g0 < g1 ∧ g1 < g2 ∧ w5.heap.size = g2 + 1) := ⟨by omega, by omega, by omega, by omega⟩
  clear B1 F1 B2 F2 B3 U3 B4 F4 U5 hg0 hn1 hg1 hn2 hg2 hn4 hn3 hn5
  with_reducible refine (and_s1 (g0 + 1) (g0 + 1) w5 _ c0 (has25 _ _ w5) (by have := LB.out; omega) (by have := LB.out; omega)).mono ?_
  rintro e w6 ⟨q, rfl, hq, b6⟩
  have hq1 := hq.one
  have hq1' : ∀ u ∈ [q], u.oneCell' = true := by simpa using hq1
  have N6 : Blk w6 g1 85 _ := C5.kept b6
  have C6 : Blk w6 g2 85 _ := B5.kept b6
  have R6 : Blk w6 g0 131 _ := R5.kept b6
  clear B5 R5 C5
  go_wp2_with (first
    | ((with_reducible show wpList _ _ _ (⟨some 3, .alloc _, _, _, _, _⟩ :: _) _ _); refine wp_new _ rfl 85 rfl _ y34 ?_; intro w7 g3 B7 F7; simp only [Act.put, List.setIfInBounds_toArray, List.set_cons_zero, List.set_cons_succ])
    | ((with_reducible show wpList _ _ _ (⟨none, .store 85 (.tmp 3) _, _, _, _, _⟩ :: _) _ _); refine wp_putAll _ rfl 85 (.tmp 3) (.tmp 7) rfl g3 85 _ [q] rfl rfl B7 rfl z34 hq1' ?_; intro w8 Q8 U8; simp only [Act.put]))
  have hs : Hid (w5.heap.size ≤ w6.heap.size ∧ g3 = w6.heap.size ∧ w8.heap.size = g3 + 1) := ⟨b6.size, F7.is, by rw [U8.size, F7.size]⟩
  have b8 : Below w.heap.size w w8 := ((b5.trans (b6.mono b5.size)).trans (F7.below.mono (Nat.le_trans b5.size b6.size))).trans (U8.below (by have := hs.out; have := LB.out; omega))
  have N8 : Blk w8 g1 85 _ := (N6.kept F7.below).upd U8 (by have := hs.out; have := LB.out; omega)
  have C8 : Blk w8 g2 85 _ := (C6.kept F7.below).upd U8 (by have := hs.out; have := LB.out; omega)
  have R8 : Blk w8 g0 131 _ := (R6.kept F7.below).upd U8 (by have := hs.out; have := LB.out; omega)
  have hq8 : Has (g0 + 1) w6.heap.size w8 q (fun c => c0 c || among s1 c) := hq.at_ ((agree_below F7.below (Nat.le_refl _)).trans (agree_upd U8 (Or.inr (by have := hs.out; omega))))
  clear B7 F7 U8 b6 hq b5 N6 C6 R6
  have LC : Hid (w.heap.size = g0 ∧ g0 < g1 ∧ g1 < g2 ∧ g2 < g3 ∧ w6.heap.size ≤ w8.heap.size ∧ w8.heap.size = g3 + 1) := by have h1 := LB.out; have h2 := hs.out; refine ⟨?_, ?_, ?_, ?_, ?_, ?_⟩ <;> omega
  clear LB hs
  have hS0 : Chg g0 g0 w8 w8.drew := (Chg.refl g0 g0 w8).drew
  refine Code.wp_mono (Q := fun e a' w' => e = .normal ∧ ∃ f2 f4 f5, a' = ⟨#[.pointer (some ⟨g0, 0, none⟩), .pointer (some ⟨g1, 0, none⟩), .pointer (some ⟨g2, 0, none⟩), .pointer (some ⟨g3, 0, none⟩), .agg #[.func (.func 136) #[] #[]], .agg #[.func (.func 137) #[] #[]], .agg #[.func (.func 137) #[] #[]], .agg #[q], .agg #[.func (.func 136) #[] #[]], .agg #[.func (.func 137) #[] #[]], .agg #[.func (.func 137) #[] #[]], .agg #[f2], .agg #[q], .agg #[q], .agg #[f4], .agg #[q], .agg #[f5], .agg #[.func (.func 136) #[] #[], .func (.func 137) #[] #[], f2, q, f4, f5]], []⟩ ∧ Chg g0 g0 w8 w' ∧ Has (g0 + 1) w'.heap.size w' f2 (fun c => c0 c || among s0 c) ∧ Has (g0 + 1) w'.heap.size w' f4 (fun c => (c0 c || among s1 c) || among s2 c) ∧ Has (g0 + 1) w'.heap.size w' f5 (fun c => (c0 c || among s1 c) || among s3 c) ∧ Blk w' g0 131 [.func (.func 136) #[] #[], .func (.func 137) #[] #[], f2, q, f4, f5]) ?imp ?reg
  case reg =>
    refine wp_region_held_drew (S := fun W => Chg g0 g0 w8 W) (by kernel_rfl) hS0 (fun hS => ?_)
    refine wpAnyH_take (i := 0) (oi := ⟨some 8, _, _, _, _, _⟩) (v := _) rfl (by kernel_rfl) (by kernel_rfl) (by kernel_rfl) (fun _ _ _ h => by cases h.1) (yieldsIf_load_mid (by rfl) 85 (.tmp 1) rfl g1 0 rfl [.func (.func 136) #[] #[]] _ (fun W hW => (N8.chg hW (by have := LC.out; omega) (by have := LC.out; omega)).whole) Tryz.underlying85 rfl z34) hS ?_
    simp only [Act.put, List.setIfInBounds_toArray, List.set_cons_zero, List.set_cons_succ]
    refine wpAnyH_take (i := 1) (oi := ⟨some 9, _, _, _, _, _⟩) (v := _) rfl (by kernel_rfl) (by kernel_rfl) (by kernel_rfl) (fun _ _ _ h => by cases h.1) (yieldsIf_load_mid (by rfl) 85 (.tmp 2) rfl g2 0 rfl [.func (.func 137) #[] #[]] _ (fun W hW => (C8.chg hW (by have := LC.out; omega) (by have := LC.out; omega)).whole) Tryz.underlying85 rfl z34) hS ?_
    simp only [Act.put, List.setIfInBounds_toArray, List.set_cons_zero, List.set_cons_succ]
    refine wpAnyH_take (i := 2) (oi := ⟨some 10, _, _, _, _, _⟩) (v := _) rfl (by kernel_rfl) (by kernel_rfl) (by kernel_rfl) (fun _ _ _ h => by cases h.1) (yieldsIf_load_mid (by rfl) 85 (.tmp 2) rfl g2 0 rfl [.func (.func 137) #[] #[]] _ (fun W hW => (C8.chg hW (by have := LC.out; omega) (by have := LC.out; omega)).whole) Tryz.underlying85 rfl z34) hS ?_
    simp only [Act.put, List.setIfInBounds_toArray, List.set_cons_zero, List.set_cons_succ]
    refine wpAnyH_take (i := 4) (oi := ⟨some 12, _, _, _, _, _⟩) (v := _) rfl (by kernel_rfl) (by kernel_rfl) (by kernel_rfl) (fun _ _ _ h => by cases h.1) (yieldsIf_load_mid (by rfl) 85 (.tmp 3) rfl g3 0 rfl [q] _ (fun W hW => (Q8.chg hW (by have := LC.out; omega) (by have := LC.out; omega)).whole) Tryz.underlying85 rfl z34) hS ?_
    simp only [Act.put, List.setIfInBounds_toArray, List.set_cons_zero, List.set_cons_succ]
    refine wpAnyH_take (i := 5) (oi := ⟨some 13, _, _, _, _, _⟩) (v := _) rfl (by kernel_rfl) (by kernel_rfl) (by kernel_rfl) (fun _ _ _ h => by cases h.1) (yieldsIf_load_mid (by rfl) 85 (.tmp 3) rfl g3 0 rfl [q] _ (fun W hW => (Q8.chg hW (by have := LC.out; omega) (by have := LC.out; omega)).whole) Tryz.underlying85 rfl z34) hS ?_
    simp only [Act.put, List.setIfInBounds_toArray, List.set_cons_zero, List.set_cons_succ]
    refine wpAnyH_take (i := 7) (oi := ⟨some 15, _, _, _, _, _⟩) (v := _) rfl (by kernel_rfl) (by kernel_rfl) (by kernel_rfl) (fun _ _ _ h => by cases h.1) (yieldsIf_load_mid (by rfl) 85 (.tmp 3) rfl g3 0 rfl [q] _ (fun W hW => (Q8.chg hW (by have := LC.out; omega) (by have := LC.out; omega)).whole) Tryz.underlying85 rfl z34) hS ?_
    simp only [Act.put, List.setIfInBounds_toArray, List.set_cons_zero, List.set_cons_succ]
    have hK0 := hS
    refine wpAnyH_ready (rs := [3]) (by kernel_rfl) (by simp) ?_
    refine (AllReadyH.cons (o := ⟨some 11, _, _, _, _, _⟩) rfl (fun K hK => ?_) AllReadyH.nil)
    go_simp
    with_reducible refine (and_s0 (g0 + 1) (g0 + 1) _ _ c0 (has25 _ _ _) (by have := LC.out; have := hK0.size; omega) (by have := LC.out; have := hK0.size; omega)).mono ?_
    rintro e w9 ⟨f2, rfl, hf2, hb9⟩
    have hK9 : Chg g0 g0 w8 w9 := hK0.trans (Chg.of_below hb9)
    refine hK.out _ _ hK9 (fun _ => ?_)
    clear hK K
    try simp only [Act.put, List.setIfInBounds_toArray, List.set_cons_zero, List.set_cons_succ]
    refine wpAnyH_ready (rs := [6]) (by kernel_rfl) (by simp) ?_
    refine (AllReadyH.cons (o := ⟨some 14, _, _, _, _, _⟩) rfl (fun K hK => ?_) AllReadyH.nil)
    go_simp
    with_reducible refine (and_s2 (g0 + 1) w6.heap.size _ _ _ (hq8.at_ (agree_chg hK9 (by omega) (by have := LC.out; omega))) (by have := LC.out; have := hK9.size; omega) (by have := LC.out; have := hK9.size; omega)).mono ?_
    rintro e w10 ⟨f4, rfl, hf4, hb10⟩
    have hK10 : Chg g0 g0 w8 w10 := hK9.trans (Chg.of_below hb10)
    refine hK.out _ _ hK10 (fun _ => ?_)
    clear hK K
    try simp only [Act.put, List.setIfInBounds_toArray, List.set_cons_zero, List.set_cons_succ]
    refine wpAnyH_ready (rs := [8]) (by kernel_rfl) (by simp) ?_
    refine (AllReadyH.cons (o := ⟨some 16, _, _, _, _, _⟩) rfl (fun K hK => ?_) AllReadyH.nil)
    go_simp
    with_reducible refine (and_s3 (g0 + 1) w6.heap.size _ _ _ (hq8.at_ (agree_chg hK10 (by omega) (by have := LC.out; omega))) (by have := LC.out; have := hK10.size; omega) (by have := LC.out; have := hK10.size; omega)).mono ?_
    rintro e w11 ⟨f5, rfl, hf5, hb11⟩
    have hK11 : Chg g0 g0 w8 w11 := hK10.trans (Chg.of_below hb11)
    refine hK.out _ _ hK11 (fun _ => ?_)
    clear hK K
    try simp only [Act.put, List.setIfInBounds_toArray, List.set_cons_zero, List.set_cons_succ]
    have o2 := hf2.one
    have o4 := hf4.one
    have o5 := hf5.one
    refine wpAnyH_take (i := 9) (oi := ⟨some 17, _, _, _, _, _⟩) (v := ?va9) rfl (by kernel_rfl) (by kernel_rfl) (by kernel_rfl) (fun _ _ _ h => by cases h.1) (Or.inl ⟨by rfl, ?ya9⟩) hK11 ?ra9
    case ya9 => intro W hW; go_simp; first | done | with_reducible rfl
    simp only [Act.put, List.setIfInBounds_toArray, List.set_cons_zero, List.set_cons_succ]
    refine wpAnyH_ready (rs := [10]) (by kernel_rfl) (by simp) ?_
    refine (AllReadyH.cons (o := ⟨none, _, _, _, _, _⟩) rfl (fun K hK => ?_) AllReadyH.nil)
    refine step_putAll _ rfl 131 (.tmp 0) (.tmp 17) rfl g0 131 _ [.func (.func 136) #[] #[], .func (.func 137) #[] #[], f2, q, f4, f5] rfl rfl (((R8.drew.kept hb9).kept hb10).kept hb11) rfl z42 (one6 rfl rfl o2 hq1 o4 o5) ?_
    intro w12 R12 U12
    have hK12 : Chg g0 g0 w8 w12 := hK11.trans (Chg.upd1 U12 g0)
    refine hK.out _ _ hK12 (fun _ => ?_)
    clear hK K
    refine wpAnyH_done (by kernel_rfl) ?_ _
    have hz := U12.size
    refine ⟨rfl, f2, f4, f5, rfl, hK12, ?_, ?_, ?_, R12⟩
    · refine ((hf2.at_ ((agree_below hb10 (Nat.le_refl _)).trans ((agree_below hb11 hb10.size).trans (agree_upd U12 (Or.inl (by omega)))))).wide (Nat.le_refl _) ?_)
      have := hb10.size
      have := hb11.size
      omega
    · refine ((hf4.at_ ((agree_below hb11 (Nat.le_refl _)).trans (agree_upd U12 (Or.inl (by omega))))).wide (Nat.le_refl _) ?_)
      have := hb11.size
      omega
    · exact (hf5.at_ (agree_upd U12 (Or.inl (by omega)))).wide (Nat.le_refl _) (Nat.le_of_eq hz.symm)
  case imp =>
    rintro e a' w' ⟨rfl, f2, f4, f5, rfl, hc, h2, h4, h5, R⟩
    go_wp2
    refine ret_cell 0 131 rfl g0 _ _ rfl R.whole Tryz.underlying131 rfl z42 rfl ⟨_, _, _, _, _, _, rfl, has24 _ _ _, has25 _ _ _, ?_, ?_, ?_, ?_, ?_⟩
    · exact h2.wide (by have := LC.out; omega) (Nat.le_refl _)
    · exact (hq8.at_ (agree_chg hc (by omega) (by have := LC.out; omega))).wide (by have := LC.out; omega) (by have := LC.out; have := hc.size; omega)
    · exact h4.wide (by have := LC.out; omega) (Nat.le_refl _)
    · exact h5.wide (by have := LC.out; omega) (Nat.le_refl _)
    · exact b8.trans (hc.below (by have := LC.out; omega) (by have := LC.out; omega) (by have := LC.out; omega))

/-- Which bytes are in a set. -/
def inS (n : Int) : UInt8 → Bool :=
  if n = 1 then c0 else if n = 2 then fun c => c0 c || among s0 c else if n = 3 then fun c => c0 c || among s1 c else if n = 4 then fun c => (c0 c || among s1 c) || among s2 c else if n = 5 then fun c => (c0 c || among s1 c) || among s3 c else fun _ => false

theorem inS_out (n : Int) (h : n < 1 ∨ 5 < n) : inS n = fun _ => false := by
  unfold inS
  rw [if_neg (by omega), if_neg (by omega), if_neg (by omega), if_neg (by omega), if_neg (by omega)]

theorem index_0 (f0 f1 f2 f3 f4 f5 : Value) (w : World) : (Instr.index 131 (.agg #[f0, f1, f2, f3, f4, f5]) (.int .i64 0)).run Tryz.prog w = .ok (.agg #[f0]) w := by
  simp [Instr.index, asIntOf, run_underlying Tryz.underlying131, part, Tryz.isAgg85]
theorem index_1 (f0 f1 f2 f3 f4 f5 : Value) (w : World) : (Instr.index 131 (.agg #[f0, f1, f2, f3, f4, f5]) (.int .i64 1)).run Tryz.prog w = .ok (.agg #[f1]) w := by
  simp [Instr.index, asIntOf, run_underlying Tryz.underlying131, part, Tryz.isAgg85]
theorem index_2 (f0 f1 f2 f3 f4 f5 : Value) (w : World) : (Instr.index 131 (.agg #[f0, f1, f2, f3, f4, f5]) (.int .i64 2)).run Tryz.prog w = .ok (.agg #[f2]) w := by
  simp [Instr.index, asIntOf, run_underlying Tryz.underlying131, part, Tryz.isAgg85]
theorem index_3 (f0 f1 f2 f3 f4 f5 : Value) (w : World) : (Instr.index 131 (.agg #[f0, f1, f2, f3, f4, f5]) (.int .i64 3)).run Tryz.prog w = .ok (.agg #[f3]) w := by
  simp [Instr.index, asIntOf, run_underlying Tryz.underlying131, part, Tryz.isAgg85]
theorem index_4 (f0 f1 f2 f3 f4 f5 : Value) (w : World) : (Instr.index 131 (.agg #[f0, f1, f2, f3, f4, f5]) (.int .i64 4)).run Tryz.prog w = .ok (.agg #[f4]) w := by
  simp [Instr.index, asIntOf, run_underlying Tryz.underlying131, part, Tryz.isAgg85]
theorem index_5 (f0 f1 f2 f3 f4 f5 : Value) (w : World) : (Instr.index 131 (.agg #[f0, f1, f2, f3, f4, f5]) (.int .i64 5)).run Tryz.prog w = .ok (.agg #[f5]) w := by
  simp [Instr.index, asIntOf, run_underlying Tryz.underlying131, part, Tryz.isAgg85]

set_option maxHeartbeats 4000000 in
theorem find_any (n : Int) (w : World) :
    Calls Tryz.prog 67 #[.int .i64 n] w fun e w' => ∃ f, e = .returned (.agg #[f]) ∧ Has w.heap.size w'.heap.size w' f (inS n) ∧ Below w.heap.size w w' := by
  have hc : n < 1 ∨ 5 < n ∨ n = 1 ∨ n = 2 ∨ n = 3 ∨ n = 4 ∨ n = 5 := by omega
  rcases hc with h | h | rfl | rfl | rfl | rfl | rfl
  · have ix := index_0
    go_enter Tryz.func67, Tryz.ntmps67
    go_wp2_with (first
      | ((with_reducible show wpList _ _ _ (⟨some 2, .alloc _, _, _, _, _⟩ :: _) _ _); refine wp_new _ rfl 85 rfl _ y34 ?_; intro w1 g B1 F1; simp only [Act.put, List.setIfInBounds_toArray, List.set_cons_zero, List.set_cons_succ])
      | (go_at_call 102; with_reducible refine (sets_any w1).mono ?_; rintro e w2 ⟨f0, f1, f2, f3, f4, f5, rfl, h0, h1, h2, h3, h4, h5, b2⟩)
      | ((with_reducible show wpList _ _ _ (⟨none, .store 85 (.tmp 2) _, _, _, _, _⟩ :: _) _ _); refine wp_putAll _ rfl 85 (.tmp 2) (.tmp 11) rfl g 85 _ [f0] rfl rfl (B1.kept b2) rfl z34 (by simpa using h0.one) ?_; intro w3 B3 U3; simp only [Act.put]))
    refine ret_cell 2 85 rfl g _ _ rfl B3.whole Tryz.underlying85 rfl z34 rfl ⟨f0, rfl, ?_, ?_⟩
    · have hz := U3.size
      have hs1 := F1.size
      have hs2 := F1.is
      rw [hz, inS_out n (Or.inl h)]
      exact (h0.at_ (agree_upd U3 (Or.inl (by omega)))).wide (by omega) (Nat.le_refl _)
    · exact (F1.below.trans (b2.mono F1.below.size)).trans (U3.below (Nat.le_of_eq F1.is.symm))
  · have ix := index_0
    go_enter Tryz.func67, Tryz.ntmps67
    go_wp2_with (first
      | ((with_reducible show wpList _ _ _ (⟨some 2, .alloc _, _, _, _, _⟩ :: _) _ _); refine wp_new _ rfl 85 rfl _ y34 ?_; intro w1 g B1 F1; simp only [Act.put, List.setIfInBounds_toArray, List.set_cons_zero, List.set_cons_succ])
      | (go_at_call 102; with_reducible refine (sets_any w1).mono ?_; rintro e w2 ⟨f0, f1, f2, f3, f4, f5, rfl, h0, h1, h2, h3, h4, h5, b2⟩)
      | ((with_reducible show wpList _ _ _ (⟨none, .store 85 (.tmp 2) _, _, _, _, _⟩ :: _) _ _); refine wp_putAll _ rfl 85 (.tmp 2) (.tmp 11) rfl g 85 _ [f0] rfl rfl (B1.kept b2) rfl z34 (by simpa using h0.one) ?_; intro w3 B3 U3; simp only [Act.put]))
    refine ret_cell 2 85 rfl g _ _ rfl B3.whole Tryz.underlying85 rfl z34 rfl ⟨f0, rfl, ?_, ?_⟩
    · have hz := U3.size
      have hs1 := F1.size
      have hs2 := F1.is
      rw [hz, inS_out n (Or.inr h)]
      exact (h0.at_ (agree_upd U3 (Or.inl (by omega)))).wide (by omega) (Nat.le_refl _)
    · exact (F1.below.trans (b2.mono F1.below.size)).trans (U3.below (Nat.le_of_eq F1.is.symm))
  · have ix := index_1
    go_enter Tryz.func67, Tryz.ntmps67
    go_wp2_with (first
      | ((with_reducible show wpList _ _ _ (⟨some 2, .alloc _, _, _, _, _⟩ :: _) _ _); refine wp_new _ rfl 85 rfl _ y34 ?_; intro w1 g B1 F1; simp only [Act.put, List.setIfInBounds_toArray, List.set_cons_zero, List.set_cons_succ])
      | (go_at_call 102; with_reducible refine (sets_any w1).mono ?_; rintro e w2 ⟨f0, f1, f2, f3, f4, f5, rfl, h0, h1, h2, h3, h4, h5, b2⟩)
      | ((with_reducible show wpList _ _ _ (⟨none, .store 85 (.tmp 2) _, _, _, _, _⟩ :: _) _ _); refine wp_putAll _ rfl 85 (.tmp 2) (.tmp 11) rfl g 85 _ [f1] rfl rfl (B1.kept b2) rfl z34 (by simpa using h1.one) ?_; intro w3 B3 U3; simp only [Act.put]))
    refine ret_cell 2 85 rfl g _ _ rfl B3.whole Tryz.underlying85 rfl z34 rfl ⟨f1, rfl, ?_, ?_⟩
    · have hz := U3.size
      have hs1 := F1.size
      have hs2 := F1.is
      rw [hz]
      exact (h1.at_ (agree_upd U3 (Or.inl (by omega)))).wide (by omega) (Nat.le_refl _)
    · exact (F1.below.trans (b2.mono F1.below.size)).trans (U3.below (Nat.le_of_eq F1.is.symm))
  · have ix := index_2
    go_enter Tryz.func67, Tryz.ntmps67
    go_wp2_with (first
      | ((with_reducible show wpList _ _ _ (⟨some 2, .alloc _, _, _, _, _⟩ :: _) _ _); refine wp_new _ rfl 85 rfl _ y34 ?_; intro w1 g B1 F1; simp only [Act.put, List.setIfInBounds_toArray, List.set_cons_zero, List.set_cons_succ])
      | (go_at_call 102; with_reducible refine (sets_any w1).mono ?_; rintro e w2 ⟨f0, f1, f2, f3, f4, f5, rfl, h0, h1, h2, h3, h4, h5, b2⟩)
      | ((with_reducible show wpList _ _ _ (⟨none, .store 85 (.tmp 2) _, _, _, _, _⟩ :: _) _ _); refine wp_putAll _ rfl 85 (.tmp 2) (.tmp 11) rfl g 85 _ [f2] rfl rfl (B1.kept b2) rfl z34 (by simpa using h2.one) ?_; intro w3 B3 U3; simp only [Act.put]))
    refine ret_cell 2 85 rfl g _ _ rfl B3.whole Tryz.underlying85 rfl z34 rfl ⟨f2, rfl, ?_, ?_⟩
    · have hz := U3.size
      have hs1 := F1.size
      have hs2 := F1.is
      rw [hz]
      exact (h2.at_ (agree_upd U3 (Or.inl (by omega)))).wide (by omega) (Nat.le_refl _)
    · exact (F1.below.trans (b2.mono F1.below.size)).trans (U3.below (Nat.le_of_eq F1.is.symm))
  · have ix := index_3
    go_enter Tryz.func67, Tryz.ntmps67
    go_wp2_with (first
      | ((with_reducible show wpList _ _ _ (⟨some 2, .alloc _, _, _, _, _⟩ :: _) _ _); refine wp_new _ rfl 85 rfl _ y34 ?_; intro w1 g B1 F1; simp only [Act.put, List.setIfInBounds_toArray, List.set_cons_zero, List.set_cons_succ])
      | (go_at_call 102; with_reducible refine (sets_any w1).mono ?_; rintro e w2 ⟨f0, f1, f2, f3, f4, f5, rfl, h0, h1, h2, h3, h4, h5, b2⟩)
      | ((with_reducible show wpList _ _ _ (⟨none, .store 85 (.tmp 2) _, _, _, _, _⟩ :: _) _ _); refine wp_putAll _ rfl 85 (.tmp 2) (.tmp 11) rfl g 85 _ [f3] rfl rfl (B1.kept b2) rfl z34 (by simpa using h3.one) ?_; intro w3 B3 U3; simp only [Act.put]))
    refine ret_cell 2 85 rfl g _ _ rfl B3.whole Tryz.underlying85 rfl z34 rfl ⟨f3, rfl, ?_, ?_⟩
    · have hz := U3.size
      have hs1 := F1.size
      have hs2 := F1.is
      rw [hz]
      exact (h3.at_ (agree_upd U3 (Or.inl (by omega)))).wide (by omega) (Nat.le_refl _)
    · exact (F1.below.trans (b2.mono F1.below.size)).trans (U3.below (Nat.le_of_eq F1.is.symm))
  · have ix := index_4
    go_enter Tryz.func67, Tryz.ntmps67
    go_wp2_with (first
      | ((with_reducible show wpList _ _ _ (⟨some 2, .alloc _, _, _, _, _⟩ :: _) _ _); refine wp_new _ rfl 85 rfl _ y34 ?_; intro w1 g B1 F1; simp only [Act.put, List.setIfInBounds_toArray, List.set_cons_zero, List.set_cons_succ])
      | (go_at_call 102; with_reducible refine (sets_any w1).mono ?_; rintro e w2 ⟨f0, f1, f2, f3, f4, f5, rfl, h0, h1, h2, h3, h4, h5, b2⟩)
      | ((with_reducible show wpList _ _ _ (⟨none, .store 85 (.tmp 2) _, _, _, _, _⟩ :: _) _ _); refine wp_putAll _ rfl 85 (.tmp 2) (.tmp 11) rfl g 85 _ [f4] rfl rfl (B1.kept b2) rfl z34 (by simpa using h4.one) ?_; intro w3 B3 U3; simp only [Act.put]))
    refine ret_cell 2 85 rfl g _ _ rfl B3.whole Tryz.underlying85 rfl z34 rfl ⟨f4, rfl, ?_, ?_⟩
    · have hz := U3.size
      have hs1 := F1.size
      have hs2 := F1.is
      rw [hz]
      exact (h4.at_ (agree_upd U3 (Or.inl (by omega)))).wide (by omega) (Nat.le_refl _)
    · exact (F1.below.trans (b2.mono F1.below.size)).trans (U3.below (Nat.le_of_eq F1.is.symm))
  · have ix := index_5
    go_enter Tryz.func67, Tryz.ntmps67
    go_wp2_with (first
      | ((with_reducible show wpList _ _ _ (⟨some 2, .alloc _, _, _, _, _⟩ :: _) _ _); refine wp_new _ rfl 85 rfl _ y34 ?_; intro w1 g B1 F1; simp only [Act.put, List.setIfInBounds_toArray, List.set_cons_zero, List.set_cons_succ])
      | (go_at_call 102; with_reducible refine (sets_any w1).mono ?_; rintro e w2 ⟨f0, f1, f2, f3, f4, f5, rfl, h0, h1, h2, h3, h4, h5, b2⟩)
      | ((with_reducible show wpList _ _ _ (⟨none, .store 85 (.tmp 2) _, _, _, _, _⟩ :: _) _ _); refine wp_putAll _ rfl 85 (.tmp 2) (.tmp 11) rfl g 85 _ [f5] rfl rfl (B1.kept b2) rfl z34 (by simpa using h5.one) ?_; intro w3 B3 U3; simp only [Act.put]))
    refine ret_cell 2 85 rfl g _ _ rfl B3.whole Tryz.underlying85 rfl z34 rfl ⟨f5, rfl, ?_, ?_⟩
    · have hz := U3.size
      have hs1 := F1.size
      have hs2 := F1.is
      rw [hz]
      exact (h5.at_ (agree_upd U3 (Or.inl (by omega)))).wide (by omega) (Nat.le_refl _)
    · exact (F1.below.trans (b2.mono F1.below.size)).trans (U3.below (Nat.le_of_eq F1.is.symm))
end Go.Proofs.YtcepigekibidfaaGreatDoor
namespace Go.Proofs.YtcepigekibidfaaGreatDoor

theorem pair_none_l {b : UInt8} (c : UInt8) (h : ¬ dig b < 16) : pair b c = none := by
  unfold pair
  rw [if_neg (fun k => h k.1)]
theorem pair_none_r (b : UInt8) {c : UInt8} (h : ¬ dig c < 16) : pair b c = none := by
  unfold pair
  rw [if_neg (fun k => h k.2)]

end Go.Proofs.YtcepigekibidfaaGreatDoor
namespace Go.Proofs.YtcepigekibidfaaGreatDoor
open Go.RowKit

theorem bs_three (w : World) (x y z : Int) (a b c : UInt8) (hx : x = (a.toNat : Int)) (hy : y = (b.toNat : Int)) (hz : z = (c.toNat : Int)) : Bs (w.alloc (.cells #[.int .u8 x, .int .u8 y, .int .u8 z] 5)) (w.heap.size + 1) (some ⟨w.heap.size, 0, none⟩) 3 [a, b, c] := by
  subst hx hy hz
  have := Bs.new w [a, b, c] #[vb a, vb b, vb c] rfl 3 rfl
  simpa [vb] using this
theorem hex_str (n : Nat) (hn : n < 16) (h : n < (ByteArray.mk #[48, 49, 50, 51, 52, 53, 54, 55, 56, 57, 65, 66, 67, 68, 69, 70]).size) : ((ByteArray.mk #[48, 49, 50, 51, 52, 53, 54, 55, 56, 57, 65, 66, 67, 68, 69, 70])[n]'h).toNat = (hex n).toNat := str_at hexs n (by simpa [hexs] using hn) h

set_option maxHeartbeats 4000000 in
set_option maxRecDepth 100000 in
theorem encode_any (n : Int) (l : List UInt8) (w : World) (hl : l.length ≤ 100000000) : Calls Tryz.prog 39 #[.int .i64 n, .string (str l)] w fun e w' => e = .returned (.string (str (enc (inS n) l))) ∧ Below w.heap.size w w' := by
  obtain ⟨i0, hi, hz, hi1, hi2⟩ := info_parts byte_info
  have hsz := str_size l
  have hgb := fun k hk h => str_at l k hk h
  have hts := fun k hk => enc_take_succ (inS n) l k hk
  have hel := fun k => enc_len (inS n) (l.take k)
  have hel' : Hid (∀ k, (enc (inS n) (l.take k)).length ≤ 300000000) := fun k => by have := hel k; rw [List.length_take] at this; omega
  clear hel
  have hall : Hid (enc (inS n) (l.take l.length) = enc (inS n) l) := by
    show _ = _
    rw [List.take_length]
  obtain ⟨S, hS⟩ : ∃ S, S = l.length := ⟨_, rfl⟩
  obtain ⟨p, hp⟩ : ∃ p, p = inS n := ⟨_, rfl⟩
  have FA := Lib.hid (find_any n w)
  rw [← hS] at hsz hgb hts hl hall
  rw [← hp] at FA hts hel' hall ⊢
  clear hp hS
  have HGB := Lib.hid hgb
  have HTS := Lib.hid hts
  clear hgb hts
  go_enter Tryz.func39, Tryz.ntmps39
  go_wp2_with (first
    | (go_at_call 67; with_reducible refine FA.out.mono ?_; rintro e w1 ⟨f, rfl, hf, hb⟩; have hf1 : ∀ u ∈ [f], u.oneCell' = true := by simpa using hf.one)
    | ((with_reducible show wpList _ _ _ (⟨some 5, .alloc _, _, _, _, _⟩ :: _) _ _); refine wp_new _ rfl 85 rfl _ y34 ?_; intro w2 g5 B2 F2; simp only [Act.put, List.setIfInBounds_toArray, List.set_cons_zero, List.set_cons_succ])
    | ((with_reducible show wpList _ _ _ (⟨none, .store 85 (.tmp 5) _, _, _, _, _⟩ :: _) _ _); refine wp_putAll _ rfl 85 (.tmp 5) (.tmp 10) rfl g5 85 _ [f] rfl rfl B2 rfl z34 hf1 ?_; intro w3 B3 U3; simp only [Act.put])
    | (at_make; refine wpList_make_own _ rfl _ _ 36 rfl w3.heap.size 5 i0 _ 1 Tryz.underlying36 hi hz hi1 .i64 .i64 _ S rfl rfl rfl (by rw [hi2]; omega) (by unfold maxLen; omega) (Nat.le_refl _) ?_; intro w4 hown4 hgr4))
  have hn3 : Hid (w.heap.size ≤ w3.heap.size ∧ w1.heap.size ≤ w3.heap.size) := ⟨by rw [U3.size, F2.size, F2.is]; have := hb.size; omega, by rw [U3.size, F2.size, F2.is]; omega⟩
  have b3 : Below w.heap.size w w3 := (hb.trans (F2.below.mono hb.size)).trans (U3.below (by rw [F2.is]; exact hb.size))
  have hf3 : Has w.heap.size w1.heap.size w3 f p := hf.at_ ((agree_below F2.below (Nat.le_refl _)).trans (agree_upd U3 (Or.inr (Nat.le_of_eq F2.is.symm))))
  have hown4 : Own w4 w3.heap.size _ 0 [] := hown4
  have b4 : Kept w3 w4 := (Below.refl _ _).grown hgr4 (Nat.le_refl _) (fun k h => by cases h)
  clear hf B2 F2 U3 hb FA hgr4 hf1
  obtain ⟨g, lb, rfl, en, hc⟩ := hf3
  have hen : ∀ (args : Array Value) (w : World), (callFunc g args).run Tryz.prog w = .ok (.enter g args) w := en
  have HC := Lib.hid hc
  clear hc en
  go_loopw [16, 6] (fun i v wr => ∃ k : Nat, k ≤ S ∧ i = .int .i64 (k : Int) ∧ Kept w3 wr ∧ Own wr w3.heap.size v (enc p (l.take k)).length (enc p (l.take k))) (fun i _ _ => S - (intOf i).toNat)
  case atStart => exact ⟨0, by omega, rfl, b4, by simpa [enc] using hown4⟩
  case round =>
    obtain ⟨k, hk, rfl, hkp, hown⟩ := hrel
    obtain ⟨L, hL⟩ : ∃ L, L = enc p (l.take k) := ⟨_, rfl⟩
    have hLl : Hid (L.length ≤ 300000000) := by show L.length ≤ _; rw [hL]; exact hel'.out k
    rw [← hL] at hown
    obtain ⟨NL, hNL⟩ : ∃ NL, NL = L.length := ⟨_, rfl⟩
    rw [← hNL] at hown hLl
    by_cases hlt : k < S
    · obtain ⟨c, hcd⟩ : ∃ c, c = l.getD k 0 := ⟨_, rfl⟩
      have hts : Hid (enc p (l.take (k + 1)) = L ++ enc1 p c) := by show _ = _; rw [HTS.out k hlt, hL, hcd]
      have hcell : wr.cell? ⟨g5, 0, none⟩ = some (.func (.func g) #[] lb) := (B3.kept hkp).cell rfl
      have hcall := HC.out wr c ((agree_below hkp hn3.out.2))
      obtain ⟨m, hm⟩ : ∃ m, m = c.toNat := ⟨_, rfl⟩
      have hm8 : m < 256 := by rw [hm]; exact c.toNat_lt
      have hget : ∀ h, ((str l)[k]'h).toNat = m := fun h => by rw [hm, hcd]; exact HGB.out k hlt h
      unfold vb at hcall
      rw [← hm] at hcall
      have HM := Lib.hid hm
      have HL := Lib.hid (And.intro hL hNL)
      have hkS : (k : Int) < (S : Int) := by omega
      clear hm hcd hL hNL
      cases hpc : p c
      · rw [hpc] at hcall
        have h1 : Hid (enc1 p c = [c]) := by show _ = _; simp [enc1, hpc]
        clear hpc
        have hkz := hkp.size
        go_wp2_with (first
          | (go_at_fn g; with_reducible refine hcall.mono ?_; rintro e w5 ⟨rfl, rfl⟩)
          | (at_builtin; refine wp_app _ rfl (.tmp 35) (.tmp 37) rfl w3.heap.size _ NL L rfl (hown.alloc _) (w5.heap.size + 1) _ 1 1 [c] rfl (Bs.one' _ _ _ (by rw [HM.out])) (by have := hLl.out; omega) (by simp; omega) ?_; intro v6 w6 hown6 hb6))
        go_roundw
        case rel =>
          refine ⟨k + 1, by omega, by go_num, hkp.base (((Below.refl _ _).alloc hkz _).trans hb6), ?_⟩
          rw [hts.out, h1.out, List.length_append, ← HL.out.2]
          exact hown6
        case measure => simp [intOf]; omega
      · rw [hpc] at hcall
        have h1 : Hid (enc1 p c = [37, hex (m / 16), hex (m % 16)]) := by show _ = _; simp [enc1, hpc, HM.out]
        clear hpc
        have hkz := hkp.size
        obtain ⟨q, hq⟩ : ∃ q, q = m / 16 := ⟨_, rfl⟩
        obtain ⟨r, hr⟩ : ∃ r, r = m % 16 := ⟨_, rfl⟩
        have hq16 : q < 16 := by omega
        have hr16 : r < 16 := by omega
        obtain ⟨x, hx⟩ : ∃ x, x = (hex q).toNat := ⟨_, rfl⟩
        obtain ⟨y, hy⟩ : ∃ y, y = (hex r).toNat := ⟨_, rfl⟩
        have hgx : ∀ h, ((ByteArray.mk #[48, 49, 50, 51, 52, 53, 54, 55, 56, 57, 65, 66, 67, 68, 69, 70])[q]'h).toNat = x := fun h => by rw [hx]; exact hex_str q hq16 h
        have hgy : ∀ h, ((ByteArray.mk #[48, 49, 50, 51, 52, 53, 54, 55, 56, 57, 65, 66, 67, 68, 69, 70])[r]'h).toNat = y := fun h => by rw [hy]; exact hex_str r hr16 h
        rw [← hq, ← hr] at h1
        have hqi : (m : Int) / 16 = (q : Int) := by omega
        have hri : bits .and .u8 (m : Int) 15 = (r : Int) := (u8_and15 (x := (m : Int)) (by omega) (by omega)).trans (by omega)
        have hqi16 : (q : Int) < 16 := by omega
        have hri16 : (r : Int) < 16 := by omega
        have HX := Lib.hid (And.intro hx hy)
        clear hq hr hx hy
        go_wp2_with (go_at_fn g; with_reducible refine hcall.mono ?_; rintro e w5 ⟨rfl, rfl⟩)
        refine wp_region_held_drew (S := fun W => Kept w3 W) (by kernel_rfl) hkp.drew (fun hS => ?_)
        refine wpAnyH_take (i := 0) (oi := ⟨some 26, _, _, _, _, _⟩) (v := ?va0) rfl (by kernel_rfl) (by kernel_rfl) (by kernel_rfl) (fun _ _ _ h => h) (Or.inl ⟨by rfl, ?ya0⟩) hS ?ra0
        case ya0 => intro W hW; go_simp; first | done | with_reducible rfl
        simp only [Act.put, List.setIfInBounds_toArray, List.set_cons_zero, List.set_cons_succ]
        refine wpAnyH_take (i := 1) (oi := ⟨some 27, _, _, _, _, _⟩) (v := ?va1) rfl (by kernel_rfl) (by kernel_rfl) (by kernel_rfl) (fun _ _ _ h => h) (Or.inl ⟨by rfl, ?ya1⟩) hS ?ra1
        case ya1 => intro W hW; go_simp; first | done | with_reducible rfl
        simp only [Act.put, List.setIfInBounds_toArray, List.set_cons_zero, List.set_cons_succ]
        refine wpAnyH_take (i := 2) (oi := ⟨some 28, _, _, _, _, _⟩) (v := ?va2) rfl (by kernel_rfl) (by kernel_rfl) (by kernel_rfl) (fun _ _ _ h => h) (Or.inl ⟨by rfl, ?ya2⟩) hS ?ra2
        case ya2 => intro W hW; go_simp; first | done | with_reducible rfl
        simp only [Act.put, List.setIfInBounds_toArray, List.set_cons_zero, List.set_cons_succ]
        refine wpAnyH_take (i := 3) (oi := ⟨some 29, _, _, _, _, _⟩) (v := ?va3) rfl (by kernel_rfl) (by kernel_rfl) (by kernel_rfl) (fun _ _ _ h => h) (Or.inl ⟨by rfl, ?ya3⟩) hS ?ra3
        case ya3 => intro W hW; go_simp; first | done | with_reducible rfl
        simp only [Act.put, List.setIfInBounds_toArray, List.set_cons_zero, List.set_cons_succ]
        refine wpAnyH_take (i := 4) (oi := ⟨some 30, _, _, _, _, _⟩) (v := ?va4) rfl (by kernel_rfl) (by kernel_rfl) (by kernel_rfl) (fun _ _ _ h => h) (Or.inl ⟨by rfl, ?ya4⟩) hS ?ra4
        case ya4 => intro W hW; go_simp; first | done | with_reducible rfl
        simp only [Act.put, List.setIfInBounds_toArray, List.set_cons_zero, List.set_cons_succ]
        refine wpAnyH_take (i := 5) (oi := ⟨some 31, _, _, _, _, _⟩) (v := ?va5) rfl (by kernel_rfl) (by kernel_rfl) (by kernel_rfl) (fun _ _ _ h => h) (Or.inl ⟨by rfl, ?ya5⟩) hS ?ra5
        case ya5 => intro W hW; go_simp; first | done | with_reducible rfl
        simp only [Act.put, List.setIfInBounds_toArray, List.set_cons_zero, List.set_cons_succ]
        refine wpAnyH_take (i := 6) (oi := ⟨some 32, _, _, _, _, _⟩) (v := ?va6) rfl (by kernel_rfl) (by kernel_rfl) (by kernel_rfl) (fun _ _ _ h => h) (Or.inl ⟨by rfl, ?ya6⟩) hS ?ra6
        case ya6 => intro W hW; go_simp; first | done | with_reducible rfl
        simp only [Act.put, List.setIfInBounds_toArray, List.set_cons_zero, List.set_cons_succ]
        refine wpAnyH_ready (rs := [7]) (by kernel_rfl) (by simp) ?_
        refine (AllReadyH.cons (o := ⟨some 33, _, _, _, _, _⟩) rfl (fun K hK_ => ?_) AllReadyH.nil)
        go_simp
        refine hK_.out _ _ (hS.alloc _) (fun hS3 => ?_)
        clear hK_ K
        refine wpAnyH_ready (rs := [8]) (by kernel_rfl) (by simp) ?_
        refine (AllReadyH.cons (o := ⟨some 34, _, _, _, _, _⟩) rfl (fun K hK_ => ?_) AllReadyH.nil)
        refine step_appS _ rfl (.tmp 26) (.tmp 33) rfl w3.heap.size _ NL L rfl (hown.alloc _).drew (w5.heap.size + 1) _ 3 3 _ rfl (bs_three w5 _ _ _ 37 (hex q) (hex r) rfl ?e2 ?e3).drew (by have := hLl.out; omega) (by simp; omega) (NL + 3) (L ++ [37, hex q, hex r]) rfl rfl ?_
        case e2 => rw [HX.out.1]
        case e3 => rw [HX.out.2]
        intro A7 c7 w7 hc7 hS7 hown7 hbel7
        have K7 : Kept w3 w7 := hS3.base hbel7
        refine hK_.out _ _ K7 (fun _ => ?_)
        clear hK_ K
        simp only [Act.put, List.setIfInBounds_toArray, List.set_cons_zero, List.set_cons_succ]
        refine wpAnyH_take (i := 9) (oi := ⟨some 6, _, _, _, _, _⟩) (v := ?vo9) rfl (by kernel_rfl) (by kernel_rfl) (by kernel_rfl) (fun _ _ _ h => h) (Or.inl ⟨by rfl, ?yo9⟩) K7 ?ro9
        case yo9 => intro W hW; go_simp; first | done | with_reducible rfl
        simp only [Act.put, List.setIfInBounds_toArray, List.set_cons_zero, List.set_cons_succ]
        refine wpAnyH_done (by kernel_rfl) ?_ _
        go_wp2_with fail
        go_roundw
        case rel =>
          refine ⟨k + 1, by omega, by go_num, K7, ?_⟩
          rw [hts.out, h1.out, List.length_append, ← HL.out.2]
          exact hown7
        case measure => simp [intOf]; omega
    · have hk' : Hid (k = S) := by show k = S; omega
      have hkS : (S : Int) ≤ (k : Int) := by omega
      clear hk hlt
      obtain ⟨A, cc, rfl, hcc, hs⟩ := hown.form
      have HL := Lib.hid (And.intro hL hNL)
      clear hL hNL
      have hst := run_str wr _ A NL cc L hs
      go_wp2_with fail
      go_ret
      refine ⟨?_, b3.trans (hkp.mono b3.size)⟩
      rw [← hall.out, ← hk'.out, ← HL.out.1]
      rfl
end Go.Proofs.YtcepigekibidfaaGreatDoor
