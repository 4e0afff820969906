/-
  What frame.frames hands out: the frames one by one, for every loop body that keeps the bytes. Conditions: the table's cells hold what the program's text lays; a slice of at most 1000000000 bytes.
-/
import Derived.Test.YtknnncdmpfmgkaaDoorRound
namespace Go.Proofs.YtknnncdmpfmgkaaDoor
open Go.RowKit Go.Shelf
attribute [local go_sem] Oper.semAt_some

/-- A frame that was taken out of bytes that lie in w0. -/
structure Tk (w0 : World) where
  A : Option Addr
  n : Nat
  c : Nat
  body : List UInt8
  size : Nat
  e : Nat
  hc : n ≤ c
  hcm : c ≤ 9223372036854775807
  hb : Bs w0 w0.heap.size A n body
  hn : n ≤ 1000000000
  hs : size ≤ 1000000000
  he : e ≤ 5
def Tk.val {w0 : World} (x : Tk w0) : Value := .agg #[.slice x.A x.n x.c, .int .i64 x.size, .int .i64 x.e]
def Tk.pure {w0 : World} (x : Tk w0) : List UInt8 × Nat × Nat := (x.body, x.size, x.e)

/-- Frames that lie in memory stay. -/
def Keeps57 (W W' : World) : Prop := ∀ (g : Nat) (cs : Array Value) (fr : Nat × Nat), W.heap[g]? = some (.cells cs 57 fr) → W'.heap[g]? = some (.cells cs 57 fr)
def Kp (n₀ : Nat) (W W' : World) : Prop := Below n₀ W W' ∧ Keeps57 W W'
theorem Kp.trans {n₀ : Nat} {A B C : World} (h : Kp n₀ A B) (k : Kp n₀ B C) : Kp n₀ A C := ⟨h.1.trans k.1, fun g cs fr e => k.2 g cs fr (h.2 g cs fr e)⟩
theorem Kp.putObj {n₀ : Nat} {w : World} (hn : n₀ ≤ w.heap.size) (W : World) (l : Nat) (o o' : Obj) (hl : w.heap.size ≤ l) (h : W.heap[l]? = some o) (ho : o.isCells = false) (h2 : o.isWalk = false) : Kp n₀ W (W.putObj l o') := by
  refine ⟨belowK_b hn W l o o' hl h ho h2, fun g cs fr e => ?_⟩
  by_cases hgl : g = l
  · subst hgl
    rw [h] at e
    cases e
    cases ho
  · exact (World.putObj_heap_other hgl).trans e
theorem Kp.refl (n₀ : Nat) (W : World) : Kp n₀ W W := ⟨Below.refl _ _, fun _ _ _ h => h⟩
theorem Kp.below {n₀ : Nat} {W W' : World} (h : Below W.heap.size W W') (hn : n₀ ≤ W.heap.size) : Kp n₀ W W' :=
  ⟨h.mono hn, fun g _ _ e => (h.block g (Array.getElem?_eq_some_iff.1 e).1).trans e⟩

set_option maxHeartbeats 400000 in
theorem frames_any (A : Option Addr) (n c : Nat) (w : World) :
    Calls Tryd.prog 32 #[.slice A n c] w fun e w' => e = .returned (.func (.func 39) #[] #[.pointer (some ⟨w.heap.size, 0, none⟩)]) ∧ w' = w.alloc (.cells #[.slice A n c] 22) := by
  have hmf : ∀ (fn : Fn) (first cap : Array Value) (w : World), (Instr.makeFunc fn first cap).run Tryd.prog w = .ok (.func fn first cap) w := fun _ _ _ _ => rfl
  go_enter Tryd.func32, Tryd.ntmps32
  go_wp2_with fail
  go_ret
  exact ⟨rfl, rfl⟩

def slLen : Value → Nat
  | .slice _ n _ => n
  | _ => 0
/-- Where the iterator stands: what is left, and what has come. -/
def ItRel (w0 : World) (b : List UInt8) (n : Nat) (J : List (Tk w0) → World → Prop) (v : Value) (wr : World) : Prop :=
  ∃ (A' : Option Addr) (n' c' : Nat) (l' : List UInt8) (pre : List (Tk w0)), v = .slice A' n' c' ∧ Bs w0 w0.heap.size A' n' l' ∧ n' ≤ c' ∧ c' ≤ 9223372036854775807 ∧ n' ≤ n ∧ pre.map Tk.pure ++ seqS l' = seqS b ∧ J pre wr ∧ Below w0.heap.size w0 wr

set_option maxHeartbeats 1000000 in
set_option maxRecDepth 100000 in
theorem frames1_in (m : Nat) (l Bn : Nat) (w0 : World) (A : Option Addr) (n c : Nat) (b : List UInt8) (ht0 : Tab w0) (hbs : Bs w0 w0.heap.size A n b) (hc : n ≤ c) (hcm : c ≤ 9223372036854775807) (hn : n ≤ 1000000000)
    (J Jx : List (Tk w0) → World → Prop) (B0 : Nat) (hJ : AbidesFrom B0 J)
    (hY : ∀ pre x W, J pre W → pre.length < (seqS b).length → YieldAt Fence.wide (m - 1) Tryd.prog l #[x.val] W fun e W' => (e = .returned (.bool true) ∧ J (pre ++ [x]) W' ∧ Kp w0.heap.size W W') ∨ (e = .returned (.bool false) ∧ Jx (pre ++ [x]) W'))
    (W : World) (hW : Below w0.heap.size w0 W) (hBn : W.cell? ⟨Bn, 0, none⟩ = some (.slice A n c)) (h0 : J [] W) :
    CallsIn Fence.wide m Tryd.prog 39 #[.func (.yield l) #[] #[], .pointer (some ⟨Bn, 0, none⟩)] W fun e W' => (∃ v, e = .returned v) ∧
      ((∃ xs, xs.map Tk.pure = seqS b ∧ J xs W') ∨ (∃ pre, pre.map Tk.pure <+: seqS b ∧ Jx pre W')) := by
  have HY := Lib.hid hY
  have HJ := Lib.hid hJ
  clear hY hJ
  refine callsIn_of_wp Tryd.func39 rfl trivial ?_ rfl
  simp only [Tryd.ntmps39, List.size_toArray, List.length_cons, List.length_nil, Nat.reduceAdd, Nat.reduceSub, Array.replicate_succ, Array.replicate_zero, List.push_toArray, List.append_toArray, List.nil_append, List.cons_append]
  gi_wp2
  gi_loopw [3] (fun v wr => ItRel w0 b n J v wr) (fun v _ => slLen v)
  case atStart => exact ⟨A, n, c, b, [], rfl, hbs, hc, hcm, Nat.le_refl _, rfl, h0, hW⟩
  case round =>
    obtain ⟨A', n', c', l', pre, rfl, hB, hc', hcm', hn', hseq, hJp, hbel⟩ := hrel
    have HS := Lib.hid hseq
    clear hseq
    have hl' := Lib.hid hB.1
    by_cases hz : n' = 0
    · subst hz
      have hnil : l' = [] := List.eq_nil_of_length_eq_zero hl'.out
      gi_wp2
      go_end0
      exact ⟨⟨_, rfl⟩, .inl ⟨pre, by rw [← HS.out, hnil]; simp [seqS_nil], hJp⟩⟩
    · have hne : l' ≠ [] := by intro e; rw [e] at hl'; exact hz hl'.out.symm
      have HN := Lib.hid hne
      clear hne
      have hpos : 0 < n' := by omega
      have TK := take_any A' n' c' l' wr (ht0.below hbel) ((hB.below hbel).more hbel.size) hc' hcm' (by omega)
      have hsl := Lib.hid (takeS_le l')
      have hse := Lib.hid (takeS_err l')
      have HSP : Hid (pre.length < (seqS b).length) := by
        show pre.length < (seqS b).length
        have e := congrArg List.length HS.out
        have h1 : 0 < (seqS l').length := by
          by_cases he : (takeS l').2.2 = 0
          · rw [seqS_ok HN.out he]; simp
          · rw [seqS_bad HN.out he]; simp
        simp at e
        omega
      obtain ⟨s, hs⟩ : ∃ s, (takeS l').2.1 = s := ⟨_, rfl⟩
      obtain ⟨er, her⟩ : ∃ s, (takeS l').2.2 = s := ⟨_, rfl⟩
      obtain ⟨bd, hbd⟩ : ∃ s, (takeS l').1 = s := ⟨_, rfl⟩
      have hsn : s ≤ n' := by rw [← hs, ← hl'.out]; exact hsl.out
      have her5 : er ≤ 5 := by rw [← her]; exact hse.out
      have HT : Hid (takeS l' = (bd, s, er)) := by show takeS l' = _; rw [← hs, ← her, ← hbd]
      clear hsl hse
      gi_wp2_with fail
      refine ⟨trivial, (fun h => by cases h), (callsIn_wide.2 TK).mono ?_⟩
      rintro e w1 ⟨A1, n1, c1, rfl, h1, h2, h3, h4, h5⟩
      rw [hs, her]
      rw [hbd] at h4
      clear TK hs her hbd
      have hbel2 : Below wr.heap.size wr (w1.alloc (.cells #[.slice A1 n1 c1, .int .i64 s, .int .i64 er] 57)) := h5.alloc h5.size _
      have HB2 : Hid ((w1.alloc (.cells #[.slice A1 n1 c1, .int .i64 s, .int .i64 er] 57)).heap[w1.heap.size]? = some (.cells #[.slice A1 n1 c1, .int .i64 s, .int .i64 er] 57 (0, 0))) := World.alloc_heap_new w1 _
      have hJ2 := HJ.out pre wr _ none hJp (grownBy_of_below hbel2 none) (fun r e => by cases e)
      obtain ⟨fn, tmps, assign, body, hy, hR⟩ := HY.out pre ⟨A1, n1, c1, bd, s, er, h1, h2, h4 _ _ hB, by omega, by omega, her5⟩ _ hJ2 HSP.out
      dsimp only [Tk.val] at hy
      clear hJp hJ2
      gi_wp2_with fail
      refine ⟨(fun h => by cases h), hR.mono ?_⟩
      rintro e W3 (⟨rfl, hJ3, hk3⟩ | ⟨rfl, hJx3⟩)
      · have hB3 := hk3.2 _ _ _ HB2.out
        have c2 : W3.cell? ⟨w1.heap.size, 2, none⟩ = some (.int .i64 er) := by simp [World.cell?, hB3]
        have c1' : W3.cell? ⟨w1.heap.size, 1, none⟩ = some (.int .i64 s) := by simp [World.cell?, hB3]
        have hbel3 : Below w0.heap.size w0 W3 := (hbel.trans (hbel2.mono hbel.size)).trans hk3.1
        have hB3' := Lib.hid hB3
        clear hB3 hbel2 hk3 hR hy
        by_cases hez : er = 0
        · subst hez
          have HR : Hid (seqS l' = (bd, s, 0) :: seqS (l'.drop s)) := by
            show seqS l' = _
            have := seqS_ok HN.out (show (takeS l').2.2 = 0 by rw [HT.out])
            rw [HT.out] at this
            exact this
          have hp5 : 5 ≤ s := by have := takeS_pos l' (by rw [HT.out]); rw [HT.out] at this; exact this
          gi_wp2_with fail
          refine ⟨⟨_, n' - s, c' - s, l'.drop s, _, rfl, hB.cut (by omega) hc', by omega, by omega, by omega, ?_, hJ3, hbel3⟩, ?_⟩
          · rw [← HS.out, HR.out]; simp [Tk.pure]
          · show n' - s < n'; omega
        · have hed : ((er : Int) != 0) = true := by simp; omega
          have HR : Hid (seqS l' = [(bd, s, er)]) := by
            show seqS l' = _
            have := seqS_bad HN.out (show (takeS l').2.2 ≠ 0 by rw [HT.out]; exact hez)
            rw [HT.out] at this
            exact this
          gi_wp2_with fail
          refine bodyPost_ret (results_none rfl _ _ _) rfl ?_
          exact ⟨⟨_, rfl⟩, .inl ⟨_, by rw [← HS.out, HR.out]; simp [Tk.pure], hJ3⟩⟩
      · gi_wp2_with fail
        refine bodyPost_ret (results_none rfl _ _ _) rfl ?_
        refine ⟨⟨_, rfl⟩, .inr ⟨_, ?_, hJx3⟩⟩
        rw [← HS.out]
        by_cases he : (takeS l').2.2 = 0
        · rw [seqS_ok HN.out he, HT.out]; simp [Tk.pure]
        · rw [seqS_bad HN.out he, HT.out]; simp [Tk.pure]

theorem frames_stops (m : Nat) (Bn : Nat) (w0 : World) (A : Option Addr) (n c : Nat) (b : List UInt8) (ht0 : Tab w0) (hbs : Bs w0 w0.heap.size A n b) (hc : n ≤ c) (hcm : c ≤ 9223372036854775807) (hn : n ≤ 1000000000)
    (w : World) (hw : Below w0.heap.size w0 w) (hBn : Bn < w.heap.size) (hcell : w.cell? ⟨Bn, 0, none⟩ = some (.slice A n c)) :
    SeqStopsK Fence.wide m Tryd.prog 39 #[.pointer (some ⟨Bn, 0, none⟩)] (fun x : Tk w0 => #[x.val]) (Kp w0.heap.size) (fun xs => xs.map Tk.pure = seqS b) (fun pre => pre.map Tk.pure <+: seqS b) (seqS b).length w := fun l J Jx W hW hJ _ hY h0 =>
  frames1_in m l Bn w0 A n c b ht0 hbs hc hcm hn J Jx _ hJ hY W (hw.trans (hW.mono hw.size)) ((hW.cell (p := ⟨Bn, 0, none⟩) hBn).trans hcell) h0
end Go.Proofs.YtknnncdmpfmgkaaDoor
