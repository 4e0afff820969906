/-
  What frame.split answers: the bodies in rows of its own, the place, what is wrong; nothing that was in memory turns. Conditions: the table's cells hold what the program's text lays; a slice of at most 1000000000 bytes.
-/
import Derived.Test.YtknnncdmpfmgkaaDoorSnoc
import Derived.Lib.SlBytesConst
namespace Go.Proofs.YtknnncdmpfmgkaaDoor
open Go.RowKit Go.Shelf
attribute [local go_sem] Oper.semAt_some

def SplitEnd (w : World) (r : List (List UInt8) × Nat × Nat) (e : Ending) (w' : World) : Prop :=
  ∃ v, e = .returned (.tuple #[v, .int .i64 r.2.1, .int .i64 r.2.2]) ∧ Rs w' w.heap.size v r.1 ∧ Below w.heap.size w w'

/-- A region that ends, with the three variables at their places, in a world that is so. -/
def NormAt (B : Nat) (ds : List Deferred) (R : World → Prop) : Exit → Act → World → Prop := fun e a w => e = .normal ∧ (a.defers = ds ∧ a.tmps.getD 2 undef = .pointer (some ⟨B, 0, none⟩) ∧ a.tmps.getD 3 undef = .pointer (some ⟨B + 1, 0, none⟩) ∧ a.tmps.getD 4 undef = .pointer (some ⟨B + 1 + 1, 0, none⟩)) ∧ R w
theorem NormAt.lets {B : Nat} {ds : List Deferred} {R : World → Prop} : ¬ LetsOut (NormAt B ds R) := by
  rintro ⟨a, w, h⟩
  exact by cases h.1
theorem res23 (tm : Array Value) (W : World) (B : Nat) (v x y : Value) (h2 : tm.getD 2 undef = .pointer (some ⟨B, 0, none⟩)) (h3 : tm.getD 3 undef = .pointer (some ⟨B + 1, 0, none⟩)) (h4 : tm.getD 4 undef = .pointer (some ⟨B + 1 + 1, 0, none⟩))
    (c2 : W.cell? ⟨B, 0, none⟩ = some v) (c3 : W.cell? ⟨B + 1, 0, none⟩ = some x) (c4 : W.cell? ⟨B + 1 + 1, 0, none⟩ = some y) : (results Tryd.f23 tm).run Tryd.prog W = .ok (.tuple #[v, x, y]) W := by
  rw [Array.getD_eq_getD_getElem?] at h2 h3 h4
  simp [results, Tryd.results23, go_sem, h2, h3, h4, c2, c3, c4]

theorem Sst.own {w W W' : World} {v : Value} {bs : List (List UInt8)} {a e : Nat} {B : Nat} {row : Option Nat} (h : Sst w W v bs a e) (hB : w.heap.size ≤ B) (hg : W.grownBy W' row) (hr : ∀ r, row = some r → B ≤ r ∧ ∃ o : Obj, W.heap[r]? = some o ∧ o.isCells = false) : Sst w W' v bs a e :=
  h.cells (KeepsCells.of_grown hg fun r e => (hr r e).2) ((Below.refl _ _).grown hg h.bel.size fun k e => Nat.le_trans hB (hr k e).1)
/-- Between two rounds. -/
structure Iv (w : World) (m1 : Nat) (pre : List (Tk w)) (W : World) : Prop where
  st : ∃ v, Sst w W v (pre.map Tk.body) (m1 + sizes (pre.map Tk.pure)) 0
  ok : ∀ x ∈ pre.map Tk.pure, x.2.2 = 0
  len : pre.length ≤ 4096
/-- A round has left: one frame too many, or one that is wrong. -/
def Ixv (w : World) (m1 : Nat) (c : Code) (pre : List (Tk w)) (W : World) : Prop :=
  c = .ret ∧ ∃ (q : List (Tk w)) (x : Tk w) (v : Value) (a e : Nat), pre = q ++ [x] ∧ Sst w W v (q.map Tk.body) a e ∧ (∀ x ∈ q.map Tk.pure, x.2.2 = 0) ∧ q.length ≤ 4096 ∧
    ((q.length = 4096 ∧ a = m1 + sizes (q.map Tk.pure) ∧ e = 5) ∨ (q.length ≠ 4096 ∧ x.e ≠ 0 ∧ a = m1 + sizes (q.map Tk.pure) + x.size ∧ e = x.e))
theorem Iv.own (w : World) (m1 B : Nat) (hB : w.heap.size ≤ B) : OwnFrom B (Iv w m1) := fun s W W' row h hg hr => by
  obtain ⟨v, hv⟩ := h.st
  exact ⟨⟨v, hv.own hB hg hr⟩, h.ok, h.len⟩
theorem Ixv.own (w : World) (m1 B : Nat) (c : Code) (hB : w.heap.size ≤ B) : OwnFrom B (Ixv w m1 c) := fun s W W' row h hg hr => by
  obtain ⟨h1, q, x, v, a, e, h2, h3, h4⟩ := h
  exact ⟨h1, q, x, v, a, e, h2, h3.own hB hg hr, h4⟩
theorem sizes_le {w : World} : ∀ (q : List (Tk w)), sizes (q.map Tk.pure) ≤ q.length * 1000000000
  | [] => by simp [sizes]
  | x :: q => by
    have h1 := sizes_le q
    have h2 := x.hs
    simp only [sizes, List.map_cons, List.sum_cons, Tk.pure, List.length_cons] at h1 ⊢
    omega
theorem Ixv.res {w : World} {m1 : Nat} {c : Code} {pre : List (Tk w)} {W : World} (h : Ixv w m1 c pre W) {F : List (List UInt8 × Nat × Nat)} (hp : pre.map Tk.pure <+: F) :
    ∃ v a e, Sst w W v (runQ 0 F).1 a e ∧ a = m1 + (runQ 0 F).2.1 ∧ e = (runQ 0 F).2.2 := by
  obtain ⟨_, q, x, v, a, e, rfl, hs, hq, hl, hx⟩ := h
  obtain ⟨r, rfl⟩ := hp
  have e1 : (q ++ [x]).map Tk.pure ++ r = q.map Tk.pure ++ (x.pure :: r) := by simp
  rw [e1, runQ_front _ _ 0 hq (by simpa using hl)]
  refine ⟨v, a, e, ?_, ?_⟩
  · have e2 : (runQ (0 + (q.map Tk.pure).length) (x.pure :: r)).1 = [] := by
      rw [runQ]
      rcases hx with ⟨h1, _⟩ | ⟨h1, h2, _⟩
      · rw [if_pos (by simpa using h1)]
      · rw [if_neg (by simpa using h1), if_pos (by simpa [Tk.pure] using h2)]
    rw [e2, List.append_nil, List.map_map]
    exact hs
  · rw [runQ]
    rcases hx with ⟨h1, h3, h4⟩ | ⟨h1, h2, h3, h4⟩
    · rw [if_pos (by simpa using h1)]
      exact ⟨h3, h4⟩
    · rw [if_neg (by simpa using h1), if_pos (by simpa [Tk.pure] using h2)]
      exact ⟨by rw [h3]; simp [Tk.pure]; omega, h4⟩
theorem Iv.res {w : World} {m1 : Nat} {pre : List (Tk w)} {W : World} (h : Iv w m1 pre W) {F : List (List UInt8 × Nat × Nat)} (hp : pre.map Tk.pure = F) :
    ∃ v, Sst w W v (runQ 0 F).1 (m1 + (runQ 0 F).2.1) 0 ∧ (runQ 0 F).2.2 = 0 := by
  obtain ⟨v, hv⟩ := h.st
  have := runQ_front (pre.map Tk.pure) [] 0 h.ok (by simpa using h.len)
  rw [List.append_nil, hp] at this
  simp only [runQ, List.append_nil, Nat.add_zero] at this
  refine ⟨v, ?_, by rw [this]⟩
  rw [this, ← hp, List.map_map]
  exact hv

set_option maxHeartbeats 4000000 in
theorem split_any (A : Option Addr) (n c : Nat) (b : List UInt8) (w : World) (ht : Tab w) (hbs : Bs w w.heap.size A n b) (hc : n ≤ c) (hcm : c ≤ 9223372036854775807) (hn : n ≤ 1000000000) :
    Calls Tryd.prog 23 #[.slice A n c] w (SplitEnd w (splitS b)) := by
  have hl := Lib.hid hbs.1
  obtain ⟨m1, hm1⟩ : ∃ m, (matchS b op4 3).1 = m := ⟨_, rfl⟩
  obtain ⟨m2, hm2⟩ : ∃ m, (matchS b op4 3).2 = m := ⟨_, rfl⟩
  have HP : Hid (pair (matchS b op4 3) = .tuple #[.int .i64 m1, .int .i64 m2]) := by show pair _ = _; rw [pair, hm1, hm2]
  refine (callsIn_wide (n := 5)).1 ?_
  refine callsIn_of_wp_marks Tryd.func23 rfl trivial ?_ rfl
  simp only [Tryd.ntmps23, List.size_toArray, List.length_cons, List.length_nil, Nat.reduceAdd, Nat.reduceSub, Array.replicate_succ, Array.replicate_zero, List.push_toArray, List.append_toArray, List.nil_append, List.cons_append]
  gi_wp2_with fail
  have b2 := ((Boxed.new w 24 (.slice none 0 0)).alloc (.cells #[.int .i64 0] 3)).alloc (.cells #[.int .i64 0] 25)
  have b3 := (Boxed.new (w.alloc (.cells #[.slice none 0 0] 24)) 3 (.int .i64 0)).alloc (.cells #[.int .i64 0] 25)
  have b4 := Boxed.new ((w.alloc (.cells #[.slice none 0 0] 24)).alloc (.cells #[.int .i64 0] 3)) 25 (.int .i64 0)
  simp only [World.size_alloc] at b3 b4
  have hW0 : Below w.heap.size w (((w.alloc (.cells #[.slice none 0 0] 24)).alloc (.cells #[.int .i64 0] 3)).alloc (.cells #[.int .i64 0] 25)) := (((Below.refl _ w).alloc (Nat.le_refl _) _).alloc (by simp) _).alloc (by simp; omega) _
  have HSZ : w.heap.size + 1 + 1 + 1 = (((w.alloc (.cells #[.slice none 0 0] 24)).alloc (.cells #[.int .i64 0] 3)).alloc (.cells #[.int .i64 0] 25)).heap.size := by simp
  revert b2 b3 b4 hW0 HSZ
  generalize ((w.alloc (.cells #[.slice none 0 0] 24)).alloc (.cells #[.int .i64 0] 3)).alloc (.cells #[.int .i64 0] 25) = W0
  intro b2 b3 b4 hW0 HSZ
  have hsz : w.heap.size + 1 + 1 + 1 = W0.heap.size := HSZ
  have kc := Lib.run_convert_bytes_const (P := Tryd.prog) W0 22 5 #[.int .u8 84, .int .u8 82, .int .u8 78, .int .u8 49] 4 4 Tryd.underlying22 Tryd.underlying5
  rw [← hsz] at kc
  have hb4 : Bs (W0.alloc (.cells #[.int .u8 84, .int .u8 82, .int .u8 78, .int .u8 49] 5 (4, 5))) (W0.heap.size + 1) (some ⟨w.heap.size + 1 + 1 + 1, 0, none⟩) 4 op4 := by
    refine ⟨rfl, fun _ => ⟨_, 0, rfl, by omega, fun j x hj => ?_⟩⟩
    rw [hsz, Nat.zero_add, cell_of_row _ _ _ _ _ _ (heap_alloc_new W0 _)]
    match j, hj with
    | 0, hj => simp [op4] at hj; subst hj; rfl
    | 1, hj => simp [op4] at hj; subst hj; rfl
    | 2, hj => simp [op4] at hj; subst hj; rfl
    | 3, hj => simp [op4] at hj; subst hj; rfl
  have hW1 : Below w.heap.size w (W0.alloc (.cells #[.int .u8 84, .int .u8 82, .int .u8 78, .int .u8 49] 5 (4, 5))) := hW0.alloc hW0.size _
  have b2 := b2.alloc (.cells #[.int .u8 84, .int .u8 82, .int .u8 78, .int .u8 49] 5 (4, 5))
  have b3 := b3.alloc (.cells #[.int .u8 84, .int .u8 82, .int .u8 78, .int .u8 49] 5 (4, 5))
  have b4 := b4.alloc (.cells #[.int .u8 84, .int .u8 82, .int .u8 78, .int .u8 49] 5 (4, 5))
  have MA := match_any A n c b (some ⟨w.heap.size + 1 + 1 + 1, 0, none⟩) 4 4 op4 3 _ _ ((hbs.below hW1).more (by have := hW0.size; omega)) hb4 hn (by omega)
  rw [HP.out] at MA
  rw [show (#[Value.int .u8 84, .int .u8 82, .int .u8 78, .int .u8 49] : Array Value).size = 4 from rfl] at kc
  rw [kc]
  clear kc hb4 hW0 hsz HSZ
  revert b2 b3 b4 hW1 MA
  generalize W0.alloc (.cells #[.int .u8 84, .int .u8 82, .int .u8 78, .int .u8 49] 5 (4, 5)) = W1
  intro hW1 b2 b3 b4 MA
  have c2 := b2.cell
  have c3 := b3.cell
  have c4 := b4.cell
  have f2 := b2.frozen
  have f3 := b3.frozen
  have f4 := b4.frozen
  gi_wp2_with fail
  refine ⟨trivial, (callsIn_wide.2 MA).mono ?_⟩
  rintro e w1 ⟨rfl, rfl⟩
  clear MA
  by_cases hz : m2 = 0
  · subst hz
    obtain ⟨hm3, hm4, hm5⟩ := matchS_back 3 (by omega) b op4 hm2
    rw [show op4.length = 4 from rfl] at hm3 hm4 hm5
    have H4 : Hid (m1 = 4) := by show m1 = 4; omega
    rw [hl.out] at hm5
    have h4n : m1 ≤ n := by have := H4.out; omega
    have HR0 : Hid (splitS b = ((runQ 0 (seqS (b.drop m1))).1, m1 + (runQ 0 (seqS (b.drop m1))).2.1, (runQ 0 (seqS (b.drop m1))).2.2)) := by
      show splitS b = _
      unfold splitS
      rw [hm2, if_neg (by simp), H4.out]
    clear hm1 hm2 hm3 hm4 hm5 HP
    obtain ⟨A7, hA7⟩ : ∃ A7, (if c = m1 then A else A.map (fun x => x.add m1)) = A7 := ⟨_, rfl⟩
    have HC := hbs.cut h4n hc
    rw [hA7] at HC
    gi_wp2_with fail
    have S2 : Sst w ((W1.setCell ⟨w.heap.size + 1, 0, none⟩ (.int .i64 m1)).setCell ⟨w.heap.size + 1 + 1, 0, none⟩ (.int .i64 ((0 : Nat) : Int))) (.slice none 0 0) [] m1 0 := ((Sst.mk b2 b3 b4 (Rs.nil _ _) hW1 : Sst w W1 (.slice none 0 0) [] 0 0).set3 m1).set4 0
    revert S2
    rw [show ((0 : Nat) : Int) = 0 from rfl]
    generalize (W1.setCell ⟨w.heap.size + 1, 0, none⟩ (.int .i64 m1)).setCell ⟨w.heap.size + 1 + 1, 0, none⟩ (.int .i64 0) = W2
    intro S2
    clear b2 b3 b4 c2 c3 c4 f2 f3 f4
    refine ⟨trivial, (callsIn_wide.2 (frames_any A7 (n - m1) (c - m1) W2)).mono ?_⟩
    rintro e w3 ⟨rfl, hw3⟩
    have B3 : w3.cell? ⟨W2.heap.size, 0, none⟩ = some (.slice A7 (n - m1) (c - m1)) := by rw [hw3]; exact (Boxed.new W2 22 _).cell
    have S3 : Sst w w3 (.slice none 0 0) [] m1 0 := by
      rw [hw3]
      exact S2.cells (fun k cs t fr e => (Below.heap_alloc W2 _ k (Array.getElem?_eq_some_iff.1 e).1).trans e) ((Below.refl _ _).alloc S2.bel.size _)
    have hlt3 : W2.heap.size < w3.heap.size := by rw [hw3]; simp
    generalize W2.heap.size = N2 at *
    clear hw3 S2
    gi_wp2_with fail
    have hsz3 := S3.bel.size
    refine wpIn_rangeFunc_ownH rfl (by omega) (gf := 39) (lb := #[.pointer (some ⟨N2, 0, none⟩)]) rfl trivial (enters_of Tryd.func39 (by kernel_rfl) rfl)
      (frames_stops _ N2 w A7 (n - m1) (c - m1) (b.drop m1) ht HC (by omega) (by omega) (by omega) w3 S3.bel hlt3 B3) Kp.trans (Kp.putObj hsz3) (Below.refl _ _) (fun _ => rfl)
      (Iv w m1) (Ixv w m1) (Iv.own w m1 _ hsz3) (fun c => Ixv.own w m1 _ c hsz3) ⟨⟨_, S3⟩, by simp, by simp⟩
      (fun x a' W => ∃ Bx : Nat, W.heap[Bx]? = some (Obj.cells #[.slice x.A x.n x.c, .int .i64 x.size, .int .i64 x.e] 57 (0, 0)) ∧ a' = { tmps := #[.slice A n c, undef, .pointer (some ⟨w.heap.size, 0, none⟩), .pointer (some ⟨w.heap.size + 1, 0, none⟩), .pointer (some ⟨w.heap.size + 1 + 1, 0, none⟩), .pointer (some ⟨Bx, 0, none⟩), .tuple #[.int .i64 m1, .int .i64 0], .slice A n c, .slice (some ⟨w.heap.size + 1 + 1 + 1, 0, none⟩) 4 4, .slice (some ⟨w.heap.size + 1 + 1 + 1, 0, none⟩) 4 4, .tuple #[.int .i64 m1, .int .i64 0], .int .i64 m1, .int .i64 0, .int .i64 0, .bool false, undef, undef, .slice A n c, .int .i64 m1, .slice A7 (n - m1) (c - m1), .func (.func 39) #[] #[.pointer (some ⟨N2, 0, none⟩)], .agg #[.slice x.A x.n x.c, .int .i64 x.size, .int .i64 x.e], undef, undef, undef, undef, undef, undef, undef, undef, undef, undef, undef, undef, undef, undef, undef, undef, undef, undef, undef, undef, undef, undef, undef, undef, undef], defers := [] })
      (fun x a' _ X Y row hs hg hr => by
        obtain ⟨Bx, h2, h3⟩ := hs
        exact ⟨Bx, KeepsCells.of_grown hg (fun r e => (hr r e).2) _ _ _ _ h2, h3⟩)
      ?assign ?body ?done ?stop
    case assign =>
      rintro l pre x W K hi hK
      dsimp only [Tk.val]
      gi_wp2
      obtain ⟨v, hv⟩ := hi.st
      have hb : Below W.heap.size W (W.alloc (Obj.cells #[.slice x.A x.n x.c, .int .i64 x.size, .int .i64 x.e] 57)) := (Below.refl _ _).alloc (Nat.le_refl _) _
      have hr := Rnd.below (w := w) (B := w3.heap.size) hb hv.bel.size
      exact hK _ _ hr.kf hr.kp ⟨⟨v, hv.cells (fun k cs t fr e => (hb.block k (Array.getElem?_eq_some_iff.1 e).1).trans e) (hb.mono hv.bel.size)⟩, hi.ok, hi.len⟩ ⟨W.heap.size, World.alloc_heap_new W _, rfl⟩
    case body =>
      rintro l pre x a' W hl _ hi ⟨Bx, hBx, rfl⟩ hlt
      obtain ⟨v, hv⟩ := hi.st
      have hsz := sizes_le pre
      have hxs := x.hs
      have hxe := x.he
      obtain ⟨Av, cv, rfl⟩ := hv.rs.form
      have SS : Ss w w3.heap.size W Bx #[.slice x.A x.n x.c, .int .i64 x.size, .int .i64 x.e] (.slice Av (pre.map Tk.body).length cv) (pre.map Tk.body) (m1 + sizes (pre.map Tk.pure)) 0 W := ⟨hv, Rnd.refl _ _ _, hBx⟩
      have HI := Lib.hid (And.intro hi.ok hi.len)
      have hle := hi.len
      have HB := Lib.hid x.hb
      have hxc := x.hc
      have hxn := x.hn
      clear hv hi S3 B3 hBx
      rw [List.length_map] at SS
      obtain ⟨xA, eA⟩ : ∃ a, x.A = a := ⟨_, rfl⟩
      obtain ⟨xn, en⟩ : ∃ a, x.n = a := ⟨_, rfl⟩
      obtain ⟨xc, ec⟩ : ∃ a, x.c = a := ⟨_, rfl⟩
      obtain ⟨xs, es⟩ : ∃ a, x.size = a := ⟨_, rfl⟩
      obtain ⟨xe, ee⟩ : ∃ a, x.e = a := ⟨_, rfl⟩
      obtain ⟨xb, eb⟩ : ∃ a, x.body = a := ⟨_, rfl⟩
      simp only [eA, en, ec, es, ee, eb] at SS hxs hxe HB hxc hxn ⊢
      have HX := Lib.hid (And.intro es (And.intro ee eb))
      clear eA en ec es ee eb
      obtain ⟨s0, hs0⟩ : ∃ s, m1 + sizes (pre.map Tk.pure) = s := ⟨_, rfl⟩
      rw [hs0] at SS
      have hs1 : s0 ≤ 5000000000000 := by have := H4.out; omega
      have HS0 := Lib.hid hs0
      clear hs0 hsz
      have c2 := SS.st.b2.cell
      have c3 := SS.st.b3.cell
      have f3 := SS.st.b3.frozen
      have x1 : W.cell? ⟨Bx, 1, none⟩ = some (.int .i64 xs) := by simp [World.cell?, SS.fx]
      have x2 : W.cell? ⟨Bx, 2, none⟩ = some (.int .i64 xe) := by simp [World.cell?, SS.fx]
      by_cases hmany : pre.length = 4096
      · have hd : ((pre.length : Int) == 4096) = true := by simp; omega
        have HM := Lib.hid hmany
        rw [hmany] at SS
        clear c2
        have c2 := SS.st.b2.cell
        clear hmany hle
        gi_wp2_with fail
        refine Code.wpIn_mono (Q := NormAt w.heap.size [] fun W' => Ss w w3.heap.size W Bx #[.slice xA xn xc, .int .i64 xs, .int .i64 xe] (.slice Av 4096 cv) (pre.map Tk.body) s0 5 W') ?imp7 ?reg7
        case reg7 =>
          refine round_held (S := fun W' => ∃ er, Ss w w3.heap.size W Bx #[.slice xA xn xc, .int .i64 xs, .int .i64 xe] (.slice Av 4096 cv) (pre.map Tk.body) s0 er W') (by kernel_rfl) (by kernel_rfl) NormAt.lets ⟨0, SS.drew⟩ (fun _ => ?_)
          have hS := SS.drew
          revert hS
          generalize W.drew = W5
          intro hS
          clear SS c2 c3 f3 x1 x2
          refine wpAnyH_take (i := 0) (oi := ⟨some 25, _, _, _, _, _⟩) (v := ?vp0) rfl (by kernel_rfl) (by kernel_rfl) (by kernel_rfl) (fun _ _ _ h => by cases h.1) (Or.inl ⟨by rfl, ?yp0⟩) ⟨_, hS⟩ ?rp0
          case yp0 => intro W hW; obtain ⟨er, hW⟩ := hW; have v1 := hW.st.b2.cell; go_simp; first | done | with_reducible rfl
          simp only [Act.put, List.setIfInBounds_toArray, List.set_cons_zero, List.set_cons_succ]
          refine wpAnyH_take (i := 1) (oi := ⟨some 26, _, _, _, _, _⟩) (v := ?vp1) rfl (by kernel_rfl) (by kernel_rfl) (by kernel_rfl) (fun _ _ _ h => by cases h.1) (Or.inl ⟨by rfl, ?yp1⟩) ⟨_, hS⟩ ?rp1
          case yp1 => intro W hW; obtain ⟨er, hW⟩ := hW; have v1 := hW.st.b3.cell; go_simp; first | done | with_reducible rfl
          simp only [Act.put, List.setIfInBounds_toArray, List.set_cons_zero, List.set_cons_succ]
          refine wpAnyH_ready (rs := [2]) (by kernel_rfl) (by simp) ?_
          refine (AllReadyH.cons (o := ⟨none, _, _, _, _, _⟩) rfl (fun K hK => ?_) AllReadyH.nil)
          have c2 := hS.st.b2.cell
          have f2 := hS.st.b2.frozen
          go_simp
          have s1 := hS.set2
          clear c2 f2
          refine hK.out _ _ ⟨_, s1⟩ (fun _ => ?_)
          clear hK K
          try simp only [Act.put, List.setIfInBounds_toArray, List.set_cons_zero, List.set_cons_succ]
          refine wpAnyH_ready (rs := [3]) (by kernel_rfl) (by simp) ?_
          refine (AllReadyH.cons (o := ⟨none, _, _, _, _, _⟩) rfl (fun K hK => ?_) AllReadyH.nil)
          have c3 := s1.st.b3.cell
          have f3 := s1.st.b3.frozen
          go_simp
          have s2 := s1.set3 s0
          clear c3 f3
          refine hK.out _ _ ⟨_, s2⟩ (fun _ => ?_)
          clear hK K
          try simp only [Act.put, List.setIfInBounds_toArray, List.set_cons_zero, List.set_cons_succ]
          refine wpAnyH_ready (rs := [4]) (by kernel_rfl) (by simp) ?_
          refine (AllReadyH.cons (o := ⟨none, _, _, _, _, _⟩) rfl (fun K hK => ?_) AllReadyH.nil)
          have c4 := s2.st.b4.cell
          have f4 := s2.st.b4.frozen
          go_simp
          have s3 := s2.set4 5
          clear c4 f4
          refine hK.out _ _ ⟨_, s3⟩ (fun _ => ?_)
          clear hK K
          try simp only [Act.put, List.setIfInBounds_toArray, List.set_cons_zero, List.set_cons_succ]
          exact wpAnyH_done (by kernel_rfl) ⟨rfl, ⟨rfl, rfl, rfl, rfl⟩, s3⟩ _
        case imp7 =>
          rintro e ⟨tm, df⟩ W4 ⟨rfl, ⟨hd0, hd2, hd3, hd4⟩, s3⟩
          clear SS c2 c3 f3 x1 x2
          gi_wp2_with fail
          exact ⟨s3.rd.kf, rfl, pre, x, _, s0, 5, rfl, s3.st, HI.out.1, HI.out.2, .inl ⟨HM.out, HS0.out.symm, rfl⟩⟩
      · have hd : ((pre.length : Int) == 4096) = false := by simp; omega
        obtain ⟨t0, ht0⟩ : ∃ t, s0 + xs = t := ⟨_, rfl⟩
        have s8 := SS.set3 t0
        have e8 : (s0 : Int) + (xs : Int) = (t0 : Int) := by omega
        have HT := Lib.hid ht0
        have HN := Lib.hid hmany
        clear ht0 hmany
        have y2 : (W.setCell ⟨w.heap.size + 1, 0, none⟩ (.int .i64 t0)).cell? ⟨Bx, 2, none⟩ = some (.int .i64 xe) := by simp [World.cell?, s8.fx]
        by_cases hxz : xe = 0
        · subst hxz
          gi_wp2_with fail
          clear SS c2 c3 f3 x1 x2 y2
          revert s8
          generalize W.setCell ⟨w.heap.size + 1, 0, none⟩ (.int .i64 t0) = W6
          intro s8
          clear e8
          refine Code.wpIn_mono (Q := NormAt w.heap.size [] fun W' => ∃ v', Ss w w3.heap.size W Bx #[.slice xA xn xc, .int .i64 xs, .int .i64 ((0 : Nat) : Int)] v' (pre.map Tk.body ++ [xb]) t0 0 W') ?imp11 ?reg11
          case reg11 =>
            refine round_held (S := fun W' => W'.heap[Bx]? = some (.cells #[.slice xA xn xc, .int .i64 xs, .int .i64 ((0 : Nat) : Int)] 57 (0, 0))) (by kernel_rfl) (by kernel_rfl) NormAt.lets s8.drew.fx (fun _ => ?_)
            have q0 := s8.drew
            revert q0
            generalize W6.drew = X0
            intro q0
            clear s8
            have hX0 := q0.size
            have HBX := (HB.out.below' q0.st.bel (Nat.le_refl _)).more hX0
            have hxb := Lib.hid HB.out.1
            obtain ⟨vs, hr0, hrs0⟩ := q0.st.rs
            rw [List.length_map] at hr0
            refine wpAnyH_take (i := 2) (oi := ⟨some 40, _, _, _, _, _⟩) (v := ?vq2) rfl (by kernel_rfl) (by kernel_rfl) (by kernel_rfl) (fun _ _ _ h => by cases h.1) (Or.inl ⟨by rfl, ?yq2⟩) q0.fx ?rq2
            case yq2 => intro W hW; go_simp; first | done | with_reducible rfl
            simp only [Act.put, List.setIfInBounds_toArray, List.set_cons_zero, List.set_cons_succ]
            refine wpAnyH_take (i := 3) (oi := ⟨some 41, _, _, _, _, _⟩) (v := ?vq3) rfl (by kernel_rfl) (by kernel_rfl) (by kernel_rfl) (fun _ _ _ h => by cases h.1) (Or.inl ⟨by rfl, ?yq3⟩) q0.fx ?rq3
            case yq3 => intro W hW; have v0 : W.cell? ⟨Bx, 0, none⟩ = some (.slice xA xn xc) := by {simp [World.cell?, hW]}; go_simp; first | done | with_reducible rfl
            simp only [Act.put, List.setIfInBounds_toArray, List.set_cons_zero, List.set_cons_succ]
            refine wpAnyH_ready (rs := [0, 1]) (by kernel_rfl) (by simp) ?_
            refine (AllReadyH.cons (o := ⟨some 38, _, _, _, _, _⟩) rfl (fun K hK => ?_) (AllReadyH.cons (o := ⟨some 39, _, _, _, _, _⟩) rfl (fun K hK => ?_) AllReadyH.nil))
            · skip
              have c0 := q0.st.b2.cell
              go_simp
              clear c0
              refine hK.out _ _ q0.fx (fun _ => ?_)
              clear hK K
              try simp only [Act.put, List.setIfInBounds_toArray, List.set_cons_zero, List.set_cons_succ]
              refine wpAnyH_ready (rs := [1]) (by kernel_rfl) (by simp) ?_
              refine (AllReadyH.cons (o := ⟨some 39, _, _, _, _, _⟩) rfl (fun K hK => ?_) AllReadyH.nil)
              go_simp
              have q1 := q0.alloc (.cells #[] 5)
              have o1 := own_empty X0 X0.heap.size (Nat.le_refl _)
              refine hK.out _ _ q1.fx (fun _ => ?_)
              clear hK K
              try simp only [Act.put, List.setIfInBounds_toArray, List.set_cons_zero, List.set_cons_succ]
              refine wpAnyH_ready (rs := [4]) (by kernel_rfl) (by simp) ?_
              refine (AllReadyH.cons (o := ⟨some 42, _, _, _, _, _⟩) rfl (fun K hK => ?_) AllReadyH.nil)
              refine step_appS _ rfl (.tmp 39) (.tmp 41) rfl X0.heap.size _ 0 [] rfl o1 X0.heap.size xA xn xc xb rfl (HBX.alloc (Nat.le_refl _) _) (by omega) (by simp) xn xb (by omega) rfl ?_
              intro A2 c2 X2 _ _ ho2 hb2
              have hb2 : Below X0.heap.size X0 X2 := ((Below.refl _ _).alloc (Nat.le_refl _) _).trans hb2
              have q2 := q0.news hb2
              refine hK.out _ _ q2.fx (fun _ => ?_)
              clear hK K
              try simp only [Act.put, List.setIfInBounds_toArray, List.set_cons_zero, List.set_cons_succ]
              refine wpAnyH_ready (rs := [5]) (by kernel_rfl) (by simp) ?_
              refine (AllReadyH.cons (o := ⟨some 43, _, _, _, _, _⟩) rfl (fun K hK => ?_) AllReadyH.nil)
              go_simp
              have q3 := q2.alloc (.cells #[.slice A2 xn c2] 22)
              have hc3 := (Boxed.new X2 22 (.slice A2 xn c2)).cell
              have hb3 : Below X0.heap.size X0 (X2.alloc (.cells #[.slice A2 xn c2] 22)) := hb2.alloc (by have := hb2.size; omega) _
              have ho3 : Own (X2.alloc (.cells #[.slice A2 xn c2] 22)) w.heap.size (.slice A2 xb.length c2) xb.length xb := by rw [hxb.out]; exact (ho2.alloc _).down hX0
              have hr3 := ownsRow_keepB (w' := X2.alloc (.cells #[.slice A2 xn c2] 22)) hr0 fun k cs fr _ e => (hb3.block k (Array.getElem?_eq_some_iff.1 e).1).trans e
              have hrs3 : ∀ (i : Nat) (l : List UInt8), (pre.map Tk.body)[i]? = some l → ∃ A c, vs[i]? = some (Value.slice A l.length c) ∧ Own (X2.alloc (.cells #[.slice A2 xn c2] 22)) w.heap.size (.slice A l.length c) l.length l := fun i l hl => by { obtain ⟨A, c, g1, g2⟩ := hrs0 i l hl; exact ⟨A, c, g1, g2.kept hb3⟩ }
              refine hK.out _ _ q3.fx (fun _ => ?_)
              clear hK K
              try simp only [Act.put, List.setIfInBounds_toArray, List.set_cons_zero, List.set_cons_succ]
              refine wpAnyH_ready (rs := [6]) (by kernel_rfl) (by simp) ?_
              refine (AllReadyH.cons (o := ⟨some 44, _, _, _, _, _⟩) rfl (fun K hK => ?_) AllReadyH.nil)
              refine step_appR _ rfl (.tmp 38) (.tmp 43) rfl w.heap.size _ pre.length vs rfl hr3 _ 1 _ _ _ rfl hc3 (by omega) (by have := q3.size; omega) ?_
              intro v' X4 hr4 hg4
              obtain ⟨⟨B4, FX4⟩, SF⟩ := Ss.snoc (l := xb) (A := A2) (c := c2) q3 (by rw [List.length_map]; exact hr3) hrs3 ho3 (by rw [List.length_map, hxb.out]; exact hr4) hg4
              refine hK.out _ _ FX4 (fun _ => ?_)
              clear hK K
              try simp only [Act.put, List.setIfInBounds_toArray, List.set_cons_zero, List.set_cons_succ]
              obtain ⟨g5, cap5, rfl⟩ := ownsRow_succ hr4
              refine wpAnyH_ready (rs := [7]) (by kernel_rfl) (by simp) ?_
              refine (AllReadyH.cons (o := ⟨none, _, _, _, _, _⟩) rfl (fun K hK => ?_) AllReadyH.nil)
              have c5 := B4.cell
              have f5 := B4.frozen
              go_simp
              refine hK.out _ _ SF.fx (fun _ => ?_)
              clear hK K
              try simp only [Act.put, List.setIfInBounds_toArray, List.set_cons_zero, List.set_cons_succ]
              exact wpAnyH_done (by kernel_rfl) ⟨rfl, ⟨rfl, rfl, rfl, rfl⟩, _, SF⟩ _
            · skip
              go_simp
              have q1 := q0.alloc (.cells #[] 5)
              have o1 := own_empty X0 X0.heap.size (Nat.le_refl _)
              refine hK.out _ _ q1.fx (fun _ => ?_)
              clear hK K
              try simp only [Act.put, List.setIfInBounds_toArray, List.set_cons_zero, List.set_cons_succ]
              refine wpAnyH_ready (rs := [0, 4]) (by kernel_rfl) (by simp) ?_
              refine (AllReadyH.cons (o := ⟨some 38, _, _, _, _, _⟩) rfl (fun K hK => ?_) (AllReadyH.cons (o := ⟨some 42, _, _, _, _, _⟩) rfl (fun K hK => ?_) AllReadyH.nil))
              · skip
                have c0 := q1.st.b2.cell
                go_simp
                clear c0
                refine hK.out _ _ q1.fx (fun _ => ?_)
                clear hK K
                try simp only [Act.put, List.setIfInBounds_toArray, List.set_cons_zero, List.set_cons_succ]
                refine wpAnyH_ready (rs := [4]) (by kernel_rfl) (by simp) ?_
                refine (AllReadyH.cons (o := ⟨some 42, _, _, _, _, _⟩) rfl (fun K hK => ?_) AllReadyH.nil)
                refine step_appS _ rfl (.tmp 39) (.tmp 41) rfl X0.heap.size _ 0 [] rfl o1 X0.heap.size xA xn xc xb rfl (HBX.alloc (Nat.le_refl _) _) (by omega) (by simp) xn xb (by omega) rfl ?_
                intro A2 c2 X2 _ _ ho2 hb2
                have hb2 : Below X0.heap.size X0 X2 := ((Below.refl _ _).alloc (Nat.le_refl _) _).trans hb2
                have q2 := q0.news hb2
                refine hK.out _ _ q2.fx (fun _ => ?_)
                clear hK K
                try simp only [Act.put, List.setIfInBounds_toArray, List.set_cons_zero, List.set_cons_succ]
                refine wpAnyH_ready (rs := [5]) (by kernel_rfl) (by simp) ?_
                refine (AllReadyH.cons (o := ⟨some 43, _, _, _, _, _⟩) rfl (fun K hK => ?_) AllReadyH.nil)
                go_simp
                have q3 := q2.alloc (.cells #[.slice A2 xn c2] 22)
                have hc3 := (Boxed.new X2 22 (.slice A2 xn c2)).cell
                have hb3 : Below X0.heap.size X0 (X2.alloc (.cells #[.slice A2 xn c2] 22)) := hb2.alloc (by have := hb2.size; omega) _
                have ho3 : Own (X2.alloc (.cells #[.slice A2 xn c2] 22)) w.heap.size (.slice A2 xb.length c2) xb.length xb := by rw [hxb.out]; exact (ho2.alloc _).down hX0
                have hr3 := ownsRow_keepB (w' := X2.alloc (.cells #[.slice A2 xn c2] 22)) hr0 fun k cs fr _ e => (hb3.block k (Array.getElem?_eq_some_iff.1 e).1).trans e
                have hrs3 : ∀ (i : Nat) (l : List UInt8), (pre.map Tk.body)[i]? = some l → ∃ A c, vs[i]? = some (Value.slice A l.length c) ∧ Own (X2.alloc (.cells #[.slice A2 xn c2] 22)) w.heap.size (.slice A l.length c) l.length l := fun i l hl => by { obtain ⟨A, c, g1, g2⟩ := hrs0 i l hl; exact ⟨A, c, g1, g2.kept hb3⟩ }
                refine hK.out _ _ q3.fx (fun _ => ?_)
                clear hK K
                try simp only [Act.put, List.setIfInBounds_toArray, List.set_cons_zero, List.set_cons_succ]
                refine wpAnyH_ready (rs := [6]) (by kernel_rfl) (by simp) ?_
                refine (AllReadyH.cons (o := ⟨some 44, _, _, _, _, _⟩) rfl (fun K hK => ?_) AllReadyH.nil)
                refine step_appR _ rfl (.tmp 38) (.tmp 43) rfl w.heap.size _ pre.length vs rfl hr3 _ 1 _ _ _ rfl hc3 (by omega) (by have := q3.size; omega) ?_
                intro v' X4 hr4 hg4
                obtain ⟨⟨B4, FX4⟩, SF⟩ := Ss.snoc (l := xb) (A := A2) (c := c2) q3 (by rw [List.length_map]; exact hr3) hrs3 ho3 (by rw [List.length_map, hxb.out]; exact hr4) hg4
                refine hK.out _ _ FX4 (fun _ => ?_)
                clear hK K
                try simp only [Act.put, List.setIfInBounds_toArray, List.set_cons_zero, List.set_cons_succ]
                obtain ⟨g5, cap5, rfl⟩ := ownsRow_succ hr4
                refine wpAnyH_ready (rs := [7]) (by kernel_rfl) (by simp) ?_
                refine (AllReadyH.cons (o := ⟨none, _, _, _, _, _⟩) rfl (fun K hK => ?_) AllReadyH.nil)
                have c5 := B4.cell
                have f5 := B4.frozen
                go_simp
                refine hK.out _ _ SF.fx (fun _ => ?_)
                clear hK K
                try simp only [Act.put, List.setIfInBounds_toArray, List.set_cons_zero, List.set_cons_succ]
                exact wpAnyH_done (by kernel_rfl) ⟨rfl, ⟨rfl, rfl, rfl, rfl⟩, _, SF⟩ _
              · skip
                refine step_appS _ rfl (.tmp 39) (.tmp 41) rfl X0.heap.size _ 0 [] rfl o1 X0.heap.size xA xn xc xb rfl (HBX.alloc (Nat.le_refl _) _) (by omega) (by simp) xn xb (by omega) rfl ?_
                intro A2 c2 X2 _ _ ho2 hb2
                have hb2 : Below X0.heap.size X0 X2 := ((Below.refl _ _).alloc (Nat.le_refl _) _).trans hb2
                have q2 := q0.news hb2
                refine hK.out _ _ q2.fx (fun _ => ?_)
                clear hK K
                try simp only [Act.put, List.setIfInBounds_toArray, List.set_cons_zero, List.set_cons_succ]
                refine wpAnyH_ready (rs := [0, 5]) (by kernel_rfl) (by simp) ?_
                refine (AllReadyH.cons (o := ⟨some 38, _, _, _, _, _⟩) rfl (fun K hK => ?_) (AllReadyH.cons (o := ⟨some 43, _, _, _, _, _⟩) rfl (fun K hK => ?_) AllReadyH.nil))
                · skip
                  have c0 := q2.st.b2.cell
                  go_simp
                  clear c0
                  refine hK.out _ _ q2.fx (fun _ => ?_)
                  clear hK K
                  try simp only [Act.put, List.setIfInBounds_toArray, List.set_cons_zero, List.set_cons_succ]
                  refine wpAnyH_ready (rs := [5]) (by kernel_rfl) (by simp) ?_
                  refine (AllReadyH.cons (o := ⟨some 43, _, _, _, _, _⟩) rfl (fun K hK => ?_) AllReadyH.nil)
                  go_simp
                  have q3 := q2.alloc (.cells #[.slice A2 xn c2] 22)
                  have hc3 := (Boxed.new X2 22 (.slice A2 xn c2)).cell
                  have hb3 : Below X0.heap.size X0 (X2.alloc (.cells #[.slice A2 xn c2] 22)) := hb2.alloc (by have := hb2.size; omega) _
                  have ho3 : Own (X2.alloc (.cells #[.slice A2 xn c2] 22)) w.heap.size (.slice A2 xb.length c2) xb.length xb := by rw [hxb.out]; exact (ho2.alloc _).down hX0
                  have hr3 := ownsRow_keepB (w' := X2.alloc (.cells #[.slice A2 xn c2] 22)) hr0 fun k cs fr _ e => (hb3.block k (Array.getElem?_eq_some_iff.1 e).1).trans e
                  have hrs3 : ∀ (i : Nat) (l : List UInt8), (pre.map Tk.body)[i]? = some l → ∃ A c, vs[i]? = some (Value.slice A l.length c) ∧ Own (X2.alloc (.cells #[.slice A2 xn c2] 22)) w.heap.size (.slice A l.length c) l.length l := fun i l hl => by { obtain ⟨A, c, g1, g2⟩ := hrs0 i l hl; exact ⟨A, c, g1, g2.kept hb3⟩ }
                  refine hK.out _ _ q3.fx (fun _ => ?_)
                  clear hK K
                  try simp only [Act.put, List.setIfInBounds_toArray, List.set_cons_zero, List.set_cons_succ]
                  refine wpAnyH_ready (rs := [6]) (by kernel_rfl) (by simp) ?_
                  refine (AllReadyH.cons (o := ⟨some 44, _, _, _, _, _⟩) rfl (fun K hK => ?_) AllReadyH.nil)
                  refine step_appR _ rfl (.tmp 38) (.tmp 43) rfl w.heap.size _ pre.length vs rfl hr3 _ 1 _ _ _ rfl hc3 (by omega) (by have := q3.size; omega) ?_
                  intro v' X4 hr4 hg4
                  obtain ⟨⟨B4, FX4⟩, SF⟩ := Ss.snoc (l := xb) (A := A2) (c := c2) q3 (by rw [List.length_map]; exact hr3) hrs3 ho3 (by rw [List.length_map, hxb.out]; exact hr4) hg4
                  refine hK.out _ _ FX4 (fun _ => ?_)
                  clear hK K
                  try simp only [Act.put, List.setIfInBounds_toArray, List.set_cons_zero, List.set_cons_succ]
                  obtain ⟨g5, cap5, rfl⟩ := ownsRow_succ hr4
                  refine wpAnyH_ready (rs := [7]) (by kernel_rfl) (by simp) ?_
                  refine (AllReadyH.cons (o := ⟨none, _, _, _, _, _⟩) rfl (fun K hK => ?_) AllReadyH.nil)
                  have c5 := B4.cell
                  have f5 := B4.frozen
                  go_simp
                  refine hK.out _ _ SF.fx (fun _ => ?_)
                  clear hK K
                  try simp only [Act.put, List.setIfInBounds_toArray, List.set_cons_zero, List.set_cons_succ]
                  exact wpAnyH_done (by kernel_rfl) ⟨rfl, ⟨rfl, rfl, rfl, rfl⟩, _, SF⟩ _
                · skip
                  go_simp
                  have q3 := q2.alloc (.cells #[.slice A2 xn c2] 22)
                  have hc3 := (Boxed.new X2 22 (.slice A2 xn c2)).cell
                  have hb3 : Below X0.heap.size X0 (X2.alloc (.cells #[.slice A2 xn c2] 22)) := hb2.alloc (by have := hb2.size; omega) _
                  have ho3 : Own (X2.alloc (.cells #[.slice A2 xn c2] 22)) w.heap.size (.slice A2 xb.length c2) xb.length xb := by rw [hxb.out]; exact (ho2.alloc _).down hX0
                  have hr3 := ownsRow_keepB (w' := X2.alloc (.cells #[.slice A2 xn c2] 22)) hr0 fun k cs fr _ e => (hb3.block k (Array.getElem?_eq_some_iff.1 e).1).trans e
                  have hrs3 : ∀ (i : Nat) (l : List UInt8), (pre.map Tk.body)[i]? = some l → ∃ A c, vs[i]? = some (Value.slice A l.length c) ∧ Own (X2.alloc (.cells #[.slice A2 xn c2] 22)) w.heap.size (.slice A l.length c) l.length l := fun i l hl => by { obtain ⟨A, c, g1, g2⟩ := hrs0 i l hl; exact ⟨A, c, g1, g2.kept hb3⟩ }
                  refine hK.out _ _ q3.fx (fun _ => ?_)
                  clear hK K
                  try simp only [Act.put, List.setIfInBounds_toArray, List.set_cons_zero, List.set_cons_succ]
                  refine wpAnyH_ready (rs := [0]) (by kernel_rfl) (by simp) ?_
                  refine (AllReadyH.cons (o := ⟨some 38, _, _, _, _, _⟩) rfl (fun K hK => ?_) AllReadyH.nil)
                  have c0 := q3.st.b2.cell
                  go_simp
                  clear c0
                  refine hK.out _ _ q3.fx (fun _ => ?_)
                  clear hK K
                  try simp only [Act.put, List.setIfInBounds_toArray, List.set_cons_zero, List.set_cons_succ]
                  refine wpAnyH_ready (rs := [6]) (by kernel_rfl) (by simp) ?_
                  refine (AllReadyH.cons (o := ⟨some 44, _, _, _, _, _⟩) rfl (fun K hK => ?_) AllReadyH.nil)
                  refine step_appR _ rfl (.tmp 38) (.tmp 43) rfl w.heap.size _ pre.length vs rfl hr3 _ 1 _ _ _ rfl hc3 (by omega) (by have := q3.size; omega) ?_
                  intro v' X4 hr4 hg4
                  obtain ⟨⟨B4, FX4⟩, SF⟩ := Ss.snoc (l := xb) (A := A2) (c := c2) q3 (by rw [List.length_map]; exact hr3) hrs3 ho3 (by rw [List.length_map, hxb.out]; exact hr4) hg4
                  refine hK.out _ _ FX4 (fun _ => ?_)
                  clear hK K
                  try simp only [Act.put, List.setIfInBounds_toArray, List.set_cons_zero, List.set_cons_succ]
                  obtain ⟨g5, cap5, rfl⟩ := ownsRow_succ hr4
                  refine wpAnyH_ready (rs := [7]) (by kernel_rfl) (by simp) ?_
                  refine (AllReadyH.cons (o := ⟨none, _, _, _, _, _⟩) rfl (fun K hK => ?_) AllReadyH.nil)
                  have c5 := B4.cell
                  have f5 := B4.frozen
                  go_simp
                  refine hK.out _ _ SF.fx (fun _ => ?_)
                  clear hK K
                  try simp only [Act.put, List.setIfInBounds_toArray, List.set_cons_zero, List.set_cons_succ]
                  exact wpAnyH_done (by kernel_rfl) ⟨rfl, ⟨rfl, rfl, rfl, rfl⟩, _, SF⟩ _
          case imp11 =>
            rintro e ⟨tm, df⟩ W4 ⟨rfl, ⟨hd0, hd2, hd3, hd4⟩, v', s3⟩
            clear s8
            refine ⟨s3.rd.kf, s3.rd.kp, ⟨v', ?_⟩, ?_, ?_⟩
            · have e1 : (pre ++ [x]).map Tk.body = pre.map Tk.body ++ [xb] := by simp [HX.out.2.2]
              have e2 : m1 + sizes ((pre ++ [x]).map Tk.pure) = t0 := by
                rw [List.map_append, List.map_cons, List.map_nil, sizes_snoc, ← HT.out, ← HS0.out]
                simp [Tk.pure, HX.out.1]
                omega
              rw [e1, e2]
              exact s3.st
            · intro y hy
              rw [List.map_append, List.mem_append] at hy
              rcases hy with hy | hy
              · exact HI.out.1 y hy
              · simp at hy; rw [hy]; simp [Tk.pure, HX.out.2.1]
            · have := HN.out
              have := HI.out.2
              simp
              omega
        · have hed : ((xe : Int) != 0) = true := by simp; omega
          have HE := Lib.hid hxz
          clear hxz
          gi_wp2_with fail
          clear SS c2 c3 f3 x1 x2 y2
          revert s8
          generalize W.setCell ⟨w.heap.size + 1, 0, none⟩ (.int .i64 t0) = W6
          intro s8
          clear e8
          refine Code.wpIn_mono (Q := NormAt w.heap.size [] fun W' => Ss w w3.heap.size W Bx #[.slice xA xn xc, .int .i64 xs, .int .i64 xe] (.slice Av pre.length cv) (pre.map Tk.body) t0 xe W') ?imp10 ?reg10
          case reg10 =>
            refine round_held (S := fun W' => ∃ er, Ss w w3.heap.size W Bx #[.slice xA xn xc, .int .i64 xs, .int .i64 xe] (.slice Av pre.length cv) (pre.map Tk.body) t0 er W') (by kernel_rfl) (by kernel_rfl) NormAt.lets ⟨0, s8.drew⟩ (fun _ => ?_)
            have hS := s8.drew
            revert hS
            generalize W6.drew = W5
            intro hS
            clear s8
            refine wpAnyH_take (i := 0) (oi := ⟨some 34, _, _, _, _, _⟩) (v := ?vr0) rfl (by kernel_rfl) (by kernel_rfl) (by kernel_rfl) (fun _ _ _ h => by cases h.1) (Or.inl ⟨by rfl, ?yr0⟩) ⟨_, hS⟩ ?rr0
            case yr0 => intro W hW; obtain ⟨er, hW⟩ := hW; have v1 := hW.st.b2.cell; go_simp; first | done | with_reducible rfl
            simp only [Act.put, List.setIfInBounds_toArray, List.set_cons_zero, List.set_cons_succ]
            refine wpAnyH_take (i := 1) (oi := ⟨some 35, _, _, _, _, _⟩) (v := ?vr1) rfl (by kernel_rfl) (by kernel_rfl) (by kernel_rfl) (fun _ _ _ h => by cases h.1) (Or.inl ⟨by rfl, ?yr1⟩) ⟨_, hS⟩ ?rr1
            case yr1 => intro W hW; obtain ⟨er, hW⟩ := hW; have v1 := hW.st.b3.cell; go_simp; first | done | with_reducible rfl
            simp only [Act.put, List.setIfInBounds_toArray, List.set_cons_zero, List.set_cons_succ]
            refine wpAnyH_take (i := 2) (oi := ⟨some 36, _, _, _, _, _⟩) (v := ?vr2) rfl (by kernel_rfl) (by kernel_rfl) (by kernel_rfl) (fun _ _ _ h => by cases h.1) (Or.inl ⟨by rfl, ?yr2⟩) ⟨_, hS⟩ ?rr2
            case yr2 => intro W hW; go_simp; first | done | with_reducible rfl
            simp only [Act.put, List.setIfInBounds_toArray, List.set_cons_zero, List.set_cons_succ]
            refine wpAnyH_take (i := 3) (oi := ⟨some 37, _, _, _, _, _⟩) (v := ?vr3) rfl (by kernel_rfl) (by kernel_rfl) (by kernel_rfl) (fun _ _ _ h => by cases h.1) (Or.inl ⟨by rfl, ?yr3⟩) ⟨_, hS⟩ ?rr3
            case yr3 => intro W hW; obtain ⟨er, hW⟩ := hW; have v1 : W.cell? ⟨Bx, 2, none⟩ = some (.int .i64 xe) := by {simp [World.cell?, hW.fx]}; go_simp; first | done | with_reducible rfl
            simp only [Act.put, List.setIfInBounds_toArray, List.set_cons_zero, List.set_cons_succ]
            refine wpAnyH_ready (rs := [4]) (by kernel_rfl) (by simp) ?_
            refine (AllReadyH.cons (o := ⟨none, _, _, _, _, _⟩) rfl (fun K hK => ?_) AllReadyH.nil)
            have c2 := hS.st.b2.cell
            have f2 := hS.st.b2.frozen
            go_simp
            have s1 := hS.set2
            clear c2 f2
            refine hK.out _ _ ⟨_, s1⟩ (fun _ => ?_)
            clear hK K
            try simp only [Act.put, List.setIfInBounds_toArray, List.set_cons_zero, List.set_cons_succ]
            refine wpAnyH_ready (rs := [5]) (by kernel_rfl) (by simp) ?_
            refine (AllReadyH.cons (o := ⟨none, _, _, _, _, _⟩) rfl (fun K hK => ?_) AllReadyH.nil)
            have c3 := s1.st.b3.cell
            have f3 := s1.st.b3.frozen
            go_simp
            have s2 := s1.set3 t0
            clear c3 f3
            refine hK.out _ _ ⟨_, s2⟩ (fun _ => ?_)
            clear hK K
            try simp only [Act.put, List.setIfInBounds_toArray, List.set_cons_zero, List.set_cons_succ]
            refine wpAnyH_ready (rs := [6]) (by kernel_rfl) (by simp) ?_
            refine (AllReadyH.cons (o := ⟨none, _, _, _, _, _⟩) rfl (fun K hK => ?_) AllReadyH.nil)
            have c4 := s2.st.b4.cell
            have f4 := s2.st.b4.frozen
            go_simp
            have s3 := s2.set4 xe
            clear c4 f4
            refine hK.out _ _ ⟨_, s3⟩ (fun _ => ?_)
            clear hK K
            try simp only [Act.put, List.setIfInBounds_toArray, List.set_cons_zero, List.set_cons_succ]
            exact wpAnyH_done (by kernel_rfl) ⟨rfl, ⟨rfl, rfl, rfl, rfl⟩, s3⟩ _
          case imp10 =>
            rintro e ⟨tm, df⟩ W4 ⟨rfl, ⟨hd0, hd2, hd3, hd4⟩, s3⟩
            clear s8
            gi_wp2_with fail
            exact ⟨s3.rd.kf, rfl, pre, x, _, t0, xe, rfl, s3.st, HI.out.1, HI.out.2, .inr ⟨HN.out, by rw [HX.out.2.1]; exact HE.out, by rw [HX.out.1, HS0.out]; exact HT.out.symm, HX.out.2.1.symm⟩⟩
    case done =>
      rintro D ys W hD hys hi hK
      obtain ⟨v, hv, he⟩ := hi.res hys
      clear hi hys S3 B3
      have HR := Lib.hid he
      clear he
      obtain ⟨q1, hq1⟩ : ∃ q, (runQ 0 (seqS (b.drop m1))).1 = q := ⟨_, rfl⟩
      obtain ⟨q2, hq2⟩ : ∃ q, m1 + (runQ 0 (seqS (b.drop m1))).2.1 = q := ⟨_, rfl⟩
      rw [hq1, hq2] at hv
      have HQ := Lib.hid (And.intro hq1 hq2)
      clear hq1 hq2
      obtain ⟨Av, cv, rfl⟩ := hv.rs.form
      gi_wp2_with fail
      refine wpIn_wide.2 (Code.wp_mono (Q := NormAt w.heap.size [{ target := .collected D, args := #[] }] fun W => Sst w W (.slice Av q1.length cv) q1 q2 0 ∧ W.heap[D]? = some (.deferred (some []))) ?imp12 ?reg12)
      case reg12 =>
        refine wp_region_held_drew (S := fun W => Sst w W (.slice Av q1.length cv) q1 q2 0) (by kernel_rfl) hv.drew (fun hS => ?_)
        have hK1 : W.drew.heap[D]? = some (.deferred (some [])) := hK
        revert hS hK1
        generalize W.drew = W3
        intro hS hK1
        refine wpAnyH_take (i := 0) (oi := ⟨some 45, _, _, _, _, _⟩) (v := ?vu0) rfl (by kernel_rfl) (by kernel_rfl) (by kernel_rfl) (fun _ _ _ h => by cases h.1) (Or.inl ⟨by rfl, ?yu0⟩) hS ?ru0
        case yu0 => intro W hW; have v1 := hW.b2.cell; go_simp; first | done | with_reducible rfl
        simp only [Act.put, List.setIfInBounds_toArray, List.set_cons_zero, List.set_cons_succ]
        refine wpAnyH_take (i := 1) (oi := ⟨some 46, _, _, _, _, _⟩) (v := ?vu1) rfl (by kernel_rfl) (by kernel_rfl) (by kernel_rfl) (fun _ _ _ h => by cases h.1) (Or.inl ⟨by rfl, ?yu1⟩) hS ?ru1
        case yu1 => intro W hW; have v1 := hW.b3.cell; go_simp; first | done | with_reducible rfl
        simp only [Act.put, List.setIfInBounds_toArray, List.set_cons_zero, List.set_cons_succ]
        refine wpAnyH_ready (rs := [2]) (by kernel_rfl) (by simp) ?_
        refine (AllReadyH.cons (o := ⟨none, _, _, _, _, _⟩) rfl (fun K hK => ?_) AllReadyH.nil)
        have c2 := hS.b2.cell
        have f2 := hS.b2.frozen
        go_simp
        have s1 := hS.set2
        clear c2 f2
        refine hK.out _ _ s1 (fun _ => ?_)
        clear hK K
        try simp only [Act.put, List.setIfInBounds_toArray, List.set_cons_zero, List.set_cons_succ]
        refine wpAnyH_ready (rs := [3]) (by kernel_rfl) (by simp) ?_
        refine (AllReadyH.cons (o := ⟨none, _, _, _, _, _⟩) rfl (fun K hK => ?_) AllReadyH.nil)
        have c3 := s1.b3.cell
        have f3 := s1.b3.frozen
        go_simp
        have s2 := s1.set3 q2
        clear c3 f3
        refine hK.out _ _ s2 (fun _ => ?_)
        clear hK K
        try simp only [Act.put, List.setIfInBounds_toArray, List.set_cons_zero, List.set_cons_succ]
        refine wpAnyH_ready (rs := [4]) (by kernel_rfl) (by simp) ?_
        refine (AllReadyH.cons (o := ⟨none, _, _, _, _, _⟩) rfl (fun K hK => ?_) AllReadyH.nil)
        have c4 := s2.b4.cell
        have f4 := s2.b4.frozen
        go_simp
        have s3 := s2.set4 0
        clear c4 f4
        refine hK.out _ _ s3 (fun _ => ?_)
        clear hK K
        try simp only [Act.put, List.setIfInBounds_toArray, List.set_cons_zero, List.set_cons_succ]
        exact wpAnyH_done (by kernel_rfl) ⟨rfl, ⟨rfl, rfl, rfl, rfl⟩, s3, (((KeepsOthers.setCell _ _ _).trans (KeepsOthers.setCell _ _ _)).trans (KeepsOthers.setCell _ _ _)).same D _ hK1 rfl⟩ _
      case imp12 =>
        rintro e ⟨tm, df⟩ W4 ⟨rfl, ⟨hd0, hd2, hd3, hd4⟩, s3, hK4⟩
        simp only at hd0 hd2 hd3 hd4
        subst hd0
        clear hv hK
        gi_wp2_with fail
        have s5 := s3.own hsz3 (grownBy_putObj' W4 D (.deferred none)) (fun r e => by cases e; exact ⟨hD, _, hK4, rfl⟩)
        refine ⟨by simp, .inl ⟨_, _, rfl, run_takeDeferred hK4, ?_⟩⟩
        refine ⟨.tuple #[.slice Av q1.length cv, .int .i64 q2, .int .i64 ((0 : Nat) : Int)], res23 tm _ _ _ _ _ hd2 hd3 hd4 s5.b2.cell s5.b3.cell s5.b4.cell, .slice Av q1.length cv, ?_, ?_, s5.bel⟩
        · rw [HR0.out, HR.out, HQ.out.2]
        · rw [HR0.out, HQ.out.1]; exact s5.rs
    case stop =>
      rintro D c' pre W hD hp hix hK
      have hc := hix.1
      subst hc
      obtain ⟨v, a, e, hv, ha, he⟩ := hix.res hp
      have s5 := hv.own hsz3 (grownBy_putObj' W D (.deferred none)) (fun r e => by cases e; exact ⟨hD, _, hK, rfl⟩)
      clear hix S3 B3
      have HA := Lib.hid (And.intro ha he)
      clear ha he
      gi_wp2_with fail
      refine ⟨by simp, .inl ⟨_, _, rfl, run_takeDeferred hK, ?_⟩⟩
      refine ⟨.tuple #[v, .int .i64 a, .int .i64 e], res23 _ _ _ _ _ _ rfl rfl rfl s5.b2.cell s5.b3.cell s5.b4.cell, v, ?_, ?_, s5.bel⟩
      · rw [HR0.out, ← HA.out.1, ← HA.out.2]
      · rw [HR0.out]; exact s5.rs
  · have hd : ((m2 : Int) != 0) = true := by simp; omega
    have HZ := Lib.hid hz
    have HM := Lib.hid (And.intro hm1 hm2)
    clear hz hm1 hm2 HP
    gi_wp2_with fail
    have S2 : Sst w ((W1.setCell ⟨w.heap.size + 1, 0, none⟩ (.int .i64 m1)).setCell ⟨w.heap.size + 1 + 1, 0, none⟩ (.int .i64 m2)) (.slice none 0 0) [] m1 m2 := ((Sst.mk b2 b3 b4 (Rs.nil _ _) hW1 : Sst w W1 (.slice none 0 0) [] 0 0).set3 m1).set4 m2
    revert S2
    generalize (W1.setCell ⟨w.heap.size + 1, 0, none⟩ (.int .i64 m1)).setCell ⟨w.heap.size + 1 + 1, 0, none⟩ (.int .i64 m2) = W2
    intro S2
    clear b2 b3 b4 c2 c3 c4 f2 f3 f4
    refine wpIn_wide.2 (Code.wp_mono (Q := NormAt w.heap.size [] fun W => Sst w W (.slice none 0 0) [] m1 m2) ?imp1 ?reg1)
    case reg1 =>
      refine wp_region_held_drew (S := fun W => Sst w W (.slice none 0 0) [] m1 m2) (by kernel_rfl) S2.drew (fun hS => ?_)
      revert hS
      generalize W2.drew = W3
      intro hS
      refine wpAnyH_take (i := 0) (oi := ⟨some 15, _, _, _, _, _⟩) (v := ?va0) rfl (by kernel_rfl) (by kernel_rfl) (by kernel_rfl) (fun _ _ _ h => by cases h.1) (Or.inl ⟨by rfl, ?ya0⟩) hS ?ra0
      case ya0 => intro W hW; have v1 := hW.b3.cell; go_simp; first | done | with_reducible rfl
      simp only [Act.put, List.setIfInBounds_toArray, List.set_cons_zero, List.set_cons_succ]
      refine wpAnyH_take (i := 1) (oi := ⟨some 16, _, _, _, _, _⟩) (v := ?va1) rfl (by kernel_rfl) (by kernel_rfl) (by kernel_rfl) (fun _ _ _ h => by cases h.1) (Or.inl ⟨by rfl, ?ya1⟩) hS ?ra1
      case ya1 => intro W hW; have v1 := hW.b4.cell; go_simp; first | done | with_reducible rfl
      simp only [Act.put, List.setIfInBounds_toArray, List.set_cons_zero, List.set_cons_succ]
      refine wpAnyH_ready (rs := [2]) (by kernel_rfl) (by simp) ?_
      refine (AllReadyH.cons (o := ⟨none, _, _, _, _, _⟩) rfl (fun K hK => ?_) AllReadyH.nil)
      have c2 := hS.b2.cell
      have f2 := hS.b2.frozen
      go_simp
      have s1 := hS.set2
      clear c2 f2
      refine hK.out _ _ s1 (fun _ => ?_)
      clear hK K
      try simp only [Act.put, List.setIfInBounds_toArray, List.set_cons_zero, List.set_cons_succ]
      refine wpAnyH_ready (rs := [3]) (by kernel_rfl) (by simp) ?_
      refine (AllReadyH.cons (o := ⟨none, _, _, _, _, _⟩) rfl (fun K hK => ?_) AllReadyH.nil)
      have c3 := s1.b3.cell
      have f3 := s1.b3.frozen
      go_simp
      have s2 := s1.set3 m1
      clear c3 f3
      refine hK.out _ _ s2 (fun _ => ?_)
      clear hK K
      try simp only [Act.put, List.setIfInBounds_toArray, List.set_cons_zero, List.set_cons_succ]
      refine wpAnyH_ready (rs := [4]) (by kernel_rfl) (by simp) ?_
      refine (AllReadyH.cons (o := ⟨none, _, _, _, _, _⟩) rfl (fun K hK => ?_) AllReadyH.nil)
      have c4 := s2.b4.cell
      have f4 := s2.b4.frozen
      go_simp
      have s3 := s2.set4 m2
      clear c4 f4
      refine hK.out _ _ s3 (fun _ => ?_)
      clear hK K
      try simp only [Act.put, List.setIfInBounds_toArray, List.set_cons_zero, List.set_cons_succ]
      exact wpAnyH_done (by kernel_rfl) ⟨rfl, ⟨rfl, rfl, rfl, rfl⟩, s3⟩ _
    case imp1 =>
      rintro e ⟨tm, df⟩ W4 ⟨rfl, ⟨hd0, hd2, hd3, hd4⟩, s3⟩
      simp only at hd0 hd2 hd3 hd4
      subst hd0
      have HR : Hid (splitS b = ([], m1, m2)) := by
        show splitS b = _
        unfold splitS
        rw [HM.out.1, HM.out.2, if_pos HZ.out]
      gi_wp2_with fail
      refine ⟨.tuple #[.slice none 0 0, .int .i64 m1, .int .i64 m2], res23 tm W4 _ _ _ _ hd2 hd3 hd4 s3.b2.cell s3.b3.cell s3.b4.cell, .slice none 0 0, by rw [HR.out], by rw [HR.out]; exact s3.rs, s3.bel⟩
end Go.Proofs.YtknnncdmpfmgkaaDoor
