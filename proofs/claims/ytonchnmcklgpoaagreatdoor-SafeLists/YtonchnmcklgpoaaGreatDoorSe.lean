/-
  The map of what tells of each of the five names whether a value is safe: as safe.safeValues makes it. No condition.
-/
import Derived.Test.YtonchnmcklgpoaaGreatDoorSd
import Derived.Test.YtonchnmcklgpoaaGreatDoorFd
import Derived.Test.YtonchnmcklgpoaaGreatDoorFa
import Derived.Maps.OwnSet
namespace Go.Proofs.YtonchnmcklgpoaaGreatDoor
open Go.RowKit Go.Maps
set_option linter.unusedVariables false

/-- What the map reads as. -/
def D5 (a b c : Value) : DataW Value := ((((((.map [] : DataW Value).put (.string kAcc) (.held a)).put (.string kAL) (.held b)).put (.string kCL) (.held b)).put (.string kCT) (.held c)).put (.string kRg) (.held (.func (.func 42) #[] #[])))
/-- The map lies in block m, what its tests lean on in g1, g2, g3. -/
structure Tst (w : World) (g1 g2 g3 m : Nat) : Prop where
  b1 : Blk w g1 45 [.func (.func 37) #[] #[]]
  b2 : Blk w g2 23 [.func (.func 53) #[] #[.pointer (some ⟨g1, 0, none⟩)]]
  b3 : Blk w g3 45 [.func (.func 39) #[] #[]]
  map : w.ownsMap Tryz.prog 9 rawE m 5 (D5 (.func (.func 53) #[] #[.pointer (some ⟨g1, 0, none⟩)]) (.func (.func 53) #[] #[.pointer (some ⟨g3, 0, none⟩)]) (.func (.func 40) #[] #[.pointer (some ⟨g2, 0, none⟩)]))
theorem Tst.kept {w w' : World} {g1 g2 g3 m : Nat} (h : Tst w g1 g2 g3 m) (hb : Below w.heap.size w w') : Tst w' g1 g2 g3 m :=
  ⟨h.b1.kept hb, h.b2.kept hb, h.b3.kept hb, h.map.kept (grow_below hb none) (by simp)⟩
theorem Tst.c1 {w : World} {g1 g2 g3 m : Nat} (h : Tst w g1 g2 g3 m) : w.cell? ⟨g1, 0, none⟩ = some (.func (.func 37) #[] #[]) := h.b1.cell rfl
theorem Tst.c2 {w : World} {g1 g2 g3 m : Nat} (h : Tst w g1 g2 g3 m) : w.cell? ⟨g2, 0, none⟩ = some (.func (.func 53) #[] #[.pointer (some ⟨g1, 0, none⟩)]) := h.b2.cell rfl
theorem Tst.c3 {w : World} {g1 g2 g3 m : Nat} (h : Tst w g1 g2 g3 m) : w.cell? ⟨g3, 0, none⟩ = some (.func (.func 39) #[] #[]) := h.b3.cell rfl
theorem OwnF.off {T : TypeId} {w : World} {base n g : Nat} {v : Value} {fs : List (List UInt8 × List UInt8)} {t : TypeId} {C : List Value} (h : OwnF T w base v n fs) (hb : Blk w g t C) (ht : t ≠ T) : v.ownBlock ≠ some g := by
  rcases h.2 with ⟨rfl, _⟩ | ⟨k, cap, cur, rfl, _, hh, _⟩
  · intro e; cases e
  · intro e
    have e2 : k = g := by simpa [Value.ownBlock] using e
    subst e2
    unfold Blk at hb
    rw [hb] at hh
    cases hh
    exact ht rfl
theorem OwnF.notMap {T : TypeId} {w : World} {base n b : Nat} {v : Value} {fs : List (List UInt8 × List UInt8)} {es : Array MapEntry} {cl : Nat} (h : OwnF T w base v n fs) (hb : w.heap[b]? = some (.map es cl)) : v.ownBlock ≠ some b := by
  rcases h.2 with ⟨rfl, _⟩ | ⟨g, cap, cur, rfl, _, hh, _⟩
  · intro e; cases e
  · intro e
    have e2 : g = b := by simpa [Value.ownBlock] using e
    subst e2
    rw [hb] at hh
    cases hh
/-- A row of headers that grows leaves the map of tests. -/
theorem Tst.far {w w1 w' : World} {g1 g2 g3 m base n : Nat} {v : Value} {fs : List (List UInt8 × List UInt8)} (h : Tst w g1 g2 g3 m) (hb : Below w.heap.size w w1) (hg : w1.grownBy w' v.ownBlock) (ho : OwnF 28 w1 base v n fs) : Tst w' g1 g2 g3 m := by
  have h1 := h.kept hb
  have hk : ∀ (g : Nat) (t : TypeId) (C : List Value), Blk w1 g t C → t ≠ 28 → Blk w' g t C := fun g t C hB ht => (hg.block g hB.lt fun e => ho.off hB ht e.symm).trans hB
  refine ⟨hk _ _ _ h1.b1 (by decide), hk _ _ _ h1.b2 (by decide), hk _ _ _ h1.b3 (by decide), h1.map.kept hg fun e => ?_⟩
  obtain ⟨es, cl, hbm, _⟩ := h1.map
  exact ho.notMap hbm e.symm
theorem litne {a b : List UInt8} (h : a ≠ b) : Lit.string a ≠ Lit.string b := fun e => h (Lit.string.inj e)
theorem D5_has (a b c : Value) (k : List UInt8) : Maps.has (D5 a b c) (.string k) = keys5.contains k := by
  have hI : Maps.IsMap (.map [] : DataW Value) := Maps.isMap_empty
  by_cases h4 : k = kRg
  · subst h4
    rw [D5, Maps.has_put_same ((((hI.put _ _).put _ _).put _ _).put _ _) (show WideAt.IsKeyLit (Lit.string kRg) from trivial)]
    decide
  by_cases h3 : k = kCT
  · subst h3
    rw [D5, Maps.has_put_other (litne (by decide)), Maps.has_put_same (((hI.put _ _).put _ _).put _ _) (show WideAt.IsKeyLit (Lit.string kCT) from trivial)]
    decide
  by_cases h2 : k = kCL
  · subst h2
    rw [D5, Maps.has_put_other (litne (by decide)), Maps.has_put_other (litne (by decide)), Maps.has_put_same ((hI.put _ _).put _ _) (show WideAt.IsKeyLit (Lit.string kCL) from trivial)]
    decide
  by_cases h1 : k = kAL
  · subst h1
    rw [D5, Maps.has_put_other (litne (by decide)), Maps.has_put_other (litne (by decide)), Maps.has_put_other (litne (by decide)), Maps.has_put_same (hI.put _ _) (show WideAt.IsKeyLit (Lit.string kAL) from trivial)]
    decide
  by_cases h0 : k = kAcc
  · subst h0
    rw [D5, Maps.has_put_other (litne (by decide)), Maps.has_put_other (litne (by decide)), Maps.has_put_other (litne (by decide)), Maps.has_put_other (litne (by decide)), Maps.has_put_same hI (show WideAt.IsKeyLit (Lit.string kAcc) from trivial)]
    decide
  rw [D5, Maps.has_put_other (litne h4), Maps.has_put_other (litne h3), Maps.has_put_other (litne h2), Maps.has_put_other (litne h1), Maps.has_put_other (litne h0)]
  simp [Maps.has, keys5, h0, h1, h2, h3, h4]
theorem D5_at0 (a b c z : Value) : (D5 a b c).atKey (.string kAcc) (.held z) = .held a := by
  have hI : Maps.IsMap (.map [] : DataW Value) := Maps.isMap_empty
  rw [D5, Maps.atKey_put_other (litne (by decide)), Maps.atKey_put_other (litne (by decide)), Maps.atKey_put_other (litne (by decide)), Maps.atKey_put_other (litne (by decide)), Maps.atKey_put_same hI (show WideAt.IsKeyLit (Lit.string kAcc) from trivial)]
theorem D5_at1 (a b c z : Value) : (D5 a b c).atKey (.string kAL) (.held z) = .held b := by
  have hI : Maps.IsMap (.map [] : DataW Value) := Maps.isMap_empty
  rw [D5, Maps.atKey_put_other (litne (by decide)), Maps.atKey_put_other (litne (by decide)), Maps.atKey_put_other (litne (by decide)), Maps.atKey_put_same (hI.put _ _) (show WideAt.IsKeyLit (Lit.string kAL) from trivial)]
theorem D5_at2 (a b c z : Value) : (D5 a b c).atKey (.string kCL) (.held z) = .held b := by
  have hI : Maps.IsMap (.map [] : DataW Value) := Maps.isMap_empty
  rw [D5, Maps.atKey_put_other (litne (by decide)), Maps.atKey_put_other (litne (by decide)), Maps.atKey_put_same ((hI.put _ _).put _ _) (show WideAt.IsKeyLit (Lit.string kCL) from trivial)]
theorem D5_at3 (a b c z : Value) : (D5 a b c).atKey (.string kCT) (.held z) = .held c := by
  have hI : Maps.IsMap (.map [] : DataW Value) := Maps.isMap_empty
  rw [D5, Maps.atKey_put_other (litne (by decide)), Maps.atKey_put_same (((hI.put _ _).put _ _).put _ _) (show WideAt.IsKeyLit (Lit.string kCT) from trivial)]
theorem D5_at4 (a b c z : Value) : (D5 a b c).atKey (.string kRg) (.held z) = .held (.func (.func 42) #[] #[]) := by
  have hI : Maps.IsMap (.map [] : DataW Value) := Maps.isMap_empty
  rw [D5, Maps.atKey_put_same ((((hI.put _ _).put _ _).put _ _).put _ _) (show WideAt.IsKeyLit (Lit.string kRg) from trivial)]
theorem D5_no (a b c z : Value) (k : List UInt8) (h : keys5.contains k = false) : (D5 a b c).atKey (.string k) (.held z) = .held z := by
  have h2 : k ∉ keys5 := by simpa using h
  simp only [keys5, List.mem_cons, List.not_mem_nil, or_false, not_or] at h2
  rw [D5, Maps.atKey_put_other (litne h2.2.2.2.2), Maps.atKey_put_other (litne h2.2.2.2.1), Maps.atKey_put_other (litne h2.2.2.1), Maps.atKey_put_other (litne h2.2.1), Maps.atKey_put_other (litne h2.1)]
  rfl
theorem zeroF (w : World) : (zeroValue 23).run Tryz.prog w = .ok .nilFunc w := by kernel_rfl
/-- 'v, is := m[k]' at the operation of a walk. -/
theorem wp_lookT {ops : Array Oper} {rest : List Oper} {o : Oper} {a : Act} {Q : Exit → Act → World → Prop} (w : World) (hgd : o.guard = none) (m x : Operand) (ho : o.op = .lookup 38 m x true)
    (g1 g2 g3 b : Nat) (h : Tst w g1 g2 g3 b) (k : List UInt8) (hk : k.length ≤ 9223372036854775807) (hm : a.eval m = .map (some b)) (hx : a.eval x = .string (str k)) (V : Value)
    (hV : (D5 (.func (.func 53) #[] #[.pointer (some ⟨g1, 0, none⟩)]) (.func (.func 53) #[] #[.pointer (some ⟨g3, 0, none⟩)]) (.func (.func 40) #[] #[.pointer (some ⟨g2, 0, none⟩)])).atKey (.string k) (.held .nilFunc) = .held V) (B : Bool) (hB : keys5.contains k = B)
    (hK : wpList Tryz.prog ops Q rest (a.put o.dst (.tuple #[V, .bool B])) w) : wpList Tryz.prog ops Q (o :: rest) a w := by
  refine wpList_lookup_own_ok w hgd m x 38 ho 9 23 (string_keyed Tryz.underlying9) Tryz.underlying38 rawE (zeroF w) (.held .nilFunc) [] rfl b 5 _ hm h.map _ (.string k) hx (Go.WideMaps.keyOf_string_mk Tryz.underlying9 (s := str k) (by rw [str_size]; exact hk)) fun v ps hR => ?_
  have e : v = V := by
    have h1 : (DataW.held v : DataW Value) = _ := congrArg Prod.fst (Option.some.inj hR)
    rw [hV] at h1
    exact DataW.held.inj h1
  subst e
  rw [D5_has, hB]
  exact hK
/-- 'm[k] = v' of a map written out, at the operation of a walk. -/
theorem wp_insT {ops : Array Oper} {rest : List Oper} {o : Oper} {a : Act} {Q : Exit → Act → World → Prop} (w : World) (hgd : o.guard = none) (m x y : Operand) (ho : o.op = .insert 38 m x y)
    (b n : Nat) (D : DataW Value) (h : w.ownsMap Tryz.prog 9 rawE b n D) (hn : n ≤ 10) (k : List UInt8) (hk : k.length ≤ 9223372036854775807) (v : Value) (hm : a.eval m = .map (some b)) (hx : a.eval x = .string (str k)) (hy : a.eval y = v)
    (hK : ∀ w', w'.ownsMap Tryz.prog 9 rawE b (n + 1) (D.put (.string k) (.held v)) → w.grownBy w' (some b) → wpList Tryz.prog ops Q rest (a.put o.dst undef) w') : wpList Tryz.prog ops Q (o :: rest) a w := by
  refine wpList_plain hgd fun K' hK' => ?_
  obtain ⟨w', hrun, r1, r2⟩ := h.update (string_keyed Tryz.underlying9) Tryz.underlying38 (by unfold maxLen; omega) (Go.WideMaps.keyOf_string_mk Tryz.underlying9 (s := str k) (by rw [str_size]; exact hk)) (rfl : rawE v = some (.held v, []))
  unfold Oper.wp
  simp [execOp, ho, hm, hx, hy, hrun, Result.andThen]
  exact hK' _ _ (hK w' r1 r2)
theorem each_any (f : Value) (hf : f.oneCell' = true) (w : World) : Calls Tryz.prog 36 #[f] w fun e w' => ∃ g, e = .returned (.func (.func 53) #[] #[.pointer (some ⟨g, 0, none⟩)]) ∧ Blk w' g 45 [f] ∧ Below w.heap.size w w' := by
  have hmf : ∀ (fn : Fn) (first cap : Array Value) (w : World), (Instr.makeFunc fn first cap).run Tryz.prog w = .ok (.func fn first cap) w := fun _ _ _ _ => rfl
  go_enter Tryz.func36, Tryz.ntmps36
  go_wp2_with fail
  go_ret
  exact ⟨_, rfl, Blk.new w 45 [f], (Below.refl _ _).alloc (Nat.le_refl _) _⟩
theorem below_map {w w' : World} {b B : Nat} (hg : w.grownBy w' (some b)) (hB : B ≤ b) (hw : B ≤ w.heap.size) : Below B w w' :=
  ((Below.refl w.heap.size w).mono hw).grown hg hw (fun j hj => by cases hj; exact hB)
end Go.Proofs.YtonchnmcklgpoaaGreatDoor
