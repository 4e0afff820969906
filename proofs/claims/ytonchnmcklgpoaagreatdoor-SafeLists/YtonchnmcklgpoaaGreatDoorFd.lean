/-
  What field.gather answers: a map of each name to the row of its values. No condition but sizes.
-/
import Derived.Test.YtonchnmcklgpoaaGreatDoorFa
import Derived.Maps.Own
import Derived.Maps.OwnOps
import Derived.Maps.OwnSet
import Derived.Maps.Views
namespace Go.Proofs.YtonchnmcklgpoaaGreatDoor
open Go.RowKit Go.Maps
set_option linter.unusedVariables false
theorem Fs.range {w : World} {B n : Nat} {A : Option Addr} {fs : List (List UInt8 × List UInt8)} (h : Fs w B A n fs) {k : Nat} (hk : k < n) : ∃ b off f, A = some ⟨b, off, none⟩ ∧ b < B ∧ fs[k]? = some f ∧ w.rangeAt b (off + k * 2) [.string (str f.1), .string (str f.2)] := by
  obtain ⟨b, off, f, h1, h2, h3, h4, h5⟩ := h.at_ hk
  refine ⟨b, off, f, h1, h2, h3, fun j v hv => ?_⟩
  match j, hv with
  | 0, hv => cases hv; exact h4
  | 1, hv => cases hv; exact h5
/-- A block of another type is not the row's. -/
theorem OwnT.off {w : World} {base n g : Nat} {v : Value} {L : List (List UInt8)} {t : TypeId} {C : List Value} (h : OwnT w base v n L) (hb : Blk w g t C) (ht : t ≠ 9) : v.ownBlock ≠ some g := by
  rcases h.2 with ⟨rfl, _⟩ | ⟨k, cap, cur, rfl, _, hh, _⟩
  · intro e; cases e
  · intro e
    have e2 : k = g := by simpa [Value.ownBlock] using e
    subst e2
    unfold Blk at hb
    rw [hb] at hh
    cases hh
    exact ht rfl

/-- A map's element as it lies there. -/
def rawE (v : Value) : Option (DataW Value × List MemPlace) := some (.held v, [])
/-- The block that an element's slice lies in. -/
def vblk : Value → Option Nat
  | .agg a => (a.getD 0 undef).ownBlock
  | _ => none
/-- Block b is a map of each name's values: V tells each name's element, D is what the map reads as. -/
structure GM (w : World) (base b : Nat) (fs : List (List UInt8 × List UInt8)) (D : DataW Value) (V : List UInt8 → Value) : Prop where
  map : w.ownsMap Tryz.prog 9 rawE b fs.length D
  has : ∀ k, Maps.has D (.string k) = decide (k ∈ nms fs)
  at_ : ∀ k, D.atKey (.string k) (.held (.agg #[.slice none 0 0])) = .held (V k)
  row : ∀ k, ∃ A n c, V k = .agg #[.slice A n c] ∧ OwnT w base (.slice A n c) n (vl fs k)
  apart : ∀ k m, k ≠ m → ∀ g, vblk (V k) = some g → vblk (V m) ≠ some g
theorem grow_below {w w' : World} (h : Below w.heap.size w w') (row : Option Nat) : w.grownBy w' row := ⟨h.os, h.tape, h.output, h.size, fun k hk _ => h.block k hk⟩
theorem grow_upd {w w1 w2 : World} {g : Nat} {row : Option Nat} (h0 : w.grownBy w1 row) (h : Upd g w1 w2) (hg : w.heap.size ≤ g) : w.grownBy w2 row :=
  ⟨h.os.trans h0.os, h.tape.trans h0.tape, h.output.trans h0.output, by rw [h.size]; exact h0.size, fun k hk hne => (h.block k (by omega)).trans (h0.block k hk hne)⟩
theorem OwnT.grown {w w' : World} {base n : Nat} {v : Value} {L : List (List UInt8)} {row : Option Nat} (h : OwnT w base v n L) (hg : w.grownBy w' row) (hne : ∀ g, v.ownBlock = some g → some g ≠ row) : OwnT w' base v n L := by
  refine ⟨h.1, ?_⟩
  rcases h.2 with h2 | ⟨g, cap, cur, hv, hb, hh, r⟩
  · exact .inl h2
  · exact .inr ⟨g, cap, cur, hv, hb, by rw [hg.block g (Array.getElem?_eq_some_iff.1 hh).1 (hne g (by rw [hv]; rfl))]; exact hh, r⟩
theorem OwnT.notMap {w : World} {base n b : Nat} {v : Value} {L : List (List UInt8)} {es : Array MapEntry} {cl : Nat} (h : OwnT w base v n L) (hb : w.heap[b]? = some (.map es cl)) : v.ownBlock ≠ some b := by
  rcases h.2 with ⟨rfl, _⟩ | ⟨g, cap, cur, rfl, _, hh, _⟩
  · intro e; cases e
  · intro e
    have e2 : g = b := by simpa [Value.ownBlock] using e
    subst e2
    rw [hb] at hh
    cases hh
theorem OwnT.lt {w : World} {base n g : Nat} {v : Value} {L : List (List UInt8)} (h : OwnT w base v n L) (e : v.ownBlock = some g) : g < w.heap.size := (World.ownsRow.lt h g e).2
section
variable {w w' : World} {base b : Nat} {fs : List (List UInt8 × List UInt8)} {D : DataW Value} {V : List UInt8 → Value}
theorem GM.kept (h : GM w base b fs D V) (hb : Below w.heap.size w w') : GM w' base b fs D V :=
  ⟨h.map.kept (grow_below hb none) (by simp), h.has, h.at_, fun k => by
    obtain ⟨A, n, c, e, ho⟩ := h.row k
    exact ⟨A, n, c, e, ho.kept hb⟩, h.apart⟩
theorem GM.made (w : World) (base : Nat) : GM (w.alloc (.map #[] 0)) base w.heap.size [] (.map []) (fun _ => .agg #[.slice none 0 0]) :=
  ⟨World.ownsMap_made w _ _ _, fun k => by simp [Maps.has, nms], fun k => rfl, fun k => ⟨none, 0, 0, rfl, ownT_nil _ _⟩, fun k m _ g e => by cases e⟩
theorem vblk_agg (A : Option Addr) (n c : Nat) : vblk (.agg #[.slice A n c]) = (Value.slice A n c).ownBlock := rfl
/-- The name's element is stored anew, its row grown by one more value. -/
theorem GM.step (h : GM w base b fs D V) (p q : List UInt8) {w1 w2 : World} (hg : w.grownBy w1 (vblk (V (low p)))) {A : Option Addr} {n c : Nat}
    (hown : OwnT w1 base (.slice A n c) n (vl fs (low p) ++ [q])) (hloc : (Value.slice A n c).ownBlock = vblk (V (low p)) ∨ ∃ j, (Value.slice A n c).ownBlock = some j ∧ w.heap.size ≤ j)
    (hm : w2.ownsMap Tryz.prog 9 rawE b (fs.length + 1) (D.put (.string (low p)) (.held (.agg #[.slice A n c])))) (hg2 : w1.grownBy w2 (some b)) (es : Array MapEntry) (cl : Nat) (hbm : w1.heap[b]? = some (.map es cl)) :
    GM w2 base b (fs ++ [(p, q)]) (D.put (.string (low p)) (.held (.agg #[.slice A n c]))) (fun k => if k = low p then .agg #[.slice A n c] else V k) := by
  have hI : Maps.IsMap D := h.map.isMap
  have hoth : ∀ k, k ≠ low p → ∃ A2 n2 c2, V k = .agg #[.slice A2 n2 c2] ∧ OwnT w base (.slice A2 n2 c2) n2 (vl fs k) ∧ OwnT w1 base (.slice A2 n2 c2) n2 (vl fs k) := fun k hk => by
    obtain ⟨A2, n2, c2, e, ho⟩ := h.row k
    refine ⟨A2, n2, c2, e, ho, ho.grown hg fun g eg ek => ?_⟩
    exact h.apart k (low p) hk g (by rw [e, vblk_agg]; exact eg) ek.symm
  refine ⟨?_, fun k => ?_, fun k => ?_, fun k => ?_, fun k m hkm g e1 e2 => ?_⟩
  · rw [List.length_append]
    exact hm
  · rw [nms_snoc]
    by_cases e : k = low p
    · subst e
      rw [Maps.has_put_same hI (show WideAt.IsKeyLit (Lit.string (low p)) from trivial)]
      exact (decide_eq_true ((ins_mem _ _ _).2 (.inl rfl))).symm
    · rw [Maps.has_put_other (fun e2 => e (Lit.string.inj e2)), h.has, decide_eq_decide, ins_mem]
      exact ⟨.inr, fun h => h.resolve_left e⟩
  · show _ = DataW.held (if k = low p then _ else _)
    by_cases e : k = low p
    · subst e
      rw [if_pos rfl, Maps.atKey_put_same hI (show WideAt.IsKeyLit (Lit.string (low p)) from trivial)]
    · rw [if_neg e, Maps.atKey_put_other (fun e2 => e (Lit.string.inj e2)), h.at_]
  · show ∃ A n c, (if k = low p then _ else _) = _ ∧ _
    rw [vl_app, vl_one]
    by_cases e : k = low p
    · subst e
      rw [if_pos rfl, if_pos rfl]
      exact ⟨A, n, c, rfl, hown.grown hg2 fun g eg ek => hown.notMap hbm (by rw [eg, ek])⟩
    · obtain ⟨A2, n2, c2, e3, _, ho⟩ := hoth k e
      rw [if_neg e, if_neg (fun e4 => e e4.symm), List.append_nil]
      exact ⟨A2, n2, c2, e3, ho.grown hg2 fun g eg ek => ho.notMap hbm (by rw [eg, ek])⟩
  · have hnew : ∀ k, k ≠ low p → ∀ g, vblk (.agg #[.slice A n c]) = some g → vblk (V k) ≠ some g := fun k hk g e1 e2 => by
      obtain ⟨A2, n2, c2, e3, ho, _⟩ := hoth k hk
      rw [e3, vblk_agg] at e2
      rw [vblk_agg] at e1
      rcases hloc with h1 | ⟨j, h1, h2⟩
      · exact h.apart k (low p) hk g (by rw [e3, vblk_agg]; exact e2) (by rw [← h1]; exact e1)
      · rw [h1] at e1
        have e4 := Option.some.inj e1
        have := ho.lt e2
        omega
    have e1 : vblk (if k = low p then _ else V k) = some g := e1
    have e2 : vblk (if m = low p then _ else V m) = some g := e2
    by_cases hk : k = low p
    · rw [if_pos hk] at e1
      have hm2 : m ≠ low p := fun e => hkm (hk.trans e.symm)
      rw [if_neg hm2] at e2
      exact hnew m hm2 g e1 e2
    · rw [if_neg hk] at e1
      by_cases hm2 : m = low p
      · rw [if_pos hm2] at e2
        exact hnew k hk g e2 e1
      · rw [if_neg hm2] at e2
        exact h.apart k m hkm g e1 e2
end
theorem zeroV (w : World) : (zeroValue 59).run Tryz.prog w = .ok (.agg #[.slice none 0 0]) w := by kernel_rfl
/-- 'm[k]' at the operation of a walk. -/
theorem wp_lookM {ops : Array Oper} {rest : List Oper} {o : Oper} {a : Act} {Q : Exit → Act → World → Prop} (w : World) (hgd : o.guard = none) (m x : Operand) (ho : o.op = .lookup 57 m x false)
    (base b : Nat) (fs : List (List UInt8 × List UInt8)) (D : DataW Value) (V : List UInt8 → Value) (h : GM w base b fs D V) (k : List UInt8) (hk : k.length ≤ 9223372036854775807) (hm : a.eval m = .map (some b)) (hx : a.eval x = .string (str k)) (v : Value) (hv : V k = v)
    (hK : wpList Tryz.prog ops Q rest (a.put o.dst v) w) : wpList Tryz.prog ops Q (o :: rest) a w := by
  subst hv
  refine wpList_plain hgd fun K' hK' => ?_
  obtain ⟨v, ps, hrun, hR⟩ := h.map.lookup (string_keyed Tryz.underlying9) Tryz.underlying57 (zeroV w) (rfl : rawE _ = some (_, [])) (Go.WideMaps.keyOf_string_mk Tryz.underlying9 (s := str k) (by rw [str_size]; exact hk))
  have e : v = V k := by
    have h1 : (DataW.held v : DataW Value) = D.atKey (.string k) (.held (.agg #[.slice none 0 0])) := congrArg Prod.fst (Option.some.inj hR)
    rw [h.at_] at h1
    exact DataW.held.inj h1
  subst e
  unfold Oper.wp
  simp [execOp, ho, hm, hx, hrun, Result.andThen]
  exact hK' _ _ hK
/-- 'm[k] = v' at the operation of a walk. -/
theorem wp_updM {ops : Array Oper} {rest : List Oper} {o : Oper} {a : Act} {Q : Exit → Act → World → Prop} (w1 : World) (hgd : o.guard = none) (m x y : Operand) (ho : o.op = .mapUpdate 57 m x y)
    (w : World) (base b : Nat) (fs : List (List UInt8 × List UInt8)) (D : DataW Value) (V : List UInt8 → Value) (h : GM w base b fs D V) (hfs : fs.length ≤ 1000) (p q : List UInt8) (hp : (low p).length ≤ 9223372036854775807) (hg : w.grownBy w1 (vblk (V (low p)))) (A : Option Addr) (n c : Nat)
    (hown : OwnT w1 base (.slice A n c) n (vl fs (low p) ++ [q])) (hloc : (Value.slice A n c).ownBlock = vblk (V (low p)) ∨ ∃ j, (Value.slice A n c).ownBlock = some j ∧ w.heap.size ≤ j)
    (hm : a.eval m = .map (some b)) (hx : a.eval x = .string (str (low p))) (hy : a.eval y = .agg #[.slice A n c])
    (hK : ∀ w2 D2 V2, GM w2 base b (fs ++ [(p, q)]) D2 V2 → w1.grownBy w2 (some b) → wpList Tryz.prog ops Q rest (a.put o.dst undef) w2) : wpList Tryz.prog ops Q (o :: rest) a w1 := by
  have hnb : some b ≠ vblk (V (low p)) := fun e => by
    obtain ⟨es, cl, hb, _⟩ := h.map
    obtain ⟨A2, n2, c2, e3, ho⟩ := h.row (low p)
    rw [e3, vblk_agg] at e
    exact ho.notMap hb e.symm
  have hm1 := h.map.kept hg hnb
  refine wpList_mapUpdate_own w1 hgd m x y 57 ho 9 59 (string_keyed Tryz.underlying9) Tryz.underlying57 rawE b fs.length D hm hm1 (by unfold maxLen; omega) _ _ (.string (low p)) hx hy (Go.WideMaps.keyOf_string_mk Tryz.underlying9 (s := str (low p)) (by rw [str_size]; exact hp)) (.held (.agg #[.slice A n c])) [] rfl fun w2 h2 hg2 => ?_
  obtain ⟨es, cl, hb, _⟩ := hm1
  exact hK w2 _ _ (h.step p q hg hown hloc h2 hg2 es cl hb) hg2
/-- append of one text onto a row, and where the new row lies. -/
theorem wp_appL {ops : Array Oper} {rest : List Oper} {o : Oper} {a : Act} {Q : Exit → Act → World → Prop} (w : World) (hgd : o.guard = none) (s x : Operand)
    (ho : o.op = .call { callee := .builtin .append, args := #[s, x], argTypes := #[31, 31] })
    (base : Nat) (v : Value) (n : Nat) (L : List (List UInt8)) (hs : a.eval s = v) (hown : OwnT w base v n L)
    (g : Nat) (q : List UInt8) (hx : a.eval x = .slice (some ⟨g, 0, none⟩) 1 1) (hr : w.cell? ⟨g, 0, none⟩ = some (vstr q)) (hsz : n ≤ 1000) (hbase : base ≤ w.heap.size)
    (h : ∀ A' c' w', OwnT w' base (.slice A' (n + 1) c') (n + 1) (L ++ [q]) → w.grownBy w' v.ownBlock → ((Value.slice A' (n + 1) c').ownBlock = v.ownBlock ∨ (Value.slice A' (n + 1) c').ownBlock = some w.heap.size) → wpList Tryz.prog ops Q rest (a.put o.dst (.slice A' (n + 1) c')) w') : wpList Tryz.prog ops Q (o :: rest) a w := by
  obtain ⟨i, hi, hz0, hz1, hz2⟩ := info_parts text_info
  refine wpList_append_own_at w hgd s x 31 ho base 9 i _ 1 16 Tryz.underlying31 hi hz0 hz1 hz2 rfl (by decide) v n (L.map vstr) hs hown ⟨g, 0, none⟩ 1 1 [vstr q] hx rfl (fun j u hu => ?_) (by simp [vstr, Value.oneCell']) (by unfold maxLen; omega) (by omega) hbase fun v' w' h3 h4 _ h5 => ?_
  · match j, hu with
    | 0, hu =>
      cases hu
      exact hr
  · have h6 : OwnT w' base v' (n + 1) (L ++ [q]) := by
      show World.ownsRow _ _ _ _ _ _ _
      rw [List.map_append]
      exact h3
    obtain ⟨A', c', rfl, _, _, _⟩ := h6.form
    exact h A' c' w' h6 h4 h5
end Go.Proofs.YtonchnmcklgpoaaGreatDoor
