/-
  What host.IPv6 answers; nothing that was there turns. Condition: texts of at most 10000000 bytes; the library's tables.
-/
import Derived.Test.YtcfgcakmffkpmaaDoorPcs
namespace Go.Proofs.YtcfgcakmffkpmaaDoor
open Go.RowKit

/-- The pieces of an address of eight; none: it is none's text. -/
def ip6 (l : List UInt8) : Option (List Nat) :=
  (pcs (!(Lib.cut l [58, 58]).2.2) (Lib.cut l [58, 58]).1).bind fun f => (pcs (Lib.cut l [58, 58]).2.2 (Lib.cut l [58, 58]).2.1).bind fun b =>
    if f.length + b.length ≤ 8 ∧ (Lib.cut l [58, 58]).2.2 ≠ decide (f.length + b.length = 8) then some (f ++ List.replicate (8 - f.length - b.length) 0 ++ b) else none
def zero8 : List Nat := [0, 0, 0, 0, 0, 0, 0, 0]
def ip6V (o : Option (List Nat)) : Value := .tuple #[.agg (vhs (o.getD zero8)).toArray, errV o.isNone]

theorem type38 : (Tryd.prog.info? 38).map (fun i => i.zero) = some (some (.agg (vhs zero8).toArray)) := by kernel_rfl
theorem size38 : (Tryd.prog.info? 38).map (·.size) = some 8 := by kernel_rfl
theorem size38' (xs : List Nat) (h : xs.length = 8) : (Tryd.prog.info? 38).map (·.size) = some (vhs xs).length := by rw [Hs_len, h]; exact size38
theorem build38 (w : World) : (Instr.build 38 #[]).run Tryd.prog w = .ok (.agg (vhs zero8).toArray) w := by kernel_rfl
theorem slice38 (w : World) (g q : Nat) (h : q ≤ 8) : (Instr.sliceAt 38 (.pointer (some ⟨g, 0, none⟩)) (some (.int .i64 (q : Int))) none none).run Tryd.prog w = .ok (.slice (some ⟨g, if 8 = q then 0 else q, none⟩) (8 - q) (8 - q)) w := by
  have h1 : q ≤ 8 := by omega
  have hsz : ∀ w, (sizeOf 37).run Tryd.prog w = .ok 1 w := fun w => Tryd.sizeOf37 w
  by_cases h2 : 8 = q
  · subst h2
    simp [Instr.sliceAt, run_underlying Tryd.underlying38, Instr.sureAddr, Instr.sliceBounds, Instr.sliceBound, asIntOf, hsz]
  · simp [Instr.sliceAt, run_underlying Tryd.underlying38, Instr.sureAddr, Instr.sliceBounds, Instr.sliceBound, asIntOf, hsz, h1, h2, Addr.add_lit]
theorem slice38a (w : World) (g : Nat) : (Instr.sliceAt 38 (.pointer (some ⟨g, 0, none⟩)) none none none).run Tryd.prog w = .ok (.slice (some ⟨g, 0, none⟩) 8 8) w := by
  kernel_rfl
/-- copy into an array. -/
theorem run_copyH (w : World) (ty : TypeId) (g o dl dc : Nat) (A : Option Addr) (m c : Nat) (l : List Nat) (B : Nat) (hs : Hs w B A m l) (C : List Value) (hb : Blk w g 38 C) (hm : m ≤ dl) (hf : o + m ≤ C.length) :
    ∃ w', (Builtin.copy_ #[54, 54] ty #[.slice (some ⟨g, o, none⟩) dl dc, .slice A m c]).run Tryd.prog w = .ok (goInt m) w' ∧ Blk w' g 38 (C.take o ++ vhs l ++ C.drop (o + m)) ∧ Upd g w w' := by
  rcases A with _ | ad
  · obtain ⟨rfl, rfl⟩ := hs.nil_
    refine ⟨w, ?_, by simpa [vhs] using hb, Upd.refl _ _⟩
    cases hq : Tryd.prog.info? 37 with
    | none => have := size37; simp [hq] at this
    | some i => simp [Builtin.copy_, run_underlying Tryd.underlying54, Builtin.lenOf, Builtin.firstCells, sizeOf, typeInfo, hq, storeCells]
  · have hl : (vhs l).length = m := by rw [Hs_len, hs.1]
    have hrun := run_copy_row (P := Tryd.prog) w 54 54 ty 37 g o dl dc ad m c C.toArray 38 (vhs l) Tryd.underlying54 size37 hb (by rw [hl]; exact (Nat.min_eq_left hm).symm) (fun j v hj => by
      simp only [vhs, List.getElem?_map, Option.map_eq_some_iff] at hj
      obtain ⟨x, hx, rfl⟩ := hj
      have hm0 : 0 < m := by
        have := (List.getElem?_eq_some_iff.1 hx).1
        have := hs.1
        omega
      obtain ⟨b, off, e, _, hc⟩ := hs.2 hm0
      have e := Option.some.inj e
      subst e
      rw [Addr.add_lit]
      exact hc j x hx) (by rw [hl]; simpa using hf) (Hs_one l)
    rw [hl] at hrun
    refine ⟨_, hrun, ?_, ⟨rfl, rfl, rfl, by simp, fun k hk => setRow_other _ _ _ _ hk⟩⟩
    exact setRow_heap w g C.toArray _ 38 (0, 0) hb
theorem wp_copyH {ops : Array Oper} {rest : List Oper} {o : Oper} {a : Act} {Q : Exit → Act → World → Prop} (w : World) (hgd : o.guard = none) (d s : Operand)
    (ho : o.op = .call { callee := .builtin .copy, args := #[d, s], argTypes := #[54, 54] })
    (g f dl dc : Nat) (A : Option Addr) (m c : Nat) (l : List Nat) (B : Nat) (hd : a.eval d = .slice (some ⟨g, f, none⟩) dl dc) (hsv : a.eval s = .slice A m c) (hs : Hs w B A m l) (C : List Value) (hb : Blk w g 38 C) (hm : m ≤ dl) (hf : f + m ≤ C.length)
    (h : ∀ w', Blk w' g 38 (C.take f ++ vhs l ++ C.drop (f + m)) → Upd g w w' → wpList Tryd.prog ops Q rest (a.put o.dst (goInt m)) w') : wpList Tryd.prog ops Q (o :: rest) a w := by
  refine wpList_plain hgd fun K hK => ?_
  obtain ⟨w', hrun, h2, h3⟩ := run_copyH w o.type g f dl dc A m c l B hs C hb hm hf
  unfold Oper.wp execOp
  simp only [ho, resolve, invoke, builtin, Sem.run_bind, Sem.run_pure, Result.andThen_ok, List.map_toArray, List.map_cons, List.map_nil, hd, hsv, hrun]
  exact hK _ _ (h w' h2 h3)
end Go.Proofs.YtcfgcakmffkpmaaDoor
