/-
  An address of eight pieces as an argument; '==' of one with itself. No condition.
-/
import Derived.Test.YtcfgcakmffkpmaaDoorSix
import Derived.Laws.StructEq
import Derived.OpenShut
import Derived.ChangeArms
namespace Go.Proofs.YtcfgcakmffkpmaaDoor
open Go.RowKit Go.ChangeShapes Go.WideShapes
set_option maxRecDepth 100000

theorem cells38 : Tryd.prog.cellsOf 38 = 8 := by kernel_rfl
theorem cells37 : Tryd.prog.cellsOf 37 = 1 := by kernel_rfl
theorem take_one {cs : List Value} {i : Nat} {v : Value} (h : (cs.drop i).take 1 = [v]) : cs[i]? = some v := by
  have := congrArg (·[0]?) h
  simpa using this
theorem okWide_array {P : Program} {w : World} {r : Reach} {base : Nat} {t e : TypeId} {n : Nat} {v : Value} (ht : P.underlying t = some (.array n e)) (h : Value.okWide P w r base t v) : ∃ cs, v = .agg cs ∧ cs.size = P.cellsOf t := by
  simp only [Value.okWide, ht] at h
  obtain ⟨cs, h1, h2, _⟩ := h
  exact ⟨cs, h1, h2⟩
def natOf : Option Value → Nat
  | some (.int _ z) => z.toNat
  | _ => 0
theorem natOf_vh (z : Nat) : natOf (some (vh z)) = z := rfl
theorem open_arr {H : Type} {enc : TypeId × Value → H} {W : World} {r : Reach} {b0 base : Nat} {sp : Nat → Bool} {held : Bool} {v : Value} {d : DataW H} {p : List MemPlace}
    (hv : Value.okWide Tryd.prog W r b0 38 v) (h : DataW.Trod enc Tryd.prog W base sp held 38 v d p) :
    ∃ e : List Nat, (e.length = 8 ∧ ∀ x ∈ e, x < 65536) ∧ v = .agg (vhs e).toArray := by
  obtain ⟨cs, rfl, hsz⟩ := okWide_array Tryd.underlying38 hv
  obtain ⟨fuel, hf⟩ := h
  obtain ⟨xs, n, _, _, _, hxl, hg⟩ := DataW.trod_array Tryd.underlying38 hf
  rw [cells38] at hsz
  obtain ⟨l⟩ := cs
  have hl : l.length = 8 := by simpa using hsz
  have key : ∀ i, i < 8 → ∃ z : Nat, l[i]? = some (vh z) ∧ z < 65536 := by
    intro i hi
    have h1 := hg i hi
    rw [cells37, Nat.mul_one, List.getElem?_eq_getElem (by rw [hxl]; exact hi)] at h1
    obtain ⟨z, hz, _, hw⟩ := DataW.trod_int Tryd.underlying37 h1
    have hz' : l[i]? = some (.int .u16 z) := take_one hz
    simp [Lit.wf, IntKind.min, IntKind.max, IntKind.signed, IntKind.bits] at hw
    obtain ⟨m, rfl⟩ := Int.eq_ofNat_of_zero_le hw.1
    exact ⟨m, hz', by omega⟩
  refine ⟨(List.range 8).map fun i => natOf l[i]?, ⟨by simp, ?_⟩, ?_⟩
  · intro x hx
    obtain ⟨i, hi, rfl⟩ := List.mem_map.1 hx
    rw [List.mem_range] at hi
    obtain ⟨z, hz, h9⟩ := key i hi
    rw [hz, natOf_vh]
    exact h9
  · congr 1
    apply Array.ext'
    apply List.ext_getElem
    · simp [vhs, hl]
    · intro i h1 h2
      have hi : i < 8 := by
        have : i < l.length := by simpa using h1
        omega
      obtain ⟨z, hz, _⟩ := key i hi
      have e : l[i]'(by omega) = vh z := by
        rw [List.getElem?_eq_getElem (by omega)] at hz
        exact Option.some.inj hz
      have e3 : (vhs ((List.range 8).map fun i => natOf l[i]?))[i]'(by simpa using h2) = vh (natOf l[i]?) := by simp [vhs]
      rw [hz, natOf_vh] at e3
      exact e.trans e3.symm
set_option maxHeartbeats 1000000 in
theorem arr_eq0 (a b c d e f g h : Nat) (w : World) : (Op.equalIn 10000 38 (.agg (vhs [a, b, c, d, e, f, g, h]).toArray) (.agg (vhs [a, b, c, d, e, f, g, h]).toArray)).run Tryd.prog w = .ok true w := by
  have hi : ∀ (x : Nat) (w : World), (Op.equalIn 9999 37 (.int .u16 (x : Int)) (.int .u16 (x : Int))).run Tryd.prog w = .ok true w := fun x w => by
    rw [run_equalIn_int w 9998 37 .u16 .u16 _ _ Tryd.underlying37]
    simp
  have hz : ∀ w, (sizeOf 37).run Tryd.prog w = .ok 1 w := fun w => Tryd.sizeOf37 w
  have hg : ∀ w, (isAgg 37).run Tryd.prog w = .ok false w := fun w => Tryd.isAgg37 w
  rw [show (10000 : Nat) = 9999 + 1 from rfl]
  unfold Op.equalIn
  simp [run_underlying Tryd.underlying38, hz, hg, part, hi, vhs, vh, Std.Legacy.Range.forIn_eq_forIn_range', Std.Legacy.Range.size, List.range']
theorem arr_eq (a : List Nat) (ha : a.length = 8) (w : World) : (Op.equalIn 10000 38 (.agg (vhs a).toArray) (.agg (vhs a).toArray)).run Tryd.prog w = .ok true w := by
  match a, ha with
  | [a, b, c, d, e, f, g, h], _ => exact arr_eq0 a b c d e f g h w
section
variable {ops : Array Oper} {rest : List Oper} {o : Oper} {a : Act} {Q : Exit → Act → World → Prop}
theorem guard38 : Tryd.prog.eqGuardType Tryd.prog.depth 38 = false := by kernel_rfl
theorem wp_eqA (w : World) (hgd : Region.wanted o (yielded ops a.tmps) = true) (x y : Operand) (ho : o.op = .binOp .eql 38 x y 38) (A : List Nat) (hA : A.length = 8)
    (hx : a.eval x = .agg (vhs A).toArray) (hy : a.eval y = .agg (vhs A).toArray)
    (h : wpList Tryd.prog ops Q rest (a.put o.dst (.bool true)) w) : wpList Tryd.prog ops Q (o :: rest) a w :=
  wpList_step fun K hK => by
    rw [if_pos hgd]
    have h1 := arr_eq A hA w
    unfold Oper.wp execOp
    simp only [ho, hx, hy, Sem.run_bind, run_eqGuard_agg w _ _ _ _ _ _ guard38, run_eql_struct, h1, Result.andThen_ok, Sem.run_pure]
    exact hK _ _ h
theorem wp_neA (w : World) (hgd : Region.wanted o (yielded ops a.tmps) = true) (x y : Operand) (ho : o.op = .binOp .neq 38 x y 38) (A : List Nat) (hA : A.length = 8)
    (hx : a.eval x = .agg (vhs A).toArray) (hy : a.eval y = .agg (vhs A).toArray)
    (h : wpList Tryd.prog ops Q rest (a.put o.dst (.bool false)) w) : wpList Tryd.prog ops Q (o :: rest) a w :=
  wpList_step fun K hK => by
    rw [if_pos hgd]
    have h1 := arr_eq A hA w
    unfold Oper.wp execOp
    simp only [ho, hx, hy, Sem.run_bind, run_eqGuard_agg w _ _ _ _ _ _ guard38, run_neq_struct, h1, Result.andThen_ok, Sem.run_pure]
    exact hK _ _ h
/-- A whole array is read, be the operation guarded or not. -/
theorem wp_getG (w : World) (hgd : Region.wanted o (yielded ops a.tmps) = true) (x : Operand) (ho : o.op = .load 38 x) (b : Nat) (A : List Nat) (hA : A.length = 8)
    (hx : a.eval x = .pointer (some ⟨b, 0, none⟩)) (hb : Blk w b 38 (vhs A))
    (h : wpList Tryd.prog ops Q rest (a.put o.dst (.agg (vhs A).toArray)) w) : wpList Tryd.prog ops Q (o :: rest) a w :=
  wpList_step fun K hK => by
    rw [if_pos hgd]
    have h1 := run_loadVar_mid (P := Tryd.prog) w b 0 38 (vhs A) _ hb.whole Tryd.underlying38 rfl (size38' A hA)
    unfold Oper.wp execOp
    simp only [ho, hx, Instr.loadAt, Instr.sureAddr, Sem.run_bind, h1, Result.andThen_ok, Sem.run_pure]
    exact hK _ _ h
end
end Go.Proofs.YtcfgcakmffkpmaaDoor
