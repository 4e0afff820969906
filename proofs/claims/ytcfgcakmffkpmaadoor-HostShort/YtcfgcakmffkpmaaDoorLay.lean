/-
  From the rows' premise on the library's tables to their cells; a world that holds them. No condition.
-/
import Derived.Test.YtcfgcakmffkpmaaDoorIpc
import Derived.Test.YtcfgcakmffkpmaaDoorRows
import Derived.Lib.LaidTab
import Derived.LaidSub
import Derived.Lay
import Derived.Deep.DeepHandedRow
namespace Go.Proofs.YtcfgcakmffkpmaaDoor
open Go.RowKit

/-- What the listed tables hold, as the rows have it. -/
def laidSix : List (String × DataW Unit) := Rows.hostOnceRow.laid
theorem gPow : Tryd.prog.globalNamed "internal/strconv.uint64pow10" = some 2 := by kernel_rfl
theorem gDeb : Tryd.prog.globalNamed "math/bits.deBruijn64tab" = some 6 := by kernel_rfl
theorem gPowT : (Tryd.prog.globals[2]?).map (·.type) = some 120 := by kernel_rfl
theorem gDebT : (Tryd.prog.globals[6]?).map (·.type) = some 137 := by kernel_rfl
theorem cells120 : Tryd.prog.cellsOf 120 = 20 := by kernel_rfl
theorem cells137 : Tryd.prog.cellsOf 137 = 64 := by kernel_rfl
theorem cells63 : Tryd.prog.cellsOf 63 = 1 := by kernel_rfl
theorem cells5 : Tryd.prog.cellsOf 5 = 1 := by kernel_rfl
def debTab : List Int := [0, 1, 56, 2, 57, 49, 28, 3, 61, 58, 42, 50, 38, 29, 17, 4, 62, 47, 59, 36, 45, 43, 51, 22, 53, 39, 33, 30, 24, 18, 12, 5, 63, 55, 48, 27, 60, 41, 37, 16, 46, 35, 44, 21, 52, 32, 23, 11, 54, 26, 40, 15, 34, 20, 31, 10, 25, 14, 19, 9, 13, 8, 7, 6]
theorem pow_is {W : World} (h : laidMetH Tryd.prog laidSix W) : Lib.TabIs Tryd.prog W "internal/strconv.uint64pow10" .u64 Lib.pow10Tab := by
  have h2 : laidMetH Tryd.prog [("internal/strconv.uint64pow10", Lib.tabData .u64 Lib.pow10Tab)] W := laidMetH.filter (fun x => x.1 == "internal/strconv.uint64pow10") h
  exact Lib.tabIs_of_head (rest := []) gPow gPowT Tryd.underlying120 Tryd.underlying63 cells63 cells120 h2
theorem deb_is {W : World} (h : laidMetH Tryd.prog laidSix W) : Lib.TabIs Tryd.prog W "math/bits.deBruijn64tab" .u8 debTab := by
  have h2 : laidMetH Tryd.prog [("math/bits.deBruijn64tab", Lib.tabData .u8 debTab)] W := laidMetH.filter (fun x => x.1 == "math/bits.deBruijn64tab") h
  exact Lib.tabIs_of_head (rest := []) gDeb gDebT Tryd.underlying137 Tryd.underlying5 cells5 cells137 h2
theorem tab_of {W : World} (h : laidMetH Tryd.prog laidSix W) (hsh : W.ShapedOpen Tryd.prog) : Tabs W := by
  obtain ⟨m, hm⟩ : ∃ m, W.cell? ⟨0, 0, none⟩ = some (.int .i64 m) := Tryd.laysM145.s1_3 W hsh
  have h1 := (deb_is h).cell gDeb 15 (by decide)
  have h2 := Lib.tabBelow_of_tabIs (pow_is h)
  intro w' hb
  refine ⟨⟨m, (hb.cell (p := ⟨0, 0, none⟩) (World.block_lt_of_cell? W _ hm)).trans hm⟩, h2 w' hb, ?_⟩
  exact (hb.cell (p := ⟨6, 15, none⟩) (World.block_lt_of_cell? W _ h1)).trans h1

theorem str_data (s : ByteArray) : str s.data.toList = s := by
  obtain ⟨d⟩ := s
  simp [str]

theorem laid_met (os : Os) (args : Array Value) : laidMet Tryd.prog laidSix ((World.laidAll Tryd.prog os laidSix).forCall (fun _ _ => 0) ⟨#[], args, []⟩).memory := laidMet_laidAll args (by kernel_rfl) (by kernel_rfl)
theorem laid_shaped (os : Os) (args : Array Value) : ((World.laidAll Tryd.prog os laidSix).forCall (fun _ _ => 0) ⟨#[], args, []⟩).Shaped Tryd.prog := World.shaped_of_ZipB (by kernel_rfl) (by kernel_rfl)

theorem witness_zip {H : Type} {enc : TypeId × Value → H} {C : Checked} {os : Os} {f : FuncId} {fn : Func} {s : OpenSpec} {conds : List PathCond} {apart : Bool} {laid : List (String × DataW Unit)} (modest : Bool) (w0 : World) (args : Array Value) (hos : w0.os = os)
    (hsh : (w0.forCall (fun _ _ => 0) ⟨#[], args, []⟩).Shaped C.prog)
    (hok : Input.okWideB C.prog (w0.forCall (fun _ _ => 0) ⟨#[], args, []⟩) f ⟨#[], args, []⟩ = true)
    (hrow : s.preRow enc C.prog fn conds apart laid (w0.forCall (fun _ _ => 0) ⟨#[], args, []⟩).memory args) :
    ∃ (w : World) (tape : Tape) (i : Input), w.os = os ∧ (w.forCall tape i).Shaped C.prog ∧ i.vars = [] ∧ Input.okWide C.prog (w.forCall tape i) .any w.heap.size f i ∧
      s.preRow enc C.prog fn conds apart laid (w.forCall tape i).memory i.args ∧ ({ modest := modest } : Assume).holds C.prog (lone (Frame.enter C.prog f i.args .normal) [] (w.forCall tape i)) :=
  ⟨w0, fun _ _ => 0, ⟨#[], args, []⟩, hos, hsh, (Input.okWide_of_okWideB (base := 0) hok).1, (Input.okWide_of_okWideB hok).2, hrow, by
    simp only [Assume.holds]
    exact ⟨by simp, by simp, fun _ => Modest.zero, by simp, by simp⟩⟩
end Go.Proofs.YtcfgcakmffkpmaaDoor
