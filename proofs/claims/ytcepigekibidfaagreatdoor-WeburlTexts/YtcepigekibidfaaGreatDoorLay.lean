/-
  From the rows' premise on the library's variables to their cells; a world that holds them. No condition.
-/
import Derived.Test.YtcepigekibidfaaGreatDoorGp
import Derived.Test.YtcepigekibidfaaGreatDoorRows
import Derived.Lib.LaidTab
import Derived.Lib.LaidU8T
import Derived.Stop.LaidErr
import Derived.LaidSub
import Derived.Lay
import Derived.MakeChecks
import Derived.Deep.DeepHandedRow
namespace Go.Proofs.YtcepigekibidfaaGreatDoor
open Go.RowKit

/-- What the listed variables hold, as the rows have it. -/
def laidEight : List (String × DataW Unit) := Rows.weburlOnceRow.laid
theorem gPow : Tryz.prog.globalNamed "internal/strconv.uint64pow10" = some 5 := by kernel_rfl
theorem gDeb : Tryz.prog.globalNamed "math/bits.deBruijn64tab" = some 8 := by kernel_rfl
theorem gPowT : (Tryz.prog.globals[5]?).map (·.type) = some 221 := by kernel_rfl
theorem gDebT : (Tryz.prog.globals[8]?).map (·.type) = some 251 := by kernel_rfl
theorem gSyn : Tryz.prog.globalNamed "strconv.ErrSyntax" = some 3 := by kernel_rfl
theorem gRan : Tryz.prog.globalNamed "strconv.ErrRange" = some 4 := by kernel_rfl
theorem cells221 : Tryz.prog.cellsOf 221 = 20 := by kernel_rfl
theorem cells251 : Tryz.prog.cellsOf 251 = 64 := by kernel_rfl
theorem cells97 : Tryz.prog.cellsOf 97 = 1 := by kernel_rfl
theorem cells5 : Tryz.prog.cellsOf 5 = 1 := by kernel_rfl
def debTab : List Int := [0, 1, 56, 2, 57, 49, 28, 3, 61, 58, 42, 50, 38, 29, 17, 4, 62, 47, 59, 36, 45, 43, 51, 22, 53, 39, 33, 30, 24, 18, 12, 5, 63, 55, 48, 27, 60, 41, 37, 16, 46, 35, 44, 21, 52, 32, 23, 11, 54, 26, 40, 15, 34, 20, 31, 10, 25, 14, 19, 9, 13, 8, 7, 6]
theorem pow_is {W : World} (h : laidMetH Tryz.prog laidEight W) : Lib.TabIs Tryz.prog W "internal/strconv.uint64pow10" .u64 Lib.pow10Tab := by
  have h2 : laidMetH Tryz.prog [("internal/strconv.uint64pow10", Lib.tabData .u64 Lib.pow10Tab)] W := laidMetH.filter (fun x => x.1 == "internal/strconv.uint64pow10") h
  exact Lib.tabIs_of_head (rest := []) gPow gPowT Tryz.underlying221 Tryz.underlying97 cells97 cells221 h2
theorem deb_is {W : World} (h : laidMetH Tryz.prog laidEight W) : Lib.TabIs Tryz.prog W "math/bits.deBruijn64tab" .u8 debTab := by
  have h2 : laidMetH Tryz.prog [("math/bits.deBruijn64tab", Lib.tabData .u8 debTab)] W := laidMetH.filter (fun x => x.1 == "math/bits.deBruijn64tab") h
  exact Lib.tabIs_of_head (rest := []) gDeb gDebT Tryz.underlying251 Tryz.underlying5 cells5 cells251 h2
theorem plainEight : (laidEight.all fun x => x.2.handleName?.isNone) = true := by kernel_rfl
theorem star : "*" ++ "errors.errorString" = "*errors.errorString" := by decide
theorem row240 (u : TypeId) (h : Tryz.prog.typeName? 3 u = some "*errors.errorString") : u = 240 :=
  typeName_ptr_named (nm := "errors.errorString") (by rw [star]; kernel_rfl) (by kernel_rfl) (by decide) u (by rw [star]; exact h)
theorem first_is : Rows.laid_unicode_utf8_first = Lib.firstData := by kernel_rfl
theorem accept_is : (Rows.laid_unicode_utf8_acceptRanges : DataW Unit) = Lib.acceptData := by kernel_rfl
theorem utf_is {W : World} (h : laidMet Tryz.prog laidEight W) : Lib.Utf8Tabs 1 2 W :=
  utf8Tabs_of_readsT (ρ := Tryz.lays237_ren) { Tryz.lays237 with } ⟨by kernel_rfl, by kernel_rfl, by kernel_rfl, by kernel_rfl, by kernel_rfl, by kernel_rfl, by kernel_rfl⟩
    (first_is ▸ Lib.laidMet.reads h (by simp [laidEight, Rows.weburlOnceRow])) (accept_is ▸ Lib.laidMet.reads h (by simp [laidEight, Rows.weburlOnceRow]))
theorem syn_is {W : World} (h : laidMet Tryz.prog laidEight W) : ∃ te pe, W.cell? ⟨3, 0, none⟩ = some (.iface te pe) := by
  have h2 : laidMet Tryz.prog [("strconv.ErrSyntax", Rows.laid_strconv_ErrSyntax)] W := laidMet.filter (fun x => x.1 == "strconv.ErrSyntax") h
  obtain ⟨a, s, hv, _, _, _⟩ := laid_sentinel (g := 3) h2 gSyn (by kernel_rfl) Tryz.underlying118 row240 Tryz.underlying240 Tryz.underlying242 rfl rfl Tryz.underlying9 (by kernel_rfl) (by kernel_rfl)
  exact ⟨_, _, by simpa using World.var?_cell gSyn hv 0⟩
theorem ran_is {W : World} (h : laidMet Tryz.prog laidEight W) : ∃ te pe, W.cell? ⟨4, 0, none⟩ = some (.iface te pe) := by
  have h2 : laidMet Tryz.prog [("strconv.ErrRange", Rows.laid_strconv_ErrRange)] W := laidMet.filter (fun x => x.1 == "strconv.ErrRange") h
  obtain ⟨a, s, hv, _, _, _⟩ := laid_sentinel (g := 4) h2 gRan (by kernel_rfl) Tryz.underlying118 row240 Tryz.underlying240 Tryz.underlying242 rfl rfl Tryz.underlying9 (by kernel_rfl) (by kernel_rfl)
  exact ⟨_, _, by simpa using World.var?_cell gRan hv 0⟩
theorem tab_of {W : World} (h : laidMetH Tryz.prog laidEight W) (hsh : W.ShapedOpen Tryz.prog) : Tb W := by
  obtain ⟨m, hm⟩ : ∃ m, W.cell? ⟨0, 0, none⟩ = some (.int .i64 m) := Tryz.laysM145.s1_3 W hsh
  have h1 := (deb_is h).cell gDeb 15 (by decide)
  have h2 := Lib.tabBelow_of_tabIs (pow_is h)
  have hp : laidMet Tryz.prog laidEight W := by rw [← MakeChecks.laidMetH_plain _ _ _ plainEight]; exact h
  have hu := utf_is hp
  obtain ⟨t3, p3, h3⟩ := syn_is hp
  obtain ⟨t4, p4, h4⟩ := ran_is hp
  have kc : ∀ {w' : World} {p : Addr} {v : Value}, Below W.heap.size W w' → W.cell? p = some v → w'.cell? p = some v := fun hb hc => (hb.cell (World.block_lt_of_cell? W _ hc)).trans hc
  refine ⟨fun w' hb => ⟨⟨m, kc hb hm⟩, h2 w' hb, kc hb h1⟩, fun w' hb => ⟨⟨fun c hc => kc hb (hu.1 c hc), fun i hi => ⟨kc hb (hu.2 i hi).1, kc hb (hu.2 i hi).2⟩⟩, ⟨_, kc hb h3, .inr ⟨_, _, rfl⟩⟩, ⟨_, kc hb h4, .inr ⟨_, _, rfl⟩⟩⟩⟩

theorem str_data (s : ByteArray) : str s.data.toList = s := by
  obtain ⟨d⟩ := s
  simp [str]
set_option maxRecDepth 100000 in
theorem laid_met (os : Os) (args : Array Value) : laidMet Tryz.prog laidEight ((World.laidAll Tryz.prog os laidEight).forCall (fun _ _ => 0) ⟨#[], args, []⟩).memory := laidMet_laidAll args (by kernel_rfl) (by kernel_rfl)
set_option maxRecDepth 100000 in
theorem laid_shaped (os : Os) (args : Array Value) : ((World.laidAll Tryz.prog os laidEight).forCall (fun _ _ => 0) ⟨#[], args, []⟩).Shaped Tryz.prog := World.shaped_of_ZipB (by kernel_rfl) (by kernel_rfl)

theorem witness_zip {H : Type} {enc : TypeId × Value → H} {C : Checked} {os : Os} {f : FuncId} {fn : Func} {s : OpenSpec} {conds : List PathCond} {apart : Bool} {laid : List (String × DataW Unit)} (modest : Bool) (w0 : World) (args : Array Value) (hos : w0.os = os)
    (hsh : (w0.forCall (fun _ _ => 0) ⟨#[], args, []⟩).Shaped C.prog)
    (hok : Input.okWideB C.prog (w0.forCall (fun _ _ => 0) ⟨#[], args, []⟩) f ⟨#[], args, []⟩ = true)
    (hrow : s.preRow enc C.prog fn conds apart laid (w0.forCall (fun _ _ => 0) ⟨#[], args, []⟩).memory args) :
    ∃ (w : World) (tape : Tape) (i : Input), w.os = os ∧ (w.forCall tape i).Shaped C.prog ∧ i.vars = [] ∧ Input.okWide C.prog (w.forCall tape i) .any w.heap.size f i ∧
      s.preRow enc C.prog fn conds apart laid (w.forCall tape i).memory i.args ∧ ({ modest := modest } : Assume).holds C.prog (lone (Frame.enter C.prog f i.args .normal) [] (w.forCall tape i)) :=
  ⟨w0, fun _ _ => 0, ⟨#[], args, []⟩, hos, hsh, (Input.okWide_of_okWideB (base := 0) hok).1, (Input.okWide_of_okWideB hok).2, hrow, by
    simp only [Assume.holds]
    exact ⟨by simp, by simp, fun _ => Modest.zero, by simp, by simp⟩⟩
end Go.Proofs.YtcepigekibidfaaGreatDoor
