/-
  DERIVED. GIVEN WITH THE SEED: THE CARDS: each row of YtbkblimpolkllaaDoorRows.lean that lists a variable, with what it lists TIED to the program's text (the seventh form; the later family's looks); each row that meets fmt, with fmt's text TOLD by the authors' own Lean function (tested against real Go, not proved from fmt's source: count such statements apart). THE CARD IS WHAT COUNTS. Prove the row's statement (the work); the ties are given (YtbkblimpolkllaaDoorTie.lean); close each card by the builder's one call (the guide's Derived/Test/ToyasCard.lean, 'card_holds'). Laid BY PROGRAM, IN A SANDBOX (cutbox-door.mjs). By AI agents, Wed Nov 11 2026. No macro, syntax, notation, axiom, sorry.
-/
import Derived.Test.YtbkblimpolkllaaDoorRows
import GoSem.ClaimSeven
namespace Go.Proofs.YtbkblimpolkllaaDoor
namespace Rows

/-- THE TIED CARD OF 'transeptlaw10.FieldTells'. -/
def fieldTellsCard : Claim7 := { stood := { row := fieldTellsRow, standIns := [], harness := (true, "61ca508358938e5453ac587a58e5b6ae124b69d62ddff7a6bc33439b0f870ab0"), looks := false }, kinds := [], alts := [], laidByText := true, laidKinds := [.data, .pinned], laidTests := true, laidLooks := .later }
def FieldTellsCardSaid : Prop := Claim7.holds Tryd.pinned (.plain (OpenSpec.ofChange fieldTellsSpec)) fieldTellsCard

/-- THE TIED CARD OF 'transeptlaw10.FieldOnly'. -/
def fieldOnlyCard : Claim7 := { stood := { row := fieldOnlyRow, standIns := [], harness := (true, "61ca508358938e5453ac587a58e5b6ae124b69d62ddff7a6bc33439b0f870ab0"), looks := false }, kinds := [], alts := [], laidByText := true, laidKinds := [.data, .pinned], laidTests := true, laidLooks := .later }
def FieldOnlyCardSaid : Prop := Claim7.holds Tryd.pinned (.plain (OpenSpec.ofChange fieldOnlySpec)) fieldOnlyCard

/-- THE SECOND FORM's CARD OF 'transeptlaw10.FieldTells'. -/
def fieldTellsUptoCard : Claim7 := { stood := { row := fieldTellsUptoRow, standIns := [], harness := (true, "61ca508358938e5453ac587a58e5b6ae124b69d62ddff7a6bc33439b0f870ab0"), looks := false }, kinds := [], alts := [], laidByText := true, laidKinds := [.data, .pinned], laidTests := true, laidLooks := .later }
def FieldTellsUptoCardSaid : Prop := Claim7.holds Tryd.pinned (.plain (OpenSpec.upto fieldTellsSpec)) fieldTellsUptoCard

/-- THE SECOND FORM's CARD OF 'transeptlaw10.FieldOnly'. -/
def fieldOnlyUptoCard : Claim7 := { stood := { row := fieldOnlyUptoRow, standIns := [], harness := (true, "61ca508358938e5453ac587a58e5b6ae124b69d62ddff7a6bc33439b0f870ab0"), looks := false }, kinds := [], alts := [], laidByText := true, laidKinds := [.data, .pinned], laidTests := true, laidLooks := .later }
def FieldOnlyUptoCardSaid : Prop := Claim7.holds Tryd.pinned (.plain (OpenSpec.upto fieldOnlySpec)) fieldOnlyUptoCard
end Rows
end Go.Proofs.YtbkblimpolkllaaDoor
