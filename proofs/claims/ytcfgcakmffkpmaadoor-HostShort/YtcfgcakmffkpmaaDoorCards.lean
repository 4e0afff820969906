/-
  DERIVED. GIVEN WITH THE SEED: THE CARDS: each row of YtcfgcakmffkpmaaDoorRows.lean that lists a variable, with what it lists TIED to the program's text (the seventh form; the later family's looks); each row that meets fmt, with fmt's text TOLD by the authors' own Lean function (tested against real Go, not proved from fmt's source: count such statements apart). THE CARD IS WHAT COUNTS. Prove the row's statement (the work); the ties are given (YtcfgcakmffkpmaaDoorTie.lean); close each card by the builder's one call (the guide's Derived/Test/ToyasCard.lean, 'card_holds'). Laid BY PROGRAM, IN A SANDBOX (cutbox-door.mjs). By AI agents, Wed Nov 11 2026. No macro, syntax, notation, axiom, sorry.
-/
import Derived.Test.YtcfgcakmffkpmaaDoorRows
import GoSem.ClaimSeven
namespace Go.Proofs.YtcfgcakmffkpmaaDoor
namespace Rows

/-- THE TIED CARD OF 'transeptlaw07.HostOnce'. -/
def hostOnceCard : Claim7 := { stood := { row := hostOnceRow, standIns := [], harness := (true, "3d30a0d4063e5e2c711c16f12e3b02ca23af540e4f344df41fc501ad0ae94fa0"), looks := false }, kinds := [], alts := [], laidByText := true, laidKinds := [.data, .data, .data, .data, .pinned, .pinned], laidTests := true, laidLooks := .later }
def HostOnceCardSaid : Prop := Claim7.holds Tryd.pinned (.plain (OpenSpec.ofChange hostOnceSpec)) hostOnceCard

/-- THE TIED CARD OF 'transeptlaw07.HostFours'. -/
def hostFoursCard : Claim7 := { stood := { row := hostFoursRow, standIns := [], harness := (true, "3d30a0d4063e5e2c711c16f12e3b02ca23af540e4f344df41fc501ad0ae94fa0"), looks := false }, kinds := [], alts := [], laidByText := true, laidKinds := [.data, .data, .data, .data, .pinned, .pinned], laidTests := true, laidLooks := .later }
def HostFoursCardSaid : Prop := Claim7.holds Tryd.pinned (.plain (OpenSpec.ofChange hostFoursSpec)) hostFoursCard

/-- THE TIED CARD OF 'transeptlaw07.HostEights'. -/
def hostEightsCard : Claim7 := { stood := { row := hostEightsRow, standIns := [], harness := (true, "3d30a0d4063e5e2c711c16f12e3b02ca23af540e4f344df41fc501ad0ae94fa0"), looks := false }, kinds := [], alts := [], laidByText := true, laidKinds := [.data, .data, .data, .data, .pinned, .pinned], laidTests := true, laidLooks := .later }
def HostEightsCardSaid : Prop := Claim7.holds Tryd.pinned (.plain (OpenSpec.ofChange hostEightsSpec)) hostEightsCard

/-- THE TIED CARD OF 'transeptlaw07.HostNames'. -/
def hostNamesCard : Claim7 := { stood := { row := hostNamesRow, standIns := [], harness := (true, "3d30a0d4063e5e2c711c16f12e3b02ca23af540e4f344df41fc501ad0ae94fa0"), looks := false }, kinds := [], alts := [], laidByText := true, laidKinds := [.data, .data, .data, .data, .pinned, .pinned], laidTests := true, laidLooks := .later }
def HostNamesCardSaid : Prop := Claim7.holds Tryd.pinned (.plain (OpenSpec.ofChange hostNamesSpec)) hostNamesCard

/-- THE TIED CARD OF 'transeptlaw07.HostWrong'. -/
def hostWrongCard : Claim7 := { stood := { row := hostWrongRow, standIns := [], harness := (true, "3d30a0d4063e5e2c711c16f12e3b02ca23af540e4f344df41fc501ad0ae94fa0"), looks := false }, kinds := [], alts := [], laidByText := true, laidKinds := [.data, .data, .data, .data, .pinned, .pinned], laidTests := true, laidLooks := .later }
def HostWrongCardSaid : Prop := Claim7.holds Tryd.pinned (.plain (OpenSpec.ofChange hostWrongSpec)) hostWrongCard

/-- THE TIED CARD OF 'transeptlaw07.HostShort'. -/
def hostShortCard : Claim7 := { stood := { row := hostShortRow, standIns := [], harness := (true, "3d30a0d4063e5e2c711c16f12e3b02ca23af540e4f344df41fc501ad0ae94fa0"), looks := false }, kinds := [], alts := [], laidByText := true, laidKinds := [.data, .data, .data, .data, .pinned, .pinned], laidTests := true, laidLooks := .later }
def HostShortCardSaid : Prop := Claim7.holds Tryd.pinned (.plain (OpenSpec.ofChange hostShortSpec)) hostShortCard

/-- THE SECOND FORM's CARD OF 'transeptlaw07.HostOnce'. -/
def hostOnceUptoCard : Claim7 := { stood := { row := hostOnceUptoRow, standIns := [], harness := (true, "3d30a0d4063e5e2c711c16f12e3b02ca23af540e4f344df41fc501ad0ae94fa0"), looks := false }, kinds := [], alts := [], laidByText := true, laidKinds := [.data, .data, .data, .data, .pinned, .pinned], laidTests := true, laidLooks := .later }
def HostOnceUptoCardSaid : Prop := Claim7.holds Tryd.pinned (.plain (OpenSpec.upto hostOnceSpec)) hostOnceUptoCard

/-- THE SECOND FORM's CARD OF 'transeptlaw07.HostFours'. -/
def hostFoursUptoCard : Claim7 := { stood := { row := hostFoursUptoRow, standIns := [], harness := (true, "3d30a0d4063e5e2c711c16f12e3b02ca23af540e4f344df41fc501ad0ae94fa0"), looks := false }, kinds := [], alts := [], laidByText := true, laidKinds := [.data, .data, .data, .data, .pinned, .pinned], laidTests := true, laidLooks := .later }
def HostFoursUptoCardSaid : Prop := Claim7.holds Tryd.pinned (.plain (OpenSpec.upto hostFoursSpec)) hostFoursUptoCard

/-- THE SECOND FORM's CARD OF 'transeptlaw07.HostEights'. -/
def hostEightsUptoCard : Claim7 := { stood := { row := hostEightsUptoRow, standIns := [], harness := (true, "3d30a0d4063e5e2c711c16f12e3b02ca23af540e4f344df41fc501ad0ae94fa0"), looks := false }, kinds := [], alts := [], laidByText := true, laidKinds := [.data, .data, .data, .data, .pinned, .pinned], laidTests := true, laidLooks := .later }
def HostEightsUptoCardSaid : Prop := Claim7.holds Tryd.pinned (.plain (OpenSpec.upto hostEightsSpec)) hostEightsUptoCard

/-- THE SECOND FORM's CARD OF 'transeptlaw07.HostNames'. -/
def hostNamesUptoCard : Claim7 := { stood := { row := hostNamesUptoRow, standIns := [], harness := (true, "3d30a0d4063e5e2c711c16f12e3b02ca23af540e4f344df41fc501ad0ae94fa0"), looks := false }, kinds := [], alts := [], laidByText := true, laidKinds := [.data, .data, .data, .data, .pinned, .pinned], laidTests := true, laidLooks := .later }
def HostNamesUptoCardSaid : Prop := Claim7.holds Tryd.pinned (.plain (OpenSpec.upto hostNamesSpec)) hostNamesUptoCard

/-- THE SECOND FORM's CARD OF 'transeptlaw07.HostWrong'. -/
def hostWrongUptoCard : Claim7 := { stood := { row := hostWrongUptoRow, standIns := [], harness := (true, "3d30a0d4063e5e2c711c16f12e3b02ca23af540e4f344df41fc501ad0ae94fa0"), looks := false }, kinds := [], alts := [], laidByText := true, laidKinds := [.data, .data, .data, .data, .pinned, .pinned], laidTests := true, laidLooks := .later }
def HostWrongUptoCardSaid : Prop := Claim7.holds Tryd.pinned (.plain (OpenSpec.upto hostWrongSpec)) hostWrongUptoCard

/-- THE SECOND FORM's CARD OF 'transeptlaw07.HostShort'. -/
def hostShortUptoCard : Claim7 := { stood := { row := hostShortUptoRow, standIns := [], harness := (true, "3d30a0d4063e5e2c711c16f12e3b02ca23af540e4f344df41fc501ad0ae94fa0"), looks := false }, kinds := [], alts := [], laidByText := true, laidKinds := [.data, .data, .data, .data, .pinned, .pinned], laidTests := true, laidLooks := .later }
def HostShortUptoCardSaid : Prop := Claim7.holds Tryd.pinned (.plain (OpenSpec.upto hostShortSpec)) hostShortUptoCard
end Rows
end Go.Proofs.YtcfgcakmffkpmaaDoor
