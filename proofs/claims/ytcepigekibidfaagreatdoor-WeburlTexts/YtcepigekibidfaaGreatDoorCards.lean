/-
  DERIVED. GIVEN WITH THE SEED: THE CARDS: each row of YtcepigekibidfaaGreatDoorRows.lean that lists a variable, with what it lists TIED to the program's text (the seventh form; the later family's looks); each row that meets fmt, with fmt's text TOLD by the authors' own Lean function (tested against real Go, not proved from fmt's source: count such statements apart). THE CARD IS WHAT COUNTS. Prove the row's statement (the work); the ties are given (YtcepigekibidfaaGreatDoorTie.lean); close each card by the builder's one call (the guide's Derived/Test/ToyasCard.lean, 'card_holds'). Laid BY PROGRAM, IN A SANDBOX (cutbox-door.mjs). By AI agents, Wed Nov 11 2026. No macro, syntax, notation, axiom, sorry.
-/
import Derived.Test.YtcepigekibidfaaGreatDoorRows
import GoSem.ClaimSeven
namespace Go.Proofs.YtcepigekibidfaaGreatDoor
namespace Rows

/-- THE TIED CARD OF 'transeptlaw08.WeburlTells'. -/
def weburlTellsCard : Claim7 := { stood := { row := weburlTellsRow, standIns := [], harness := (true, "8f2d61f55ca15b0b99cc92a447564c5c883f354a1a95930a3ca79eaab8bb0c00"), looks := true }, kinds := [], alts := [], laidByText := true, laidKinds := [.data, .data, .data, .data, .sentinel, .sentinel, .pinned, .pinned], laidTests := true, laidLooks := .later }
def WeburlTellsCardSaid : Prop := Claim7.holds Tryz.pinned (.plain (OpenSpec.ofChange weburlTellsSpec)) weburlTellsCard

/-- THE TIED CARD OF 'transeptlaw08.WeburlTexts'. -/
def weburlTextsCard : Claim7 := { stood := { row := weburlTextsRow, standIns := [], harness := (true, "8f2d61f55ca15b0b99cc92a447564c5c883f354a1a95930a3ca79eaab8bb0c00"), looks := true }, kinds := [], alts := [], laidByText := true, laidKinds := [.data, .data, .data, .data, .sentinel, .sentinel, .pinned, .pinned], laidTests := true, laidLooks := .later }
def WeburlTextsCardSaid : Prop := Claim7.holds Tryz.pinned (.plain (OpenSpec.ofChange weburlTextsSpec)) weburlTextsCard

/-- THE TIED CARD OF 'transeptlaw08.WeburlOnce'. -/
def weburlOnceCard : Claim7 := { stood := { row := weburlOnceRow, standIns := [], harness := (true, "8f2d61f55ca15b0b99cc92a447564c5c883f354a1a95930a3ca79eaab8bb0c00"), looks := true }, kinds := [], alts := [], laidByText := true, laidKinds := [.data, .data, .data, .data, .sentinel, .sentinel, .pinned, .pinned], laidTests := true, laidLooks := .later }
def WeburlOnceCardSaid : Prop := Claim7.holds Tryz.pinned (.plain (OpenSpec.ofChange weburlOnceSpec)) weburlOnceCard

/-- THE TIED CARD OF 'transeptlaw08.WeburlClean'. -/
def weburlCleanCard : Claim7 := { stood := { row := weburlCleanRow, standIns := [], harness := (true, "8f2d61f55ca15b0b99cc92a447564c5c883f354a1a95930a3ca79eaab8bb0c00"), looks := true }, kinds := [], alts := [], laidByText := true, laidKinds := [.data, .data, .data, .data, .sentinel, .sentinel, .pinned, .pinned], laidTests := true, laidLooks := .later }
def WeburlCleanCardSaid : Prop := Claim7.holds Tryz.pinned (.plain (OpenSpec.ofChange weburlCleanSpec)) weburlCleanCard

/-- THE TIED CARD OF 'transeptlaw08.WeburlDots'. -/
def weburlDotsCard : Claim7 := { stood := { row := weburlDotsRow, standIns := [], harness := (true, "8f2d61f55ca15b0b99cc92a447564c5c883f354a1a95930a3ca79eaab8bb0c00"), looks := true }, kinds := [], alts := [], laidByText := true, laidKinds := [.data, .data, .data, .data, .sentinel, .sentinel, .pinned, .pinned], laidTests := true, laidLooks := .later }
def WeburlDotsCardSaid : Prop := Claim7.holds Tryz.pinned (.plain (OpenSpec.ofChange weburlDotsSpec)) weburlDotsCard

/-- THE TIED CARD OF 'transeptlaw08.WeburlPorts'. -/
def weburlPortsCard : Claim7 := { stood := { row := weburlPortsRow, standIns := [], harness := (true, "8f2d61f55ca15b0b99cc92a447564c5c883f354a1a95930a3ca79eaab8bb0c00"), looks := true }, kinds := [], alts := [], laidByText := true, laidKinds := [.data, .data, .data, .data, .sentinel, .sentinel, .pinned, .pinned], laidTests := true, laidLooks := .later }
def WeburlPortsCardSaid : Prop := Claim7.holds Tryz.pinned (.plain (OpenSpec.ofChange weburlPortsSpec)) weburlPortsCard

/-- THE TIED CARD OF 'transeptlaw08.WeburlParts'. -/
def weburlPartsCard : Claim7 := { stood := { row := weburlPartsRow, standIns := [], harness := (true, "8f2d61f55ca15b0b99cc92a447564c5c883f354a1a95930a3ca79eaab8bb0c00"), looks := true }, kinds := [], alts := [], laidByText := true, laidKinds := [.data, .data, .data, .data, .sentinel, .sentinel, .pinned, .pinned], laidTests := true, laidLooks := .later }
def WeburlPartsCardSaid : Prop := Claim7.holds Tryz.pinned (.plain (OpenSpec.ofChange weburlPartsSpec)) weburlPartsCard

/-- THE TIED CARD OF 'transeptlaw08.WeburlHosts'. -/
def weburlHostsCard : Claim7 := { stood := { row := weburlHostsRow, standIns := [], harness := (true, "8f2d61f55ca15b0b99cc92a447564c5c883f354a1a95930a3ca79eaab8bb0c00"), looks := true }, kinds := [], alts := [], laidByText := true, laidKinds := [.data, .data, .data, .data, .sentinel, .sentinel, .pinned, .pinned], laidTests := true, laidLooks := .later }
def WeburlHostsCardSaid : Prop := Claim7.holds Tryz.pinned (.plain (OpenSpec.ofChange weburlHostsSpec)) weburlHostsCard

/-- THE TIED CARD OF 'transeptlaw08.WeburlSames'. -/
def weburlSamesCard : Claim7 := { stood := { row := weburlSamesRow, standIns := [], harness := (true, "8f2d61f55ca15b0b99cc92a447564c5c883f354a1a95930a3ca79eaab8bb0c00"), looks := true }, kinds := [], alts := [], laidByText := true, laidKinds := [.data, .data, .data, .data, .sentinel, .sentinel, .pinned, .pinned], laidTests := true, laidLooks := .later }
def WeburlSamesCardSaid : Prop := Claim7.holds Tryz.pinned (.plain (OpenSpec.ofChange weburlSamesSpec)) weburlSamesCard

/-- THE TIED CARD OF 'transeptlaw08.WeburlOrigins'. -/
def weburlOriginsCard : Claim7 := { stood := { row := weburlOriginsRow, standIns := [], harness := (true, "8f2d61f55ca15b0b99cc92a447564c5c883f354a1a95930a3ca79eaab8bb0c00"), looks := true }, kinds := [], alts := [], laidByText := true, laidKinds := [.data, .data, .data, .data, .sentinel, .sentinel, .pinned, .pinned], laidTests := true, laidLooks := .later }
def WeburlOriginsCardSaid : Prop := Claim7.holds Tryz.pinned (.plain (OpenSpec.ofChange weburlOriginsSpec)) weburlOriginsCard

/-- THE SECOND FORM's CARD OF 'transeptlaw08.WeburlTells'. -/
def weburlTellsUptoCard : Claim7 := { stood := { row := weburlTellsUptoRow, standIns := [], harness := (true, "8f2d61f55ca15b0b99cc92a447564c5c883f354a1a95930a3ca79eaab8bb0c00"), looks := true }, kinds := [], alts := [], laidByText := true, laidKinds := [.data, .data, .data, .data, .sentinel, .sentinel, .pinned, .pinned], laidTests := true, laidLooks := .later }
def WeburlTellsUptoCardSaid : Prop := Claim7.holds Tryz.pinned (.plain (OpenSpec.upto weburlTellsSpec)) weburlTellsUptoCard

/-- THE SECOND FORM's CARD OF 'transeptlaw08.WeburlTexts'. -/
def weburlTextsUptoCard : Claim7 := { stood := { row := weburlTextsUptoRow, standIns := [], harness := (true, "8f2d61f55ca15b0b99cc92a447564c5c883f354a1a95930a3ca79eaab8bb0c00"), looks := true }, kinds := [], alts := [], laidByText := true, laidKinds := [.data, .data, .data, .data, .sentinel, .sentinel, .pinned, .pinned], laidTests := true, laidLooks := .later }
def WeburlTextsUptoCardSaid : Prop := Claim7.holds Tryz.pinned (.plain (OpenSpec.upto weburlTextsSpec)) weburlTextsUptoCard

/-- THE SECOND FORM's CARD OF 'transeptlaw08.WeburlOnce'. -/
def weburlOnceUptoCard : Claim7 := { stood := { row := weburlOnceUptoRow, standIns := [], harness := (true, "8f2d61f55ca15b0b99cc92a447564c5c883f354a1a95930a3ca79eaab8bb0c00"), looks := true }, kinds := [], alts := [], laidByText := true, laidKinds := [.data, .data, .data, .data, .sentinel, .sentinel, .pinned, .pinned], laidTests := true, laidLooks := .later }
def WeburlOnceUptoCardSaid : Prop := Claim7.holds Tryz.pinned (.plain (OpenSpec.upto weburlOnceSpec)) weburlOnceUptoCard

/-- THE SECOND FORM's CARD OF 'transeptlaw08.WeburlClean'. -/
def weburlCleanUptoCard : Claim7 := { stood := { row := weburlCleanUptoRow, standIns := [], harness := (true, "8f2d61f55ca15b0b99cc92a447564c5c883f354a1a95930a3ca79eaab8bb0c00"), looks := true }, kinds := [], alts := [], laidByText := true, laidKinds := [.data, .data, .data, .data, .sentinel, .sentinel, .pinned, .pinned], laidTests := true, laidLooks := .later }
def WeburlCleanUptoCardSaid : Prop := Claim7.holds Tryz.pinned (.plain (OpenSpec.upto weburlCleanSpec)) weburlCleanUptoCard

/-- THE SECOND FORM's CARD OF 'transeptlaw08.WeburlDots'. -/
def weburlDotsUptoCard : Claim7 := { stood := { row := weburlDotsUptoRow, standIns := [], harness := (true, "8f2d61f55ca15b0b99cc92a447564c5c883f354a1a95930a3ca79eaab8bb0c00"), looks := true }, kinds := [], alts := [], laidByText := true, laidKinds := [.data, .data, .data, .data, .sentinel, .sentinel, .pinned, .pinned], laidTests := true, laidLooks := .later }
def WeburlDotsUptoCardSaid : Prop := Claim7.holds Tryz.pinned (.plain (OpenSpec.upto weburlDotsSpec)) weburlDotsUptoCard

/-- THE SECOND FORM's CARD OF 'transeptlaw08.WeburlPorts'. -/
def weburlPortsUptoCard : Claim7 := { stood := { row := weburlPortsUptoRow, standIns := [], harness := (true, "8f2d61f55ca15b0b99cc92a447564c5c883f354a1a95930a3ca79eaab8bb0c00"), looks := true }, kinds := [], alts := [], laidByText := true, laidKinds := [.data, .data, .data, .data, .sentinel, .sentinel, .pinned, .pinned], laidTests := true, laidLooks := .later }
def WeburlPortsUptoCardSaid : Prop := Claim7.holds Tryz.pinned (.plain (OpenSpec.upto weburlPortsSpec)) weburlPortsUptoCard

/-- THE SECOND FORM's CARD OF 'transeptlaw08.WeburlParts'. -/
def weburlPartsUptoCard : Claim7 := { stood := { row := weburlPartsUptoRow, standIns := [], harness := (true, "8f2d61f55ca15b0b99cc92a447564c5c883f354a1a95930a3ca79eaab8bb0c00"), looks := true }, kinds := [], alts := [], laidByText := true, laidKinds := [.data, .data, .data, .data, .sentinel, .sentinel, .pinned, .pinned], laidTests := true, laidLooks := .later }
def WeburlPartsUptoCardSaid : Prop := Claim7.holds Tryz.pinned (.plain (OpenSpec.upto weburlPartsSpec)) weburlPartsUptoCard

/-- THE SECOND FORM's CARD OF 'transeptlaw08.WeburlHosts'. -/
def weburlHostsUptoCard : Claim7 := { stood := { row := weburlHostsUptoRow, standIns := [], harness := (true, "8f2d61f55ca15b0b99cc92a447564c5c883f354a1a95930a3ca79eaab8bb0c00"), looks := true }, kinds := [], alts := [], laidByText := true, laidKinds := [.data, .data, .data, .data, .sentinel, .sentinel, .pinned, .pinned], laidTests := true, laidLooks := .later }
def WeburlHostsUptoCardSaid : Prop := Claim7.holds Tryz.pinned (.plain (OpenSpec.upto weburlHostsSpec)) weburlHostsUptoCard

/-- THE SECOND FORM's CARD OF 'transeptlaw08.WeburlSames'. -/
def weburlSamesUptoCard : Claim7 := { stood := { row := weburlSamesUptoRow, standIns := [], harness := (true, "8f2d61f55ca15b0b99cc92a447564c5c883f354a1a95930a3ca79eaab8bb0c00"), looks := true }, kinds := [], alts := [], laidByText := true, laidKinds := [.data, .data, .data, .data, .sentinel, .sentinel, .pinned, .pinned], laidTests := true, laidLooks := .later }
def WeburlSamesUptoCardSaid : Prop := Claim7.holds Tryz.pinned (.plain (OpenSpec.upto weburlSamesSpec)) weburlSamesUptoCard

/-- THE SECOND FORM's CARD OF 'transeptlaw08.WeburlOrigins'. -/
def weburlOriginsUptoCard : Claim7 := { stood := { row := weburlOriginsUptoRow, standIns := [], harness := (true, "8f2d61f55ca15b0b99cc92a447564c5c883f354a1a95930a3ca79eaab8bb0c00"), looks := true }, kinds := [], alts := [], laidByText := true, laidKinds := [.data, .data, .data, .data, .sentinel, .sentinel, .pinned, .pinned], laidTests := true, laidLooks := .later }
def WeburlOriginsUptoCardSaid : Prop := Claim7.holds Tryz.pinned (.plain (OpenSpec.upto weburlOriginsSpec)) weburlOriginsUptoCard
end Rows
end Go.Proofs.YtcepigekibidfaaGreatDoor
