/-
  DERIVED. GIVEN WITH THE SEED: THE CARDS: each row of YtnejcdjakjmklaaGreatDoorRows.lean that lists a variable, with what it lists TIED to the program's text (the seventh form; the later family's looks); each row that meets fmt, with fmt's text TOLD by the authors' own Lean function (tested against real Go, not proved from fmt's source: count such statements apart). THE CARD IS WHAT COUNTS. Prove the row's statement (the work); the ties are given (YtnejcdjakjmklaaGreatDoorTie.lean); close each card by the builder's one call (the guide's Derived/Test/ToyasCard.lean, 'card_holds'). Laid BY PROGRAM, IN A SANDBOX (cutbox-door.mjs). By AI agents, Wed Nov 11 2026. No macro, syntax, notation, axiom, sorry.
-/
import Derived.Test.YtnejcdjakjmklaaGreatDoorRows
import GoSem.ClaimSeven
namespace Go.Proofs.YtnejcdjakjmklaaGreatDoor
namespace Rows

/-- THE TIED CARD OF 'swarflaw06.DecimalFormat'. -/
def decimalFormatCard : Claim7 := { stood := { row := decimalFormatRow, standIns := [], harness := (true, "5ac6d7c32df6c33ef3d8840ce2c484174dfa571e8b4d78e84babe110749f708b"), looks := false }, kinds := [], alts := [], laidByText := true, laidKinds := [.data, .data, .data, .data, .pinned], laidTests := true, laidLooks := .later }
def DecimalFormatCardSaid : Prop := Claim7.holds Tryz.pinned (.plain (OpenSpec.ofChange decimalFormatSpec)) decimalFormatCard

/-- THE TIED CARD OF 'swarflaw06.DecimalExact'. -/
def decimalExactCard : Claim7 := { stood := { row := decimalExactRow, standIns := [], harness := (true, "5ac6d7c32df6c33ef3d8840ce2c484174dfa571e8b4d78e84babe110749f708b"), looks := false }, kinds := [], alts := [], laidByText := true, laidKinds := [.data, .data, .data, .data, .pinned], laidTests := true, laidLooks := .later }
def DecimalExactCardSaid : Prop := Claim7.holds Tryz.pinned (.plain (OpenSpec.ofChange decimalExactSpec)) decimalExactCard

/-- THE TIED CARD OF 'swarflaw06.DecimalLengths'. -/
def decimalLengthsCard : Claim7 := { stood := { row := decimalLengthsRow, standIns := [], harness := (true, "5ac6d7c32df6c33ef3d8840ce2c484174dfa571e8b4d78e84babe110749f708b"), looks := false }, kinds := [], alts := [], laidByText := true, laidKinds := [.data, .data, .data, .data, .pinned], laidTests := true, laidLooks := .later }
def DecimalLengthsCardSaid : Prop := Claim7.holds Tryz.pinned (.plain (OpenSpec.ofChange decimalLengthsSpec)) decimalLengthsCard

/-- THE TIED CARD OF 'swarflaw06.DecimalFrom'. -/
def decimalFromCard : Claim7 := { stood := { row := decimalFromRow, standIns := [], harness := (true, "5ac6d7c32df6c33ef3d8840ce2c484174dfa571e8b4d78e84babe110749f708b"), looks := false }, kinds := [], alts := [], laidByText := true, laidKinds := [.data, .data, .data, .data, .pinned], laidTests := true, laidLooks := .later }
def DecimalFromCardSaid : Prop := Claim7.holds Tryz.pinned (.plain (OpenSpec.ofChange decimalFromSpec)) decimalFromCard

/-- THE SECOND FORM's CARD OF 'swarflaw06.DecimalFormat'. -/
def decimalFormatUptoCard : Claim7 := { stood := { row := decimalFormatUptoRow, standIns := [], harness := (true, "5ac6d7c32df6c33ef3d8840ce2c484174dfa571e8b4d78e84babe110749f708b"), looks := false }, kinds := [], alts := [], laidByText := true, laidKinds := [.data, .data, .data, .data, .pinned], laidTests := true, laidLooks := .later }
def DecimalFormatUptoCardSaid : Prop := Claim7.holds Tryz.pinned (.plain (OpenSpec.upto decimalFormatSpec)) decimalFormatUptoCard

/-- THE SECOND FORM's CARD OF 'swarflaw06.DecimalExact'. -/
def decimalExactUptoCard : Claim7 := { stood := { row := decimalExactUptoRow, standIns := [], harness := (true, "5ac6d7c32df6c33ef3d8840ce2c484174dfa571e8b4d78e84babe110749f708b"), looks := false }, kinds := [], alts := [], laidByText := true, laidKinds := [.data, .data, .data, .data, .pinned], laidTests := true, laidLooks := .later }
def DecimalExactUptoCardSaid : Prop := Claim7.holds Tryz.pinned (.plain (OpenSpec.upto decimalExactSpec)) decimalExactUptoCard

/-- THE SECOND FORM's CARD OF 'swarflaw06.DecimalLengths'. -/
def decimalLengthsUptoCard : Claim7 := { stood := { row := decimalLengthsUptoRow, standIns := [], harness := (true, "5ac6d7c32df6c33ef3d8840ce2c484174dfa571e8b4d78e84babe110749f708b"), looks := false }, kinds := [], alts := [], laidByText := true, laidKinds := [.data, .data, .data, .data, .pinned], laidTests := true, laidLooks := .later }
def DecimalLengthsUptoCardSaid : Prop := Claim7.holds Tryz.pinned (.plain (OpenSpec.upto decimalLengthsSpec)) decimalLengthsUptoCard

/-- THE SECOND FORM's CARD OF 'swarflaw06.DecimalFrom'. -/
def decimalFromUptoCard : Claim7 := { stood := { row := decimalFromUptoRow, standIns := [], harness := (true, "5ac6d7c32df6c33ef3d8840ce2c484174dfa571e8b4d78e84babe110749f708b"), looks := false }, kinds := [], alts := [], laidByText := true, laidKinds := [.data, .data, .data, .data, .pinned], laidTests := true, laidLooks := .later }
def DecimalFromUptoCardSaid : Prop := Claim7.holds Tryz.pinned (.plain (OpenSpec.upto decimalFromSpec)) decimalFromUptoCard
end Rows
end Go.Proofs.YtnejcdjakjmklaaGreatDoor
