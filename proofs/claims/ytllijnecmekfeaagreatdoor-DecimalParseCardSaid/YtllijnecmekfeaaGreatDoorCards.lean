/-
  DERIVED. GIVEN WITH THE SEED: THE CARDS: each row of YtllijnecmekfeaaGreatDoorRows.lean that lists a variable, with what it lists TIED to the program's text (the seventh form; the later family's looks); each row that meets fmt, with fmt's text TOLD by the authors' own Lean function (tested against real Go, not proved from fmt's source: count such statements apart). THE CARD IS WHAT COUNTS. Prove the row's statement (the work); the ties are given (YtllijnecmekfeaaGreatDoorTie.lean); close each card by the builder's one call (the guide's Derived/Test/ToyasCard.lean, 'card_holds'). Laid BY PROGRAM, IN A SANDBOX (cutbox-door.mjs). By AI agents, Wed Nov 11 2026. No macro, syntax, notation, axiom, sorry.
-/
import Derived.Test.YtllijnecmekfeaaGreatDoorRows
import GoSem.ClaimSeven
namespace Go.Proofs.YtllijnecmekfeaaGreatDoor
namespace Rows

/-- THE TIED CARD OF 'swarflaw06.DecimalParse'. -/
def decimalParseCard : Claim7 := { stood := { row := decimalParseRow, standIns := [], harness := (true, "bb0f275ec195c36a0399068c562e9a804167e9940013162deb6e47c992160011"), looks := false }, kinds := [], alts := [], laidByText := true, laidKinds := [.data, .data, .data, .data, .pinned], laidTests := true, laidLooks := .later }
def DecimalParseCardSaid : Prop := Claim7.holds Tryz.pinned (.plain (OpenSpec.ofChange decimalParseSpec)) decimalParseCard

/-- THE TIED CARD OF 'swarflaw06.DecimalFormat'. -/
def decimalFormatCard : Claim7 := { stood := { row := decimalFormatRow, standIns := [], harness := (true, "bb0f275ec195c36a0399068c562e9a804167e9940013162deb6e47c992160011"), looks := false }, kinds := [], alts := [], laidByText := true, laidKinds := [.data, .data, .data, .data, .pinned], laidTests := true, laidLooks := .later }
def DecimalFormatCardSaid : Prop := Claim7.holds Tryz.pinned (.plain (OpenSpec.ofChange decimalFormatSpec)) decimalFormatCard

/-- THE TIED CARD OF 'swarflaw06.DecimalExact'. -/
def decimalExactCard : Claim7 := { stood := { row := decimalExactRow, standIns := [], harness := (true, "bb0f275ec195c36a0399068c562e9a804167e9940013162deb6e47c992160011"), looks := false }, kinds := [], alts := [], laidByText := true, laidKinds := [.data, .data, .data, .data, .pinned], laidTests := true, laidLooks := .later }
def DecimalExactCardSaid : Prop := Claim7.holds Tryz.pinned (.plain (OpenSpec.ofChange decimalExactSpec)) decimalExactCard

/-- THE TIED CARD OF 'swarflaw06.DecimalRound'. -/
def decimalRoundCard : Claim7 := { stood := { row := decimalRoundRow, standIns := [], harness := (true, "bb0f275ec195c36a0399068c562e9a804167e9940013162deb6e47c992160011"), looks := false }, kinds := [], alts := [], laidByText := true, laidKinds := [.data, .data, .data, .data, .pinned], laidTests := true, laidLooks := .later }
def DecimalRoundCardSaid : Prop := Claim7.holds Tryz.pinned (.plain (OpenSpec.ofChange decimalRoundSpec)) decimalRoundCard

/-- THE TIED CARD OF 'swarflaw06.DecimalOpposite'. -/
def decimalOppositeCard : Claim7 := { stood := { row := decimalOppositeRow, standIns := [], harness := (true, "bb0f275ec195c36a0399068c562e9a804167e9940013162deb6e47c992160011"), looks := false }, kinds := [], alts := [], laidByText := true, laidKinds := [.data, .data, .data, .data, .pinned], laidTests := true, laidLooks := .later }
def DecimalOppositeCardSaid : Prop := Claim7.holds Tryz.pinned (.plain (OpenSpec.ofChange decimalOppositeSpec)) decimalOppositeCard

/-- THE TIED CARD OF 'swarflaw06.DecimalLengths'. -/
def decimalLengthsCard : Claim7 := { stood := { row := decimalLengthsRow, standIns := [], harness := (true, "bb0f275ec195c36a0399068c562e9a804167e9940013162deb6e47c992160011"), looks := false }, kinds := [], alts := [], laidByText := true, laidKinds := [.data, .data, .data, .data, .pinned], laidTests := true, laidLooks := .later }
def DecimalLengthsCardSaid : Prop := Claim7.holds Tryz.pinned (.plain (OpenSpec.ofChange decimalLengthsSpec)) decimalLengthsCard

/-- THE TIED CARD OF 'swarflaw06.DecimalFrom'. -/
def decimalFromCard : Claim7 := { stood := { row := decimalFromRow, standIns := [], harness := (true, "bb0f275ec195c36a0399068c562e9a804167e9940013162deb6e47c992160011"), looks := false }, kinds := [], alts := [], laidByText := true, laidKinds := [.data, .data, .data, .data, .pinned], laidTests := true, laidLooks := .later }
def DecimalFromCardSaid : Prop := Claim7.holds Tryz.pinned (.plain (OpenSpec.ofChange decimalFromSpec)) decimalFromCard

/-- THE TIED CARD OF 'swarflaw06.DecimalSnap'. -/
def decimalSnapCard : Claim7 := { stood := { row := decimalSnapRow, standIns := [], harness := (true, "bb0f275ec195c36a0399068c562e9a804167e9940013162deb6e47c992160011"), looks := false }, kinds := [], alts := [], laidByText := true, laidKinds := [.data, .data, .data, .data, .pinned], laidTests := true, laidLooks := .later }
def DecimalSnapCardSaid : Prop := Claim7.holds Tryz.pinned (.plain (OpenSpec.ofChange decimalSnapSpec)) decimalSnapCard

/-- THE SECOND FORM's CARD OF 'swarflaw06.DecimalParse'. -/
def decimalParseUptoCard : Claim7 := { stood := { row := decimalParseUptoRow, standIns := [], harness := (true, "bb0f275ec195c36a0399068c562e9a804167e9940013162deb6e47c992160011"), looks := false }, kinds := [], alts := [], laidByText := true, laidKinds := [.data, .data, .data, .data, .pinned], laidTests := true, laidLooks := .later }
def DecimalParseUptoCardSaid : Prop := Claim7.holds Tryz.pinned (.plain (OpenSpec.upto decimalParseSpec)) decimalParseUptoCard

/-- THE SECOND FORM's CARD OF 'swarflaw06.DecimalFormat'. -/
def decimalFormatUptoCard : Claim7 := { stood := { row := decimalFormatUptoRow, standIns := [], harness := (true, "bb0f275ec195c36a0399068c562e9a804167e9940013162deb6e47c992160011"), looks := false }, kinds := [], alts := [], laidByText := true, laidKinds := [.data, .data, .data, .data, .pinned], laidTests := true, laidLooks := .later }
def DecimalFormatUptoCardSaid : Prop := Claim7.holds Tryz.pinned (.plain (OpenSpec.upto decimalFormatSpec)) decimalFormatUptoCard

/-- THE SECOND FORM's CARD OF 'swarflaw06.DecimalExact'. -/
def decimalExactUptoCard : Claim7 := { stood := { row := decimalExactUptoRow, standIns := [], harness := (true, "bb0f275ec195c36a0399068c562e9a804167e9940013162deb6e47c992160011"), looks := false }, kinds := [], alts := [], laidByText := true, laidKinds := [.data, .data, .data, .data, .pinned], laidTests := true, laidLooks := .later }
def DecimalExactUptoCardSaid : Prop := Claim7.holds Tryz.pinned (.plain (OpenSpec.upto decimalExactSpec)) decimalExactUptoCard

/-- THE SECOND FORM's CARD OF 'swarflaw06.DecimalRound'. -/
def decimalRoundUptoCard : Claim7 := { stood := { row := decimalRoundUptoRow, standIns := [], harness := (true, "bb0f275ec195c36a0399068c562e9a804167e9940013162deb6e47c992160011"), looks := false }, kinds := [], alts := [], laidByText := true, laidKinds := [.data, .data, .data, .data, .pinned], laidTests := true, laidLooks := .later }
def DecimalRoundUptoCardSaid : Prop := Claim7.holds Tryz.pinned (.plain (OpenSpec.upto decimalRoundSpec)) decimalRoundUptoCard

/-- THE SECOND FORM's CARD OF 'swarflaw06.DecimalOpposite'. -/
def decimalOppositeUptoCard : Claim7 := { stood := { row := decimalOppositeUptoRow, standIns := [], harness := (true, "bb0f275ec195c36a0399068c562e9a804167e9940013162deb6e47c992160011"), looks := false }, kinds := [], alts := [], laidByText := true, laidKinds := [.data, .data, .data, .data, .pinned], laidTests := true, laidLooks := .later }
def DecimalOppositeUptoCardSaid : Prop := Claim7.holds Tryz.pinned (.plain (OpenSpec.upto decimalOppositeSpec)) decimalOppositeUptoCard

/-- THE SECOND FORM's CARD OF 'swarflaw06.DecimalLengths'. -/
def decimalLengthsUptoCard : Claim7 := { stood := { row := decimalLengthsUptoRow, standIns := [], harness := (true, "bb0f275ec195c36a0399068c562e9a804167e9940013162deb6e47c992160011"), looks := false }, kinds := [], alts := [], laidByText := true, laidKinds := [.data, .data, .data, .data, .pinned], laidTests := true, laidLooks := .later }
def DecimalLengthsUptoCardSaid : Prop := Claim7.holds Tryz.pinned (.plain (OpenSpec.upto decimalLengthsSpec)) decimalLengthsUptoCard

/-- THE SECOND FORM's CARD OF 'swarflaw06.DecimalFrom'. -/
def decimalFromUptoCard : Claim7 := { stood := { row := decimalFromUptoRow, standIns := [], harness := (true, "bb0f275ec195c36a0399068c562e9a804167e9940013162deb6e47c992160011"), looks := false }, kinds := [], alts := [], laidByText := true, laidKinds := [.data, .data, .data, .data, .pinned], laidTests := true, laidLooks := .later }
def DecimalFromUptoCardSaid : Prop := Claim7.holds Tryz.pinned (.plain (OpenSpec.upto decimalFromSpec)) decimalFromUptoCard

/-- THE SECOND FORM's CARD OF 'swarflaw06.DecimalSnap'. -/
def decimalSnapUptoCard : Claim7 := { stood := { row := decimalSnapUptoRow, standIns := [], harness := (true, "bb0f275ec195c36a0399068c562e9a804167e9940013162deb6e47c992160011"), looks := false }, kinds := [], alts := [], laidByText := true, laidKinds := [.data, .data, .data, .data, .pinned], laidTests := true, laidLooks := .later }
def DecimalSnapUptoCardSaid : Prop := Claim7.holds Tryz.pinned (.plain (OpenSpec.upto decimalSnapSpec)) decimalSnapUptoCard
end Rows
end Go.Proofs.YtllijnecmekfeaaGreatDoor
