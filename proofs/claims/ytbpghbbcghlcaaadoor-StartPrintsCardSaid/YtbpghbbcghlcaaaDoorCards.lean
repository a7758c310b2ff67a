/-
  DERIVED. GIVEN WITH THE SEED: THE CARDS: each row of YtbpghbbcghlcaaaDoorRows.lean that lists a variable, with what it lists TIED to the program's text (the seventh form; the later family's looks); each row that meets fmt, with fmt's text TOLD by the authors' own Lean function (tested against real Go, not proved from fmt's source: count such statements apart). THE CARD IS WHAT COUNTS. Prove the row's statement (the work); the ties are given (YtbpghbbcghlcaaaDoorTie.lean); close each card by the builder's one call (the guide's Derived/Test/ToyasCard.lean, 'card_holds'). Laid BY PROGRAM, IN A SANDBOX (cutbox-door.mjs). By AI agents, Wed Nov 11 2026. No macro, syntax, notation, axiom, sorry.
-/
import Derived.Test.YtbpghbbcghlcaaaDoorRows
import GoSem.ClaimSeven
namespace Go.Proofs.YtbpghbbcghlcaaaDoor
namespace Rows

/-- THE TIED CARD OF 'icehouselaw06.StartReads'. -/
def startReadsCard : Claim7 := { stood := { row := startReadsRow, standIns := [], harness := (true, "c84f30a56a23a0ff94801c77b6769322ad92fc53191430125e256f83c66ade97"), looks := false }, kinds := [], alts := [], laidByText := true, laidKinds := [.data, .pinned], laidTests := true, laidLooks := .later }
def StartReadsCardSaid : Prop := Claim7.holds Tryd.pinned (.plain (OpenSpec.ofChange startReadsSpec)) startReadsCard

/-- THE TIED CARD OF 'icehouselaw06.StartPrints'. -/
def startPrintsCard : Claim7 := { stood := { row := startPrintsRow, standIns := [], harness := (true, "c84f30a56a23a0ff94801c77b6769322ad92fc53191430125e256f83c66ade97"), looks := false }, kinds := [], alts := [], laidByText := true, laidKinds := [.data, .data, .data, .data, .pinned], laidTests := true, laidLooks := .later }
def StartPrintsCardSaid : Prop := Claim7.holds Tryd.pinned (.plain (OpenSpec.ofChange startPrintsSpec)) startPrintsCard

/-- THE TIED CARD OF 'icehouselaw06.StartCuts'. -/
def startCutsCard : Claim7 := { stood := { row := startCutsRow, standIns := [], harness := (true, "c84f30a56a23a0ff94801c77b6769322ad92fc53191430125e256f83c66ade97"), looks := false }, kinds := [], alts := [], laidByText := true, laidKinds := [.data, .pinned], laidTests := true, laidLooks := .later }
def StartCutsCardSaid : Prop := Claim7.holds Tryd.pinned (.plain (OpenSpec.ofChange startCutsSpec)) startCutsCard

/-- THE TIED CARD OF 'icehouselaw06.StartBounds'. -/
def startBoundsCard : Claim7 := { stood := { row := startBoundsRow, standIns := [], harness := (true, "c84f30a56a23a0ff94801c77b6769322ad92fc53191430125e256f83c66ade97"), looks := false }, kinds := [], alts := [], laidByText := true, laidKinds := [.data, .pinned], laidTests := true, laidLooks := .later }
def StartBoundsCardSaid : Prop := Claim7.holds Tryd.pinned (.plain (OpenSpec.ofChange startBoundsSpec)) startBoundsCard

/-- THE TIED CARD OF 'icehouselaw06.StartApart'. -/
def startApartCard : Claim7 := { stood := { row := startApartRow, standIns := [], harness := (true, "c84f30a56a23a0ff94801c77b6769322ad92fc53191430125e256f83c66ade97"), looks := false }, kinds := [], alts := [], laidByText := true, laidKinds := [.data, .data, .data, .data, .pinned], laidTests := true, laidLooks := .later }
def StartApartCardSaid : Prop := Claim7.holds Tryd.pinned (.plain (OpenSpec.ofChange startApartSpec)) startApartCard

/-- THE SECOND FORM's CARD OF 'icehouselaw06.StartReads'. -/
def startReadsUptoCard : Claim7 := { stood := { row := startReadsUptoRow, standIns := [], harness := (true, "c84f30a56a23a0ff94801c77b6769322ad92fc53191430125e256f83c66ade97"), looks := false }, kinds := [], alts := [], laidByText := true, laidKinds := [.data, .pinned], laidTests := true, laidLooks := .later }
def StartReadsUptoCardSaid : Prop := Claim7.holds Tryd.pinned (.plain (OpenSpec.upto startReadsSpec)) startReadsUptoCard

/-- THE SECOND FORM's CARD OF 'icehouselaw06.StartPrints'. -/
def startPrintsUptoCard : Claim7 := { stood := { row := startPrintsUptoRow, standIns := [], harness := (true, "c84f30a56a23a0ff94801c77b6769322ad92fc53191430125e256f83c66ade97"), looks := false }, kinds := [], alts := [], laidByText := true, laidKinds := [.data, .data, .data, .data, .pinned], laidTests := true, laidLooks := .later }
def StartPrintsUptoCardSaid : Prop := Claim7.holds Tryd.pinned (.plain (OpenSpec.upto startPrintsSpec)) startPrintsUptoCard

/-- THE SECOND FORM's CARD OF 'icehouselaw06.StartCuts'. -/
def startCutsUptoCard : Claim7 := { stood := { row := startCutsUptoRow, standIns := [], harness := (true, "c84f30a56a23a0ff94801c77b6769322ad92fc53191430125e256f83c66ade97"), looks := false }, kinds := [], alts := [], laidByText := true, laidKinds := [.data, .pinned], laidTests := true, laidLooks := .later }
def StartCutsUptoCardSaid : Prop := Claim7.holds Tryd.pinned (.plain (OpenSpec.upto startCutsSpec)) startCutsUptoCard

/-- THE SECOND FORM's CARD OF 'icehouselaw06.StartBounds'. -/
def startBoundsUptoCard : Claim7 := { stood := { row := startBoundsUptoRow, standIns := [], harness := (true, "c84f30a56a23a0ff94801c77b6769322ad92fc53191430125e256f83c66ade97"), looks := false }, kinds := [], alts := [], laidByText := true, laidKinds := [.data, .pinned], laidTests := true, laidLooks := .later }
def StartBoundsUptoCardSaid : Prop := Claim7.holds Tryd.pinned (.plain (OpenSpec.upto startBoundsSpec)) startBoundsUptoCard

/-- THE SECOND FORM's CARD OF 'icehouselaw06.StartApart'. -/
def startApartUptoCard : Claim7 := { stood := { row := startApartUptoRow, standIns := [], harness := (true, "c84f30a56a23a0ff94801c77b6769322ad92fc53191430125e256f83c66ade97"), looks := false }, kinds := [], alts := [], laidByText := true, laidKinds := [.data, .data, .data, .data, .pinned], laidTests := true, laidLooks := .later }
def StartApartUptoCardSaid : Prop := Claim7.holds Tryd.pinned (.plain (OpenSpec.upto startApartSpec)) startApartUptoCard
end Rows
end Go.Proofs.YtbpghbbcghlcaaaDoor
