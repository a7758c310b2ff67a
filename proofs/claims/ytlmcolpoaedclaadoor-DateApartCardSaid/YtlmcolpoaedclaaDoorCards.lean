/-
  DERIVED. GIVEN WITH THE SEED: THE CARDS: each row of YtlmcolpoaedclaaDoorRows.lean that lists a variable, with what it lists TIED to the program's text (the seventh form; the later family's looks); each row that meets fmt, with fmt's text TOLD by the authors' own Lean function (tested against real Go, not proved from fmt's source: count such statements apart). THE CARD IS WHAT COUNTS. Prove the row's statement (the work); the ties are given (YtlmcolpoaedclaaDoorTie.lean); close each card by the builder's one call (the guide's Derived/Test/ToyasCard.lean, 'card_holds'). Laid BY PROGRAM, IN A SANDBOX (cutbox-door.mjs). By AI agents, Wed Nov 11 2026. No macro, syntax, notation, axiom, sorry.
-/
import Derived.Test.YtlmcolpoaedclaaDoorRows
import GoSem.ClaimSeven
namespace Go.Proofs.YtlmcolpoaedclaaDoor
namespace Rows

/-- THE TIED CARD OF 'icehouselaw02.DateParses'. -/
def dateParsesCard : Claim7 := { stood := { row := dateParsesRow, standIns := [], harness := (true, "ba2cf828aadd6a2a18fc8f9914a793e5efe5af2d5dcbb5afb2d9d4fcfeb642b8"), looks := false }, kinds := [], alts := [], laidByText := true, laidKinds := [.data, .data, .data, .data, .data, .data], laidTests := true, laidLooks := .later }
def DateParsesCardSaid : Prop := Claim7.holds Tryd.pinned (.plain (OpenSpec.ofChange dateParsesSpec)) dateParsesCard

/-- THE TIED CARD OF 'icehouselaw02.DatePrints'. -/
def datePrintsCard : Claim7 := { stood := { row := datePrintsRow, standIns := [], harness := (true, "ba2cf828aadd6a2a18fc8f9914a793e5efe5af2d5dcbb5afb2d9d4fcfeb642b8"), looks := false }, kinds := [], alts := [], laidByText := true, laidKinds := [.data, .data, .data, .data, .data, .data], laidTests := true, laidLooks := .later }
def DatePrintsCardSaid : Prop := Claim7.holds Tryd.pinned (.plain (OpenSpec.ofChange datePrintsSpec)) datePrintsCard

/-- THE TIED CARD OF 'icehouselaw02.DateFollows'. -/
def dateFollowsCard : Claim7 := { stood := { row := dateFollowsRow, standIns := [], harness := (true, "ba2cf828aadd6a2a18fc8f9914a793e5efe5af2d5dcbb5afb2d9d4fcfeb642b8"), looks := false }, kinds := [], alts := [], laidByText := true, laidKinds := [.data, .data, .data, .data, .data, .data], laidTests := true, laidLooks := .later }
def DateFollowsCardSaid : Prop := Claim7.holds Tryd.pinned (.plain (OpenSpec.ofChange dateFollowsSpec)) dateFollowsCard

/-- THE TIED CARD OF 'icehouselaw02.DateApart'. -/
def dateApartCard : Claim7 := { stood := { row := dateApartRow, standIns := [], harness := (true, "ba2cf828aadd6a2a18fc8f9914a793e5efe5af2d5dcbb5afb2d9d4fcfeb642b8"), looks := false }, kinds := [], alts := [], laidByText := true, laidKinds := [.data, .data, .data, .data, .data, .data], laidTests := true, laidLooks := .later }
def DateApartCardSaid : Prop := Claim7.holds Tryd.pinned (.plain (OpenSpec.ofChange dateApartSpec)) dateApartCard

/-- THE TIED CARD OF 'icehouselaw02.DateBounds'. -/
def dateBoundsCard : Claim7 := { stood := { row := dateBoundsRow, standIns := [], harness := (true, "ba2cf828aadd6a2a18fc8f9914a793e5efe5af2d5dcbb5afb2d9d4fcfeb642b8"), looks := false }, kinds := [], alts := [], laidByText := true, laidKinds := [.data, .data, .data, .data, .data, .data], laidTests := true, laidLooks := .later }
def DateBoundsCardSaid : Prop := Claim7.holds Tryd.pinned (.plain (OpenSpec.ofChange dateBoundsSpec)) dateBoundsCard

/-- THE SECOND FORM's CARD OF 'icehouselaw02.DateParses'. -/
def dateParsesUptoCard : Claim7 := { stood := { row := dateParsesUptoRow, standIns := [], harness := (true, "ba2cf828aadd6a2a18fc8f9914a793e5efe5af2d5dcbb5afb2d9d4fcfeb642b8"), looks := false }, kinds := [], alts := [], laidByText := true, laidKinds := [.data, .data, .data, .data, .data, .data], laidTests := true, laidLooks := .later }
def DateParsesUptoCardSaid : Prop := Claim7.holds Tryd.pinned (.plain (OpenSpec.upto dateParsesSpec)) dateParsesUptoCard

/-- THE SECOND FORM's CARD OF 'icehouselaw02.DatePrints'. -/
def datePrintsUptoCard : Claim7 := { stood := { row := datePrintsUptoRow, standIns := [], harness := (true, "ba2cf828aadd6a2a18fc8f9914a793e5efe5af2d5dcbb5afb2d9d4fcfeb642b8"), looks := false }, kinds := [], alts := [], laidByText := true, laidKinds := [.data, .data, .data, .data, .data, .data], laidTests := true, laidLooks := .later }
def DatePrintsUptoCardSaid : Prop := Claim7.holds Tryd.pinned (.plain (OpenSpec.upto datePrintsSpec)) datePrintsUptoCard

/-- THE SECOND FORM's CARD OF 'icehouselaw02.DateFollows'. -/
def dateFollowsUptoCard : Claim7 := { stood := { row := dateFollowsUptoRow, standIns := [], harness := (true, "ba2cf828aadd6a2a18fc8f9914a793e5efe5af2d5dcbb5afb2d9d4fcfeb642b8"), looks := false }, kinds := [], alts := [], laidByText := true, laidKinds := [.data, .data, .data, .data, .data, .data], laidTests := true, laidLooks := .later }
def DateFollowsUptoCardSaid : Prop := Claim7.holds Tryd.pinned (.plain (OpenSpec.upto dateFollowsSpec)) dateFollowsUptoCard

/-- THE SECOND FORM's CARD OF 'icehouselaw02.DateApart'. -/
def dateApartUptoCard : Claim7 := { stood := { row := dateApartUptoRow, standIns := [], harness := (true, "ba2cf828aadd6a2a18fc8f9914a793e5efe5af2d5dcbb5afb2d9d4fcfeb642b8"), looks := false }, kinds := [], alts := [], laidByText := true, laidKinds := [.data, .data, .data, .data, .data, .data], laidTests := true, laidLooks := .later }
def DateApartUptoCardSaid : Prop := Claim7.holds Tryd.pinned (.plain (OpenSpec.upto dateApartSpec)) dateApartUptoCard

/-- THE SECOND FORM's CARD OF 'icehouselaw02.DateBounds'. -/
def dateBoundsUptoCard : Claim7 := { stood := { row := dateBoundsUptoRow, standIns := [], harness := (true, "ba2cf828aadd6a2a18fc8f9914a793e5efe5af2d5dcbb5afb2d9d4fcfeb642b8"), looks := false }, kinds := [], alts := [], laidByText := true, laidKinds := [.data, .data, .data, .data, .data, .data], laidTests := true, laidLooks := .later }
def DateBoundsUptoCardSaid : Prop := Claim7.holds Tryd.pinned (.plain (OpenSpec.upto dateBoundsSpec)) dateBoundsUptoCard
end Rows
end Go.Proofs.YtlmcolpoaedclaaDoor
