/-
  DERIVED. GIVEN WITH THE SEED: THE CARDS: each row of YtlbjjeonchcgbaaGreatDoorRows.lean that lists a variable, with what it lists TIED to the program's text (the seventh form; the later family's looks); each row that meets fmt, with fmt's text TOLD by the authors' own Lean function (tested against real Go, not proved from fmt's source: count such statements apart). THE CARD IS WHAT COUNTS. Prove the row's statement (the work); the ties are given (YtlbjjeonchcgbaaGreatDoorTie.lean); close each card by the builder's one call (the guide's Derived/Test/ToyasCard.lean, 'card_holds'). Laid BY PROGRAM, IN A SANDBOX (cutbox-door.mjs). By AI agents, Wed Nov 11 2026. No macro, syntax, notation, axiom, sorry.
-/
import Derived.Test.YtlbjjeonchcgbaaGreatDoorRows
import GoSem.ClaimSeven
namespace Go.Proofs.YtlbjjeonchcgbaaGreatDoor
namespace Rows

/-- THE TIED CARD OF 'icehouselaw08.MessageParses'. -/
def messageParsesCard : Claim7 := { stood := { row := messageParsesRow, standIns := [], harness := (true, "6a9305b07102c55c38eba992b0457576646f0c70de1529d4c37d6f4fa502c290"), looks := false }, kinds := [], alts := [], laidByText := true, laidKinds := [.data, .pinned], laidTests := true, laidLooks := .later }
def MessageParsesCardSaid : Prop := Claim7.holds Tryz.pinned (.plain (OpenSpec.ofChange messageParsesSpec)) messageParsesCard

/-- THE TIED CARD OF 'icehouselaw08.MessagePrints'. -/
def messagePrintsCard : Claim7 := { stood := { row := messagePrintsRow, standIns := [], harness := (true, "6a9305b07102c55c38eba992b0457576646f0c70de1529d4c37d6f4fa502c290"), looks := false }, kinds := [], alts := [], laidByText := true, laidKinds := [.data, .data, .data, .data, .pinned], laidTests := true, laidLooks := .later }
def MessagePrintsCardSaid : Prop := Claim7.holds Tryz.pinned (.plain (OpenSpec.ofChange messagePrintsSpec)) messagePrintsCard

/-- THE TIED CARD OF 'icehouselaw08.MessageTakes'. -/
def messageTakesCard : Claim7 := { stood := { row := messageTakesRow, standIns := [], harness := (true, "6a9305b07102c55c38eba992b0457576646f0c70de1529d4c37d6f4fa502c290"), looks := false }, kinds := [], alts := [], laidByText := true, laidKinds := [.data, .pinned], laidTests := true, laidLooks := .later }
def MessageTakesCardSaid : Prop := Claim7.holds Tryz.pinned (.plain (OpenSpec.ofChange messageTakesSpec)) messageTakesCard

/-- THE TIED CARD OF 'icehouselaw08.MessageTwo'. -/
def messageTwoCard : Claim7 := { stood := { row := messageTwoRow, standIns := [], harness := (true, "6a9305b07102c55c38eba992b0457576646f0c70de1529d4c37d6f4fa502c290"), looks := false }, kinds := [], alts := [], laidByText := true, laidKinds := [.data, .pinned], laidTests := true, laidLooks := .later }
def MessageTwoCardSaid : Prop := Claim7.holds Tryz.pinned (.plain (OpenSpec.ofChange messageTwoSpec)) messageTwoCard

/-- THE TIED CARD OF 'icehouselaw08.MessageChunks'. -/
def messageChunksCard : Claim7 := { stood := { row := messageChunksRow, standIns := [], harness := (true, "6a9305b07102c55c38eba992b0457576646f0c70de1529d4c37d6f4fa502c290"), looks := false }, kinds := [], alts := [], laidByText := true, laidKinds := [.data, .pinned], laidTests := true, laidLooks := .later }
def MessageChunksCardSaid : Prop := Claim7.holds Tryz.pinned (.plain (OpenSpec.ofChange messageChunksSpec)) messageChunksCard

/-- THE TIED CARD OF 'icehouselaw08.MessageBare'. -/
def messageBareCard : Claim7 := { stood := { row := messageBareRow, standIns := [], harness := (true, "6a9305b07102c55c38eba992b0457576646f0c70de1529d4c37d6f4fa502c290"), looks := false }, kinds := [], alts := [], laidByText := true, laidKinds := [.data, .pinned], laidTests := true, laidLooks := .later }
def MessageBareCardSaid : Prop := Claim7.holds Tryz.pinned (.plain (OpenSpec.ofChange messageBareSpec)) messageBareCard

/-- THE SECOND FORM's CARD OF 'icehouselaw08.MessageParses'. -/
def messageParsesUptoCard : Claim7 := { stood := { row := messageParsesUptoRow, standIns := [], harness := (true, "6a9305b07102c55c38eba992b0457576646f0c70de1529d4c37d6f4fa502c290"), looks := false }, kinds := [], alts := [], laidByText := true, laidKinds := [.data, .pinned], laidTests := true, laidLooks := .later }
def MessageParsesUptoCardSaid : Prop := Claim7.holds Tryz.pinned (.plain (OpenSpec.upto messageParsesSpec)) messageParsesUptoCard

/-- THE SECOND FORM's CARD OF 'icehouselaw08.MessagePrints'. -/
def messagePrintsUptoCard : Claim7 := { stood := { row := messagePrintsUptoRow, standIns := [], harness := (true, "6a9305b07102c55c38eba992b0457576646f0c70de1529d4c37d6f4fa502c290"), looks := false }, kinds := [], alts := [], laidByText := true, laidKinds := [.data, .data, .data, .data, .pinned], laidTests := true, laidLooks := .later }
def MessagePrintsUptoCardSaid : Prop := Claim7.holds Tryz.pinned (.plain (OpenSpec.upto messagePrintsSpec)) messagePrintsUptoCard

/-- THE SECOND FORM's CARD OF 'icehouselaw08.MessageTakes'. -/
def messageTakesUptoCard : Claim7 := { stood := { row := messageTakesUptoRow, standIns := [], harness := (true, "6a9305b07102c55c38eba992b0457576646f0c70de1529d4c37d6f4fa502c290"), looks := false }, kinds := [], alts := [], laidByText := true, laidKinds := [.data, .pinned], laidTests := true, laidLooks := .later }
def MessageTakesUptoCardSaid : Prop := Claim7.holds Tryz.pinned (.plain (OpenSpec.upto messageTakesSpec)) messageTakesUptoCard

/-- THE SECOND FORM's CARD OF 'icehouselaw08.MessageTwo'. -/
def messageTwoUptoCard : Claim7 := { stood := { row := messageTwoUptoRow, standIns := [], harness := (true, "6a9305b07102c55c38eba992b0457576646f0c70de1529d4c37d6f4fa502c290"), looks := false }, kinds := [], alts := [], laidByText := true, laidKinds := [.data, .pinned], laidTests := true, laidLooks := .later }
def MessageTwoUptoCardSaid : Prop := Claim7.holds Tryz.pinned (.plain (OpenSpec.upto messageTwoSpec)) messageTwoUptoCard

/-- THE SECOND FORM's CARD OF 'icehouselaw08.MessageChunks'. -/
def messageChunksUptoCard : Claim7 := { stood := { row := messageChunksUptoRow, standIns := [], harness := (true, "6a9305b07102c55c38eba992b0457576646f0c70de1529d4c37d6f4fa502c290"), looks := false }, kinds := [], alts := [], laidByText := true, laidKinds := [.data, .pinned], laidTests := true, laidLooks := .later }
def MessageChunksUptoCardSaid : Prop := Claim7.holds Tryz.pinned (.plain (OpenSpec.upto messageChunksSpec)) messageChunksUptoCard

/-- THE SECOND FORM's CARD OF 'icehouselaw08.MessageBare'. -/
def messageBareUptoCard : Claim7 := { stood := { row := messageBareUptoRow, standIns := [], harness := (true, "6a9305b07102c55c38eba992b0457576646f0c70de1529d4c37d6f4fa502c290"), looks := false }, kinds := [], alts := [], laidByText := true, laidKinds := [.data, .pinned], laidTests := true, laidLooks := .later }
def MessageBareUptoCardSaid : Prop := Claim7.holds Tryz.pinned (.plain (OpenSpec.upto messageBareSpec)) messageBareUptoCard
end Rows
end Go.Proofs.YtlbjjeonchcgbaaGreatDoor
