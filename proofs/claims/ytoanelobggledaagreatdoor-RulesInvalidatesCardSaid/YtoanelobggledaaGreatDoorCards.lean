/-
  DERIVED. GIVEN WITH THE SEED: THE CARDS: each row of YtoanelobggledaaGreatDoorRows.lean that lists a variable, with what it lists TIED to the program's text (the seventh form; the later family's looks); each row that meets fmt, with fmt's text TOLD by the authors' own Lean function (tested against real Go, not proved from fmt's source: count such statements apart). THE CARD IS WHAT COUNTS. Prove the row's statement (the work); the ties are given (YtoanelobggledaaGreatDoorTie.lean); close each card by the builder's one call (the guide's Derived/Test/ToyasCard.lean, 'card_holds'). Laid BY PROGRAM, IN A SANDBOX (cutbox-door.mjs). By AI agents, Wed Nov 11 2026. No macro, syntax, notation, axiom, sorry.
-/
import Derived.Test.YtoanelobggledaaGreatDoorRows
import GoSem.ClaimSeven
namespace Go.Proofs.YtoanelobggledaaGreatDoor
namespace Rows

/-- THE TIED CARD OF 'icehouselaw11.RulesStores'. -/
def rulesStoresCard : Claim7 := { stood := { row := rulesStoresRow, standIns := [], harness := (true, "47b031dbbd39636b5794038527583805fd961bd3346d1a7e77560d6cea35594b"), looks := false }, kinds := [], alts := [], laidByText := true, laidKinds := [.data, .data, .data, .data, .data, .data, .data, .pinned, .pinned], laidTests := true, laidLooks := .later }
def RulesStoresCardSaid : Prop := Claim7.holds Tryz.pinned (.plain (OpenSpec.ofChange rulesStoresSpec)) rulesStoresCard

/-- THE TIED CARD OF 'icehouselaw11.RulesKeeps'. -/
def rulesKeepsCard : Claim7 := { stood := { row := rulesKeepsRow, standIns := [], harness := (true, "47b031dbbd39636b5794038527583805fd961bd3346d1a7e77560d6cea35594b"), looks := false }, kinds := [], alts := [], laidByText := true, laidKinds := [.data, .data, .data, .data, .data, .data, .data, .pinned, .pinned], laidTests := true, laidLooks := .later }
def RulesKeepsCardSaid : Prop := Claim7.holds Tryz.pinned (.plain (OpenSpec.ofChange rulesKeepsSpec)) rulesKeepsCard

/-- THE TIED CARD OF 'icehouselaw11.RulesValidates'. -/
def rulesValidatesCard : Claim7 := { stood := { row := rulesValidatesRow, standIns := [], harness := (true, "47b031dbbd39636b5794038527583805fd961bd3346d1a7e77560d6cea35594b"), looks := false }, kinds := [], alts := [], laidByText := true, laidKinds := [.data, .data, .data, .data, .data, .data, .data, .pinned, .pinned], laidTests := true, laidLooks := .later }
def RulesValidatesCardSaid : Prop := Claim7.holds Tryz.pinned (.plain (OpenSpec.ofChange rulesValidatesSpec)) rulesValidatesCard

/-- THE TIED CARD OF 'icehouselaw11.RulesInvalidates'. -/
def rulesInvalidatesCard : Claim7 := { stood := { row := rulesInvalidatesRow, standIns := [], harness := (true, "47b031dbbd39636b5794038527583805fd961bd3346d1a7e77560d6cea35594b"), looks := false }, kinds := [], alts := [], laidByText := true, laidKinds := [.data, .data, .data, .data, .data, .data, .data, .pinned, .pinned], laidTests := true, laidLooks := .later }
def RulesInvalidatesCardSaid : Prop := Claim7.holds Tryz.pinned (.plain (OpenSpec.ofChange rulesInvalidatesSpec)) rulesInvalidatesCard

/-- THE TIED CARD OF 'icehouselaw11.RulesAsked'. -/
def rulesAskedCard : Claim7 := { stood := { row := rulesAskedRow, standIns := [], harness := (true, "47b031dbbd39636b5794038527583805fd961bd3346d1a7e77560d6cea35594b"), looks := false }, kinds := [], alts := [], laidByText := true, laidKinds := [.data, .data, .data, .data, .data, .data, .data, .pinned, .pinned], laidTests := true, laidLooks := .later }
def RulesAskedCardSaid : Prop := Claim7.holds Tryz.pinned (.plain (OpenSpec.ofChange rulesAskedSpec)) rulesAskedCard

/-- THE TIED CARD OF 'icehouselaw11.RulesStrict'. -/
def rulesStrictCard : Claim7 := { stood := { row := rulesStrictRow, standIns := [], harness := (true, "47b031dbbd39636b5794038527583805fd961bd3346d1a7e77560d6cea35594b"), looks := false }, kinds := [], alts := [], laidByText := true, laidKinds := [.data, .data, .data, .data, .data, .data, .data, .pinned, .pinned], laidTests := true, laidLooks := .later }
def RulesStrictCardSaid : Prop := Claim7.holds Tryz.pinned (.plain (OpenSpec.ofChange rulesStrictSpec)) rulesStrictCard

/-- THE TIED CARD OF 'icehouselaw11.RulesTwice'. -/
def rulesTwiceCard : Claim7 := { stood := { row := rulesTwiceRow, standIns := [], harness := (true, "47b031dbbd39636b5794038527583805fd961bd3346d1a7e77560d6cea35594b"), looks := false }, kinds := [], alts := [], laidByText := true, laidKinds := [.data, .data, .data, .data, .data, .data, .data, .pinned, .pinned], laidTests := true, laidLooks := .later }
def RulesTwiceCardSaid : Prop := Claim7.holds Tryz.pinned (.plain (OpenSpec.ofChange rulesTwiceSpec)) rulesTwiceCard

/-- THE SECOND FORM's CARD OF 'icehouselaw11.RulesStores'. -/
def rulesStoresUptoCard : Claim7 := { stood := { row := rulesStoresUptoRow, standIns := [], harness := (true, "47b031dbbd39636b5794038527583805fd961bd3346d1a7e77560d6cea35594b"), looks := false }, kinds := [], alts := [], laidByText := true, laidKinds := [.data, .data, .data, .data, .data, .data, .data, .pinned, .pinned], laidTests := true, laidLooks := .later }
def RulesStoresUptoCardSaid : Prop := Claim7.holds Tryz.pinned (.plain (OpenSpec.upto rulesStoresSpec)) rulesStoresUptoCard

/-- THE SECOND FORM's CARD OF 'icehouselaw11.RulesKeeps'. -/
def rulesKeepsUptoCard : Claim7 := { stood := { row := rulesKeepsUptoRow, standIns := [], harness := (true, "47b031dbbd39636b5794038527583805fd961bd3346d1a7e77560d6cea35594b"), looks := false }, kinds := [], alts := [], laidByText := true, laidKinds := [.data, .data, .data, .data, .data, .data, .data, .pinned, .pinned], laidTests := true, laidLooks := .later }
def RulesKeepsUptoCardSaid : Prop := Claim7.holds Tryz.pinned (.plain (OpenSpec.upto rulesKeepsSpec)) rulesKeepsUptoCard

/-- THE SECOND FORM's CARD OF 'icehouselaw11.RulesValidates'. -/
def rulesValidatesUptoCard : Claim7 := { stood := { row := rulesValidatesUptoRow, standIns := [], harness := (true, "47b031dbbd39636b5794038527583805fd961bd3346d1a7e77560d6cea35594b"), looks := false }, kinds := [], alts := [], laidByText := true, laidKinds := [.data, .data, .data, .data, .data, .data, .data, .pinned, .pinned], laidTests := true, laidLooks := .later }
def RulesValidatesUptoCardSaid : Prop := Claim7.holds Tryz.pinned (.plain (OpenSpec.upto rulesValidatesSpec)) rulesValidatesUptoCard

/-- THE SECOND FORM's CARD OF 'icehouselaw11.RulesInvalidates'. -/
def rulesInvalidatesUptoCard : Claim7 := { stood := { row := rulesInvalidatesUptoRow, standIns := [], harness := (true, "47b031dbbd39636b5794038527583805fd961bd3346d1a7e77560d6cea35594b"), looks := false }, kinds := [], alts := [], laidByText := true, laidKinds := [.data, .data, .data, .data, .data, .data, .data, .pinned, .pinned], laidTests := true, laidLooks := .later }
def RulesInvalidatesUptoCardSaid : Prop := Claim7.holds Tryz.pinned (.plain (OpenSpec.upto rulesInvalidatesSpec)) rulesInvalidatesUptoCard

/-- THE SECOND FORM's CARD OF 'icehouselaw11.RulesAsked'. -/
def rulesAskedUptoCard : Claim7 := { stood := { row := rulesAskedUptoRow, standIns := [], harness := (true, "47b031dbbd39636b5794038527583805fd961bd3346d1a7e77560d6cea35594b"), looks := false }, kinds := [], alts := [], laidByText := true, laidKinds := [.data, .data, .data, .data, .data, .data, .data, .pinned, .pinned], laidTests := true, laidLooks := .later }
def RulesAskedUptoCardSaid : Prop := Claim7.holds Tryz.pinned (.plain (OpenSpec.upto rulesAskedSpec)) rulesAskedUptoCard

/-- THE SECOND FORM's CARD OF 'icehouselaw11.RulesStrict'. -/
def rulesStrictUptoCard : Claim7 := { stood := { row := rulesStrictUptoRow, standIns := [], harness := (true, "47b031dbbd39636b5794038527583805fd961bd3346d1a7e77560d6cea35594b"), looks := false }, kinds := [], alts := [], laidByText := true, laidKinds := [.data, .data, .data, .data, .data, .data, .data, .pinned, .pinned], laidTests := true, laidLooks := .later }
def RulesStrictUptoCardSaid : Prop := Claim7.holds Tryz.pinned (.plain (OpenSpec.upto rulesStrictSpec)) rulesStrictUptoCard

/-- THE SECOND FORM's CARD OF 'icehouselaw11.RulesTwice'. -/
def rulesTwiceUptoCard : Claim7 := { stood := { row := rulesTwiceUptoRow, standIns := [], harness := (true, "47b031dbbd39636b5794038527583805fd961bd3346d1a7e77560d6cea35594b"), looks := false }, kinds := [], alts := [], laidByText := true, laidKinds := [.data, .data, .data, .data, .data, .data, .data, .pinned, .pinned], laidTests := true, laidLooks := .later }
def RulesTwiceUptoCardSaid : Prop := Claim7.holds Tryz.pinned (.plain (OpenSpec.upto rulesTwiceSpec)) rulesTwiceUptoCard
end Rows
end Go.Proofs.YtoanelobggledaaGreatDoor
