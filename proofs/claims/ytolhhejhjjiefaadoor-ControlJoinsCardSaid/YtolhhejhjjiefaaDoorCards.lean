/-
  DERIVED. GIVEN WITH THE SEED: THE CARDS: each row of YtolhhejhjjiefaaDoorRows.lean that lists a variable, with what it lists TIED to the program's text (the seventh form; the later family's looks); each row that meets fmt, with fmt's text TOLD by the authors' own Lean function (tested against real Go, not proved from fmt's source: count such statements apart). THE CARD IS WHAT COUNTS. Prove the row's statement (the work); the ties are given (YtolhhejhjjiefaaDoorTie.lean); close each card by the builder's one call (the guide's Derived/Test/ToyasCard.lean, 'card_holds'). Laid BY PROGRAM, IN A SANDBOX (cutbox-door.mjs). By AI agents, Wed Nov 11 2026. No macro, syntax, notation, axiom, sorry.
-/
import Derived.Test.YtolhhejhjjiefaaDoorRows
import GoSem.ClaimSeven
namespace Go.Proofs.YtolhhejhjjiefaaDoor
namespace Rows

/-- THE TIED CARD OF 'icehouselaw04.ControlParses'. -/
def controlParsesCard : Claim7 := { stood := { row := controlParsesRow, standIns := [], harness := (true, "58db05ac488a030d472cec37821b1ae9558ca10be9f0770e76d155a2bb5161a4"), looks := false }, kinds := [], alts := [], laidByText := true, laidKinds := [.data, .pinned], laidTests := true, laidLooks := .later }
def ControlParsesCardSaid : Prop := Claim7.holds Tryd.pinned (.plain (OpenSpec.ofChange controlParsesSpec)) controlParsesCard

/-- THE TIED CARD OF 'icehouselaw04.ControlPrints'. -/
def controlPrintsCard : Claim7 := { stood := { row := controlPrintsRow, standIns := [], harness := (true, "58db05ac488a030d472cec37821b1ae9558ca10be9f0770e76d155a2bb5161a4"), looks := false }, kinds := [], alts := [], laidByText := true, laidKinds := [.data, .data, .data, .data, .pinned], laidTests := true, laidLooks := .later }
def ControlPrintsCardSaid : Prop := Claim7.holds Tryd.pinned (.plain (OpenSpec.ofChange controlPrintsSpec)) controlPrintsCard

/-- THE TIED CARD OF 'icehouselaw04.ControlJoins'. -/
def controlJoinsCard : Claim7 := { stood := { row := controlJoinsRow, standIns := [], harness := (true, "58db05ac488a030d472cec37821b1ae9558ca10be9f0770e76d155a2bb5161a4"), looks := false }, kinds := [], alts := [], laidByText := true, laidKinds := [.data, .data, .data, .data, .pinned], laidTests := true, laidLooks := .later }
def ControlJoinsCardSaid : Prop := Claim7.holds Tryd.pinned (.plain (OpenSpec.ofChange controlJoinsSpec)) controlJoinsCard

/-- THE TIED CARD OF 'icehouselaw04.ControlNumbers'. -/
def controlNumbersCard : Claim7 := { stood := { row := controlNumbersRow, standIns := [], harness := (true, "58db05ac488a030d472cec37821b1ae9558ca10be9f0770e76d155a2bb5161a4"), looks := false }, kinds := [], alts := [], laidByText := true, laidKinds := [.data, .pinned], laidTests := true, laidLooks := .later }
def ControlNumbersCardSaid : Prop := Claim7.holds Tryd.pinned (.plain (OpenSpec.ofChange controlNumbersSpec)) controlNumbersCard

/-- THE TIED CARD OF 'icehouselaw04.ControlQuiet'. -/
def controlQuietCard : Claim7 := { stood := { row := controlQuietRow, standIns := [], harness := (true, "58db05ac488a030d472cec37821b1ae9558ca10be9f0770e76d155a2bb5161a4"), looks := false }, kinds := [], alts := [], laidByText := true, laidKinds := [.data, .pinned], laidTests := true, laidLooks := .later }
def ControlQuietCardSaid : Prop := Claim7.holds Tryd.pinned (.plain (OpenSpec.ofChange controlQuietSpec)) controlQuietCard

/-- THE SECOND FORM's CARD OF 'icehouselaw04.ControlParses'. -/
def controlParsesUptoCard : Claim7 := { stood := { row := controlParsesUptoRow, standIns := [], harness := (true, "58db05ac488a030d472cec37821b1ae9558ca10be9f0770e76d155a2bb5161a4"), looks := false }, kinds := [], alts := [], laidByText := true, laidKinds := [.data, .pinned], laidTests := true, laidLooks := .later }
def ControlParsesUptoCardSaid : Prop := Claim7.holds Tryd.pinned (.plain (OpenSpec.upto controlParsesSpec)) controlParsesUptoCard

/-- THE SECOND FORM's CARD OF 'icehouselaw04.ControlPrints'. -/
def controlPrintsUptoCard : Claim7 := { stood := { row := controlPrintsUptoRow, standIns := [], harness := (true, "58db05ac488a030d472cec37821b1ae9558ca10be9f0770e76d155a2bb5161a4"), looks := false }, kinds := [], alts := [], laidByText := true, laidKinds := [.data, .data, .data, .data, .pinned], laidTests := true, laidLooks := .later }
def ControlPrintsUptoCardSaid : Prop := Claim7.holds Tryd.pinned (.plain (OpenSpec.upto controlPrintsSpec)) controlPrintsUptoCard

/-- THE SECOND FORM's CARD OF 'icehouselaw04.ControlJoins'. -/
def controlJoinsUptoCard : Claim7 := { stood := { row := controlJoinsUptoRow, standIns := [], harness := (true, "58db05ac488a030d472cec37821b1ae9558ca10be9f0770e76d155a2bb5161a4"), looks := false }, kinds := [], alts := [], laidByText := true, laidKinds := [.data, .data, .data, .data, .pinned], laidTests := true, laidLooks := .later }
def ControlJoinsUptoCardSaid : Prop := Claim7.holds Tryd.pinned (.plain (OpenSpec.upto controlJoinsSpec)) controlJoinsUptoCard

/-- THE SECOND FORM's CARD OF 'icehouselaw04.ControlNumbers'. -/
def controlNumbersUptoCard : Claim7 := { stood := { row := controlNumbersUptoRow, standIns := [], harness := (true, "58db05ac488a030d472cec37821b1ae9558ca10be9f0770e76d155a2bb5161a4"), looks := false }, kinds := [], alts := [], laidByText := true, laidKinds := [.data, .pinned], laidTests := true, laidLooks := .later }
def ControlNumbersUptoCardSaid : Prop := Claim7.holds Tryd.pinned (.plain (OpenSpec.upto controlNumbersSpec)) controlNumbersUptoCard

/-- THE SECOND FORM's CARD OF 'icehouselaw04.ControlQuiet'. -/
def controlQuietUptoCard : Claim7 := { stood := { row := controlQuietUptoRow, standIns := [], harness := (true, "58db05ac488a030d472cec37821b1ae9558ca10be9f0770e76d155a2bb5161a4"), looks := false }, kinds := [], alts := [], laidByText := true, laidKinds := [.data, .pinned], laidTests := true, laidLooks := .later }
def ControlQuietUptoCardSaid : Prop := Claim7.holds Tryd.pinned (.plain (OpenSpec.upto controlQuietSpec)) controlQuietUptoCard
end Rows
end Go.Proofs.YtolhhejhjjiefaaDoor
