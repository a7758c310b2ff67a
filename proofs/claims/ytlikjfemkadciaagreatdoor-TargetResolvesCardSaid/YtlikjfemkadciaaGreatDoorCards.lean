/-
  DERIVED. GIVEN WITH THE SEED: THE CARDS: each row of YtlikjfemkadciaaGreatDoorRows.lean that lists a variable, with what it lists TIED to the program's text (the seventh form; the later family's looks); each row that meets fmt, with fmt's text TOLD by the authors' own Lean function (tested against real Go, not proved from fmt's source: count such statements apart). THE CARD IS WHAT COUNTS. Prove the row's statement (the work); the ties are given (YtlikjfemkadciaaGreatDoorTie.lean); close each card by the builder's one call (the guide's Derived/Test/ToyasCard.lean, 'card_holds'). Laid BY PROGRAM, IN A SANDBOX (cutbox-door.mjs). By AI agents, Wed Nov 11 2026. No macro, syntax, notation, axiom, sorry.
-/
import Derived.Test.YtlikjfemkadciaaGreatDoorRows
import GoSem.ClaimSeven
namespace Go.Proofs.YtlikjfemkadciaaGreatDoor
namespace Rows

/-- THE TIED CARD OF 'icehouselaw05.TargetParses'. -/
def targetParsesCard : Claim7 := { stood := { row := targetParsesRow, standIns := [], harness := (true, "14a1b18068c0bd7c07c70e5de7e5378bb72ea0a6b025c28f6767aea352e4193b"), looks := false }, kinds := [], alts := [], laidByText := true, laidKinds := [.data, .data, .data, .data, .pinned, .pinned], laidTests := true, laidLooks := .later }
def TargetParsesCardSaid : Prop := Claim7.holds Tryz.pinned (.plain (OpenSpec.ofChange targetParsesSpec)) targetParsesCard

/-- THE TIED CARD OF 'icehouselaw05.TargetOf'. -/
def targetOfCard : Claim7 := { stood := { row := targetOfRow, standIns := [], harness := (true, "14a1b18068c0bd7c07c70e5de7e5378bb72ea0a6b025c28f6767aea352e4193b"), looks := false }, kinds := [], alts := [], laidByText := true, laidKinds := [.data, .data, .data, .data, .pinned, .pinned], laidTests := true, laidLooks := .later }
def TargetOfCardSaid : Prop := Claim7.holds Tryz.pinned (.plain (OpenSpec.ofChange targetOfSpec)) targetOfCard

/-- THE TIED CARD OF 'icehouselaw05.TargetResolves'. -/
def targetResolvesCard : Claim7 := { stood := { row := targetResolvesRow, standIns := [], harness := (true, "14a1b18068c0bd7c07c70e5de7e5378bb72ea0a6b025c28f6767aea352e4193b"), looks := false }, kinds := [], alts := [], laidByText := true, laidKinds := [.data, .data, .data, .data, .pinned, .pinned], laidTests := true, laidLooks := .later }
def TargetResolvesCardSaid : Prop := Claim7.holds Tryz.pinned (.plain (OpenSpec.ofChange targetResolvesSpec)) targetResolvesCard

/-- THE TIED CARD OF 'icehouselaw05.TargetDots'. -/
def targetDotsCard : Claim7 := { stood := { row := targetDotsRow, standIns := [], harness := (true, "14a1b18068c0bd7c07c70e5de7e5378bb72ea0a6b025c28f6767aea352e4193b"), looks := false }, kinds := [], alts := [], laidByText := true, laidKinds := [.data, .data, .data, .data, .pinned, .pinned], laidTests := true, laidLooks := .later }
def TargetDotsCardSaid : Prop := Claim7.holds Tryz.pinned (.plain (OpenSpec.ofChange targetDotsSpec)) targetDotsCard

/-- THE SECOND FORM's CARD OF 'icehouselaw05.TargetParses'. -/
def targetParsesUptoCard : Claim7 := { stood := { row := targetParsesUptoRow, standIns := [], harness := (true, "14a1b18068c0bd7c07c70e5de7e5378bb72ea0a6b025c28f6767aea352e4193b"), looks := false }, kinds := [], alts := [], laidByText := true, laidKinds := [.data, .data, .data, .data, .pinned, .pinned], laidTests := true, laidLooks := .later }
def TargetParsesUptoCardSaid : Prop := Claim7.holds Tryz.pinned (.plain (OpenSpec.upto targetParsesSpec)) targetParsesUptoCard

/-- THE SECOND FORM's CARD OF 'icehouselaw05.TargetOf'. -/
def targetOfUptoCard : Claim7 := { stood := { row := targetOfUptoRow, standIns := [], harness := (true, "14a1b18068c0bd7c07c70e5de7e5378bb72ea0a6b025c28f6767aea352e4193b"), looks := false }, kinds := [], alts := [], laidByText := true, laidKinds := [.data, .data, .data, .data, .pinned, .pinned], laidTests := true, laidLooks := .later }
def TargetOfUptoCardSaid : Prop := Claim7.holds Tryz.pinned (.plain (OpenSpec.upto targetOfSpec)) targetOfUptoCard

/-- THE SECOND FORM's CARD OF 'icehouselaw05.TargetResolves'. -/
def targetResolvesUptoCard : Claim7 := { stood := { row := targetResolvesUptoRow, standIns := [], harness := (true, "14a1b18068c0bd7c07c70e5de7e5378bb72ea0a6b025c28f6767aea352e4193b"), looks := false }, kinds := [], alts := [], laidByText := true, laidKinds := [.data, .data, .data, .data, .pinned, .pinned], laidTests := true, laidLooks := .later }
def TargetResolvesUptoCardSaid : Prop := Claim7.holds Tryz.pinned (.plain (OpenSpec.upto targetResolvesSpec)) targetResolvesUptoCard

/-- THE SECOND FORM's CARD OF 'icehouselaw05.TargetDots'. -/
def targetDotsUptoCard : Claim7 := { stood := { row := targetDotsUptoRow, standIns := [], harness := (true, "14a1b18068c0bd7c07c70e5de7e5378bb72ea0a6b025c28f6767aea352e4193b"), looks := false }, kinds := [], alts := [], laidByText := true, laidKinds := [.data, .data, .data, .data, .pinned, .pinned], laidTests := true, laidLooks := .later }
def TargetDotsUptoCardSaid : Prop := Claim7.holds Tryz.pinned (.plain (OpenSpec.upto targetDotsSpec)) targetDotsUptoCard
end Rows
end Go.Proofs.YtlikjfemkadciaaGreatDoor
