/-
  DERIVED. GIVEN WITH THE SEED: THE CARDS: each row of YtlikjfemkadciaaDoorRows.lean that lists a variable, with what it lists TIED to the program's text (the seventh form; the later family's looks); each row that meets fmt, with fmt's text TOLD by the authors' own Lean function (tested against real Go, not proved from fmt's source: count such statements apart). THE CARD IS WHAT COUNTS. Prove the row's statement (the work); the ties are given (YtlikjfemkadciaaDoorTie.lean); close each card by the builder's one call (the guide's Derived/Test/ToyasCard.lean, 'card_holds'). Laid BY PROGRAM, IN A SANDBOX (cutbox-door.mjs). By AI agents, Wed Nov 11 2026. No macro, syntax, notation, axiom, sorry.
-/
import Derived.Test.YtlikjfemkadciaaDoorRows
import GoSem.ClaimSeven
namespace Go.Proofs.YtlikjfemkadciaaDoor
namespace Rows

/-- THE TIED CARD OF 'icehouselaw05.TargetBack'. -/
def targetBackCard : Claim7 := { stood := { row := targetBackRow, standIns := [], harness := (true, "dd0c22762dabfada64c97b058f1920b71642a0c4b58c954bc6f079a987b2a1ab"), looks := false }, kinds := [], alts := [], laidByText := true, laidKinds := [.data, .data, .data, .data, .pinned, .pinned], laidTests := true, laidLooks := .later }
def TargetBackCardSaid : Prop := Claim7.holds Tryd.pinned (.plain (OpenSpec.ofChange targetBackSpec)) targetBackCard

/-- THE TIED CARD OF 'icehouselaw05.TargetOwn'. -/
def targetOwnCard : Claim7 := { stood := { row := targetOwnRow, standIns := [], harness := (true, "dd0c22762dabfada64c97b058f1920b71642a0c4b58c954bc6f079a987b2a1ab"), looks := false }, kinds := [], alts := [], laidByText := true, laidKinds := [.data, .data, .data, .data, .pinned, .pinned], laidTests := true, laidLooks := .later }
def TargetOwnCardSaid : Prop := Claim7.holds Tryd.pinned (.plain (OpenSpec.ofChange targetOwnSpec)) targetOwnCard

/-- THE SECOND FORM's CARD OF 'icehouselaw05.TargetBack'. -/
def targetBackUptoCard : Claim7 := { stood := { row := targetBackUptoRow, standIns := [], harness := (true, "dd0c22762dabfada64c97b058f1920b71642a0c4b58c954bc6f079a987b2a1ab"), looks := false }, kinds := [], alts := [], laidByText := true, laidKinds := [.data, .data, .data, .data, .pinned, .pinned], laidTests := true, laidLooks := .later }
def TargetBackUptoCardSaid : Prop := Claim7.holds Tryd.pinned (.plain (OpenSpec.upto targetBackSpec)) targetBackUptoCard

/-- THE SECOND FORM's CARD OF 'icehouselaw05.TargetOwn'. -/
def targetOwnUptoCard : Claim7 := { stood := { row := targetOwnUptoRow, standIns := [], harness := (true, "dd0c22762dabfada64c97b058f1920b71642a0c4b58c954bc6f079a987b2a1ab"), looks := false }, kinds := [], alts := [], laidByText := true, laidKinds := [.data, .data, .data, .data, .pinned, .pinned], laidTests := true, laidLooks := .later }
def TargetOwnUptoCardSaid : Prop := Claim7.holds Tryd.pinned (.plain (OpenSpec.upto targetOwnSpec)) targetOwnUptoCard
end Rows
end Go.Proofs.YtlikjfemkadciaaDoor
