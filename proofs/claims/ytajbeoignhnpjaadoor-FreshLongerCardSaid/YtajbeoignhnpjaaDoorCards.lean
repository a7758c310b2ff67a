/-
  DERIVED. GIVEN WITH THE SEED: THE CARDS: each row of YtajbeoignhnpjaaDoorRows.lean that lists a variable, with what it lists TIED to the program's text (the seventh form; the later family's looks); each row that meets fmt, with fmt's text TOLD by the authors' own Lean function (tested against real Go, not proved from fmt's source: count such statements apart). THE CARD IS WHAT COUNTS. Prove the row's statement (the work); the ties are given (YtajbeoignhnpjaaDoorTie.lean); close each card by the builder's one call (the guide's Derived/Test/ToyasCard.lean, 'card_holds'). Laid BY PROGRAM, IN A SANDBOX (cutbox-door.mjs). By AI agents, Wed Nov 11 2026. No macro, syntax, notation, axiom, sorry.
-/
import Derived.Test.YtajbeoignhnpjaaDoorRows
import GoSem.ClaimSeven
namespace Go.Proofs.YtajbeoignhnpjaaDoor
namespace Rows

/-- THE TIED CARD OF 'icehouselaw10.FreshLater'. -/
def freshLaterCard : Claim7 := { stood := { row := freshLaterRow, standIns := [], harness := (true, "800ee12820ddd2b76990dfe93c266668d6e5f39293893dc9e0a7917da76d4792"), looks := false }, kinds := [], alts := [], laidByText := true, laidKinds := [.data, .data, .data, .data, .data, .data, .data, .pinned], laidTests := true, laidLooks := .later }
def FreshLaterCardSaid : Prop := Claim7.holds Tryd.pinned (.plain (OpenSpec.ofChange freshLaterSpec)) freshLaterCard

/-- THE TIED CARD OF 'icehouselaw10.FreshStrict'. -/
def freshStrictCard : Claim7 := { stood := { row := freshStrictRow, standIns := [], harness := (true, "800ee12820ddd2b76990dfe93c266668d6e5f39293893dc9e0a7917da76d4792"), looks := false }, kinds := [], alts := [], laidByText := true, laidKinds := [.data, .data, .data, .data, .data, .data, .data, .pinned], laidTests := true, laidLooks := .later }
def FreshStrictCardSaid : Prop := Claim7.holds Tryd.pinned (.plain (OpenSpec.ofChange freshStrictSpec)) freshStrictCard

/-- THE TIED CARD OF 'icehouselaw10.FreshLonger'. -/
def freshLongerCard : Claim7 := { stood := { row := freshLongerRow, standIns := [], harness := (true, "800ee12820ddd2b76990dfe93c266668d6e5f39293893dc9e0a7917da76d4792"), looks := false }, kinds := [], alts := [], laidByText := true, laidKinds := [.data, .data, .data, .data, .data, .data, .data, .pinned], laidTests := true, laidLooks := .later }
def FreshLongerCardSaid : Prop := Claim7.holds Tryd.pinned (.plain (OpenSpec.ofChange freshLongerSpec)) freshLongerCard

/-- THE SECOND FORM's CARD OF 'icehouselaw10.FreshLater'. -/
def freshLaterUptoCard : Claim7 := { stood := { row := freshLaterUptoRow, standIns := [], harness := (true, "800ee12820ddd2b76990dfe93c266668d6e5f39293893dc9e0a7917da76d4792"), looks := false }, kinds := [], alts := [], laidByText := true, laidKinds := [.data, .data, .data, .data, .data, .data, .data, .pinned], laidTests := true, laidLooks := .later }
def FreshLaterUptoCardSaid : Prop := Claim7.holds Tryd.pinned (.plain (OpenSpec.upto freshLaterSpec)) freshLaterUptoCard

/-- THE SECOND FORM's CARD OF 'icehouselaw10.FreshStrict'. -/
def freshStrictUptoCard : Claim7 := { stood := { row := freshStrictUptoRow, standIns := [], harness := (true, "800ee12820ddd2b76990dfe93c266668d6e5f39293893dc9e0a7917da76d4792"), looks := false }, kinds := [], alts := [], laidByText := true, laidKinds := [.data, .data, .data, .data, .data, .data, .data, .pinned], laidTests := true, laidLooks := .later }
def FreshStrictUptoCardSaid : Prop := Claim7.holds Tryd.pinned (.plain (OpenSpec.upto freshStrictSpec)) freshStrictUptoCard

/-- THE SECOND FORM's CARD OF 'icehouselaw10.FreshLonger'. -/
def freshLongerUptoCard : Claim7 := { stood := { row := freshLongerUptoRow, standIns := [], harness := (true, "800ee12820ddd2b76990dfe93c266668d6e5f39293893dc9e0a7917da76d4792"), looks := false }, kinds := [], alts := [], laidByText := true, laidKinds := [.data, .data, .data, .data, .data, .data, .data, .pinned], laidTests := true, laidLooks := .later }
def FreshLongerUptoCardSaid : Prop := Claim7.holds Tryd.pinned (.plain (OpenSpec.upto freshLongerSpec)) freshLongerUptoCard
end Rows
end Go.Proofs.YtajbeoignhnpjaaDoor
