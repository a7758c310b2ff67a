/-
  DERIVED. GIVEN WITH THE SEED: THE CARDS: each row of YtelndkglimkfeaaDoorRows.lean that lists a variable, with what it lists TIED to the program's text (the seventh form; the later family's looks); each row that meets fmt, with fmt's text TOLD by the authors' own Lean function (tested against real Go, not proved from fmt's source: count such statements apart). THE CARD IS WHAT COUNTS. Prove the row's statement (the work); the ties are given (YtelndkglimkfeaaDoorTie.lean); close each card by the builder's one call (the guide's Derived/Test/ToyasCard.lean, 'card_holds'). Laid BY PROGRAM, IN A SANDBOX (cutbox-door.mjs). By AI agents, Wed Nov 11 2026. No macro, syntax, notation, axiom, sorry.
-/
import Derived.Test.YtelndkglimkfeaaDoorRows
import GoSem.ClaimSeven
namespace Go.Proofs.YtelndkglimkfeaaDoor
namespace Rows

/-- THE TIED CARD OF 'icehouselaw09.VaryNames'. -/
def varyNamesCard : Claim7 := { stood := { row := varyNamesRow, standIns := [], harness := (true, "14150e2f99c4d77a69cf43e20a1013abe3af47d5505bfd67d9b0461e994a280e"), looks := false }, kinds := [], alts := [], laidByText := true, laidKinds := [.data, .pinned], laidTests := true, laidLooks := .later }
def VaryNamesCardSaid : Prop := Claim7.holds Tryd.pinned (.plain (OpenSpec.ofChange varyNamesSpec)) varyNamesCard

/-- THE TIED CARD OF 'icehouselaw09.VaryKeys'. -/
def varyKeysCard : Claim7 := { stood := { row := varyKeysRow, standIns := [], harness := (true, "14150e2f99c4d77a69cf43e20a1013abe3af47d5505bfd67d9b0461e994a280e"), looks := false }, kinds := [], alts := [], laidByText := true, laidKinds := [.data, .pinned], laidTests := true, laidLooks := .later }
def VaryKeysCardSaid : Prop := Claim7.holds Tryd.pinned (.plain (OpenSpec.ofChange varyKeysSpec)) varyKeysCard

/-- THE TIED CARD OF 'icehouselaw09.VaryOne'. -/
def varyOneCard : Claim7 := { stood := { row := varyOneRow, standIns := [], harness := (true, "14150e2f99c4d77a69cf43e20a1013abe3af47d5505bfd67d9b0461e994a280e"), looks := false }, kinds := [], alts := [], laidByText := true, laidKinds := [.data, .pinned], laidTests := true, laidLooks := .later }
def VaryOneCardSaid : Prop := Claim7.holds Tryd.pinned (.plain (OpenSpec.ofChange varyOneSpec)) varyOneCard

/-- THE TIED CARD OF 'icehouselaw09.VaryBlanks'. -/
def varyBlanksCard : Claim7 := { stood := { row := varyBlanksRow, standIns := [], harness := (true, "14150e2f99c4d77a69cf43e20a1013abe3af47d5505bfd67d9b0461e994a280e"), looks := false }, kinds := [], alts := [], laidByText := true, laidKinds := [.data, .pinned], laidTests := true, laidLooks := .later }
def VaryBlanksCardSaid : Prop := Claim7.holds Tryd.pinned (.plain (OpenSpec.ofChange varyBlanksSpec)) varyBlanksCard

/-- THE TIED CARD OF 'icehouselaw09.VaryOrder'. -/
def varyOrderCard : Claim7 := { stood := { row := varyOrderRow, standIns := [], harness := (true, "14150e2f99c4d77a69cf43e20a1013abe3af47d5505bfd67d9b0461e994a280e"), looks := false }, kinds := [], alts := [], laidByText := true, laidKinds := [.data, .pinned], laidTests := true, laidLooks := .later }
def VaryOrderCardSaid : Prop := Claim7.holds Tryd.pinned (.plain (OpenSpec.ofChange varyOrderSpec)) varyOrderCard

/-- THE SECOND FORM's CARD OF 'icehouselaw09.VaryNames'. -/
def varyNamesUptoCard : Claim7 := { stood := { row := varyNamesUptoRow, standIns := [], harness := (true, "14150e2f99c4d77a69cf43e20a1013abe3af47d5505bfd67d9b0461e994a280e"), looks := false }, kinds := [], alts := [], laidByText := true, laidKinds := [.data, .pinned], laidTests := true, laidLooks := .later }
def VaryNamesUptoCardSaid : Prop := Claim7.holds Tryd.pinned (.plain (OpenSpec.upto varyNamesSpec)) varyNamesUptoCard

/-- THE SECOND FORM's CARD OF 'icehouselaw09.VaryKeys'. -/
def varyKeysUptoCard : Claim7 := { stood := { row := varyKeysUptoRow, standIns := [], harness := (true, "14150e2f99c4d77a69cf43e20a1013abe3af47d5505bfd67d9b0461e994a280e"), looks := false }, kinds := [], alts := [], laidByText := true, laidKinds := [.data, .pinned], laidTests := true, laidLooks := .later }
def VaryKeysUptoCardSaid : Prop := Claim7.holds Tryd.pinned (.plain (OpenSpec.upto varyKeysSpec)) varyKeysUptoCard

/-- THE SECOND FORM's CARD OF 'icehouselaw09.VaryOne'. -/
def varyOneUptoCard : Claim7 := { stood := { row := varyOneUptoRow, standIns := [], harness := (true, "14150e2f99c4d77a69cf43e20a1013abe3af47d5505bfd67d9b0461e994a280e"), looks := false }, kinds := [], alts := [], laidByText := true, laidKinds := [.data, .pinned], laidTests := true, laidLooks := .later }
def VaryOneUptoCardSaid : Prop := Claim7.holds Tryd.pinned (.plain (OpenSpec.upto varyOneSpec)) varyOneUptoCard

/-- THE SECOND FORM's CARD OF 'icehouselaw09.VaryBlanks'. -/
def varyBlanksUptoCard : Claim7 := { stood := { row := varyBlanksUptoRow, standIns := [], harness := (true, "14150e2f99c4d77a69cf43e20a1013abe3af47d5505bfd67d9b0461e994a280e"), looks := false }, kinds := [], alts := [], laidByText := true, laidKinds := [.data, .pinned], laidTests := true, laidLooks := .later }
def VaryBlanksUptoCardSaid : Prop := Claim7.holds Tryd.pinned (.plain (OpenSpec.upto varyBlanksSpec)) varyBlanksUptoCard

/-- THE SECOND FORM's CARD OF 'icehouselaw09.VaryOrder'. -/
def varyOrderUptoCard : Claim7 := { stood := { row := varyOrderUptoRow, standIns := [], harness := (true, "14150e2f99c4d77a69cf43e20a1013abe3af47d5505bfd67d9b0461e994a280e"), looks := false }, kinds := [], alts := [], laidByText := true, laidKinds := [.data, .pinned], laidTests := true, laidLooks := .later }
def VaryOrderUptoCardSaid : Prop := Claim7.holds Tryd.pinned (.plain (OpenSpec.upto varyOrderSpec)) varyOrderUptoCard
end Rows
end Go.Proofs.YtelndkglimkfeaaDoor
