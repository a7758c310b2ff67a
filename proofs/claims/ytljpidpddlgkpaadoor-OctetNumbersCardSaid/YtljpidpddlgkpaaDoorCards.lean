/-
  DERIVED. GIVEN WITH THE SEED: THE CARDS: each row of YtljpidpddlgkpaaDoorRows.lean that lists a variable, with what it lists TIED to the program's text (the seventh form; the later family's looks); each row that meets fmt, with fmt's text TOLD by the authors' own Lean function (tested against real Go, not proved from fmt's source: count such statements apart). THE CARD IS WHAT COUNTS. Prove the row's statement (the work); the ties are given (YtljpidpddlgkpaaDoorTie.lean); close each card by the builder's one call (the guide's Derived/Test/ToyasCard.lean, 'card_holds'). Laid BY PROGRAM, IN A SANDBOX (cutbox-door.mjs). By AI agents, Wed Nov 11 2026. No macro, syntax, notation, axiom, sorry.
-/
import Derived.Test.YtljpidpddlgkpaaDoorRows
import GoSem.ClaimSeven
namespace Go.Proofs.YtljpidpddlgkpaaDoor
namespace Rows

/-- THE TIED CARD OF 'icehouselaw01.OctetKinds'. -/
def octetKindsCard : Claim7 := { stood := { row := octetKindsRow, standIns := [], harness := (true, "3f7475e620e9689aaff66109c9740153360d9ca636148b7d4a9152ce0cbf31d0"), looks := false }, kinds := [], alts := [], laidByText := true, laidKinds := [.data, .pinned], laidTests := true, laidLooks := .later }
def OctetKindsCardSaid : Prop := Claim7.holds Tryd.pinned (.plain (OpenSpec.ofChange octetKindsSpec)) octetKindsCard

/-- THE TIED CARD OF 'icehouselaw01.OctetQuotes'. -/
def octetQuotesCard : Claim7 := { stood := { row := octetQuotesRow, standIns := [], harness := (true, "3f7475e620e9689aaff66109c9740153360d9ca636148b7d4a9152ce0cbf31d0"), looks := false }, kinds := [], alts := [], laidByText := true, laidKinds := [.data, .pinned], laidTests := true, laidLooks := .later }
def OctetQuotesCardSaid : Prop := Claim7.holds Tryd.pinned (.plain (OpenSpec.ofChange octetQuotesSpec)) octetQuotesCard

/-- THE TIED CARD OF 'icehouselaw01.OctetSplits'. -/
def octetSplitsCard : Claim7 := { stood := { row := octetSplitsRow, standIns := [], harness := (true, "3f7475e620e9689aaff66109c9740153360d9ca636148b7d4a9152ce0cbf31d0"), looks := false }, kinds := [], alts := [], laidByText := true, laidKinds := [.data, .pinned], laidTests := true, laidLooks := .later }
def OctetSplitsCardSaid : Prop := Claim7.holds Tryd.pinned (.plain (OpenSpec.ofChange octetSplitsSpec)) octetSplitsCard

/-- THE TIED CARD OF 'icehouselaw01.OctetJoins'. -/
def octetJoinsCard : Claim7 := { stood := { row := octetJoinsRow, standIns := [], harness := (true, "3f7475e620e9689aaff66109c9740153360d9ca636148b7d4a9152ce0cbf31d0"), looks := false }, kinds := [], alts := [], laidByText := true, laidKinds := [.data, .pinned], laidTests := true, laidLooks := .later }
def OctetJoinsCardSaid : Prop := Claim7.holds Tryd.pinned (.plain (OpenSpec.ofChange octetJoinsSpec)) octetJoinsCard

/-- THE TIED CARD OF 'icehouselaw01.OctetNumbers'. -/
def octetNumbersCard : Claim7 := { stood := { row := octetNumbersRow, standIns := [], harness := (true, "3f7475e620e9689aaff66109c9740153360d9ca636148b7d4a9152ce0cbf31d0"), looks := false }, kinds := [], alts := [], laidByText := true, laidKinds := [.data, .data, .data, .data, .pinned], laidTests := true, laidLooks := .later }
def OctetNumbersCardSaid : Prop := Claim7.holds Tryd.pinned (.plain (OpenSpec.ofChange octetNumbersSpec)) octetNumbersCard

/-- THE TIED CARD OF 'icehouselaw01.OctetTrims'. -/
def octetTrimsCard : Claim7 := { stood := { row := octetTrimsRow, standIns := [], harness := (true, "3f7475e620e9689aaff66109c9740153360d9ca636148b7d4a9152ce0cbf31d0"), looks := false }, kinds := [], alts := [], laidByText := true, laidKinds := [.data, .pinned], laidTests := true, laidLooks := .later }
def OctetTrimsCardSaid : Prop := Claim7.holds Tryd.pinned (.plain (OpenSpec.ofChange octetTrimsSpec)) octetTrimsCard

/-- THE SECOND FORM's CARD OF 'icehouselaw01.OctetKinds'. -/
def octetKindsUptoCard : Claim7 := { stood := { row := octetKindsUptoRow, standIns := [], harness := (true, "3f7475e620e9689aaff66109c9740153360d9ca636148b7d4a9152ce0cbf31d0"), looks := false }, kinds := [], alts := [], laidByText := true, laidKinds := [.data, .pinned], laidTests := true, laidLooks := .later }
def OctetKindsUptoCardSaid : Prop := Claim7.holds Tryd.pinned (.plain (OpenSpec.upto octetKindsSpec)) octetKindsUptoCard

/-- THE SECOND FORM's CARD OF 'icehouselaw01.OctetQuotes'. -/
def octetQuotesUptoCard : Claim7 := { stood := { row := octetQuotesUptoRow, standIns := [], harness := (true, "3f7475e620e9689aaff66109c9740153360d9ca636148b7d4a9152ce0cbf31d0"), looks := false }, kinds := [], alts := [], laidByText := true, laidKinds := [.data, .pinned], laidTests := true, laidLooks := .later }
def OctetQuotesUptoCardSaid : Prop := Claim7.holds Tryd.pinned (.plain (OpenSpec.upto octetQuotesSpec)) octetQuotesUptoCard

/-- THE SECOND FORM's CARD OF 'icehouselaw01.OctetSplits'. -/
def octetSplitsUptoCard : Claim7 := { stood := { row := octetSplitsUptoRow, standIns := [], harness := (true, "3f7475e620e9689aaff66109c9740153360d9ca636148b7d4a9152ce0cbf31d0"), looks := false }, kinds := [], alts := [], laidByText := true, laidKinds := [.data, .pinned], laidTests := true, laidLooks := .later }
def OctetSplitsUptoCardSaid : Prop := Claim7.holds Tryd.pinned (.plain (OpenSpec.upto octetSplitsSpec)) octetSplitsUptoCard

/-- THE SECOND FORM's CARD OF 'icehouselaw01.OctetJoins'. -/
def octetJoinsUptoCard : Claim7 := { stood := { row := octetJoinsUptoRow, standIns := [], harness := (true, "3f7475e620e9689aaff66109c9740153360d9ca636148b7d4a9152ce0cbf31d0"), looks := false }, kinds := [], alts := [], laidByText := true, laidKinds := [.data, .pinned], laidTests := true, laidLooks := .later }
def OctetJoinsUptoCardSaid : Prop := Claim7.holds Tryd.pinned (.plain (OpenSpec.upto octetJoinsSpec)) octetJoinsUptoCard

/-- THE SECOND FORM's CARD OF 'icehouselaw01.OctetNumbers'. -/
def octetNumbersUptoCard : Claim7 := { stood := { row := octetNumbersUptoRow, standIns := [], harness := (true, "3f7475e620e9689aaff66109c9740153360d9ca636148b7d4a9152ce0cbf31d0"), looks := false }, kinds := [], alts := [], laidByText := true, laidKinds := [.data, .data, .data, .data, .pinned], laidTests := true, laidLooks := .later }
def OctetNumbersUptoCardSaid : Prop := Claim7.holds Tryd.pinned (.plain (OpenSpec.upto octetNumbersSpec)) octetNumbersUptoCard

/-- THE SECOND FORM's CARD OF 'icehouselaw01.OctetTrims'. -/
def octetTrimsUptoCard : Claim7 := { stood := { row := octetTrimsUptoRow, standIns := [], harness := (true, "3f7475e620e9689aaff66109c9740153360d9ca636148b7d4a9152ce0cbf31d0"), looks := false }, kinds := [], alts := [], laidByText := true, laidKinds := [.data, .pinned], laidTests := true, laidLooks := .later }
def OctetTrimsUptoCardSaid : Prop := Claim7.holds Tryd.pinned (.plain (OpenSpec.upto octetTrimsSpec)) octetTrimsUptoCard
end Rows
end Go.Proofs.YtljpidpddlgkpaaDoor
