/-
  DERIVED. GIVEN WITH THE SEED: THE CARDS: each row of YtlipgphmhkjnpaaDoorRows.lean that lists a variable, with what it lists TIED to the program's text (the seventh form; the later family's looks); each row that meets fmt, with fmt's text TOLD by the authors' own Lean function (tested against real Go, not proved from fmt's source: count such statements apart). THE CARD IS WHAT COUNTS. Prove the row's statement (the work); the ties are given (YtlipgphmhkjnpaaDoorTie.lean); close each card by the builder's one call (the guide's Derived/Test/ToyasCard.lean, 'card_holds'). Laid BY PROGRAM, IN A SANDBOX (cutbox-door.mjs). By AI agents, Wed Nov 11 2026. No macro, syntax, notation, axiom, sorry.
-/
import Derived.Test.YtlipgphmhkjnpaaDoorRows
import GoSem.ClaimSeven
namespace Go.Proofs.YtlipgphmhkjnpaaDoor
namespace Rows

/-- THE TIED CARD OF 'icehouselaw14.PagePacks'. -/
def pagePacksCard : Claim7 := { stood := { row := pagePacksRow, standIns := [], harness := (true, "bcbb7a5ea89b21aaab075acf012b566301f0bec7056299649e015c68cb1522d0"), looks := false }, kinds := [], alts := [], laidByText := true, laidKinds := [.data], laidTests := true, laidLooks := .later }
def PagePacksCardSaid : Prop := Claim7.holds Tryd.pinned (.plain (OpenSpec.ofChange pagePacksSpec)) pagePacksCard

/-- THE TIED CARD OF 'icehouselaw14.PageActs'. -/
def pageActsCard : Claim7 := { stood := { row := pageActsRow, standIns := [], harness := (true, "bcbb7a5ea89b21aaab075acf012b566301f0bec7056299649e015c68cb1522d0"), looks := false }, kinds := [], alts := [], laidByText := true, laidKinds := [.data], laidTests := true, laidLooks := .later }
def PageActsCardSaid : Prop := Claim7.holds Tryd.pinned (.plain (OpenSpec.ofChange pageActsSpec)) pageActsCard

/-- THE TIED CARD OF 'icehouselaw14.PageCuts'. -/
def pageCutsCard : Claim7 := { stood := { row := pageCutsRow, standIns := [], harness := (true, "bcbb7a5ea89b21aaab075acf012b566301f0bec7056299649e015c68cb1522d0"), looks := false }, kinds := [], alts := [], laidByText := true, laidKinds := [.data], laidTests := true, laidLooks := .later }
def PageCutsCardSaid : Prop := Claim7.holds Tryd.pinned (.plain (OpenSpec.ofChange pageCutsSpec)) pageCutsCard

/-- THE TIED CARD OF 'icehouselaw14.PageApart'. -/
def pageApartCard : Claim7 := { stood := { row := pageApartRow, standIns := [], harness := (true, "bcbb7a5ea89b21aaab075acf012b566301f0bec7056299649e015c68cb1522d0"), looks := false }, kinds := [], alts := [], laidByText := true, laidKinds := [.data], laidTests := true, laidLooks := .later }
def PageApartCardSaid : Prop := Claim7.holds Tryd.pinned (.plain (OpenSpec.ofChange pageApartSpec)) pageApartCard

/-- THE SECOND FORM's CARD OF 'icehouselaw14.PagePacks'. -/
def pagePacksUptoCard : Claim7 := { stood := { row := pagePacksUptoRow, standIns := [], harness := (true, "bcbb7a5ea89b21aaab075acf012b566301f0bec7056299649e015c68cb1522d0"), looks := false }, kinds := [], alts := [], laidByText := true, laidKinds := [.data], laidTests := true, laidLooks := .later }
def PagePacksUptoCardSaid : Prop := Claim7.holds Tryd.pinned (.plain (OpenSpec.upto pagePacksSpec)) pagePacksUptoCard

/-- THE SECOND FORM's CARD OF 'icehouselaw14.PageActs'. -/
def pageActsUptoCard : Claim7 := { stood := { row := pageActsUptoRow, standIns := [], harness := (true, "bcbb7a5ea89b21aaab075acf012b566301f0bec7056299649e015c68cb1522d0"), looks := false }, kinds := [], alts := [], laidByText := true, laidKinds := [.data], laidTests := true, laidLooks := .later }
def PageActsUptoCardSaid : Prop := Claim7.holds Tryd.pinned (.plain (OpenSpec.upto pageActsSpec)) pageActsUptoCard

/-- THE SECOND FORM's CARD OF 'icehouselaw14.PageCuts'. -/
def pageCutsUptoCard : Claim7 := { stood := { row := pageCutsUptoRow, standIns := [], harness := (true, "bcbb7a5ea89b21aaab075acf012b566301f0bec7056299649e015c68cb1522d0"), looks := false }, kinds := [], alts := [], laidByText := true, laidKinds := [.data], laidTests := true, laidLooks := .later }
def PageCutsUptoCardSaid : Prop := Claim7.holds Tryd.pinned (.plain (OpenSpec.upto pageCutsSpec)) pageCutsUptoCard

/-- THE SECOND FORM's CARD OF 'icehouselaw14.PageApart'. -/
def pageApartUptoCard : Claim7 := { stood := { row := pageApartUptoRow, standIns := [], harness := (true, "bcbb7a5ea89b21aaab075acf012b566301f0bec7056299649e015c68cb1522d0"), looks := false }, kinds := [], alts := [], laidByText := true, laidKinds := [.data], laidTests := true, laidLooks := .later }
def PageApartUptoCardSaid : Prop := Claim7.holds Tryd.pinned (.plain (OpenSpec.upto pageApartSpec)) pageApartUptoCard
end Rows
end Go.Proofs.YtlipgphmhkjnpaaDoor
