/-
  No cell of these rows narrows 'for every input' (looked for: loops, veiled, ifaces, maps, wideKeys, modest, calm, conditions, laid).
  DERIVED. THE GIVEN ROWS OF THIS SEAT. 4 by the template 'for every input the law returns true; each argument reads behind the call as it read before'; 0 by the template 'total and deterministic' (their statements: YtgfgafondiipoaaTotals.lean).
  GIVEN WITH THE SEED: the statements are not yours to turn. If you find one false, say at which input.
  Laid BY PROGRAM, IN A SANDBOX (cutbox-rows.mjs): the forced cells as the released guide's own fill.sh prints them over the translation c0f83ea2a08e2203… (all of the seat's roots in one cut). By AI agents, Wed Nov 11 2026. No macro, syntax, notation, axiom, sorry.
-/
import Derived.Test.YtgfgafondiipoaaChecked
import GoSem.Claim
import GoSem.ClaimJoined
import GoSem.ClaimMapViews
import Derived.JoinedTies
import Derived.KernelRfl
namespace Go.Proofs.Ytgfgafondiipoaa
/- THE CELL 'sum', in the pinned program and in every row, IS THE sha256 OF THE DUMP (.gsa) THAT YtgfgafondiipoaaProg.lean LOADS. Nothing in Lean hashes anything: it is a label: what it is worth is what the hold of that sum in a sandbox is worth. -/
noncomputable def Try.pinned : Pinned := { name := "ytgfgafondiipoaa", sum := "c0f83ea2a08e2203ea8686ea594a472b21a45ce45af5c646773ecd9b46df4755", checked := Try.checked }
namespace Rows
def none {H : Type} : Left H := { results := [], args := [] }

/-- 'icehouselaw16.SpaceActs': WHATEVER THE INPUT: true; the input reads as it did. -/
def spaceActsSpec : ChangeSpec := { name := "spaceActs", fn := fun _ => fun
  | [d1, d2] => { results := [.lit (.bool true)], args := [d1, d2] }
  | _ => none }
def spaceActsRow : OpenClaim := { program := "ytgfgafondiipoaa", sum := "c0f83ea2a08e2203ea8686ea594a472b21a45ce45af5c646773ecd9b46df4755", func := "icehouse/icehouselaw16.SpaceActs", spec := "spaceActs", unfollowed := true, recurses := true, apart := false }
def SpaceActsSaid : Prop := spaceActsRow.holds Try.pinned (OpenSpec.ofChange spaceActsSpec)

/-- ITS FALSE NEIGHBOUR: 'it returns false'. Refute it at one input. -/
def spaceActsWrong : ChangeSpec := { name := "spaceActs", fn := fun _ => fun
  | [d1, d2] => { results := [.lit (.bool false)], args := [d1, d2] }
  | _ => none }
def SpaceActsWrongFalsely : Prop := spaceActsRow.holds Try.pinned (OpenSpec.ofChange spaceActsWrong)

/-- 'icehouselaw16.SpaceBack': WHATEVER THE INPUT: true; the input reads as it did. -/
def spaceBackSpec : ChangeSpec := { name := "spaceBack", fn := fun _ => fun
  | [d1, d2, d3] => { results := [.lit (.bool true)], args := [d1, d2, d3] }
  | _ => none }
def spaceBackRow : OpenClaim := { program := "ytgfgafondiipoaa", sum := "c0f83ea2a08e2203ea8686ea594a472b21a45ce45af5c646773ecd9b46df4755", func := "icehouse/icehouselaw16.SpaceBack", spec := "spaceBack", unfollowed := true, recurses := true, apart := false }
def SpaceBackSaid : Prop := spaceBackRow.holds Try.pinned (OpenSpec.ofChange spaceBackSpec)

/-- ITS FALSE NEIGHBOUR: 'it returns false'. Refute it at one input. -/
def spaceBackWrong : ChangeSpec := { name := "spaceBack", fn := fun _ => fun
  | [d1, d2, d3] => { results := [.lit (.bool false)], args := [d1, d2, d3] }
  | _ => none }
def SpaceBackWrongFalsely : Prop := spaceBackRow.holds Try.pinned (OpenSpec.ofChange spaceBackWrong)

/-- 'icehouselaw16.SpaceWaits': WHATEVER THE INPUT: true; the input reads as it did. -/
def spaceWaitsSpec : ChangeSpec := { name := "spaceWaits", fn := fun _ => fun
  | [d1, d2, d3] => { results := [.lit (.bool true)], args := [d1, d2, d3] }
  | _ => none }
def spaceWaitsRow : OpenClaim := { program := "ytgfgafondiipoaa", sum := "c0f83ea2a08e2203ea8686ea594a472b21a45ce45af5c646773ecd9b46df4755", func := "icehouse/icehouselaw16.SpaceWaits", spec := "spaceWaits", unfollowed := true, recurses := true, apart := false }
def SpaceWaitsSaid : Prop := spaceWaitsRow.holds Try.pinned (OpenSpec.ofChange spaceWaitsSpec)

/-- ITS FALSE NEIGHBOUR: 'it returns false'. Refute it at one input. -/
def spaceWaitsWrong : ChangeSpec := { name := "spaceWaits", fn := fun _ => fun
  | [d1, d2, d3] => { results := [.lit (.bool false)], args := [d1, d2, d3] }
  | _ => none }
def SpaceWaitsWrongFalsely : Prop := spaceWaitsRow.holds Try.pinned (OpenSpec.ofChange spaceWaitsWrong)

/-- 'icehouselaw16.SpaceFirst': WHATEVER THE INPUT: true; the input reads as it did. -/
def spaceFirstSpec : ChangeSpec := { name := "spaceFirst", fn := fun _ => fun
  | [d] => { results := [.lit (.bool true)], args := [d] }
  | _ => none }
def spaceFirstRow : OpenClaim := { program := "ytgfgafondiipoaa", sum := "c0f83ea2a08e2203ea8686ea594a472b21a45ce45af5c646773ecd9b46df4755", func := "icehouse/icehouselaw16.SpaceFirst", spec := "spaceFirst", unfollowed := true, recurses := true, apart := false }
def SpaceFirstSaid : Prop := spaceFirstRow.holds Try.pinned (OpenSpec.ofChange spaceFirstSpec)

/-- ITS FALSE NEIGHBOUR: 'it returns false'. Refute it at one input. -/
def spaceFirstWrong : ChangeSpec := { name := "spaceFirst", fn := fun _ => fun
  | [d] => { results := [.lit (.bool false)], args := [d] }
  | _ => none }
def SpaceFirstWrongFalsely : Prop := spaceFirstRow.holds Try.pinned (OpenSpec.ofChange spaceFirstWrong)

/- THE SECOND FORM. 'bulk': how many values and letters a reading holds, each counted each time it is reached (what is shared counts as often as it is met; a slice's spare places count too). A statement '..UptoSaid' is the law's where the arguments, and the package variables that the reading takes, are together of bulk at most 1048576: NARROWER than '..Said'. Prove '..Said' where nothing that the law and all that it calls make is longer than what came in: it says more and counts as full. Else prove '..UptoSaid'. A law counts once. -/
mutual
def uptoBulk {H : Type} : DataW H → Nat
  | .lit (.string bytes) => bytes.length + 1
  | .lit _ => 1
  | .nil => 1
  | .ptr d => uptoBulk d + 1
  | .slice elems spare => uptoBulkAll elems + uptoBulkAll spare + 1
  | .agg parts => uptoBulkAll parts + 1
  | .iface _ d => uptoBulk d + 1
  | .map entries => uptoBulkEntries entries + 1
  | .held _ => 1
def uptoBulkAll {H : Type} : List (DataW H) → Nat
  | [] => 0
  | d :: r => uptoBulk d + uptoBulkAll r
def uptoBulkEntries {H : Type} : List (Lit × DataW H) → Nat
  | [] => 0
  | x :: r => uptoBulkEntry x + uptoBulkEntries r
def uptoBulkEntry {H : Type} : Lit × DataW H → Nat
  | (.string bytes, d) => bytes.length + uptoBulk d + 1
  | (_, d) => uptoBulk d + 1
 end
def uptoSmall : (H : Type) → List (DataW H) → Bool := fun _ ds => decide (uptoBulkAll ds ≤ 1048576)
def OpenSpec.upto (s : _root_.Go.ChangeSpec) : _root_.Go.OpenSpec := { _root_.Go.OpenSpec.ofChange s with cond := some uptoSmall }

/-- 'icehouselaw16.SpaceActs', WHERE WHAT IT READS IS OF BULK AT MOST 1048576: true; the input reads as it did. -/
def spaceActsUptoRow : OpenClaim := { program := "ytgfgafondiipoaa", sum := "c0f83ea2a08e2203ea8686ea594a472b21a45ce45af5c646773ecd9b46df4755", func := "icehouse/icehouselaw16.SpaceActs", spec := "spaceActs", unfollowed := true, recurses := true, apart := false, narrowed := true }
def SpaceActsUptoSaid : Prop := spaceActsUptoRow.holds Try.pinned (OpenSpec.upto spaceActsSpec)

/-- 'icehouselaw16.SpaceBack', WHERE WHAT IT READS IS OF BULK AT MOST 1048576: true; the input reads as it did. -/
def spaceBackUptoRow : OpenClaim := { program := "ytgfgafondiipoaa", sum := "c0f83ea2a08e2203ea8686ea594a472b21a45ce45af5c646773ecd9b46df4755", func := "icehouse/icehouselaw16.SpaceBack", spec := "spaceBack", unfollowed := true, recurses := true, apart := false, narrowed := true }
def SpaceBackUptoSaid : Prop := spaceBackUptoRow.holds Try.pinned (OpenSpec.upto spaceBackSpec)

/-- 'icehouselaw16.SpaceWaits', WHERE WHAT IT READS IS OF BULK AT MOST 1048576: true; the input reads as it did. -/
def spaceWaitsUptoRow : OpenClaim := { program := "ytgfgafondiipoaa", sum := "c0f83ea2a08e2203ea8686ea594a472b21a45ce45af5c646773ecd9b46df4755", func := "icehouse/icehouselaw16.SpaceWaits", spec := "spaceWaits", unfollowed := true, recurses := true, apart := false, narrowed := true }
def SpaceWaitsUptoSaid : Prop := spaceWaitsUptoRow.holds Try.pinned (OpenSpec.upto spaceWaitsSpec)

/-- 'icehouselaw16.SpaceFirst', WHERE WHAT IT READS IS OF BULK AT MOST 1048576: true; the input reads as it did. -/
def spaceFirstUptoRow : OpenClaim := { program := "ytgfgafondiipoaa", sum := "c0f83ea2a08e2203ea8686ea594a472b21a45ce45af5c646773ecd9b46df4755", func := "icehouse/icehouselaw16.SpaceFirst", spec := "spaceFirst", unfollowed := true, recurses := true, apart := false, narrowed := true }
def SpaceFirstUptoSaid : Prop := spaceFirstUptoRow.holds Try.pinned (OpenSpec.upto spaceFirstSpec)

end Rows
end Go.Proofs.Ytgfgafondiipoaa
