/-
  NARROWER THAN 'FOR EVERY INPUT', by the rows' own cells (each row's printed sentence says how): PagePacks: laid · PageActs: laid · PageCuts: laid · PageApart: laid.
  DERIVED. THE GIVEN ROWS OF THIS SEAT. 4 by the template 'for every input the law returns true; each argument reads behind the call as it read before'; 0 by the template 'total and deterministic' (their statements: YtlipgphmhkjnpaaDoorTotals.lean).
  GIVEN WITH THE SEED: the statements are not yours to turn. If you find one false, say at which input.
  Laid BY PROGRAM, IN A SANDBOX (cutbox-rows.mjs): the forced cells as the released guide's own fill.sh prints them over the translation 441fd90341020c2e… (all of the seat's roots in one cut). By AI agents, Wed Nov 11 2026. No macro, syntax, notation, axiom, sorry.
-/
import Derived.Test.YtlipgphmhkjnpaaDoorChecked
import GoSem.Claim
import GoSem.ClaimJoined
import GoSem.ClaimMapViews
import Derived.JoinedTies
import Derived.KernelRfl
namespace Go.Proofs.YtlipgphmhkjnpaaDoor
/- THE CELL 'sum', in the pinned program and in every row, IS THE sha256 OF THE DUMP (.gsa) THAT YtlipgphmhkjnpaaDoorProg.lean LOADS. Nothing in Lean hashes anything: it is a label: what it is worth is what the hold of that sum in a sandbox is worth. -/
noncomputable def Tryd.pinned : Pinned := { name := "ytlipgphmhkjnpaadoor", sum := "441fd90341020c2e49568e5a6febc84a9d28a3bef3c3c836b7cbaaaade913ec6", checked := Tryd.checked }
namespace Rows
def none {H : Type} : Left H := { results := [], args := [] }

/- WHAT THE LISTED PACKAGE-LEVEL VARIABLES READ AS WHEN THE CALL BEGINS. Each datum BY PROGRAM (the guide's laid-datum.mjs) off the statement by which the dump's own 'gosem.cut.vars' lays the variable. In a bare row this is a premise. The card (YtlipgphmhkjnpaaDoorCards.lean) ties it to the program's text. -/
def laid_icehouse_crc_leaving {H : Type} : DataW H := .agg [.lit (.int .u32 0), .lit (.int .u32 498536548), .lit (.int .u32 997073096), .lit (.int .u32 651767980), .lit (.int .u32 1994146192), .lit (.int .u32 1802195444), .lit (.int .u32 1303535960), .lit (.int .u32 1342533948), .lit (.int .u32 3988292384), .lit (.int .u32 4027552580), .lit (.int .u32 3604390888), .lit (.int .u32 3412177804), .lit (.int .u32 2607071920), .lit (.int .u32 2262029012), .lit (.int .u32 2685067896), .lit (.int .u32 3183342108)]

/-- 'icehouselaw14.PagePacks': WHATEVER THE INPUT: true; the input reads as it did. -/
def pagePacksSpec : ChangeSpec := { name := "pagePacks", fn := fun _ => fun
  | [d1, d2, d3] => { results := [.lit (.bool true)], args := [d1, d2, d3] }
  | _ => none }
def pagePacksRow : OpenClaim := { program := "ytlipgphmhkjnpaadoor", sum := "441fd90341020c2e49568e5a6febc84a9d28a3bef3c3c836b7cbaaaade913ec6", func := "icehouse/icehouselaw14.PagePacks", spec := "pagePacks", unfollowed := true, recurses := true, named := ["icehouse/crc.leaving"], apart := false, laid := [("icehouse/crc.leaving", laid_icehouse_crc_leaving)] }
def PagePacksSaid : Prop := pagePacksRow.holds Tryd.pinned (OpenSpec.ofChange pagePacksSpec)

/-- ITS FALSE NEIGHBOUR: 'it returns false'. Refute it at one input. -/
def pagePacksWrong : ChangeSpec := { name := "pagePacks", fn := fun _ => fun
  | [d1, d2, d3] => { results := [.lit (.bool false)], args := [d1, d2, d3] }
  | _ => none }
def PagePacksWrongFalsely : Prop := pagePacksRow.holds Tryd.pinned (OpenSpec.ofChange pagePacksWrong)

/-- 'icehouselaw14.PageActs': WHATEVER THE INPUT: true; the input reads as it did. -/
def pageActsSpec : ChangeSpec := { name := "pageActs", fn := fun _ => fun
  | [d1, d2] => { results := [.lit (.bool true)], args := [d1, d2] }
  | _ => none }
def pageActsRow : OpenClaim := { program := "ytlipgphmhkjnpaadoor", sum := "441fd90341020c2e49568e5a6febc84a9d28a3bef3c3c836b7cbaaaade913ec6", func := "icehouse/icehouselaw14.PageActs", spec := "pageActs", unfollowed := true, recurses := true, named := ["icehouse/crc.leaving"], apart := false, laid := [("icehouse/crc.leaving", laid_icehouse_crc_leaving)] }
def PageActsSaid : Prop := pageActsRow.holds Tryd.pinned (OpenSpec.ofChange pageActsSpec)

/-- ITS FALSE NEIGHBOUR: 'it returns false'. Refute it at one input. -/
def pageActsWrong : ChangeSpec := { name := "pageActs", fn := fun _ => fun
  | [d1, d2] => { results := [.lit (.bool false)], args := [d1, d2] }
  | _ => none }
def PageActsWrongFalsely : Prop := pageActsRow.holds Tryd.pinned (OpenSpec.ofChange pageActsWrong)

/-- 'icehouselaw14.PageCuts': WHATEVER THE INPUT: true; the input reads as it did. -/
def pageCutsSpec : ChangeSpec := { name := "pageCuts", fn := fun _ => fun
  | [d] => { results := [.lit (.bool true)], args := [d] }
  | _ => none }
def pageCutsRow : OpenClaim := { program := "ytlipgphmhkjnpaadoor", sum := "441fd90341020c2e49568e5a6febc84a9d28a3bef3c3c836b7cbaaaade913ec6", func := "icehouse/icehouselaw14.PageCuts", spec := "pageCuts", unfollowed := true, recurses := true, named := ["icehouse/crc.leaving"], apart := false, laid := [("icehouse/crc.leaving", laid_icehouse_crc_leaving)] }
def PageCutsSaid : Prop := pageCutsRow.holds Tryd.pinned (OpenSpec.ofChange pageCutsSpec)

/-- ITS FALSE NEIGHBOUR: 'it returns false'. Refute it at one input. -/
def pageCutsWrong : ChangeSpec := { name := "pageCuts", fn := fun _ => fun
  | [d] => { results := [.lit (.bool false)], args := [d] }
  | _ => none }
def PageCutsWrongFalsely : Prop := pageCutsRow.holds Tryd.pinned (OpenSpec.ofChange pageCutsWrong)

/-- 'icehouselaw14.PageApart': WHATEVER THE INPUT: true; the input reads as it did. -/
def pageApartSpec : ChangeSpec := { name := "pageApart", fn := fun _ => fun
  | [d1, d2, d3] => { results := [.lit (.bool true)], args := [d1, d2, d3] }
  | _ => none }
def pageApartRow : OpenClaim := { program := "ytlipgphmhkjnpaadoor", sum := "441fd90341020c2e49568e5a6febc84a9d28a3bef3c3c836b7cbaaaade913ec6", func := "icehouse/icehouselaw14.PageApart", spec := "pageApart", named := ["icehouse/crc.leaving"], apart := false, laid := [("icehouse/crc.leaving", laid_icehouse_crc_leaving)] }
def PageApartSaid : Prop := pageApartRow.holds Tryd.pinned (OpenSpec.ofChange pageApartSpec)

/-- ITS FALSE NEIGHBOUR: 'it returns false'. Refute it at one input. -/
def pageApartWrong : ChangeSpec := { name := "pageApart", fn := fun _ => fun
  | [d1, d2, d3] => { results := [.lit (.bool false)], args := [d1, d2, d3] }
  | _ => none }
def PageApartWrongFalsely : Prop := pageApartRow.holds Tryd.pinned (OpenSpec.ofChange pageApartWrong)

/- THE SECOND FORM. 'bulk': how many values and letters a reading holds, each counted each time it is reached (what is shared counts as often as it is met; a slice's spare places count too). A statement '..UptoSaid' is the law's where the arguments, and the package variables that the reading takes, are together of bulk at most 1048576: NARROWER than '..Said'. Prove '..Said' where nothing that the law and all that it calls make is longer than what came in: it says more and counts as full. Else prove '..UptoSaid'. A law counts once. -/
mutual
def uptoBulk {H : Type} : DataW H → Nat
  | .lit (.string bytes) => bytes.length + 1
  | .lit _ => 1
  | .nil => 1
  | .ptr d => uptoBulk d + 1
  | .slice elems spare => uptoBulkAll elems + uptoBulkAll spare + 1
  | .agg parts => uptoBulkAll parts + 1
  | .iface _ d => uptoBulk d + 1
  | .map entries => uptoBulkEntries entries + 1
  | .held _ => 1
def uptoBulkAll {H : Type} : List (DataW H) → Nat
  | [] => 0
  | d :: r => uptoBulk d + uptoBulkAll r
def uptoBulkEntries {H : Type} : List (Lit × DataW H) → Nat
  | [] => 0
  | x :: r => uptoBulkEntry x + uptoBulkEntries r
def uptoBulkEntry {H : Type} : Lit × DataW H → Nat
  | (.string bytes, d) => bytes.length + uptoBulk d + 1
  | (_, d) => uptoBulk d + 1
 end
def uptoSmall : (H : Type) → List (DataW H) → Bool := fun _ ds => decide (uptoBulkAll ds ≤ 1048576)
def OpenSpec.upto (s : _root_.Go.ChangeSpec) : _root_.Go.OpenSpec := { _root_.Go.OpenSpec.ofChange s with cond := some uptoSmall }

/-- 'icehouselaw14.PagePacks', WHERE WHAT IT READS IS OF BULK AT MOST 1048576: true; the input reads as it did. -/
def pagePacksUptoRow : OpenClaim := { program := "ytlipgphmhkjnpaadoor", sum := "441fd90341020c2e49568e5a6febc84a9d28a3bef3c3c836b7cbaaaade913ec6", func := "icehouse/icehouselaw14.PagePacks", spec := "pagePacks", unfollowed := true, recurses := true, named := ["icehouse/crc.leaving"], apart := false, laid := [("icehouse/crc.leaving", laid_icehouse_crc_leaving)], narrowed := true }
def PagePacksUptoSaid : Prop := pagePacksUptoRow.holds Tryd.pinned (OpenSpec.upto pagePacksSpec)

/-- 'icehouselaw14.PageActs', WHERE WHAT IT READS IS OF BULK AT MOST 1048576: true; the input reads as it did. -/
def pageActsUptoRow : OpenClaim := { program := "ytlipgphmhkjnpaadoor", sum := "441fd90341020c2e49568e5a6febc84a9d28a3bef3c3c836b7cbaaaade913ec6", func := "icehouse/icehouselaw14.PageActs", spec := "pageActs", unfollowed := true, recurses := true, named := ["icehouse/crc.leaving"], apart := false, laid := [("icehouse/crc.leaving", laid_icehouse_crc_leaving)], narrowed := true }
def PageActsUptoSaid : Prop := pageActsUptoRow.holds Tryd.pinned (OpenSpec.upto pageActsSpec)

/-- 'icehouselaw14.PageCuts', WHERE WHAT IT READS IS OF BULK AT MOST 1048576: true; the input reads as it did. -/
def pageCutsUptoRow : OpenClaim := { program := "ytlipgphmhkjnpaadoor", sum := "441fd90341020c2e49568e5a6febc84a9d28a3bef3c3c836b7cbaaaade913ec6", func := "icehouse/icehouselaw14.PageCuts", spec := "pageCuts", unfollowed := true, recurses := true, named := ["icehouse/crc.leaving"], apart := false, laid := [("icehouse/crc.leaving", laid_icehouse_crc_leaving)], narrowed := true }
def PageCutsUptoSaid : Prop := pageCutsUptoRow.holds Tryd.pinned (OpenSpec.upto pageCutsSpec)

/-- 'icehouselaw14.PageApart', WHERE WHAT IT READS IS OF BULK AT MOST 1048576: true; the input reads as it did. -/
def pageApartUptoRow : OpenClaim := { program := "ytlipgphmhkjnpaadoor", sum := "441fd90341020c2e49568e5a6febc84a9d28a3bef3c3c836b7cbaaaade913ec6", func := "icehouse/icehouselaw14.PageApart", spec := "pageApart", named := ["icehouse/crc.leaving"], apart := false, laid := [("icehouse/crc.leaving", laid_icehouse_crc_leaving)], narrowed := true }
def PageApartUptoSaid : Prop := pageApartUptoRow.holds Tryd.pinned (OpenSpec.upto pageApartSpec)

end Rows
end Go.Proofs.YtlipgphmhkjnpaaDoor
