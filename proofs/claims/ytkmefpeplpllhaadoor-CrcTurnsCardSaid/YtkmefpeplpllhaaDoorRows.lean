/-
  NARROWER THAN 'FOR EVERY INPUT', by the rows' own cells (each row's printed sentence says how): CrcSums: laid · CrcFrames: laid · CrcTurns: laid · CrcAdds: laid · CrcGrows: laid.
  DERIVED. THE GIVEN ROWS OF THIS SEAT. 5 by the template 'for every input the law returns true; each argument reads behind the call as it read before'; 0 by the template 'total and deterministic' (their statements: YtkmefpeplpllhaaDoorTotals.lean).
  GIVEN WITH THE SEED: the statements are not yours to turn. If you find one false, say at which input.
  Laid BY PROGRAM, IN A SANDBOX (cutbox-rows.mjs): the forced cells as the released guide's own fill.sh prints them over the translation 9e366a8e455440fb… (all of the seat's roots in one cut). By AI agents, Wed Nov 11 2026. No macro, syntax, notation, axiom, sorry.
-/
import Derived.Test.YtkmefpeplpllhaaDoorChecked
import GoSem.Claim
import GoSem.ClaimJoined
import GoSem.ClaimMapViews
import Derived.JoinedTies
import Derived.KernelRfl
namespace Go.Proofs.YtkmefpeplpllhaaDoor
/- THE CELL 'sum', in the pinned program and in every row, IS THE sha256 OF THE DUMP (.gsa) THAT YtkmefpeplpllhaaDoorProg.lean LOADS. Nothing in Lean hashes anything: it is a label: what it is worth is what the hold of that sum in a sandbox is worth. -/
noncomputable def Tryd.pinned : Pinned := { name := "ytkmefpeplpllhaadoor", sum := "9e366a8e455440fb25a6145d18210c63c195a984b8a966ddfab8d82ab36b9a33", checked := Tryd.checked }
namespace Rows
def none {H : Type} : Left H := { results := [], args := [] }

/- WHAT THE LISTED PACKAGE-LEVEL VARIABLES READ AS WHEN THE CALL BEGINS. Each datum BY PROGRAM (the guide's laid-datum.mjs) off the statement by which the dump's own 'gosem.cut.vars' lays the variable. In a bare row this is a premise. The card (YtkmefpeplpllhaaDoorCards.lean) ties it to the program's text. -/
def laid_icehouse_crc_leaving {H : Type} : DataW H := .agg [.lit (.int .u32 0), .lit (.int .u32 498536548), .lit (.int .u32 997073096), .lit (.int .u32 651767980), .lit (.int .u32 1994146192), .lit (.int .u32 1802195444), .lit (.int .u32 1303535960), .lit (.int .u32 1342533948), .lit (.int .u32 3988292384), .lit (.int .u32 4027552580), .lit (.int .u32 3604390888), .lit (.int .u32 3412177804), .lit (.int .u32 2607071920), .lit (.int .u32 2262029012), .lit (.int .u32 2685067896), .lit (.int .u32 3183342108)]

/-- 'icehouselaw12.CrcSums': WHATEVER THE INPUT: true; the input reads as it did. -/
def crcSumsSpec : ChangeSpec := { name := "crcSums", fn := fun _ => fun
  | [d1, d2] => { results := [.lit (.bool true)], args := [d1, d2] }
  | _ => none }
def crcSumsRow : OpenClaim := { program := "ytkmefpeplpllhaadoor", sum := "9e366a8e455440fb25a6145d18210c63c195a984b8a966ddfab8d82ab36b9a33", func := "icehouse/icehouselaw12.CrcSums", spec := "crcSums", named := ["icehouse/crc.leaving"], apart := false, laid := [("icehouse/crc.leaving", laid_icehouse_crc_leaving)] }
def CrcSumsSaid : Prop := crcSumsRow.holds Tryd.pinned (OpenSpec.ofChange crcSumsSpec)

/-- ITS FALSE NEIGHBOUR: 'it returns false'. Refute it at one input. -/
def crcSumsWrong : ChangeSpec := { name := "crcSums", fn := fun _ => fun
  | [d1, d2] => { results := [.lit (.bool false)], args := [d1, d2] }
  | _ => none }
def CrcSumsWrongFalsely : Prop := crcSumsRow.holds Tryd.pinned (OpenSpec.ofChange crcSumsWrong)

/-- 'icehouselaw12.CrcFrames': WHATEVER THE INPUT: true; the input reads as it did. -/
def crcFramesSpec : ChangeSpec := { name := "crcFrames", fn := fun _ => fun
  | [d1, d2] => { results := [.lit (.bool true)], args := [d1, d2] }
  | _ => none }
def crcFramesRow : OpenClaim := { program := "ytkmefpeplpllhaadoor", sum := "9e366a8e455440fb25a6145d18210c63c195a984b8a966ddfab8d82ab36b9a33", func := "icehouse/icehouselaw12.CrcFrames", spec := "crcFrames", named := ["icehouse/crc.leaving"], apart := false, laid := [("icehouse/crc.leaving", laid_icehouse_crc_leaving)] }
def CrcFramesSaid : Prop := crcFramesRow.holds Tryd.pinned (OpenSpec.ofChange crcFramesSpec)

/-- ITS FALSE NEIGHBOUR: 'it returns false'. Refute it at one input. -/
def crcFramesWrong : ChangeSpec := { name := "crcFrames", fn := fun _ => fun
  | [d1, d2] => { results := [.lit (.bool false)], args := [d1, d2] }
  | _ => none }
def CrcFramesWrongFalsely : Prop := crcFramesRow.holds Tryd.pinned (OpenSpec.ofChange crcFramesWrong)

/-- 'icehouselaw12.CrcTurns': WHATEVER THE INPUT: true; the input reads as it did. -/
def crcTurnsSpec : ChangeSpec := { name := "crcTurns", fn := fun _ => fun
  | [d1, d2, d3] => { results := [.lit (.bool true)], args := [d1, d2, d3] }
  | _ => none }
def crcTurnsRow : OpenClaim := { program := "ytkmefpeplpllhaadoor", sum := "9e366a8e455440fb25a6145d18210c63c195a984b8a966ddfab8d82ab36b9a33", func := "icehouse/icehouselaw12.CrcTurns", spec := "crcTurns", named := ["icehouse/crc.leaving"], apart := false, laid := [("icehouse/crc.leaving", laid_icehouse_crc_leaving)] }
def CrcTurnsSaid : Prop := crcTurnsRow.holds Tryd.pinned (OpenSpec.ofChange crcTurnsSpec)

/-- ITS FALSE NEIGHBOUR: 'it returns false'. Refute it at one input. -/
def crcTurnsWrong : ChangeSpec := { name := "crcTurns", fn := fun _ => fun
  | [d1, d2, d3] => { results := [.lit (.bool false)], args := [d1, d2, d3] }
  | _ => none }
def CrcTurnsWrongFalsely : Prop := crcTurnsRow.holds Tryd.pinned (OpenSpec.ofChange crcTurnsWrong)

/-- 'icehouselaw12.CrcAdds': WHATEVER THE INPUT: true; the input reads as it did. -/
def crcAddsSpec : ChangeSpec := { name := "crcAdds", fn := fun _ => fun
  | [d1, d2, d3] => { results := [.lit (.bool true)], args := [d1, d2, d3] }
  | _ => none }
def crcAddsRow : OpenClaim := { program := "ytkmefpeplpllhaadoor", sum := "9e366a8e455440fb25a6145d18210c63c195a984b8a966ddfab8d82ab36b9a33", func := "icehouse/icehouselaw12.CrcAdds", spec := "crcAdds", named := ["icehouse/crc.leaving"], apart := false, laid := [("icehouse/crc.leaving", laid_icehouse_crc_leaving)] }
def CrcAddsSaid : Prop := crcAddsRow.holds Tryd.pinned (OpenSpec.ofChange crcAddsSpec)

/-- ITS FALSE NEIGHBOUR: 'it returns false'. Refute it at one input. -/
def crcAddsWrong : ChangeSpec := { name := "crcAdds", fn := fun _ => fun
  | [d1, d2, d3] => { results := [.lit (.bool false)], args := [d1, d2, d3] }
  | _ => none }
def CrcAddsWrongFalsely : Prop := crcAddsRow.holds Tryd.pinned (OpenSpec.ofChange crcAddsWrong)

/-- 'icehouselaw12.CrcGrows': WHATEVER THE INPUT: true; the input reads as it did. -/
def crcGrowsSpec : ChangeSpec := { name := "crcGrows", fn := fun _ => fun
  | [d] => { results := [.lit (.bool true)], args := [d] }
  | _ => none }
def crcGrowsRow : OpenClaim := { program := "ytkmefpeplpllhaadoor", sum := "9e366a8e455440fb25a6145d18210c63c195a984b8a966ddfab8d82ab36b9a33", func := "icehouse/icehouselaw12.CrcGrows", spec := "crcGrows", named := ["icehouse/crc.leaving"], apart := false, laid := [("icehouse/crc.leaving", laid_icehouse_crc_leaving)] }
def CrcGrowsSaid : Prop := crcGrowsRow.holds Tryd.pinned (OpenSpec.ofChange crcGrowsSpec)

/-- ITS FALSE NEIGHBOUR: 'it returns false'. Refute it at one input. -/
def crcGrowsWrong : ChangeSpec := { name := "crcGrows", fn := fun _ => fun
  | [d] => { results := [.lit (.bool false)], args := [d] }
  | _ => none }
def CrcGrowsWrongFalsely : Prop := crcGrowsRow.holds Tryd.pinned (OpenSpec.ofChange crcGrowsWrong)

/- THE SECOND FORM. 'bulk': how many values and letters a reading holds, each counted each time it is reached (what is shared counts as often as it is met; a slice's spare places count too). A statement '..UptoSaid' is the law's where the arguments, and the package variables that the reading takes, are together of bulk at most 1048576: NARROWER than '..Said'. Prove '..Said' where nothing that the law and all that it calls make is longer than what came in: it says more and counts as full. Else prove '..UptoSaid'. A law counts once. -/
mutual
def uptoBulk {H : Type} : DataW H → Nat
  | .lit (.string bytes) => bytes.length + 1
  | .lit _ => 1
  | .nil => 1
  | .ptr d => uptoBulk d + 1
  | .slice elems spare => uptoBulkAll elems + uptoBulkAll spare + 1
  | .agg parts => uptoBulkAll parts + 1
  | .iface _ d => uptoBulk d + 1
  | .map entries => uptoBulkEntries entries + 1
  | .held _ => 1
def uptoBulkAll {H : Type} : List (DataW H) → Nat
  | [] => 0
  | d :: r => uptoBulk d + uptoBulkAll r
def uptoBulkEntries {H : Type} : List (Lit × DataW H) → Nat
  | [] => 0
  | x :: r => uptoBulkEntry x + uptoBulkEntries r
def uptoBulkEntry {H : Type} : Lit × DataW H → Nat
  | (.string bytes, d) => bytes.length + uptoBulk d + 1
  | (_, d) => uptoBulk d + 1
 end
def uptoSmall : (H : Type) → List (DataW H) → Bool := fun _ ds => decide (uptoBulkAll ds ≤ 1048576)
def OpenSpec.upto (s : _root_.Go.ChangeSpec) : _root_.Go.OpenSpec := { _root_.Go.OpenSpec.ofChange s with cond := some uptoSmall }

/-- 'icehouselaw12.CrcSums', WHERE WHAT IT READS IS OF BULK AT MOST 1048576: true; the input reads as it did. -/
def crcSumsUptoRow : OpenClaim := { program := "ytkmefpeplpllhaadoor", sum := "9e366a8e455440fb25a6145d18210c63c195a984b8a966ddfab8d82ab36b9a33", func := "icehouse/icehouselaw12.CrcSums", spec := "crcSums", named := ["icehouse/crc.leaving"], apart := false, laid := [("icehouse/crc.leaving", laid_icehouse_crc_leaving)], narrowed := true }
def CrcSumsUptoSaid : Prop := crcSumsUptoRow.holds Tryd.pinned (OpenSpec.upto crcSumsSpec)

/-- 'icehouselaw12.CrcFrames', WHERE WHAT IT READS IS OF BULK AT MOST 1048576: true; the input reads as it did. -/
def crcFramesUptoRow : OpenClaim := { program := "ytkmefpeplpllhaadoor", sum := "9e366a8e455440fb25a6145d18210c63c195a984b8a966ddfab8d82ab36b9a33", func := "icehouse/icehouselaw12.CrcFrames", spec := "crcFrames", named := ["icehouse/crc.leaving"], apart := false, laid := [("icehouse/crc.leaving", laid_icehouse_crc_leaving)], narrowed := true }
def CrcFramesUptoSaid : Prop := crcFramesUptoRow.holds Tryd.pinned (OpenSpec.upto crcFramesSpec)

/-- 'icehouselaw12.CrcTurns', WHERE WHAT IT READS IS OF BULK AT MOST 1048576: true; the input reads as it did. -/
def crcTurnsUptoRow : OpenClaim := { program := "ytkmefpeplpllhaadoor", sum := "9e366a8e455440fb25a6145d18210c63c195a984b8a966ddfab8d82ab36b9a33", func := "icehouse/icehouselaw12.CrcTurns", spec := "crcTurns", named := ["icehouse/crc.leaving"], apart := false, laid := [("icehouse/crc.leaving", laid_icehouse_crc_leaving)], narrowed := true }
def CrcTurnsUptoSaid : Prop := crcTurnsUptoRow.holds Tryd.pinned (OpenSpec.upto crcTurnsSpec)

/-- 'icehouselaw12.CrcAdds', WHERE WHAT IT READS IS OF BULK AT MOST 1048576: true; the input reads as it did. -/
def crcAddsUptoRow : OpenClaim := { program := "ytkmefpeplpllhaadoor", sum := "9e366a8e455440fb25a6145d18210c63c195a984b8a966ddfab8d82ab36b9a33", func := "icehouse/icehouselaw12.CrcAdds", spec := "crcAdds", named := ["icehouse/crc.leaving"], apart := false, laid := [("icehouse/crc.leaving", laid_icehouse_crc_leaving)], narrowed := true }
def CrcAddsUptoSaid : Prop := crcAddsUptoRow.holds Tryd.pinned (OpenSpec.upto crcAddsSpec)

/-- 'icehouselaw12.CrcGrows', WHERE WHAT IT READS IS OF BULK AT MOST 1048576: true; the input reads as it did. -/
def crcGrowsUptoRow : OpenClaim := { program := "ytkmefpeplpllhaadoor", sum := "9e366a8e455440fb25a6145d18210c63c195a984b8a966ddfab8d82ab36b9a33", func := "icehouse/icehouselaw12.CrcGrows", spec := "crcGrows", named := ["icehouse/crc.leaving"], apart := false, laid := [("icehouse/crc.leaving", laid_icehouse_crc_leaving)], narrowed := true }
def CrcGrowsUptoSaid : Prop := crcGrowsUptoRow.holds Tryd.pinned (OpenSpec.upto crcGrowsSpec)

end Rows
end Go.Proofs.YtkmefpeplpllhaaDoor
