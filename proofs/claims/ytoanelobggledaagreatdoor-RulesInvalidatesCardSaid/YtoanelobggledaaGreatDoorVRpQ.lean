/- Package rules, the program's side: by which fields is asked; which answers confirm. -/
import Derived.Test.YtoanelobggledaaGreatDoorProg
import Derived.Test.YtoanelobggledaaGreatDoorVM2
import Derived.BigQuiet
import Derived.Deep.CutBlock
import Derived.Deep.DeepCutAuto
import Derived.Deep.LoopGhost
import Derived.Deep.QuietTactic
import Derived.Deep.RegionHeld3
import Derived.Deep.RegionWith
import Derived.Ground.SlbCloneProg
import Derived.Laws.AppendOwnNone
import Derived.Laws.Externs
import Derived.Lib.AppendStr
import Derived.Lib.AppendZerosOnto
import Derived.Lib.BufferRead
import Derived.Lib.Hide
import Derived.Lib.OwnBridge
import Derived.Lib.UnsafeStr
import Derived.LoopTactic
import Derived.Maps.AppendAt
import Derived.Maps.OwnSet
import Derived.OrdersHeld
import Derived.Shelf.Bytes.SlClone
import Derived.Shelf.LaysM
import Derived.Shelf.Slices.CompactS
import Derived.Shelf.Slices.In.SortNone
import Derived.Shelf.Small.Bits
import Derived.Shelf.Small.Strs
import Derived.Shelf.Small.Utf8
import Derived.Shelf.Small.Wraps
import Derived.Shelf.Sort.Plain
import Derived.Shelf.Spec.TrailingZeros
import Derived.Shelf.Strconv.Clone
import Derived.Shelf.Strconv.Itoa0
import Derived.Shelf.Strconv.Itoa1
import Derived.Shelf.Strconv.Itoa2
import Derived.Shelf.Strconv.Itoa3
import Derived.Shelf.Strconv.Itoa4
import Derived.Shelf.Strings.AsciiSet
import Derived.Shelf.Strings.Builder1
import Derived.Shelf.Strings.Builder2
import Derived.Shelf.Strings.Count
import Derived.Shelf.Strings.Cut
import Derived.Shelf.Strings.FieldsFuncAny
import Derived.Shelf.Strings.FieldsFuncGrows
import Derived.Shelf.Strings.IndexAny
import Derived.Shelf.Strings.IndexAnyAll
import Derived.Shelf.Strings.LastIndex
import Derived.Shelf.Strings.OnBuilder
import Derived.Shelf.Strings.Prefix
import Derived.Shelf.Strings.Runes
import Derived.Shelf.Strings.Search1
import Derived.Shelf.Strings.Search2
import Derived.Shelf.Strings.Search3
import Derived.Shelf.Strings.Shaped
import Derived.Shelf.Strings.SlTrimAscii
import Derived.Shelf.Strings.Split
import Derived.Shelf.Strings.SplitShaped
import Derived.Shelf.Strings.Trim
import Derived.Shelf.Unicode.CaseConvert
import Derived.Shelf.Unicode.CaseLaid
import Derived.Shelf.Unicode.CaseLookup
import Derived.Shelf.Unicode.CaseTo
import Derived.Shelf.Unicode.DecodeAny
import Derived.Shelf.Unicode.DecodeLast
import Derived.Shelf.Unicode.DecodeSlow
import Derived.Shelf.Unicode.Latin
import Derived.SliceStrings
import Derived.Sort.OwnSorted
import Derived.StillTailTactics
import Derived.StringKeys
import Derived.WalkKit
import Derived.WalkLawsBesides
import Derived.WalkSpells
namespace Rl
section
variable {D : T → Option Int} {kf rf qf : List Fld.F} {st : Int} {m : T}
theorem uc1 (h : ¬ st = 200) : unchanged D m qf st kf = false := by unfold unchanged; rw [if_pos (.inl h)]
theorem uc2 (h : m ≠ mGet) (h2 : m ≠ mHead) : unchanged D m qf st kf = false := by unfold unchanged; rw [if_pos (.inr (fun e => e.elim h h2))]
theorem uc3 (h : st = 200) (h2 : m = mGet ∨ m = mHead) (h3 : has qf kINM = true) : unchanged D m qf st kf = (Oct.splitAll (Fld.get qf kINM)).any fun p => p == [42] || like kf p := by
  unfold unchanged; rw [if_neg (fun e => e.elim (fun e => e h) (fun e => e h2)), if_pos h3]
theorem uc4 (h : st = 200) (h2 : m = mGet ∨ m = mHead) (h3 : has qf kINM = false) (h4 : Fr.moment D qf kIMS = none) : unchanged D m qf st kf = false := by
  unfold unchanged; rw [if_neg (fun e => e.elim (fun e => e h) (fun e => e h2)), if_neg (by rw [h3]; decide), h4]
theorem uc5 (h : st = 200) (h2 : m = mGet ∨ m = mHead) (h3 : has qf kINM = false) (h5 : Fr.moment D kf Fr.kMod = none) : unchanged D m qf st kf = false := by
  unfold unchanged; rw [if_neg (fun e => e.elim (fun e => e h) (fun e => e h2)), if_neg (by rw [h3]; decide), h5]
  cases Fr.moment D qf kIMS <;> rfl
theorem uc6 (x y : Int) (h : st = 200) (h2 : m = mGet ∨ m = mHead) (h3 : has qf kINM = false) (h4 : Fr.moment D qf kIMS = some x) (h5 : Fr.moment D kf Fr.kMod = some y) : unchanged D m qf st kf = decide (y ≤ x) := by
  unfold unchanged; rw [if_neg (fun e => e.elim (fun e => e h) (fun e => e h2)), if_neg (by rw [h3]; decide), h4, h5]
end
end Rl
namespace Go.Proofs.YtoanelobggledaaGreatDoor
open Go.RowKit

end Go.Proofs.YtoanelobggledaaGreatDoor

