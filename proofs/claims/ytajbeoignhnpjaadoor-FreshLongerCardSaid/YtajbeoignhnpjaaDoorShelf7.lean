/-
  DERIVED: THE SHELF's CONTRACTS AT THIS DUMP, IN PLAIN WORDS (tools/lay-plain.mjs out of 'TrydShelf.lean', which tools/lay-shelf.mjs wrote): THE SAME DECLARATIONS UNDER THE SAME NAMES: 'import', 'namespace', 'open', 'def', 'theorem' AND NOTHING ELSE: no command of the shelf's: FOR A HAND-IN. Each laying: the table of numbers ('.._ren') and one theorem, a field a fact of the dump's own or the kernel's comparison; each contract: ONE APPLICATION.
-/
import Derived.Shelf.Strings.Trim
import Derived.Shelf.Small.Utf8
import Derived.Shelf.Small.Strs
import Derived.Shelf.Strconv.Itoa0
import Derived.Shelf.Strconv.Itoa1
import Derived.Shelf.LaysM
import Derived.Shelf.Strconv.Itoa2
import Derived.Shelf.Strconv.Itoa3
import Derived.Shelf.Strconv.Itoa4
import Derived.Shelf.Strconv.Clone
import Derived.Shelf.Strings.Search1
import Derived.Shelf.Strings.Search2
import Derived.Shelf.Strings.Cut
import Derived.Shelf.Strings.Shaped
import Derived.Shelf.Strings.Runes
import Derived.Shelf.Strings.AsciiSet
import Derived.Shelf.Unicode.DecodeSlow
import Derived.Shelf.Unicode.DecodeAny
import Derived.Shelf.Unicode.DecodeLast
import Derived.Shelf.Strings.FieldsFuncAny
import Derived.Shelf.Strings.FieldsFuncGrows
import Derived.Shelf.Spec.TrailingZeros
import Derived.Test.YtajbeoignhnpjaaDoorProg
namespace Go.Proofs
open Go.Shelf
def Tryd.lays7x27_ren : Go.Shelf.Ren := ⟨fun | 27 => 102 | 28 => 103 | 29 => 104 | n => n, fun | 25 => 126 | 3 => 3 | 27 => 128 | 22 => 132 | 4 => 4 | 53 => 146 | 0 => 0 | 5 => 5 | 54 => 147 | n => n, fun | 0 => 7 | 1 => 8 | n => n⟩
theorem Tryd.lays7x27 : Go.Proofs.Lays7.n27 Tryd.prog Tryd.lays7x27_ren := {
  mixed := by kernel_rfl
  f27 := Tryd.func102.trans (congrArg some (by kernel_rfl))
  f28 := Tryd.func103.trans (congrArg some (by kernel_rfl))
  f29 := Tryd.func104.trans (congrArg some (by kernel_rfl))
  t0 := Tryd.underlying0
  a0 := Tryd.isAgg0
  z0 := Tryd.sizeOf0
  v0 := Tryd.zeroValue0
  i0 := by kernel_rfl
  t3 := Tryd.underlying3
  a3 := Tryd.isAgg3
  z3 := Tryd.sizeOf3
  v3 := Tryd.zeroValue3
  i3 := by kernel_rfl
  t4 := Tryd.underlying4
  a4 := Tryd.isAgg4
  z4 := Tryd.sizeOf4
  v4 := Tryd.zeroValue4
  i4 := by kernel_rfl
  t5 := Tryd.underlying5
  a5 := Tryd.isAgg5
  z5 := Tryd.sizeOf5
  v5 := Tryd.zeroValue5
  i5 := by kernel_rfl
  t22 := Tryd.underlying132
  a22 := Tryd.isAgg132
  z22 := Tryd.sizeOf132
  v22 := Tryd.zeroValue132
  i22 := by kernel_rfl
  t25 := Tryd.underlying126
  a25 := Tryd.isAgg126
  z25 := Tryd.sizeOf126
  v25 := Tryd.zeroValue126
  i25 := by kernel_rfl
  t27 := Tryd.underlying128
  a27 := Tryd.isAgg128
  z27 := Tryd.sizeOf128
  v27 := Tryd.zeroValue128
  i27 := by kernel_rfl
  t53 := Tryd.underlying146
  a53 := Tryd.isAgg146
  z53 := Tryd.sizeOf146
  v53 := Tryd.zeroValue146
  i53 := by kernel_rfl
  t54 := Tryd.underlying147
  a54 := Tryd.isAgg147
  z54 := Tryd.sizeOf147
  g0 := by kernel_rfl
  g1 := by kernel_rfl }
end Go.Proofs
