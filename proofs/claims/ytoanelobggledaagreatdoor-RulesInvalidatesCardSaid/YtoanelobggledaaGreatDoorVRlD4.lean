/- Package rules, the document's side: by which fields is asked; what is kept, what is updated. -/
import Derived.Test.YtoanelobggledaaGreatDoorVRl2
namespace Go.Proofs.YtoanelobggledaaGreatDoor
open Go.RowKit

theorem mov_none : mov none = .tuple #[.int .i64 0, .bool false] := rfl
theorem mov_some (a : Int) : mov (some a) = .tuple #[.int .i64 a, .bool true] := rfl
end Go.Proofs.YtoanelobggledaaGreatDoor

