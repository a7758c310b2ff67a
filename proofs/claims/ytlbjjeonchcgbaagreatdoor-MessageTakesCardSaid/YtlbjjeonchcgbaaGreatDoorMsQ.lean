/- The statements of layer 8: the program's Parse, in a pack. -/
import Derived.Test.YtlbjjeonchcgbaaGreatDoorMsP11
import Derived.Test.YtlbjjeonchcgbaaGreatDoorMs5
namespace Go.Proofs.YtlbjjeonchcgbaaGreatDoor
open Go.RowKit

theorem read8 : Read8 MaxOk where
  later := fun h hb => h.later hb
  parse_new := fun v l asks m w hl _ h hn hE => Parse_m v l asks m w hl h hn hE
end Go.Proofs.YtlbjjeonchcgbaaGreatDoor
