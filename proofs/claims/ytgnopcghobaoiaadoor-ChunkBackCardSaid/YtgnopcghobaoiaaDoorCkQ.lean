/- Package chunk, the program: what Decode and Encode answer is new memory. -/
import Derived.Test.YtgnopcghobaoiaaDoorCkP
import Derived.Test.YtgnopcghobaoiaaDoorCk12
namespace Go.Proofs.YtgnopcghobaoiaaDoor
open Go.RowKit

theorem back7 : Back7 Env where
  toProg7 := prog7
  decode_new := fun v l w hl h hE => decode_w v l w hl h hE.1
  encode_new := fun v ls w hl h hE => (encode_b v ls w (by omega) h hE.2).mono fun e w' ⟨⟨u, h1, h2⟩, h4⟩ => ⟨⟨u, h1, h2.in_.1, h2.in_.2, row_new h2.1⟩, h4⟩
end Go.Proofs.YtgnopcghobaoiaaDoor
