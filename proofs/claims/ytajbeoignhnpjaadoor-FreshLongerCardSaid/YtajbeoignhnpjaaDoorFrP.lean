/- Package fresh: what the program's calls answer, all of it. -/
import Derived.Test.YtajbeoignhnpjaaDoorFrN
namespace Go.Proofs.YtajbeoignhnpjaaDoor
open Go.RowKit

theorem prog10 : Prog10 D0 Env10 where
  later h hb := h.later hb
  age a b c st mi fv bv fs ta tg now w hE hf sb hs _ _ _ := Age_w a b c st mi fv bv fs ta tg now w hE hf sb hs
  fresh a b c st mi fv bv fs ta tg now w hE hf sb hs _ _ _ := Fresh_w a b c st mi fv bv fs ta tg now w hE hf sb hs
  serve a b c st mi fv bv fs ta tg now q w hE hf sb hs _ _ _ _ _ _ _ := Serve_w a b c st mi fv bv fs ta tg now q w hE hf sb hs
end Go.Proofs.YtajbeoignhnpjaaDoor
