/- Package chunk: a world of which one block alone may have changed. -/
import Derived.Test.YtgnopcghobaoiaaDoorCk1
namespace Go.Proofs.YtgnopcghobaoiaaDoor
open Go.RowKit

/-- Of what was there, block g alone may have changed. -/
structure But (g : Nat) (w w' : World) : Prop where
  os : w'.os = w.os
  tape : w'.tape = w.tape
  output : w'.output = w.output
  size : w.heap.size ≤ w'.heap.size
  block : ∀ k, k < w.heap.size → k ≠ g → w'.heap[k]? = w.heap[k]?
theorem But.below {B g : Nat} {a w w' : World} (h : Below B a w) (hb : But g w w') (hg : B ≤ g) (hB : B ≤ w.heap.size) : Below B a w' :=
  h.trans ⟨hb.os, hb.tape, hb.output, hb.size, fun k hk => hb.block k (by omega) (by omega)⟩
end Go.Proofs.YtgnopcghobaoiaaDoor
