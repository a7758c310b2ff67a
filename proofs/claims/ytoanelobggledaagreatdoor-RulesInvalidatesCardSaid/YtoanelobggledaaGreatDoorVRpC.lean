/- Package rules, the program's side: what is kept of a response. -/
import Derived.Test.YtoanelobggledaaGreatDoorVRpA
import Derived.Laws.OwnMore
import Derived.Lib.OwnBridge
import Derived.Sort.OwnSorted
namespace Go.Proofs.YtoanelobggledaaGreatDoor
open Go.RowKit

theorem Clone_big (s : ByteArray) (w : World) (hs : s.size ≤ 281474976710656) :
    Calls Tryz.prog 61 #[.string s] w fun e w' => e = .returned (.string s) ∧ Below w.heap.size w w' := by
  have c := Tryz.stringslite_Clone s w hs
  go_enter Tryz.func61, Tryz.ntmps61
  go_wp2_with fail
  refine c.mono ?_
  rintro e w1 ⟨rfl, hb1⟩
  go_wp2_with fail
  go_ret
  exact ⟨rfl, hb1⟩
theorem load_str {w : World} {g k : Nat} {s : ByteArray} (h : w.cell? ⟨g, k, none⟩ = some (.string s)) : (Instr.loadAt 9 (.pointer (some ⟨g, k, none⟩))).run Tryz.prog w = .ok (.string s) w := by go_simp
structure OwnM (w W : World) (gM : Nat) (mc : Array Value) : Prop where
  msg : W.heap[gM]? = some (.cells mc 27 (0, 0))
  below : Below w.heap.size w W
theorem OwnM.later {w W W' : World} {gM : Nat} {mc : Array Value} (h : OwnM w W gM mc) (hb : Below W.heap.size W W') : OwnM w W' gM mc := ⟨blk_keep h.msg hb, h.below.trans (hb.mono h.below.size)⟩
end Go.Proofs.YtoanelobggledaaGreatDoor

