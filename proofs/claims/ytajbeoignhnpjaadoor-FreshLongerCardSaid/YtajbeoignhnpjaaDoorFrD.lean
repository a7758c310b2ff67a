/- Package fresh, the program's side: what a moment's text says, as package date reads it; what the calls ask of the world. -/
import Derived.Test.YtajbeoignhnpjaaDoorDtBase
import Derived.Test.YtajbeoignhnpjaaDoorCtBase
import Derived.Test.YtajbeoignhnpjaaDoorFrMathB
namespace Go.Proofs.YtajbeoignhnpjaaDoor
open Go.RowKit

noncomputable def D0 (v : List UInt8) : Option Int := if (Dt.asked v).2 = 0 then some (Dt.asked v).1 else none
theorem D0_yes {v : List UInt8} {a : Int} (h : Dt.Says v a) : D0 v = some a := by unfold D0; rw [Dt.asked_yes h]; rfl
theorem D0_no {v : List UInt8} (h : ∀ a, ¬ Dt.Says v a) : D0 v = none := by unfold D0; rw [Dt.asked_no h]; rfl
theorem D0_fine : Fr.Fine D0 := fun v a h => by
  by_cases hs : ∃ b, Dt.Says v b
  · obtain ⟨b, hb⟩ := hs
    rw [D0_yes hb] at h
    obtain rfl := Option.some.inj h
    exact ⟨hb.1, hb.2.1⟩
  · rw [D0_no fun b hb => hs ⟨b, hb⟩] at h; cases h
/-- What the calls ask of the world: the tables, and the library's variable. -/
structure Env10 (w : World) : Prop where
  tabs : DTabs w
  max : MaxOk w
theorem Env10.later {w w' : World} (h : Env10 w) (hb : Below w.heap.size w w') : Env10 w' := ⟨h.tabs.later hb, h.max.later hb⟩
theorem Parse_some {v : List UInt8} {a : Int} (h : D0 v = some a) (w : World) (hT : DTabs w) :
    Calls Tryd.prog 33 #[.string (str v)] w fun e w' => e = .returned (.tuple #[.int .i64 a, .int .i64 0]) ∧ Below w.heap.size w w' := by
  by_cases hs : ∃ b, Dt.Says v b
  · obtain ⟨b, hb⟩ := hs
    rw [D0_yes hb] at h
    obtain rfl := Option.some.inj h
    exact Parse_yes (str v) b w hT (by rw [str_list]; exact hb)
  · rw [D0_no fun b hb => hs ⟨b, hb⟩] at h; cases h
theorem Parse_none {v : List UInt8} (h : D0 v = none) (w : World) (hT : DTabs w) :
    Calls Tryd.prog 33 #[.string (str v)] w fun e w' => e = .returned (.tuple #[.int .i64 0, .int .i64 10]) ∧ Below w.heap.size w w' := by
  by_cases hs : ∃ b, Dt.Says v b
  · obtain ⟨b, hb⟩ := hs
    rw [D0_yes hb] at h; cases h
  · exact Parse_no (str v) w hT (by rw [str_list]; exact fun b hb => hs ⟨b, hb⟩)
end Go.Proofs.YtajbeoignhnpjaaDoor
