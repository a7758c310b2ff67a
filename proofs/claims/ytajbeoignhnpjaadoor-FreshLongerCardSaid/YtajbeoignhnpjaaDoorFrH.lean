/- Package fresh: Heuristic. -/
import Derived.Test.YtajbeoignhnpjaaDoorFrG
namespace Go.Proofs.YtajbeoignhnpjaaDoor
open Go.RowKit

set_option maxHeartbeats 1600000 in
set_option maxRecDepth 100000 in
theorem Heuristic_w (st : Int) (w : World) : Calls Tryd.prog 25 #[.int .i64 st] w fun e w' => e = .returned (.bool (Fr.heur st)) ∧ w = w' := by
  by_cases h : st ∈ [200, 203, 204, 300, 301, 308, 404, 405, 410, 414, 501]
  · simp only [List.mem_cons, List.not_mem_nil, or_false] at h
    rcases h with rfl | rfl | rfl | rfl | rfl | rfl | rfl | rfl | rfl | rfl | rfl
    all_goals go_enter Tryd.func25, Tryd.ntmps25
    all_goals go_wp2_with fail
    all_goals go_ret
    all_goals exact ⟨rfl, rfl⟩
  · have HR : Hid (Fr.heur st = false) := Lib.hid (by unfold Fr.heur; rw [decide_eq_false h])
    simp only [List.mem_cons, List.not_mem_nil, or_false, not_or] at h
    obtain ⟨h0, h1, h2, h3, h4, h5, h6, h7, h8, h9, h10⟩ := h
    go_enter Tryd.func25, Tryd.ntmps25
    go_wp2_with fail
    go_ret
    exact ⟨by rw [HR.out]; rfl, rfl⟩
end Go.Proofs.YtajbeoignhnpjaaDoor
