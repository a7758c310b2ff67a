/- Texts that came in. -/
import Derived.Test.YtlekbnbdjahegaaDoorFdA
namespace Go.Proofs.YtlekbnbdjahegaaDoor
open Go.RowKit Go.ChangeShapes Go.WideShapes

theorem sin_came {H : Type} {enc : TypeId × Value → H} {W : World} {held : Bool} {fuel : Nat} {v : Value} {y : DataW H × List MemPlace} (hf : DataW.trod enc Tryd.prog W 0 (fun _ => true) held fuel 39 v.cells.toList = some y) (hv : ∃ x l c, v = .slice x l c) :
    ∃ ls, SIn W v ls ∧ ls.length ≤ 9223372036854775807 ∧ ∀ l ∈ ls, l.length ≤ 9223372036854775807 := by
  obtain ⟨x0, l0, c0, rfl⟩ := hv
  rcases open_strings Tryd.underlying39 Tryd.underlying9 (by kernel_rfl) hf with ⟨hcs, _⟩ | ⟨x, l, c, ss, hcs, _, hl, hm, hz, _, hcell, hws⟩
  · simp [Value.cells] at hcs
    obtain ⟨rfl, rfl, rfl⟩ := hcs
    exact ⟨[], ⟨none, 0, rfl, .inl rfl⟩, by decide, fun l h => by cases h⟩
  · simp [Value.cells] at hcs
    obtain ⟨rfl, rfl, rfl⟩ := hcs
    refine ⟨_, SIn.came hl (by simpa using hz) hcell, ?_, came_sizes hws⟩
    unfold maxLen at hm
    rw [List.length_map, List.length_take]; omega
end Go.Proofs.YtlekbnbdjahegaaDoor
