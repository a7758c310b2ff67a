/- What came in: a field, by value. -/
import Derived.Test.YtelndkglimkfeaaDoorVrA
import Derived.Stop.LaidErr
import Derived.LaidMore
import Derived.SevenTiedAt
import Derived.OpenShut
import Derived.Lib.SmallJoins
namespace Go.Proofs.YtelndkglimkfeaaDoor
open Go.RowKit Go.ChangeShapes Go.WideShapes

section
variable {H : Type} {enc : TypeId × Value → H} {W : World} {sp : Nat → Bool} {held : Bool} {fuel : Nat}
set_option maxRecDepth 100000 in
theorem one_came {v : Value} {y : DataW H × List MemPlace} (hf : DataW.trod enc Tryd.prog W 0 sp held fuel 35 v.cells.toList = some y) (hv : ∃ cs, v = .agg cs ∧ cs.size = Tryd.prog.cellsOf 35) : ∃ f, v = fval f ∧ f.1.length ≤ 9223372036854775807 ∧ f.2.length ≤ 9223372036854775807 := by
  obtain ⟨cs, rfl, hsz⟩ := hv
  have hC : Tryd.prog.cellsOf 35 = 2 := by kernel_rfl
  have c9 : Tryd.prog.cellsOf 9 = 1 := by kernel_rfl
  rw [hC] at hsz
  obtain ⟨xs, n, _, _, _, hlen, hel⟩ := DataW.trod_struct Tryd.underlying35 hf
  have hl : xs.length = 2 := hlen
  obtain ⟨l⟩ := cs
  have hll : l.length = 2 := hsz
  have hx : ∀ i, i < 2 → ∃ u, xs[i]? = some u := fun i hi => ⟨_, List.getElem?_eq_getElem (by omega)⟩
  match l, hll with
  | [v0, v1], _ =>
    obtain ⟨u0, x0⟩ := hx 0 (by decide)
    have k0 := (hel 0 _ rfl).trans x0
    obtain ⟨a0, e0, _, w0⟩ := DataW.trod_string Tryd.underlying9 (by simpa [Value.cells, c9] using k0 : DataW.trod enc Tryd.prog W 0 sp held n 9 [v0] = some u0)
    obtain ⟨u1, x1⟩ := hx 1 (by decide)
    have k1 := (hel 1 _ rfl).trans x1
    obtain ⟨a1, e1, _, w1⟩ := DataW.trod_string Tryd.underlying9 (by simpa [Value.cells, c9] using k1 : DataW.trod enc Tryd.prog W 0 sp held n 9 [v1] = some u1)
    unfold maxLen at w0 w1
    refine ⟨(a0.data.toList, a1.data.toList), ?_, by rw [Oct.length_size]; exact w0, by rw [Oct.length_size]; exact w1⟩
    unfold fval
    rw [str_of, str_of]
    simp_all
end
end Go.Proofs.YtelndkglimkfeaaDoor
