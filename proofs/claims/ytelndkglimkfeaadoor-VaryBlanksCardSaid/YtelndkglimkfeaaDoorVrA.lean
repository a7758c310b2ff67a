/- Fields and texts that came in, as the walks take them. -/
import Derived.Test.YtelndkglimkfeaaDoorVr1
import Derived.Test.YtelndkglimkfeaaDoorShape
import Derived.Deep.SlicePairs
import Derived.ChangeSlices
import Derived.SliceStrings
namespace Go.Proofs.YtelndkglimkfeaaDoor
open Go.RowKit Go.ChangeShapes Go.WideShapes

section
variable {H : Type} {enc : TypeId × Value → H} {W : World} {sp : Nat → Bool} {held : Bool} {fuel : Nat}
theorem nilok_some (a : Addr) (n c : Nat) : NilOk (.slice (some a) n c) := fun _ h => by injection h with h; cases h
theorem nilok_nil : NilOk (.slice none 0 0) := fun c h => by injection h with _ _ h; exact h.symm
/-- The address of a cell that is there bears no mark. -/
theorem plain_addr {w : World} {a : Addr} {v : Value} (h : w.cell? (a.add 0) = some v) : ∃ b o, a = ⟨b, o, none⟩ := by
  obtain ⟨b, o, spot⟩ := a
  have hspot : spot = none := by simpa [Addr.add] using World.cell?_spot h
  subst hspot
  exact ⟨b, o, rfl⟩

theorem fin_came {v : Value} {y : DataW H × List MemPlace} (hf : DataW.trod enc Tryd.prog W 0 sp held fuel 29 v.cells.toList = some y) (hv : ∃ x l c, v = .slice x l c) :
    ∃ fs, FIn W v fs ∧ NilOk v ∧ fs.length ≤ 9223372036854775807 ∧ ∀ f ∈ fs, f.1.length ≤ 9223372036854775807 ∧ f.2.length ≤ 9223372036854775807 := by
  obtain ⟨x0, l0, c0, rfl⟩ := hv
  rcases Go.Deep.open_slice_pairs Tryd.underlying29 Tryd.underlying35 (by kernel_rfl) rfl rfl (by kernel_rfl) (by kernel_rfl) hf with ⟨hcs, _⟩ | ⟨a, len, cap, m, n, V0, V1, D0, D1, P0, P1, hcs, _, hl, hm, hmm, _, hc⟩
  · simp [Value.cells] at hcs
    obtain ⟨rfl, rfl, rfl⟩ := hcs
    exact ⟨[], ⟨none, 0, rfl, .inl rfl⟩, nilok_nil, by decide, fun f h => by cases h⟩
  · simp [Value.cells] at hcs
    obtain ⟨rfl, rfl, rfl⟩ := hcs
    have hml : l0 ≤ m := by rw [hmm]; split <;> omega
    have each : ∀ i, i < l0 → ∃ q : List UInt8 × List UInt8, V0 i = .string (str q.1) ∧ V1 i = .string (str q.2) ∧ q.1.length ≤ 9223372036854775807 ∧ q.2.length ≤ 9223372036854775807 := fun i hi => by
      obtain ⟨_, _, t0, t1⟩ := hc i (by omega)
      obtain ⟨s0, e0, _, z0⟩ := DataW.trod_string Tryd.underlying9 t0
      obtain ⟨s1, e1, _, z1⟩ := DataW.trod_string Tryd.underlying9 t1
      simp at e0 e1
      unfold maxLen at z0 z1
      exact ⟨(s0.data.toList, s1.data.toList), by rw [e0, str_of], by rw [e1, str_of], by show s0.data.toList.length ≤ _; rw [Oct.length_size]; exact z0, by show s1.data.toList.length ≤ _; rw [Oct.length_size]; exact z1⟩
    obtain ⟨q, hq⟩ := Go.Deep.choose_lt each
    have hlen : ((List.range l0).map q).length = l0 := by rw [List.length_map, List.length_range]
    refine ⟨(List.range l0).map q, ⟨some a, c0, by rw [hlen], ?_⟩, nilok_some _ _ _, by rw [hlen]; unfold maxLen at hm; omega, fun f hf => ?_⟩
    · by_cases h0 : l0 = 0
      · left; subst h0; rfl
      · right
        obtain ⟨b, o, rfl⟩ := plain_addr (a := a) (by have := (hc 0 (by omega)).1; simpa using this)
        refine ⟨b, o, rfl, World.block_lt_of_cell? W ⟨b, o, none⟩ (by have := (hc 0 (by omega)).1; simpa [Addr.add] using this), fun j hj => ?_⟩
        rw [hlen] at hj
        obtain ⟨k0, k1, _, _⟩ := hc j (by omega)
        obtain ⟨e0, e1, _, _⟩ := hq j hj
        rw [Addr.add_lit] at k0 k1
        rw [e0] at k0
        rw [e1, ← Nat.add_assoc] at k1
        simp only [List.getElem_map, List.getElem_range]
        exact ⟨k0, k1⟩
    · obtain ⟨i, hi, rfl⟩ := List.mem_map.1 hf
      exact (hq i (List.mem_range.1 hi)).2.2
end
theorem sin_came {H : Type} {enc : TypeId × Value → H} {W : World} {held : Bool} {fuel : Nat} {v : Value} {y : DataW H × List MemPlace} (hf : DataW.trod enc Tryd.prog W 0 (fun _ => true) held fuel 22 v.cells.toList = some y) (hv : ∃ x l c, v = .slice x l c) :
    ∃ ls, SIn W v ls ∧ ls.length ≤ 9223372036854775807 ∧ ∀ l ∈ ls, l.length ≤ 9223372036854775807 := by
  obtain ⟨x0, l0, c0, rfl⟩ := hv
  rcases open_strings Tryd.underlying22 Tryd.underlying9 (by kernel_rfl) hf with ⟨hcs, _⟩ | ⟨x, l, c, ss, hcs, _, hl, hm, hz, _, hcell, hws⟩
  · simp [Value.cells] at hcs
    obtain ⟨rfl, rfl, rfl⟩ := hcs
    exact ⟨[], ⟨none, 0, rfl, .inl rfl⟩, by decide, fun l h => by cases h⟩
  · simp [Value.cells] at hcs
    obtain ⟨rfl, rfl, rfl⟩ := hcs
    refine ⟨_, SIn.came hl (by simpa using hz) hcell, ?_, came_sizes hws⟩
    unfold maxLen at hm
    rw [List.length_map, List.length_take]; omega
end Go.Proofs.YtelndkglimkfeaaDoor
