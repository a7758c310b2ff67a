/- What came in: lists of octets. -/
import Derived.Test.YtgnopcghobaoiaaDoorCkA
import Derived.Test.YtgnopcghobaoiaaDoorCk5
import Derived.Deep.Slices
namespace Go.Proofs.YtgnopcghobaoiaaDoor
open Go.RowKit Go.ChangeShapes Go.WideShapes

theorem bs_came {H : Type} {enc : TypeId × Value → H} {W : World} {sp : Nat → Bool} {held : Bool} {fuel : Nat} {v : Value} {y : DataW H × List MemPlace} (hf : DataW.trod enc Tryd.prog W 0 sp held fuel 35 v.cells.toList = some y) (hv : ∃ x l c, v = .slice x l c) :
    ∃ ls, BsIn W v ls := by
  obtain ⟨x0, l0, c0, rfl⟩ := hv
  rcases Go.Deep.open_slice1 Tryd.underlying35 (by kernel_rfl) hf with ⟨hcs, _⟩ | ⟨a, len, cap, m, n, V, D, Pl, hcs, _, hl, hm, hmm, _, hx⟩
  · simp [Value.cells] at hcs
    obtain ⟨rfl, rfl, rfl⟩ := hcs
    exact ⟨[], none, 0, rfl, Nat.le_refl _, by decide, .inl rfl⟩
  · simp [Value.cells] at hcs
    obtain ⟨rfl, rfl, rfl⟩ := hcs
    have hml : l0 ≤ m := by rw [hmm]; split <;> omega
    have each : ∀ i, i < l0 → ∃ l : List UInt8, BIn W (V i) l ∧ NilOk (V i) := fun i hi => by
      have h2 := (hx i (by omega)).2
      have hs : ∃ x l c, V i = .slice x l c := by
        rcases open_ints Tryd.underlying22 Tryd.underlying5 (by kernel_rfl) h2 with ⟨hc, _⟩ | ⟨a', len', cap', zs, hc, _⟩
        · exact ⟨none, 0, 0, by simpa using hc⟩
        · exact ⟨some a', len', cap', by simpa using hc⟩
      obtain ⟨x, l, c, hs⟩ := hs
      rw [hs] at h2 ⊢
      exact bin_came (v := .slice x l c) h2 ⟨x, l, c, rfl⟩
    obtain ⟨q, hq⟩ := Go.Deep.choose_lt each
    have hlen : ((List.range l0).map q).length = l0 := by rw [List.length_map, List.length_range]
    refine ⟨(List.range l0).map q, some a, c0, by rw [hlen], by rw [hlen]; exact hl, by unfold maxLen at hm; omega, ?_⟩
    by_cases h0 : l0 = 0
    · left; subst h0; rfl
    · right
      obtain ⟨b, o, rfl⟩ := plain_addr (hx 0 (by omega)).1
      refine ⟨b, o, rfl, World.block_lt_of_cell? W ⟨b, o, none⟩ (by simpa [Addr.add] using (hx 0 (by omega)).1), fun j hj => ?_⟩
      rw [hlen] at hj
      have h2 := (hx j (by omega)).1
      rw [Addr.add_lit] at h2
      refine ⟨V j, h2, ?_⟩
      simp only [List.getElem_map, List.getElem_range]
      exact hq j hj
end Go.Proofs.YtgnopcghobaoiaaDoor
