/- A list of texts that came in, as the walks take it. -/
import Derived.Test.YtljpidpddlgkpaaDoorOctS
import Derived.SliceStrings
namespace Go.Proofs.YtljpidpddlgkpaaDoor
open Go.RowKit

theorem SIn.came {w : World} {a : Addr} {len cap : Nat} {ss : List ByteArray} (hl : len ≤ cap) (hs : ss.length = cap) (hc : ∀ i, i < ss.length → w.cell? (a.add i) = some (.string (ss.getD i ByteArray.empty))) :
    SIn w (.slice (some a) len cap) ((ss.take len).map fun s => s.data.toList) := by
  have hlen : ((ss.take len).map fun s => s.data.toList).length = len := by rw [List.length_map, List.length_take]; omega
  refine ⟨some a, cap, by rw [hlen], ?_⟩
  by_cases h0 : len = 0
  · left; subst h0; simp
  · right
    obtain ⟨b, o, spot⟩ := a
    have h1 := hc 0 (by omega)
    have hspot : spot = none := by simpa [Addr.add] using World.cell?_spot h1
    subst hspot
    refine ⟨b, o, rfl, World.block_lt_of_cell? w ⟨b, o, none⟩ (by simpa [Addr.add] using h1), fun j hj => ?_⟩
    rw [hlen] at hj
    have h2 := hc j (by omega)
    rw [Addr.add_lit] at h2
    rw [h2]
    have e : ((ss.take len).map fun s => s.data.toList)[j]'(by rw [hlen]; exact hj) = (ss[j]'(by omega)).data.toList := by simp
    rw [e, str_of, List.getD_eq_getElem?_getD, List.getElem?_eq_getElem (by omega)]; rfl
theorem came_sizes {len : Nat} {ss : List ByteArray} (h : ∀ s ∈ ss, s.size ≤ maxLen) : ∀ l ∈ (ss.take len).map (fun s => s.data.toList), l.length ≤ 9223372036854775807 := by
  intro l hl
  obtain ⟨s, hs, rfl⟩ := List.mem_map.1 hl
  have := h s (List.mem_of_mem_take hs)
  unfold maxLen at this
  rw [Oct.length_size]; omega

end Go.Proofs.YtljpidpddlgkpaaDoor
