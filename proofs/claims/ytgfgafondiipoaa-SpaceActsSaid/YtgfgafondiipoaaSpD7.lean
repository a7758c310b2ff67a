/- The document's map in memory: apart. -/
import Derived.Test.YtgfgafondiipoaaSpD6
namespace Go.Proofs.Ytgfgafondiipoaa
open Go.RowKit

/-- What has been seen, in a block of the call's own. -/
def Seen (w : World) (sb : Nat) (sn : List Bool) : Prop := w.heap[sb]? = some (.cells (sn.map Value.bool).toArray 4 (0, 0))
theorem Seen.cell {w : World} {sb : Nat} {sn : List Bool} (h : Seen w sb sn) (k : Nat) (hk : k < sn.length) : w.cell? ⟨sb, k, none⟩ = some (.bool sn[k]) ∧ w.frozen? ⟨sb, k, none⟩ = false := blk_cell h k _ (by simp [hk])
theorem Seen.set {w : World} {sb : Nat} {sn : List Bool} (h : Seen w sb sn) (k : Nat) (b : Bool) : Seen (w.setCell ⟨sb, k, none⟩ (.bool b)) sb (sn.set k b) := by
  unfold Seen; rw [heap_set h]; congr 2; simp [List.map_set]
theorem Seen.keep {w w' : World} {sb : Nat} {sn : List Bool} (h : Seen w sb sn) (hk : w'.heap[sb]? = w.heap[sb]?) : Seen w' sb sn := by unfold Seen; rw [hk]; exact h
/-- Marked is what the extents hold, and of one more what stands ahead of j. -/
def Mk (n : Nat) (sn : List Bool) (es : List Sp.Ext) (a j : Nat) : Prop := sn.length = n ∧ ∀ i (h : i < sn.length), sn[i] = true ↔ ((∃ e ∈ es, Sp.In e i) ∨ (a ≤ i ∧ i < a + j))
theorem Mk.start (n : Nat) : Mk n (List.replicate n false) [] 0 0 := ⟨List.length_replicate, fun i h => by simp⟩
theorem Mk.set {n : Nat} {sn : List Bool} {es : List Sp.Ext} {a j : Nat} (h : Mk n sn es a j) (_hj : a + j < n) : Mk n (sn.set (a + j) true) es a (j + 1) := by
  refine ⟨by rw [List.length_set]; exact h.1, fun i hi => ?_⟩
  rw [List.getElem_set]
  have hi2 : i < sn.length := by rw [List.length_set] at hi; exact hi
  by_cases e : a + j = i
  · rw [if_pos e]; exact ⟨fun _ => .inr ⟨by omega, by omega⟩, fun _ => rfl⟩
  · rw [if_neg e, h.2 i hi2]
    exact ⟨fun x => x.elim .inl (fun y => .inr ⟨y.1, by omega⟩), fun x => x.elim .inl (fun y => .inr ⟨y.1, by omega⟩)⟩
theorem Mk.close {n : Nat} {sn : List Bool} {es : List Sp.Ext} {a j : Nat} (h : Mk n sn es a j) (b : Nat) : Mk n sn (es ++ [((a : Int), (j : Int))]) b 0 := by
  refine ⟨h.1, fun i hi => ?_⟩
  rw [h.2 i hi]
  constructor
  · rintro (⟨e, he, h1⟩ | h1)
    · exact .inl ⟨e, List.mem_append_left _ he, h1⟩
    · exact .inl ⟨_, List.mem_append_right _ (List.mem_singleton.2 rfl), by unfold Sp.In; simp only; omega⟩
  · rintro (⟨e, he, h1⟩ | h1)
    · rcases List.mem_append.1 he with he | he
      · exact .inl ⟨e, he, h1⟩
      · rw [List.mem_singleton.1 he] at h1
        unfold Sp.In at h1
        simp only at h1
        exact .inr (by omega)
    · omega
theorem Mk.open_ {n : Nat} {sn : List Bool} {es : List Sp.Ext} {b : Nat} (h : Mk n sn es b 0) (a : Nat) : Mk n sn es a 0 := by
  refine ⟨h.1, fun i hi => ?_⟩
  rw [h.2 i hi]
  exact ⟨fun x => x.elim .inl (fun y => absurd y.2 (by omega)), fun x => x.elim .inl (fun y => absurd y.2 (by omega))⟩
theorem off_of {n : Nat} {e f : Sp.Ext} (he : Sp.RightE n e) (hf : Sp.RightE n f) (h : ∀ i : Nat, ¬ (Sp.In e i ∧ Sp.In f i)) : Sp.Off e f := by
  obtain ⟨e1, e2, e3, e4⟩ := he
  obtain ⟨f1, f2, f3, f4⟩ := hf
  unfold Sp.Off
  by_cases hl : e.1 ≤ f.1
  · left
    refine Int.not_lt.1 fun hn => h f.1.toNat ⟨⟨by omega, by omega⟩, ⟨by omega, by omega⟩⟩
  · right
    refine Int.not_lt.1 fun hn => h e.1.toNat ⟨⟨by omega, by omega⟩, ⟨by omega, by omega⟩⟩
theorem off_not {e f : Sp.Ext} {i : Nat} (he : Sp.In e i) (hf : Sp.In f i) : ¬ Sp.Off e f := by
  unfold Sp.In at he hf; unfold Sp.Off; omega
theorem apart_snoc {n : Nat} {es : List Sp.Ext} {e : Sp.Ext} (h : Sp.Apart n es) (hr : Sp.RightE n e) (hx : ∀ i : Nat, Sp.In e i → ¬ ∃ f ∈ es, Sp.In f i) : Sp.Apart n (es ++ [e]) := by
  refine ⟨fun f hf => ?_, List.pairwise_append.2 ⟨h.2, List.pairwise_singleton .., fun f hf x hx2 => ?_⟩⟩
  · rcases List.mem_append.1 hf with hf | hf
    · exact h.1 f hf
    · rw [List.mem_singleton.1 hf]; exact hr
  · rw [List.mem_singleton.1 hx2]
    exact off_of (h.1 f hf) hr (fun i hi => hx i hi.2 ⟨f, hf, hi.1⟩)
theorem apart_wrong {n : Nat} {es : List Sp.Ext} {k : Nat} (hk : k < es.length) (h : ¬ Sp.RightE n es[k]) : ¬ Sp.Apart n es := fun ha => h (ha.1 _ (List.getElem_mem hk))
theorem apart_meet {n : Nat} {es : List Sp.Ext} {k : Nat} (hk : k < es.length) {i : Nat} (h1 : Sp.In es[k] i) (h2 : ∃ f ∈ es.take k, Sp.In f i) : ¬ Sp.Apart n es := fun ha => by
  obtain ⟨f, hf, hi⟩ := h2
  have e : es = es.take k ++ es[k] :: es.drop (k + 1) := by rw [← List.drop_eq_getElem_cons hk, List.take_append_drop]
  have hp := ha.2
  rw [e] at hp
  exact off_not hi h1 ((List.pairwise_append.1 hp).2.2 f hf _ List.mem_cons_self)
end Go.Proofs.Ytgfgafondiipoaa
