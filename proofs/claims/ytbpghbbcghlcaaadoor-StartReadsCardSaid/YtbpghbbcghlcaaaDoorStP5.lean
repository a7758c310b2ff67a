/- Package start: a line in memory, once more. -/
import Derived.Test.YtbpghbbcghlcaaaDoorStP4
import Derived.Deep.RegionHeld3
namespace Go.Proofs.YtbpghbbcghlcaaaDoor
open Go.RowKit

theorem heap_set_other (w : World) (b o : Nat) (v : Value) {g : Nat} (h : g ≠ b) : (w.setCell ⟨b, o, none⟩ v).heap[g]? = w.heap[g]? := by
  simp [World.setCell, Array.getElem?_modify, Ne.symm h]
theorem SAt.frees {w : World} {g : Nat} {W : World} {a b c d e : Value} (h : SAt w g W a b c d e) : W.frozen? ⟨g, 0, none⟩ = false ∧ W.frozen? ⟨g, 1, none⟩ = false ∧ W.frozen? ⟨g, 2, none⟩ = false ∧ W.frozen? ⟨g, 3, none⟩ = false ∧ W.frozen? ⟨g, 4, none⟩ = false := by
  simp [World.frozen?, h.cell]
theorem SAt.other5 {w : World} {g g' : Nat} {W : World} {a b c d e : Value} (h : SAt w g W a b c d e) (hg : w.heap.size ≤ g') (hne : g ≠ g') (v0 v1 v2 v3 v4 : Value) :
    SAt w g (((((W.setCell ⟨g', 0, none⟩ v0).setCell ⟨g', 1, none⟩ v1).setCell ⟨g', 2, none⟩ v2).setCell ⟨g', 3, none⟩ v3).setCell ⟨g', 4, none⟩ v4) a b c d e :=
  ⟨by rw [heap_set_other _ _ _ _ hne, heap_set_other _ _ _ _ hne, heap_set_other _ _ _ _ hne, heap_set_other _ _ _ _ hne, heap_set_other _ _ _ _ hne]; exact h.cell,
    ((((h.below.setCell (p := ⟨g', 0, none⟩) hg v0).setCell (p := ⟨g', 1, none⟩) hg v1).setCell (p := ⟨g', 2, none⟩) hg v2).setCell (p := ⟨g', 3, none⟩) hg v3).setCell (p := ⟨g', 4, none⟩) hg v4, h.ge⟩
theorem SAt.set {w : World} {g : Nat} {W : World} {a b c d e : Value} (h : SAt w g W a b c d e) (v0 v1 v2 v3 v4 : Value) :
    SAt w g (((((W.setCell ⟨g, 0, none⟩ v0).setCell ⟨g, 1, none⟩ v1).setCell ⟨g, 2, none⟩ v2).setCell ⟨g, 3, none⟩ v3).setCell ⟨g, 4, none⟩ v4) v0 v1 v2 v3 v4 :=
  ⟨by simp [World.setCell, Array.getElem?_modify, h.cell], ((((h.below.setCell (p := ⟨g, 0, none⟩) h.ge v0).setCell (p := ⟨g, 1, none⟩) h.ge v1).setCell (p := ⟨g, 2, none⟩) h.ge v2).setCell (p := ⟨g, 3, none⟩) h.ge v3).setCell (p := ⟨g, 4, none⟩) h.ge v4, h.ge⟩
theorem SAt.freshly {w W W' : World} (h : Below w.heap.size w W) {a b c d e : Value} (hb : Below (W.alloc (.cells #[a, b, c, d, e] 25)).heap.size (W.alloc (.cells #[a, b, c, d, e] 25)) W') : SAt w W.heap.size W' a b c d e :=
  (SAt.fresh h a b c d e).later hb
theorem rdQ_len (a b c : List UInt8) (n : Nat) (ha : a.length ≤ n) (hb : b.length ≤ n) (_hc : c.length ≤ n) : (St.rdQ a b c).1.method.length ≤ n ∧ (St.rdQ a b c).1.target.length ≤ n ∧ (St.rdQ a b c).1.reason.length ≤ n :=
  ⟨ha, hb, Nat.zero_le _⟩
theorem rdA_len (a b c : List UInt8) (n : Nat) (_ha : a.length ≤ n) (_hb : b.length ≤ n) (hc : c.length ≤ n) : (St.rdA a b c).1.method.length ≤ n ∧ (St.rdA a b c).1.target.length ≤ n ∧ (St.rdA a b c).1.reason.length ≤ n := by
  unfold St.rdA
  split
  · exact ⟨Nat.zero_le _, Nat.zero_le _, hc⟩
  · exact ⟨Nat.zero_le _, Nat.zero_le _, Nat.zero_le _⟩
/-- A line's three pieces lie in a row, a block for what is to be handed back. -/
structure Pc (w : World) (g A : Nat) (a b c : ByteArray) (W : World) : Prop where
  st : SAt w g W (.string ⟨#[]⟩) (.string ⟨#[]⟩) (.int .i64 0) (.string ⟨#[]⟩) (.int .i64 0)
  lt : A < W.heap.size
  c0 : W.cell? ⟨A, 0, none⟩ = some (.string a)
  c1 : W.cell? ⟨A, 1, none⟩ = some (.string b)
  c2 : W.cell? ⟨A, 2, none⟩ = some (.string c)
theorem Pc.later {w : World} {g A : Nat} {a b c : ByteArray} {W W' : World} (h : Pc w g A a b c W) (hb : Below W.heap.size W W') : Pc w g A a b c W' :=
  ⟨h.st.later hb, Nat.lt_of_lt_of_le h.lt hb.size, (hb.cell (p := ⟨A, 0, none⟩) h.lt).trans h.c0, (hb.cell (p := ⟨A, 1, none⟩) h.lt).trans h.c1, (hb.cell (p := ⟨A, 2, none⟩) h.lt).trans h.c2⟩
theorem Pc.alloc {w : World} {g A : Nat} {a b c : ByteArray} {W : World} (h : Pc w g A a b c W) (o : Obj) : Pc w g A a b c (W.alloc o) := h.later ((Below.refl _ W).alloc (Nat.le_refl _) o)
theorem Pc.cells {w : World} {g A : Nat} {a b c : ByteArray} {W : World} (h : Pc w g A a b c W) : W.cell? ⟨A, 0, none⟩ = some (.string a) ∧ W.cell? ⟨A, 1, none⟩ = some (.string b) ∧ W.cell? ⟨A, 2, none⟩ = some (.string c) := ⟨h.c0, h.c1, h.c2⟩
theorem Pc.other5 {w : World} {g A : Nat} {a b c : ByteArray} {W : World} (h : Pc w g A a b c W) {g' : Nat} (hg : w.heap.size ≤ g') (hne : g ≠ g') (hA : A ≠ g') (v0 v1 v2 v3 v4 : Value) :
    Pc w g A a b c (((((W.setCell ⟨g', 0, none⟩ v0).setCell ⟨g', 1, none⟩ v1).setCell ⟨g', 2, none⟩ v2).setCell ⟨g', 3, none⟩ v3).setCell ⟨g', 4, none⟩ v4) := by
  have e : ∀ k, (((((W.setCell ⟨g', 0, none⟩ v0).setCell ⟨g', 1, none⟩ v1).setCell ⟨g', 2, none⟩ v2).setCell ⟨g', 3, none⟩ v3).setCell ⟨g', 4, none⟩ v4).cell? ⟨A, k, none⟩ = W.cell? ⟨A, k, none⟩ := fun k => by
    unfold World.cell?
    simp only []
    rw [heap_set_other _ _ _ _ hA, heap_set_other _ _ _ _ hA, heap_set_other _ _ _ _ hA, heap_set_other _ _ _ _ hA, heap_set_other _ _ _ _ hA]
  exact ⟨h.st.other5 hg hne _ _ _ _ _, Nat.lt_of_lt_of_le h.lt (Nat.le_of_eq (by simp [World.setCell])), (e 0).trans h.c0, (e 1).trans h.c1, (e 2).trans h.c2⟩
end Go.Proofs.YtbpghbbcghlcaaaDoor
