/- A region that draws its order, whose operations only read, and whose callees may make memory (what was there stays as it was): one walk in the text's order. -/
import Derived.Test.YtgfgafondiipoaaProg
import Derived.Deep.QuietTactic
import Derived.BigQuiet
import Derived.WalkKit
namespace Go.Proofs.Ytgfgafondiipoaa
open Go.RowKit

/-- A world in which all that lay in W lies as it did. -/
structure LateOf (W : World) where
  w : World
  h : Below W.heap.size W w
instance (W : World) : Inhabited (LateOf W) := ⟨⟨W, Below.refl _ W⟩⟩

theorem wp_region_late {P : Program} {id : Nat} {Q : Exit → Act → World → Prop} {a : Act} {W : World} {l : List Oper} (hm : P.follows .mixedOrders = true) (hB : Region.lexB .any l.toArray = true)
    (h : wpQuiet P l.toArray (fun w' => ∃ p : LateOf W, w' = p.w) (fun a' => ∀ w', (∃ p : LateOf W, w' = p.w) → Q .normal a' w') l a) : (Code.region id l.toArray true).wp P Q a W :=
  wp_region_quiet (C := fun w' => ∃ p : LateOf W, w' = p.w) hm hB ⟨⟨W.drew, (Below.refl _ W).drew⟩, rfl⟩ (by simpa using h)
/-- A callee that makes memory. -/
theorem late {P : Program} {f : FuncId} {args : Array Value} {W : World} {v : Value} (p : LateOf W)
    (h : Calls P f args p.w fun e w' => e = .returned v ∧ Below p.w.heap.size p.w w') : Calls P f args p.w fun e w' => e = .returned v ∧ ∃ q : LateOf W, w' = q.w :=
  h.mono fun _ w' ⟨he, hb⟩ => ⟨he, ⟨w', p.h.trans (hb.mono p.h.size)⟩, rfl⟩
/-- A callee that leaves the world alone. -/
theorem late_same {P : Program} {f : FuncId} {args : Array Value} {W : World} {v : Value} (p : LateOf W)
    (h : Calls P f args p.w fun e w' => e = .returned v ∧ p.w = w') : Calls P f args p.w fun e w' => e = .returned v ∧ ∃ q : LateOf W, w' = q.w :=
  h.mono fun _ _ ⟨he, hb⟩ => ⟨he, p, hb.symm⟩
/-- A cell of W. -/
theorem LateOf.cell {W : World} (p : LateOf W) {b o : Nat} {v : Value} (h : W.cell? ⟨b, o, none⟩ = some v) : p.w.cell? ⟨b, o, none⟩ = some v := by
  rw [p.h.cell (p := ⟨b, o, none⟩) (World.block_lt_of_cell? W _ h)]; exact h
/-- A callee that leaves the world alone, in a region whose other operations leave it alone, too. -/
theorem same {P : Program} {f : FuncId} {args : Array Value} {w : World} {v : Value}
    (h : Calls P f args w fun e w' => e = .returned v ∧ w = w') : Calls P f args w fun e w' => e = .returned v ∧ w' = w :=
  h.mono fun _ _ ⟨he, hb⟩ => ⟨he, hb.symm⟩

end Go.Proofs.Ytgfgafondiipoaa
