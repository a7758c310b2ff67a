/- A region that draws its order, operation by operation: whatever only reads under S is taken first, in one list; a part that is guarded by a Bool which is a letter ('x || y') too; what is left (calls, an alloc, a store) one at a time. -/
import Derived.Test.YtgfgafondiipoaaProg
import Derived.OrdersHeld
import Derived.WalkKit
namespace Go.Proofs.Ytgfgafondiipoaa
open Go.RowKit

section
variable {P : Program} {ops : Array Oper} {S : World → Prop} {Q : Exit → Act → World → Prop} {K : Act → Prop}

/-- Each in turn yields its value in every world that meets S. -/
def Takes (P : Program) (ops : Array Oper) (S : World → Prop) (K : Act → Prop) : List Nat → Act → Prop
  | [], a => K a
  | i :: is, a => ∃ o v, ops[i]? = some o ∧ YieldsIf P ops S o v a ∧ Takes P ops S K is (a.put o.dst v)
/-- Each in turn may come up, and nobody who could come before it touches its temporaries. -/
def takesB (ops : Array Oper) : List Nat → Array Bool → Bool
  | [], _ => true
  | i :: is, d => (Region.ready .any ops d).contains i && Region.free .any ops d i && takesB ops is (d.setIfInBounds i true)
def listedBy : List Nat → Array Bool → Array Bool
  | [], d => d
  | i :: is, d => listedBy is (d.setIfInBounds i true)
theorem takes_held (hs : Region.noSelect ops = true) (hQ : ∀ (d : Option Tmp) (v : Value) c a w, Q (.panic c) (a.put d v) w → Q (.panic c) a w) {w : World} (hS : S w) {fuel : Nat} : ∀ (is : List Nat) (d : Array Bool) (a : Act),
    takesB ops is d = true → Takes P ops S K is a → (∀ a, K a → wpAnyH P .any ops Q S fuel (listedBy is d) a w) → wpAnyH P .any ops Q S (is.length + fuel) d a w
  | [], d, a, _, h, hK => by rw [List.length_nil, Nat.zero_add]; exact hK a h
  | i :: is, d, a, hB, h, hK => by
    obtain ⟨o, v, ho, hy, h⟩ := h
    simp only [takesB, Bool.and_eq_true] at hB
    rw [show (i :: is).length + fuel = (is.length + fuel) + 1 by simp; omega]
    exact wpAnyH_take ho hs hB.1.2 hB.1.1 (fun c a w => hQ o.dst v c a w) hy hS (takes_held hs hQ hS is _ _ hB.2 h hK)

theorem held_of_takes (hs : Region.noSelect ops = true) (hQ : ∀ (d : Option Tmp) (v : Value) c a w, Q (.panic c) (a.put d v) w → Q (.panic c) a w) {w : World} (hS : S w) {fuel : Nat} (is : List Nat) (d : Array Bool) (a : Act)
    (hB : takesB ops is d = true) (h : Takes P ops S (fun a => wpAnyH P .any ops Q S fuel (listedBy is d) a w) is a) : wpAnyH P .any ops Q S (is.length + fuel) d a w := takes_held hs hQ hS is d a hB h (fun _ h => h)
theorem Takes.val {i : Nat} {is : List Nat} {a : Act} {o : Oper} (v : Value) (ho : ops[i]? = some o) (hg : o.guard = none) (hr : ∀ w, S w → (execOp a.eval o).run P w = .ok (.value v) w) (h : Takes P ops S K is (a.put o.dst v)) : Takes P ops S K (i :: is) a :=
  ⟨o, v, ho, .inl ⟨by simp [Region.wanted, hg], hr⟩, h⟩
/-- 'x || y': two operations that are guarded by x, and the choice. -/
theorem Takes.either {i j k : Nat} {is : List Nat} {a : Act} {o4 o5 o6 : Oper} (p q : Bool) (v4 : Value) (h4 : ops[i]? = some o4) (h5 : ops[j]? = some o5) (h6 : ops[k]? = some o6) (g6 : o6.guard = none)
    (y4 : Region.wanted o4 (yielded ops a.tmps) = !p) (y5 : ∀ u, Region.wanted o5 (yielded ops (a.put o4.dst u).tmps) = !p)
    (r4 : ∀ w, S w → (execOp a.eval o4).run P w = .ok (.value v4) w) (r5 : ∀ w, S w → (execOp (a.put o4.dst v4).eval o5).run P w = .ok (.value (.bool q)) w)
    (r6 : ∀ u v w, (execOp ((a.put o4.dst u).put o5.dst v).eval o6).run P w = .ok (.value (if p = true then .bool true else v)) w)
    (h : ∀ u v, Takes P ops S K is (((a.put o4.dst u).put o5.dst v).put o6.dst (.bool (p || q)))) : Takes P ops S K (i :: j :: k :: is) a := by
  have six : ∀ u v, (if p = true then Value.bool true else v) = .bool (p || q) → Takes P ops S K (k :: is) ((a.put o4.dst u).put o5.dst v) := fun u v hv =>
    .val _ h6 g6 (fun w _ => by rw [r6 u v w, hv]) (h u v)
  cases p with
  | true => exact ⟨o4, undef, h4, .inr ⟨by rw [y4]; rfl, rfl⟩, o5, undef, h5, .inr ⟨by rw [y5]; rfl, rfl⟩, six _ _ rfl⟩
  | false => exact ⟨o4, v4, h4, .inl ⟨by rw [y4]; rfl, r4⟩, o5, .bool q, h5, .inl ⟨by rw [y5]; rfl, r5⟩, six _ _ (by cases q <;> rfl)⟩
theorem not_told (p : Bool) : ((some p : Option Bool) == some false) = !p := by cases p <;> rfl

theorem exec_load {o : Oper} {a : Act} {w : World} {T : TypeId} {s : Tmp} {v p : Value} (ho : o.op = .load T (.tmp s)) (hx : a.eval (.tmp s) = p) (hr : (Instr.loadAt T p).run P w = .ok v w) : (execOp a.eval o).run P w = .ok (.value v) w := by
  unfold execOp
  simp only [ho, hx, Sem.run_bind, hr, Result.andThen_ok, Sem.run_pure]
/-- What is left, one at a time. -/
theorem wpOp_plain {i : Nat} {o : Oper} {a : Act} {w : World} {J : Act → World → Prop} (ho : ops[i]? = some o) (hg : o.guard = none) (h : o.wp P a w J Q) : wpOp P ops Q i J a w := by
  unfold wpOp
  simp only [ho, Region.wanted, hg, if_true]
  exact .inl h
/-- An operation whose kind alone is looked at (the last one of a long region: to unify it takes too long). -/
theorem wpOp_known {i : Nat} {a : Act} {w : World} {J : Act → World → Prop} (x : Op) (d : Option Tmp) (h : (ops[i]?).map (fun o => (o.guard, o.op, o.dst)) = some (none, x, d)) (hw : ∀ o : Oper, o.op = x → o.dst = d → o.wp P a w J Q) : wpOp P ops Q i J a w := by
  obtain ⟨o, ho, he⟩ := Option.map_eq_some_iff.1 h
  simp only [Prod.mk.injEq] at he
  exact wpOp_plain ho he.1 (hw o he.2.1 he.2.2)
theorem wpOp_call {i : Nat} {o : Oper} {a : Act} {w : World} {J : Act → World → Prop} {f : FuncId} {args : Array Value} {v : Value} (ho : ops[i]? = some o) (hg : o.guard = none)
    (hr : (execOp a.eval o).run P w = .ok (.enter f args) w) (hc : Calls P f args w fun e w' => e = .returned v ∧ w = w') (h : J (a.put o.dst v) w) : wpOp P ops Q i J a w := by
  refine wpOp_plain ho hg ?_
  unfold Oper.wp
  rw [hr]
  exact hc.mono fun e w' ⟨he, hw⟩ => by subst he hw; exact h
theorem wpOp_make {i : Nat} {o : Oper} {a : Act} {w w' : World} {J : Act → World → Prop} {v : Value} (ho : ops[i]? = some o) (hg : o.guard = none)
    (hr : (execOp a.eval o).run P w = .ok (.value v) w') (h : J (a.put o.dst v) w') : wpOp P ops Q i J a w := by
  refine wpOp_plain ho hg ?_
  unfold Oper.wp
  rw [hr]
  exact h
end
end Go.Proofs.Ytgfgafondiipoaa
