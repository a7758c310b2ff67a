/- The plain mathematics of package field: what fields have of a name, and without names. -/
import Derived.Test.YtlekbnbdjahegaaDoorFdMath
namespace Fld
open Oct (lower)

def named (n : List UInt8) (f : F) : Bool := lower f.1 == lower n
def get (fs : List F) (n : List UInt8) : List (List UInt8) := (fs.filter (named n)).map (·.2)
def without (fs : List F) (n : List UInt8) : List F := fs.filter fun f => !named n f
/-- Fields but those of which the name in small letters is in a set. -/
def drop (fs : List F) (mem : List UInt8 → Bool) : List F := fs.filter fun f => !mem (lower f.1)
theorem fone {α : Type} (p : α → Bool) (a : α) : [a].filter p = if p a then [a] else [] := by cases h : p a <;> simp [h]
theorem get_yes {fs : List F} {n : List UInt8} {k : Nat} (h : k < fs.length) (hn : named n fs[k] = true) : get (fs.take (k + 1)) n = get (fs.take k) n ++ [fs[k].2] := by
  unfold get; rw [List.take_succ_eq_append_getElem h, List.filter_append, List.map_append, fone, if_pos hn]; rfl
theorem get_no {fs : List F} {n : List UInt8} {k : Nat} (h : k < fs.length) (hn : named n fs[k] = false) : get (fs.take (k + 1)) n = get (fs.take k) n := by
  unfold get; rw [List.take_succ_eq_append_getElem h, List.filter_append, List.map_append, fone, hn]; simp
theorem get_zero (fs : List F) (n : List UInt8) : get (fs.take 0) n = [] := rfl
theorem get_length (fs : List F) (n : List UInt8) : (get fs n).length ≤ fs.length := by
  unfold get; rw [List.length_map]; exact List.length_filter_le _ _
theorem get_small {fs : List F} {n : List UInt8} {m : Nat} (h : ∀ f ∈ fs, f.2.length ≤ m) : ∀ l ∈ get fs n, l.length ≤ m := by
  intro l hl
  obtain ⟨f, hf, rfl⟩ := List.mem_map.1 hl
  exact h f (List.mem_filter.1 hf).1
theorem drop_yes {fs : List F} {mem : List UInt8 → Bool} {k : Nat} (h : k < fs.length) (hn : mem (lower fs[k].1) = false) : drop (fs.take (k + 1)) mem = drop (fs.take k) mem ++ [fs[k]] := by
  unfold drop; rw [List.take_succ_eq_append_getElem h, List.filter_append, fone]; simp [hn]
theorem drop_no {fs : List F} {mem : List UInt8 → Bool} {k : Nat} (h : k < fs.length) (hn : mem (lower fs[k].1) = true) : drop (fs.take (k + 1)) mem = drop (fs.take k) mem := by
  unfold drop; rw [List.take_succ_eq_append_getElem h, List.filter_append, fone]; simp [hn]
theorem drop_zero (fs : List F) (mem : List UInt8 → Bool) : drop (fs.take 0) mem = [] := rfl
theorem drop_length (fs : List F) (mem : List UInt8 → Bool) : (drop fs mem).length ≤ fs.length := List.length_filter_le _ _
theorem drop_sub {fs : List F} {mem : List UInt8 → Bool} {f : F} (h : f ∈ drop fs mem) : f ∈ fs := (List.mem_filter.1 h).1
theorem without_drop (fs : List F) (n : List UInt8) : without fs n = drop fs (fun l => l == lower n) := rfl

/-! ### two lists -/
theorem get_append (a b : List F) (n : List UInt8) : get (a ++ b) n = get a n ++ get b n := by unfold get; rw [List.filter_append, List.map_append]
theorem get_without (fs : List F) (n : List UInt8) : get (without fs n) n = [] := by
  unfold get without
  rw [List.filter_filter]
  have : fs.filter (fun f => named n f && !named n f) = [] := by simp
  rw [this]; rfl
theorem without_without (fs : List F) (n : List UInt8) : without (without fs n) n = without fs n := by
  unfold without; rw [List.filter_filter]; simp
theorem without_length (fs : List F) (n : List UInt8) : (without fs n).length + (get fs n).length = fs.length := by
  unfold without get
  rw [List.length_map]
  induction fs with
  | nil => rfl
  | cons f r ih => cases h : named n f <;> simp [h] <;> omega
/-- Without several names: one behind the other. -/
def withoutAll (fs : List F) (ns : List (List UInt8)) : List F := ns.foldl without fs
theorem withoutAll_drop (ns : List (List UInt8)) : ∀ (fs : List F), withoutAll fs ns = drop fs (fun l => (ns.map lower).contains l) := by
  induction ns with
  | nil => intro fs; unfold withoutAll drop; exact (List.filter_eq_self.2 (fun _ _ => rfl)).symm
  | cons n r ih =>
    intro fs
    show withoutAll (without fs n) r = _
    rw [ih, without_drop]
    unfold drop
    rw [List.filter_filter]
    congr 1
    funext f
    show (!(r.map lower).contains (lower f.1) && !(lower f.1 == lower n)) = !(lower n :: r.map lower).contains (lower f.1)
    rw [List.contains_cons]
    cases h : lower f.1 == lower n <;> simp
theorem withoutAll_snoc (fs : List F) (ns : List (List UInt8)) (k : Nat) (h : k < ns.length) : withoutAll fs (ns.take (k + 1)) = without (withoutAll fs (ns.take k)) ns[k] := by
  unfold withoutAll; rw [List.take_succ_eq_append_getElem h, List.foldl_append]; rfl
theorem withoutAll_sub (ns : List (List UInt8)) (fs : List F) {f : F} (h : f ∈ withoutAll fs ns) : f ∈ fs := by
  rw [withoutAll_drop] at h; exact drop_sub h
theorem withoutAll_length (ns : List (List UInt8)) (fs : List F) : (withoutAll fs ns).length ≤ fs.length := by
  rw [withoutAll_drop]; exact drop_length _ _
end Fld
