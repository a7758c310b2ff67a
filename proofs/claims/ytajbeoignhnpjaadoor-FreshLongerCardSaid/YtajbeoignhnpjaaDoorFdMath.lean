/- What lies below, out of the texts of the layers under this one: FdMath, FdMathC. -/
import Derived.Test.YtajbeoignhnpjaaDoorOctMath
import Derived.Lib.IndexBytes
import Derived.Lib.IndexMore
namespace Fld
open Oct (token value lower trim)

abbrev F := List UInt8 × List UInt8
def right (f : F) : Bool := token f.1 && value f.2
def weight (f : F) : Nat := f.1.length + f.2.length + 4
def line (f : F) : List UInt8 := f.1 ++ [58, 32] ++ f.2 ++ [13, 10]
def lines (fs : List F) : List UInt8 := fs.flatMap line
def print (fs : List F) : List UInt8 := lines fs ++ [13, 10]
def size (fs : List F) : Nat := 2 + (fs.map weight).sum
def allRight (fs : List F) : Bool := fs.all right
def fault (fs : List F) : Int := if allRight fs then (if fs.length > 128 then 13 else if size fs > 65536 then 12 else 0) else 10

theorem size_snoc (fs : List F) (k : Nat) (h : k < fs.length) : size (fs.take (k + 1)) = size (fs.take k) + weight fs[k] := by
  unfold size; rw [List.take_succ_eq_append_getElem h, List.map_append, List.sum_append]
  show 2 + (((fs.take k).map weight).sum + (weight fs[k] + 0)) = _
  omega
theorem size_zero (fs : List F) : size (fs.take 0) = 2 := rfl
theorem size_take (fs : List F) (k : Nat) : size (fs.take k) ≤ size fs := by
  have : size fs = size (fs.take k) + ((fs.drop k).map weight).sum := by
    unfold size
    conv => lhs; rw [← List.take_append_drop k fs, List.map_append, List.sum_append]
    omega
  omega
theorem allRight_snoc (fs : List F) (k : Nat) (h : k < fs.length) : allRight (fs.take (k + 1)) = (allRight (fs.take k) && right fs[k]) := by
  unfold allRight; rw [List.take_succ_eq_append_getElem h, List.all_append]
  show (_ && (right fs[k] && true)) = _
  rw [Bool.and_true]
theorem allRight_miss (fs : List F) (k : Nat) (h : k < fs.length) (hr : right fs[k] = false) : allRight fs = false := by
  unfold allRight; rw [List.all_eq_false]; exact ⟨fs[k], List.getElem_mem h, by simp [hr]⟩
theorem take_whole {α : Type} (fs : List α) (k : Nat) (h : fs.length ≤ k) : fs.take k = fs := List.take_of_length_le h
theorem lines_snoc (fs : List F) (k : Nat) (h : k < fs.length) : lines (fs.take (k + 1)) = lines (fs.take k) ++ line fs[k] := by
  unfold lines; rw [List.take_succ_eq_append_getElem h, List.flatMap_append]
  show _ ++ (line fs[k] ++ []) = _
  rw [List.append_nil]
theorem line_length (f : F) : (line f).length = weight f := by unfold line weight; simp; omega
theorem lines_length (fs : List F) : (lines fs).length + 2 = size fs := by
  unfold lines size
  have : (fs.flatMap line).length = (fs.map weight).sum := by
    rw [List.length_flatMap]; congr 1; apply List.map_congr_left; intro f _; exact line_length f
  omega
theorem print_length (fs : List F) : (print fs).length = size fs := by unfold print; rw [List.length_append, ← lines_length]; rfl
theorem fault_form {fs : List F} (h : allRight fs = false) : fault fs = 10 := by unfold fault; simp [h]
theorem fault_many {fs : List F} (h : allRight fs = true) (hl : 128 < fs.length) : fault fs = 13 := by unfold fault; simp [h, hl]
theorem fault_long {fs : List F} (h : allRight fs = true) (hl : fs.length ≤ 128) (hs : 65536 < size fs) : fault fs = 12 := by unfold fault; simp [h, hs]; omega
theorem fault_ok {fs : List F} (h : allRight fs = true) (hl : fs.length ≤ 128) (hs : size fs ≤ 65536) : fault fs = 0 := by unfold fault; simp [h]; omega
theorem fault_zero {fs : List F} (h : fault fs = 0) : allRight fs = true ∧ fs.length ≤ 128 ∧ size fs ≤ 65536 := by
  unfold fault at h
  split at h
  · rename_i ha
    split at h
    · cases h
    · split at h
      · cases h
      · exact ⟨ha, by omega, by omega⟩
  · cases h

/-! ### lines' ends -/
def isC (l : List UInt8) (i : Nat) : Prop := l[i]? = some 13 ∧ l[i + 1]? = some 10
instance (l : List UInt8) (i : Nat) : Decidable (isC l i) := by unfold isC; infer_instance
def crlf : List UInt8 → Option Nat
  | [] => none
  | c :: r => if c = 13 ∧ r.head? = some 10 then some 0 else (crlf r).map (· + 1)
theorem isC_succ (c : UInt8) (r : List UInt8) (i : Nat) : isC (c :: r) (i + 1) ↔ isC r i := by unfold isC; simp
theorem isC_zero (c : UInt8) (r : List UInt8) : isC (c :: r) 0 ↔ c = 13 ∧ r.head? = some 10 := by
  unfold isC; cases r <;> simp
theorem crlf_some {l : List UInt8} {i : Nat} (h : isC l i) (hn : ∀ j, j < i → ¬ isC l j) : crlf l = some i := by
  induction l generalizing i with
  | nil => unfold isC at h; simp at h
  | cons c r ih =>
    unfold crlf
    match i with
    | 0 => rw [if_pos ((isC_zero c r).1 h)]
    | i + 1 =>
      rw [if_neg (fun e => hn 0 (by omega) ((isC_zero c r).2 e)), ih ((isC_succ c r i).1 h) (fun j hj e => hn (j + 1) (by omega) ((isC_succ c r j).2 e))]
      rfl
theorem crlf_none {l : List UInt8} (hn : ∀ j, ¬ isC l j) : crlf l = none := by
  induction l with
  | nil => rfl
  | cons c r ih =>
    unfold crlf
    rw [if_neg (fun e => hn 0 ((isC_zero c r).2 e)), ih (fun j e => hn (j + 1) ((isC_succ c r j).2 e))]
    rfl
theorem isC_drop (b : List UInt8) (n i : Nat) : isC (b.drop n) i ↔ isC b (n + i) := by
  unfold isC; rw [List.getElem?_drop, List.getElem?_drop, Nat.add_assoc]
theorem isC_lt {l : List UInt8} {i : Nat} (h : isC l i) : i + 1 < l.length := by
  have := h.2; exact (List.getElem?_eq_some_iff.1 this).1
def endAt (b : List UInt8) (n : Nat) : Option Nat := (crlf (b.drop n)).map (n + ·)
theorem endAt_some {b : List UInt8} {n e : Nat} (hne : n ≤ e) (h : isC b e) (hn : ∀ j, n ≤ j → j < e → ¬ isC b j) : endAt b n = some e := by
  unfold endAt
  rw [crlf_some (i := e - n) ((isC_drop b n _).2 (by rwa [show n + (e - n) = e by omega])) (fun j hj hc => hn (n + j) (by omega) (by omega) ((isC_drop b n j).1 hc))]
  simp; omega
theorem endAt_none {b : List UInt8} {n : Nat} (hn : ∀ j, n ≤ j → ¬ isC b j) : endAt b n = none := by
  unfold endAt
  rw [crlf_none (fun j hc => hn (n + j) (by omega) ((isC_drop b n j).1 hc))]; rfl

theorem occ_isC (l : List UInt8) (i : Nat) : Go.Lib.occAt l [13, 10] i = true ↔ isC l i := by
  unfold Go.Lib.occAt isC
  rw [List.isPrefixOf_iff_prefix]
  constructor
  · rintro ⟨t, ht⟩
    have h0 := congrArg (·[0]?) ht
    have h1 := congrArg (·[1]?) ht
    simp at h0 h1
    exact ⟨h0.symm, h1.symm⟩
  · intro ⟨h0, h1⟩
    obtain ⟨k0, e0⟩ := List.getElem?_eq_some_iff.1 h0
    obtain ⟨k1, e1⟩ := List.getElem?_eq_some_iff.1 h1
    rw [List.drop_eq_getElem_cons k0, List.drop_eq_getElem_cons k1, e0, e1]
    exact ⟨_, rfl⟩
end Fld

namespace Fld
open Oct (lower)

def named (n : List UInt8) (f : F) : Bool := lower f.1 == lower n
def get (fs : List F) (n : List UInt8) : List (List UInt8) := (fs.filter (named n)).map (·.2)
def without (fs : List F) (n : List UInt8) : List F := fs.filter fun f => !named n f
/-- Fields but those of which the name in small letters is in a set. -/
def drop (fs : List F) (mem : List UInt8 → Bool) : List F := fs.filter fun f => !mem (lower f.1)
theorem fone {α : Type} (p : α → Bool) (a : α) : [a].filter p = if p a then [a] else [] := by cases h : p a <;> simp [h]
theorem get_yes {fs : List F} {n : List UInt8} {k : Nat} (h : k < fs.length) (hn : named n fs[k] = true) : get (fs.take (k + 1)) n = get (fs.take k) n ++ [fs[k].2] := by
  unfold get; rw [List.take_succ_eq_append_getElem h, List.filter_append, List.map_append, fone, if_pos hn]; rfl
theorem get_no {fs : List F} {n : List UInt8} {k : Nat} (h : k < fs.length) (hn : named n fs[k] = false) : get (fs.take (k + 1)) n = get (fs.take k) n := by
  unfold get; rw [List.take_succ_eq_append_getElem h, List.filter_append, List.map_append, fone, hn]; simp
theorem get_zero (fs : List F) (n : List UInt8) : get (fs.take 0) n = [] := rfl
theorem get_length (fs : List F) (n : List UInt8) : (get fs n).length ≤ fs.length := by
  unfold get; rw [List.length_map]; exact List.length_filter_le _ _
theorem get_small {fs : List F} {n : List UInt8} {m : Nat} (h : ∀ f ∈ fs, f.2.length ≤ m) : ∀ l ∈ get fs n, l.length ≤ m := by
  intro l hl
  obtain ⟨f, hf, rfl⟩ := List.mem_map.1 hl
  exact h f (List.mem_filter.1 hf).1
theorem drop_yes {fs : List F} {mem : List UInt8 → Bool} {k : Nat} (h : k < fs.length) (hn : mem (lower fs[k].1) = false) : drop (fs.take (k + 1)) mem = drop (fs.take k) mem ++ [fs[k]] := by
  unfold drop; rw [List.take_succ_eq_append_getElem h, List.filter_append, fone]; simp [hn]
theorem drop_no {fs : List F} {mem : List UInt8 → Bool} {k : Nat} (h : k < fs.length) (hn : mem (lower fs[k].1) = true) : drop (fs.take (k + 1)) mem = drop (fs.take k) mem := by
  unfold drop; rw [List.take_succ_eq_append_getElem h, List.filter_append, fone]; simp [hn]
theorem drop_zero (fs : List F) (mem : List UInt8 → Bool) : drop (fs.take 0) mem = [] := rfl
theorem drop_length (fs : List F) (mem : List UInt8 → Bool) : (drop fs mem).length ≤ fs.length := List.length_filter_le _ _
theorem drop_sub {fs : List F} {mem : List UInt8 → Bool} {f : F} (h : f ∈ drop fs mem) : f ∈ fs := (List.mem_filter.1 h).1
theorem without_drop (fs : List F) (n : List UInt8) : without fs n = drop fs (fun l => l == lower n) := rfl

/-! ### two lists -/
theorem get_append (a b : List F) (n : List UInt8) : get (a ++ b) n = get a n ++ get b n := by unfold get; rw [List.filter_append, List.map_append]
theorem get_without (fs : List F) (n : List UInt8) : get (without fs n) n = [] := by
  unfold get without
  rw [List.filter_filter]
  have : fs.filter (fun f => named n f && !named n f) = [] := by simp
  rw [this]; rfl
theorem without_without (fs : List F) (n : List UInt8) : without (without fs n) n = without fs n := by
  unfold without; rw [List.filter_filter]; simp
theorem without_length (fs : List F) (n : List UInt8) : (without fs n).length + (get fs n).length = fs.length := by
  unfold without get
  rw [List.length_map]
  induction fs with
  | nil => rfl
  | cons f r ih => cases h : named n f <;> simp [h] <;> omega
/-- Without several names: one behind the other. -/
def withoutAll (fs : List F) (ns : List (List UInt8)) : List F := ns.foldl without fs
theorem withoutAll_drop (ns : List (List UInt8)) : ∀ (fs : List F), withoutAll fs ns = drop fs (fun l => (ns.map lower).contains l) := by
  induction ns with
  | nil => intro fs; unfold withoutAll drop; exact (List.filter_eq_self.2 (fun _ _ => rfl)).symm
  | cons n r ih =>
    intro fs
    show withoutAll (without fs n) r = _
    rw [ih, without_drop]
    unfold drop
    rw [List.filter_filter]
    congr 1
    funext f
    show (!(r.map lower).contains (lower f.1) && !(lower f.1 == lower n)) = !(lower n :: r.map lower).contains (lower f.1)
    rw [List.contains_cons]
    cases h : lower f.1 == lower n <;> simp
theorem withoutAll_snoc (fs : List F) (ns : List (List UInt8)) (k : Nat) (h : k < ns.length) : withoutAll fs (ns.take (k + 1)) = without (withoutAll fs (ns.take k)) ns[k] := by
  unfold withoutAll; rw [List.take_succ_eq_append_getElem h, List.foldl_append]; rfl
theorem withoutAll_sub (ns : List (List UInt8)) (fs : List F) {f : F} (h : f ∈ withoutAll fs ns) : f ∈ fs := by
  rw [withoutAll_drop] at h; exact drop_sub h
theorem withoutAll_length (ns : List (List UInt8)) (fs : List F) : (withoutAll fs ns).length ≤ fs.length := by
  rw [withoutAll_drop]; exact drop_length _ _
end Fld
