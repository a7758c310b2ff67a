/- The plain mathematics of package field: With, step by step. -/
import Derived.Test.YtlekbnbdjahegaaDoorFdMathD
namespace Fld
open Oct (lower)

/-- Where the last field of a name stands among the first k of more. -/
def lookAt (more : List F) : Nat → List UInt8 → Option Int
  | 0, _ => none
  | k + 1, l => match more[k]? with
    | some f => if l = lower f.1 then some (k : Int) else lookAt more k l
    | none => lookAt more k l
theorem lookAt_succ (more : List F) (k : Nat) (h : k < more.length) (l : List UInt8) : lookAt more (k + 1) l = if l = lower more[k].1 then some (k : Int) else lookAt more k l := by
  rw [lookAt, List.getElem?_eq_getElem h]
theorem lookAt_spec (more : List F) (l : List UInt8) : ∀ k, k ≤ more.length → (∀ i, lookAt more k l = some i → ∃ (j : Nat) (h : j < more.length), i = j ∧ lastOf (more.take k) l = some more[j]) ∧ (lookAt more k l = none → lastOf (more.take k) l = none)
  | 0, _ => ⟨fun _ h => (by cases h), fun _ => rfl⟩
  | k + 1, hk => by
    have ih := lookAt_spec more l k (by omega)
    rw [lookAt_succ more k hk, List.take_succ_eq_append_getElem hk, lastOf_snoc]
    by_cases h : l = lower more[k].1
    · rw [if_pos h, if_pos h.symm]
      exact ⟨fun i hi => ⟨k, hk, by cases hi; rfl, rfl⟩, fun h => by cases h⟩
    · rw [if_neg h, if_neg (fun e => h e.symm)]
      exact ih
theorem lookAt_some {more : List F} {l : List UInt8} {g : F} (h : lastOf more l = some g) : ∃ (j : Nat) (hj : j < more.length), lookAt more more.length l = some (j : Int) ∧ more[j] = g := by
  have hs := lookAt_spec more l more.length (Nat.le_refl _)
  rw [List.take_length] at hs
  cases he : lookAt more more.length l with
  | none => rw [hs.2 he] at h; cases h
  | some i =>
    obtain ⟨j, hj, rfl, h2⟩ := hs.1 i he
    rw [h] at h2
    exact ⟨j, hj, rfl, (Option.some.inj h2).symm⟩
theorem lookAt_none {more : List F} {l : List UInt8} (h : lastOf more l = none) : lookAt more more.length l = none := by
  have hs := lookAt_spec more l more.length (Nat.le_refl _)
  rw [List.take_length] at hs
  cases he : lookAt more more.length l with
  | none => rfl
  | some i =>
    obtain ⟨j, hj, rfl, h2⟩ := hs.1 i he
    rw [h] at h2; cases h2
theorem lastOf_mem : ∀ {l : List F} {k : List UInt8} {g : F}, lastOf l k = some g → g ∈ l
  | [], _, _, h => by cases h
  | f :: r, k, g, h => by
    unfold lastOf at h
    cases h' : lastOf r k with
    | some g' => rw [h'] at h; cases h; exact List.mem_cons_of_mem _ (lastOf_mem h')
    | none =>
      rw [h'] at h
      simp only [] at h
      split at h
      · cases h; simp
      · cases h

def wk (more : List F) (st : List F × List (List UInt8)) (f : F) : List F × List (List UInt8) :=
  if st.2.contains (lower f.1) then st else match lastOf more (lower f.1) with
    | some g => (st.1 ++ [g], lower f.1 :: st.2)
    | none => (st.1 ++ [f], st.2)
def wkf (more l : List F) : List F × List (List UInt8) := l.foldl (wk more) ([], [])
theorem wkf_snoc (more l : List F) (k : Nat) (h : k < l.length) : wkf more (l.take (k + 1)) = wk more (wkf more (l.take k)) l[k] := by
  unfold wkf; rw [List.take_succ_eq_append_getElem h, List.foldl_append]; rfl
theorem wkf_walk (more : List F) : ∀ (l : List F) (out : List F) (pl : List (List UInt8)), (l.foldl (wk more) (out, pl)).1 = out ++ walk more l pl
  | [], out, pl => by simp [walk]
  | f :: r, out, pl => by
    rw [List.foldl_cons]
    unfold walk wk
    by_cases h : pl.contains (lower f.1) = true
    · rw [if_pos h, if_pos h]; exact wkf_walk more r out pl
    · rw [if_neg h, if_neg h]
      cases hl : lastOf more (lower f.1) with
      | some g => simp only []; have := wkf_walk more r (out ++ [g]) (lower f.1 :: pl); rw [List.append_assoc] at this; exact this
      | none => simp only []; have := wkf_walk more r (out ++ [f]) pl; rw [List.append_assoc] at this; exact this
theorem wkf_all (fs more : List F) : (wkf more (fs ++ more)).1 = withAll fs more := by
  unfold wkf; rw [wkf_walk, walk_withAll]; rfl
theorem wk_length (more : List F) (st : List F × List (List UInt8)) (f : F) : (wk more st f).1.length ≤ st.1.length + 1 := by
  unfold wk; split
  · omega
  · split <;> simp
theorem wkf_length (more : List F) : ∀ (l : List F) (st : List F × List (List UInt8)), (l.foldl (wk more) st).1.length ≤ st.1.length + l.length
  | [], st => by simp
  | f :: r, st => by
    have h1 := wkf_length more r (wk more st f)
    have h2 := wk_length more st f
    rw [List.foldl_cons, List.length_cons]; omega
theorem wk_placed {more : List F} {st : List F × List (List UInt8)} {f : F} (h : st.2.contains (lower f.1) = true) : wk more st f = st := by unfold wk; rw [if_pos h]
theorem wk_some {more : List F} {st : List F × List (List UInt8)} {f g : F} (h : st.2.contains (lower f.1) = false) (hl : lastOf more (lower f.1) = some g) : wk more st f = (st.1 ++ [g], lower f.1 :: st.2) := by unfold wk; rw [h, hl]; rfl
theorem wk_none {more : List F} {st : List F × List (List UInt8)} {f : F} (h : st.2.contains (lower f.1) = false) (hl : lastOf more (lower f.1) = none) : wk more st f = (st.1 ++ [f], st.2) := by unfold wk; rw [h, hl]; rfl
end Fld
