/- The plain mathematics of package field: fields, of which some are others. -/
import Derived.Test.YtlekbnbdjahegaaDoorFdMathC
namespace Fld
open Oct (lower)

/-- With one field. -/
def with1 (fs : List F) (m : F) : List F := match fs with
  | [] => [m]
  | f :: r => if named m.1 f then m :: without r m.1 else f :: with1 r m
/-- As the document's own loop gathers it: what has been put out, and whether m has been met. -/
def wstep (m : F) (st : List F × Bool) (f : F) : List F × Bool := if named m.1 f then (if st.2 then st else (st.1 ++ [m], true)) else (st.1 ++ [f], st.2)
def wfold (m : F) (fs : List F) : List F × Bool := fs.foldl (wstep m) ([], false)
theorem wfold_snoc (m : F) (fs : List F) (k : Nat) (h : k < fs.length) : wfold m (fs.take (k + 1)) = wstep m (wfold m (fs.take k)) fs[k] := by
  unfold wfold; rw [List.take_succ_eq_append_getElem h, List.foldl_append]; rfl
theorem wfold_zero (m : F) (fs : List F) : wfold m (fs.take 0) = ([], false) := rfl
theorem wfold_true (m : F) : ∀ (fs : List F) (out : List F), fs.foldl (wstep m) (out, true) = (out ++ without fs m.1, true)
  | [], out => by simp [without]
  | f :: r, out => by
    rw [List.foldl_cons]
    cases h : named m.1 f
    · have e : wstep m (out, true) f = (out ++ [f], true) := by unfold wstep; simp [h]
      have e2 : without (f :: r) m.1 = f :: without r m.1 := by unfold without; rw [List.filter_cons]; simp [h]
      rw [e, e2, wfold_true m r (out ++ [f])]
      simp
    · have e : wstep m (out, true) f = (out, true) := by unfold wstep; simp [h]
      have e2 : without (f :: r) m.1 = without r m.1 := by unfold without; rw [List.filter_cons]; simp [h]
      rw [e, e2, wfold_true m r out]
theorem wfold_false (m : F) : ∀ (fs : List F) (out : List F), (let st := fs.foldl (wstep m) (out, false); if st.2 then st.1 else st.1 ++ [m]) = out ++ with1 fs m
  | [], out => by simp [with1]
  | f :: r, out => by
    rw [List.foldl_cons]
    unfold with1
    cases h : named m.1 f
    · have e : wstep m (out, false) f = (out ++ [f], false) := by unfold wstep; simp [h]
      rw [e]
      have := wfold_false m r (out ++ [f])
      simpa using this
    · have e : wstep m (out, false) f = (out ++ [m], true) := by unfold wstep; simp [h]
      rw [e, wfold_true]
      simp
theorem with1_done {m : F} {fs : List F} (h : (wfold m fs).2 = true) : (wfold m fs).1 = with1 fs m := by
  have := wfold_false m fs []
  unfold wfold at h ⊢
  simp only [h, if_true, List.nil_append] at this
  exact this
theorem with1_not {m : F} {fs : List F} (h : (wfold m fs).2 = false) : (wfold m fs).1 ++ [m] = with1 fs m := by
  have := wfold_false m fs []
  unfold wfold at h ⊢
  simp only [h, List.nil_append] at this
  exact this
theorem wstep_length (m : F) (st : List F × Bool) (f : F) : (wstep m st f).1.length ≤ st.1.length + 1 := by
  unfold wstep; split
  · split <;> simp
  · simp
theorem wfold_length (m : F) : ∀ (fs : List F) (st : List F × Bool), (fs.foldl (wstep m) st).1.length ≤ st.1.length + fs.length
  | [], st => by simp
  | f :: r, st => by
    have h1 := wfold_length m r (wstep m st f)
    have h2 := wstep_length m st f
    rw [List.foldl_cons, List.length_cons]; omega
theorem with1_length (fs : List F) (m : F) : (with1 fs m).length ≤ fs.length + 1 := by
  induction fs with
  | nil => simp [with1]
  | cons f r ih =>
    unfold with1
    split
    · have : (without r m.1).length ≤ r.length := List.length_filter_le _ _
      simp; omega
    · simp; omega
theorem with1_mem {fs : List F} {m f : F} (h : f ∈ with1 fs m) : f = m ∨ f ∈ fs := by
  induction fs with
  | nil => simp [with1] at h; exact .inl h
  | cons g r ih =>
    unfold with1 at h
    split at h
    · rcases List.mem_cons.1 h with h | h
      · exact .inl h
      · exact .inr (List.mem_cons_of_mem _ (List.mem_filter.1 h).1)
    · rcases List.mem_cons.1 h with h | h
      · subst h; exact .inr (by simp)
      · rcases ih h with h | h
        · exact .inl h
        · exact .inr (List.mem_cons_of_mem _ h)
def withAll (fs more : List F) : List F := more.foldl with1 fs
theorem withAll_snoc (fs more : List F) (k : Nat) (h : k < more.length) : withAll fs (more.take (k + 1)) = with1 (withAll fs (more.take k)) more[k] := by
  unfold withAll; rw [List.take_succ_eq_append_getElem h, List.foldl_append]; rfl
theorem withAll_bounds (more : List F) : ∀ fs : List F, (withAll fs more).length ≤ fs.length + more.length ∧ ∀ f ∈ withAll fs more, f ∈ fs ∨ f ∈ more := by
  induction more with
  | nil => intro fs; exact ⟨by simp [withAll], fun f h => .inl h⟩
  | cons m r ih =>
    intro fs
    have h1 := ih (with1 fs m)
    have h2 := with1_length fs m
    refine ⟨by show (withAll (with1 fs m) r).length ≤ _; rw [List.length_cons]; omega, fun f hf => ?_⟩
    rcases h1.2 f hf with h | h
    · rcases with1_mem h with h | h
      · subst h; exact .inr (by simp)
      · exact .inl h
    · exact .inr (List.mem_cons_of_mem _ h)

/-! ### as the program goes: over both lists, the last one of each name -/
/-- The last field of a name (in small letters). -/
def lastOf : List F → List UInt8 → Option F
  | [], _ => none
  | f :: r, k => match lastOf r k with
    | some g => some g
    | none => if lower f.1 = k then some f else none
theorem lastOf_key : ∀ {l : List F} {k : List UInt8} {g : F}, lastOf l k = some g → lower g.1 = k
  | [], _, _, h => by cases h
  | f :: r, k, g, h => by
    unfold lastOf at h
    cases h' : lastOf r k with
    | some g' => rw [h'] at h; cases h; exact lastOf_key h'
    | none =>
      rw [h'] at h
      simp only [] at h
      split at h
      · cases h; assumption
      · cases h
theorem lastOf_snoc (l : List F) (m : F) (k : List UInt8) : lastOf (l ++ [m]) k = if lower m.1 = k then some m else lastOf l k := by
  induction l with
  | nil => simp [lastOf]
  | cons f r ih =>
    show lastOf (f :: (r ++ [m])) k = _
    unfold lastOf
    rw [ih]
    by_cases h : lower m.1 = k
    · rw [if_pos h, if_pos h]
    · rw [if_neg h, if_neg h]
/-- What is put out for a field whose name has not been placed. -/
def walk (more : List F) : List F → List (List UInt8) → List F
  | [], _ => []
  | f :: r, pl => if pl.contains (lower f.1) then walk more r pl else match lastOf more (lower f.1) with
    | some g => g :: walk more r (lower f.1 :: pl)
    | none => f :: walk more r pl

/-- m's name is placed: its fields are left out. -/
theorem walk_placed (ms : List F) (m : F) : ∀ (l : List F) (pl pl' : List (List UInt8)), pl'.contains (lower m.1) = true → (∀ k, k ≠ lower m.1 → pl'.contains k = pl.contains k) →
    walk (ms ++ [m]) (l ++ [m]) pl' = without (walk ms l pl) m.1
  | [], pl, pl', h, _ => by simp only [List.nil_append, walk, h, if_true]; rfl
  | f :: r, pl, pl', h, he => by
    show walk (ms ++ [m]) (f :: (r ++ [m])) pl' = _
    unfold walk
    by_cases hf : lower f.1 = lower m.1
    · rw [hf, h, if_pos rfl]
      by_cases hp : pl.contains (lower m.1) = true
      · rw [if_pos hp]; exact walk_placed ms m r pl pl' h he
      · rw [if_neg hp]
        cases hl : lastOf ms (lower m.1) with
        | some g =>
          have hg := lastOf_key hl
          have e : without (g :: walk ms r (lower m.1 :: pl)) m.1 = without (walk ms r (lower m.1 :: pl)) m.1 := by
            unfold without named; rw [List.filter_cons]; simp [hg]
          simp only []
          rw [e]
          exact walk_placed ms m r (lower m.1 :: pl) pl' h (fun k hk => by rw [he k hk, List.contains_cons]; simp [hk])
        | none =>
          have e : without (f :: walk ms r pl) m.1 = without (walk ms r pl) m.1 := by
            unfold without named; rw [List.filter_cons]; simp [hf]
          simp only []
          rw [e]
          exact walk_placed ms m r pl pl' h he
    · rw [he _ hf]
      by_cases hp : pl.contains (lower f.1) = true
      · rw [if_pos hp, if_pos hp]; exact walk_placed ms m r pl pl' h he
      · rw [if_neg hp, if_neg hp, lastOf_snoc, if_neg (fun e => hf e.symm)]
        cases hl : lastOf ms (lower f.1) with
        | some g =>
          have hg := lastOf_key hl
          have e : without (g :: walk ms r (lower f.1 :: pl)) m.1 = g :: without (walk ms r (lower f.1 :: pl)) m.1 := by
            unfold without named; rw [List.filter_cons]; simp [hg, hf]
          simp only []
          rw [e]
          congr 1
          exact walk_placed ms m r (lower f.1 :: pl) (lower f.1 :: pl') (by rw [List.contains_cons, h]; simp) (fun k hk => by rw [List.contains_cons, List.contains_cons, he k hk])
        | none =>
          have e : without (f :: walk ms r pl) m.1 = f :: without (walk ms r pl) m.1 := by
            unfold without named; rw [List.filter_cons]; simp [hf]
          simp only []
          rw [e]
          congr 1
          exact walk_placed ms m r pl pl' h he
/-- m's name isn't placed: it stands where its name is met first, or else behind. -/
theorem walk_with1 (ms : List F) (m : F) : ∀ (l : List F) (pl pl' : List (List UInt8)), pl'.contains (lower m.1) = false → pl.contains (lower m.1) = false → (∀ k, pl'.contains k = pl.contains k) →
    walk (ms ++ [m]) (l ++ [m]) pl' = with1 (walk ms l pl) m
  | [], pl, pl', h, _, _ => by
    simp only [List.nil_append, walk, h, lastOf_snoc, if_true]
    rfl
  | f :: r, pl, pl', h, h', he => by
    show walk (ms ++ [m]) (f :: (r ++ [m])) pl' = _
    unfold walk
    rw [he]
    by_cases hf : lower f.1 = lower m.1
    · rw [hf, h', lastOf_snoc, if_pos rfl]
      simp only [Bool.false_eq_true, if_false]
      have hput : (lower m.1 :: pl').contains (lower m.1) = true := by rw [List.contains_cons]; simp
      cases hl : lastOf ms (lower m.1) with
      | some g =>
        have hg := lastOf_key hl
        have e : with1 (g :: walk ms r (lower m.1 :: pl)) m = m :: without (walk ms r (lower m.1 :: pl)) m.1 := by
          rw [with1]; unfold named; simp [hg]
        simp only []
        rw [e]
        congr 1
        exact walk_placed ms m r (lower m.1 :: pl) (lower m.1 :: pl') hput (fun k _ => by rw [List.contains_cons, List.contains_cons, he k])
      | none =>
        have e : with1 (f :: walk ms r pl) m = m :: without (walk ms r pl) m.1 := by
          rw [with1]; unfold named; simp [hf]
        simp only []
        rw [e]
        congr 1
        exact walk_placed ms m r pl (lower m.1 :: pl') hput (fun k hk => by rw [List.contains_cons, he k]; simp [hk])
    · by_cases hp : pl.contains (lower f.1) = true
      · rw [if_pos hp, if_pos hp]; exact walk_with1 ms m r pl pl' h h' he
      · have hmf : ¬ lower m.1 = lower f.1 := fun e => hf e.symm
        rw [if_neg hp, if_neg hp, lastOf_snoc, if_neg hmf]
        cases hl : lastOf ms (lower f.1) with
        | some g =>
          have hg := lastOf_key hl
          have e : with1 (g :: walk ms r (lower f.1 :: pl)) m = g :: with1 (walk ms r (lower f.1 :: pl)) m := by
            rw [with1]; unfold named; simp [hg, hf]
          simp only []
          rw [e]
          congr 1
          exact walk_with1 ms m r (lower f.1 :: pl) (lower f.1 :: pl') (by rw [List.contains_cons, h]; simp [hmf]) (by rw [List.contains_cons, h']; simp [hmf]) (fun k => by rw [List.contains_cons, List.contains_cons, he k])
        | none =>
          have e : with1 (f :: walk ms r pl) m = f :: with1 (walk ms r pl) m := by
            rw [with1]; unfold named; simp [hf]
          simp only []
          rw [e]
          congr 1
          exact walk_with1 ms m r pl pl' h h' he
theorem walk_none : ∀ (l : List F) (pl : List (List UInt8)), (∀ f ∈ l, pl.contains (lower f.1) = false) → walk [] l pl = l
  | [], _, _ => rfl
  | f :: r, pl, h => by
    unfold walk
    rw [h f (by simp)]
    simp only [Bool.false_eq_true, if_false, lastOf]
    rw [walk_none r pl (fun g hg => h g (List.mem_cons_of_mem _ hg))]
/-- The program's way is the document's. -/
theorem walk_withAll (fs more : List F) : walk more (fs ++ more) [] = withAll fs more := by
  suffices h : ∀ k, k ≤ more.length → walk (more.take k) (fs ++ more.take k) [] = withAll fs (more.take k) by
    have := h more.length (Nat.le_refl _)
    rwa [List.take_length] at this
  intro k
  induction k with
  | zero => intro _; simp only [List.take_zero, List.append_nil]; rw [walk_none fs [] (fun _ _ => rfl)]; rfl
  | succ k ih =>
    intro hk
    rw [withAll_snoc fs more k hk, ← ih (by omega), List.take_succ_eq_append_getElem hk, ← List.append_assoc]
    exact walk_with1 _ _ _ [] [] rfl rfl (fun _ => rfl)
end Fld
