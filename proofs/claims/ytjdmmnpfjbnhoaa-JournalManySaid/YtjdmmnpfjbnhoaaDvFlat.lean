/- Plain mathematics: a list of rows of equal length, laid one behind the other: one row looked up, one row (or its beginning) written anew; what a device sees, behind its writes. -/
import Derived.Test.YtjdmmnpfjbnhoaaDvMath
namespace Dv
section
variable {α β : Type} {f : α → List β} {c : Nat}
theorem flat_len {ls : List α} (h : ∀ x ∈ ls, (f x).length = c) : (ls.flatMap f).length = ls.length * c := by
  induction ls with
  | nil => simp
  | cons x l ih =>
    rw [List.flatMap_cons, List.length_append, ih (fun y hy => h y (List.mem_cons_of_mem _ hy)), h x (List.mem_cons_self ..), List.length_cons, Nat.add_mul, Nat.one_mul, Nat.add_comm]
/-- The list, parted at the k-th row. -/
theorem flat_part {ls : List α} (k : Nat) (hk : k < ls.length) : ls.flatMap f = (ls.take k).flatMap f ++ (f ls[k] ++ (ls.drop (k + 1)).flatMap f) := by
  have e : ls = ls.take k ++ ls[k] :: ls.drop (k + 1) := by rw [← List.drop_eq_getElem_cons hk, List.take_append_drop]
  conv => lhs; rw [e]
  rw [List.flatMap_append, List.flatMap_cons]
theorem flat_take_len {ls : List α} (h : ∀ x ∈ ls, (f x).length = c) (k : Nat) (hk : k ≤ ls.length) : ((ls.take k).flatMap f).length = k * c := by
  rw [flat_len (fun x hx => h x (List.mem_of_mem_take hx)), List.length_take, Nat.min_eq_left hk]
theorem flat_at {ls : List α} (h : ∀ x ∈ ls, (f x).length = c) (k j : Nat) (hk : k < ls.length) (hj : j < c) : (ls.flatMap f)[k * c + j]? = (f ls[k])[j]? := by
  have h1 := flat_take_len h k (Nat.le_of_lt hk)
  have h2 := h ls[k] (List.getElem_mem hk)
  rw [flat_part k hk, List.getElem?_append_right (by omega), h1, Nat.add_sub_cancel_left, List.getElem?_append_left (by omega)]
/-- The beginning of the k-th row, or all of it, is written anew. -/
theorem flat_set {ls : List α} (h : ∀ x ∈ ls, (f x).length = c) (k : Nat) (hk : k < ls.length) (zs : List β) (hz : zs.length ≤ c) (y : α) (hy : f y = zs ++ (f ls[k]).drop zs.length) :
    (ls.flatMap f).take (k * c) ++ zs ++ (ls.flatMap f).drop (k * c + zs.length) = (ls.set k y).flatMap f := by
  have h1 := flat_take_len h k (Nat.le_of_lt hk)
  have h2 := h ls[k] (List.getElem_mem hk)
  have e : ls.set k y = ls.take k ++ y :: ls.drop (k + 1) := by rw [List.set_eq_take_append_cons_drop, if_pos hk]
  rw [e, List.flatMap_append, List.flatMap_cons, hy, flat_part k hk]
  rw [List.take_left' h1, List.append_assoc, List.append_assoc]
  congr 1
  congr 1
  rw [← h1, List.drop_append, List.drop_of_length_le (by omega), List.nil_append, Nat.add_sub_cancel_left, List.drop_append_of_le_length (by omega)]
end

/-! ### what a device sees -/
def sees (d : S) : List Sec := (List.range d.safe.length).map (see d)
theorem sees_length (d : S) : (sees d).length = d.safe.length := by simp [sees]
theorem sees_at (d : S) (i : Nat) (h : i < (sees d).length) : (sees d)[i] = see d i := by simp [sees]
/-- All of 64 octets, for sectors that are there. -/
structure Good (d : S) : Prop where
  safe : ∀ x ∈ d.safe, x.length = 64
  wait : ∀ w ∈ d.wait, w.1 < d.safe.length ∧ w.2.length = 64
theorem last_len {safe : List Sec} {wait : List (Nat × Sec)} {i : Nat} (hs : ∀ x ∈ safe, x.length = 64) (hw : ∀ w ∈ wait, w.2.length = 64) (hi : i < safe.length) : (last safe wait i).length = 64 := by
  unfold last
  have h0 : (safe.getD i []).length = 64 := by
    rw [List.getD_eq_getElem?_getD, List.getElem?_eq_getElem hi]; exact hs _ (List.getElem_mem hi)
  generalize safe.getD i [] = x at h0
  induction wait generalizing x with
  | nil => exact h0
  | cons w l ih =>
    rw [List.foldl_cons]
    refine ih (fun y hy => hw y (List.mem_cons_of_mem _ hy)) _ ?_
    split
    · exact hw w (List.mem_cons_self ..)
    · exact h0
theorem Good.see_len {d : S} (h : Good d) (i : Nat) (hi : i < d.safe.length) : (see d i).length = 64 := last_len h.safe (fun w hw => (h.wait w hw).2) hi
theorem Good.sees_len {d : S} (h : Good d) : ∀ x ∈ sees d, x.length = 64 := by
  intro x hx
  obtain ⟨i, hi, rfl⟩ := List.mem_map.1 hx
  exact h.see_len i (List.mem_range.1 hi)
/-- One write more: what is seen. -/
theorem see_snoc (d : S) (at_ : Nat) (x : Sec) : sees { d with wait := d.wait ++ [(at_, x)] } = (sees d).set at_ x := by
  apply List.ext_getElem
  · simp [sees]
  · intro i h1 h2
    have hi : i < d.safe.length := by simpa [sees] using h1
    rw [List.getElem_set, sees_at, sees_at]
    unfold see
    rw [last_snoc]
theorem lay_length : ∀ (l : List Sec) (a : Nat), (lay a l).length = l.length
  | [], _ => rfl
  | _ :: l, a => by simp [lay, lay_length l]
theorem lay_snoc : ∀ (l : List Sec) (a : Nat) (x : Sec), lay a (l ++ [x]) = lay a l ++ [(a + l.length, x)]
  | [], a, x => by simp [lay]
  | y :: l, a, x => by
    show (a, y) :: lay (a + 1) (l ++ [x]) = (a, y) :: (lay (a + 1) l ++ [(a + (l.length + 1), x)])
    rw [lay_snoc l (a + 1) x, show a + 1 + l.length = a + (l.length + 1) by omega]
theorem lay_mem : ∀ (l : List Sec) (a : Nat) (w : Nat × Sec), w ∈ lay a l → a ≤ w.1 ∧ w.1 < a + l.length ∧ w.2 ∈ l
  | [], _, _, h => by cases h
  | x :: l, a, w, h => by
    rcases List.mem_cons.1 (show w ∈ (a, x) :: lay (a + 1) l from h) with rfl | h
    · exact ⟨Nat.le_refl _, by simp, List.mem_cons_self ..⟩
    · obtain ⟨h1, h2, h3⟩ := lay_mem l (a + 1) w h
      exact ⟨by omega, by simp; omega, List.mem_cons_of_mem _ h3⟩

/-! ### what waits comes to be sure: the first `oc k` octets of the k-th write -/
def settle (oc : Nat → Nat) : Nat → List (Nat × Sec) → List Sec → List Sec
  | _, [], safe => safe
  | k, w :: l, safe => settle oc (k + 1) l (safe.set w.1 (w.2.take (oc k) ++ (safe.getD w.1 []).drop (oc k)))
theorem settle_length (oc : Nat → Nat) : ∀ (l : List (Nat × Sec)) (k : Nat) (safe : List Sec), (settle oc k l safe).length = safe.length
  | [], _, _ => rfl
  | w :: l, k, safe => by show (settle oc (k + 1) l _).length = _; rw [settle_length oc l]; simp
theorem settle_snoc (oc : Nat → Nat) : ∀ (l : List (Nat × Sec)) (k : Nat) (w : Nat × Sec) (safe : List Sec), settle oc k (l ++ [w]) safe = (settle oc k l safe).set w.1 (w.2.take (oc (k + l.length)) ++ ((settle oc k l safe).getD w.1 []).drop (oc (k + l.length)))
  | [], _, _, _ => rfl
  | x :: l, k, w, safe => by
    show settle oc (k + 1) (l ++ [w]) _ = _
    rw [settle_snoc oc l (k + 1) w]
    have e : k + 1 + l.length = k + (x :: l).length := by simp; omega
    rw [e]
    rfl
theorem settle_good (oc : Nat → Nat) (ho : ∀ k, oc k ≤ 64) : ∀ (l : List (Nat × Sec)) (k : Nat) (safe : List Sec), (∀ x ∈ safe, x.length = 64) → (∀ w ∈ l, w.1 < safe.length ∧ w.2.length = 64) → ∀ x ∈ settle oc k l safe, x.length = 64
  | [], _, _, h, _ => h
  | w :: l, k, safe, h, hw => by
    refine settle_good oc ho l (k + 1) _ (fun x hx => ?_) (fun y hy => by rw [List.length_set]; exact hw y (List.mem_cons_of_mem _ hy))
    obtain ⟨h1, h2⟩ := hw w (List.mem_cons_self ..)
    rcases List.mem_or_eq_of_mem_set hx with hx | rfl
    · exact h x hx
    · have h3 : (safe.getD w.1 []).length = 64 := by rw [List.getD_eq_getElem?_getD, List.getElem?_eq_getElem h1]; exact h _ (List.getElem_mem h1)
      have := ho k
      rw [List.length_append, List.length_take, List.length_drop, h2, h3]; omega
theorem settle_other (oc : Nat → Nat) (i : Nat) : ∀ (l : List (Nat × Sec)) (k : Nat) (safe : List Sec), (∀ w ∈ l, w.1 ≠ i) → (settle oc k l safe).getD i [] = safe.getD i []
  | [], _, _, _ => rfl
  | w :: l, k, safe, h => by
    show (settle oc (k + 1) l _).getD i [] = _
    rw [settle_other oc i l _ _ (fun x hx => h x (List.mem_cons_of_mem _ hx)), set_get _ _ _ _ (h w (List.mem_cons_self ..))]
/-- All octets of all writes: a flush. -/
theorem settle_all : ∀ (l : List (Nat × Sec)) (k : Nat) (safe : List Sec), (∀ x ∈ safe, x.length = 64) → (∀ w ∈ l, w.1 < safe.length ∧ w.2.length = 64) → settle (fun _ => 64) k l safe = l.foldl done safe
  | [], _, _, _, _ => rfl
  | w :: l, k, safe, h, hw => by
    obtain ⟨h1, h2⟩ := hw w (List.mem_cons_self ..)
    have e : w.2.take 64 ++ (safe.getD w.1 []).drop 64 = w.2 := by
      have h3 : (safe.getD w.1 []).length = 64 := by rw [List.getD_eq_getElem?_getD, List.getElem?_eq_getElem h1]; exact h _ (List.getElem_mem h1)
      rw [List.take_of_length_le (by omega), List.drop_of_length_le (by omega), List.append_nil]
    show settle _ (k + 1) l (safe.set w.1 (w.2.take 64 ++ (safe.getD w.1 []).drop 64)) = _
    rw [e, List.foldl_cons]
    refine settle_all l (k + 1) _ (fun x hx => ?_) (fun y hy => by rw [List.length_set]; exact hw y (List.mem_cons_of_mem _ hy))
    rcases List.mem_or_eq_of_mem_set hx with hx | rfl
    · exact h x hx
    · exact h2
/-- How many octets of the k-th write a crash leaves. -/
def octets (keep : List Bool) (torn p : Int) (k : Nat) : Nat := if (k : Int) = torn then part p else if keep.getD k false then 64 else 0
theorem part_le (p : Int) : part p ≤ 64 := by unfold part; omega
theorem octets_le (keep : List Bool) (torn p : Int) (k : Nat) : octets keep torn p k ≤ 64 := by
  unfold octets; split
  · exact part_le p
  · split <;> omega
theorem settle_crash (keep : List Bool) (torn p : Int) : ∀ (l : List (Nat × Sec)) (k : Nat) (safe : List Sec), (∀ x ∈ safe, x.length = 64) → (∀ w ∈ l, w.1 < safe.length ∧ w.2.length = 64) → settle (octets keep torn p) k l safe = left_ keep torn p k l safe
  | [], _, _, _, _ => rfl
  | w :: l, k, safe, h, hw => by
    obtain ⟨h1, h2⟩ := hw w (List.mem_cons_self ..)
    have h3 : (safe.getD w.1 []).length = 64 := by rw [List.getD_eq_getElem?_getD, List.getElem?_eq_getElem h1]; exact h _ (List.getElem_mem h1)
    have e : safe.set w.1 (w.2.take (octets keep torn p k) ++ (safe.getD w.1 []).drop (octets keep torn p k)) = if (k : Int) = torn then safe.set w.1 (w.2.take (part p) ++ (safe.getD w.1 []).drop (part p)) else if keep.getD k false then safe.set w.1 w.2 else safe := by
      unfold octets
      split
      · rfl
      · split
        · rw [List.take_of_length_le (by omega), List.drop_of_length_le (by omega), List.append_nil]
        · rw [List.take_zero, List.drop_zero, List.nil_append, List.getD_eq_getElem?_getD, List.getElem?_eq_getElem h1]
          exact List.set_getElem_self h1
    show settle _ (k + 1) l (safe.set w.1 _) = left_ keep torn p (k + 1) l _
    rw [e]
    refine settle_crash keep torn p l (k + 1) _ (fun x hx => ?_) (fun y hy => ?_)
    · have h4 := part_le p
      split at hx
      · rcases List.mem_or_eq_of_mem_set hx with hx | rfl
        · exact h x hx
        · rw [List.length_append, List.length_take, List.length_drop, h2, h3]; omega
      · split at hx
        · rcases List.mem_or_eq_of_mem_set hx with hx | rfl
          · exact h x hx
          · exact h2
        · exact h x hx
    · have := hw y (List.mem_cons_of_mem _ hy)
      split
      · rw [List.length_set]; exact this
      · split
        · rw [List.length_set]; exact this
        · exact this

/-! ### the sectors that writes were for are seen as they are sure -/
def turn (sure : List Sec) (seen : List Sec) (w : Nat × Sec) : List Sec := seen.set w.1 (sure.getD w.1 [])
theorem turn_length (sure : List Sec) (l : List (Nat × Sec)) (seen : List Sec) : (l.foldl (turn sure) seen).length = seen.length := by
  induction l generalizing seen with
  | nil => rfl
  | cons w l ih => rw [List.foldl_cons, ih]; simp [turn]
theorem turn_at (sure : List Sec) (i : Nat) (l : List (Nat × Sec)) (seen : List Sec) (h : (∀ w ∈ l, w.1 ≠ i) → seen.getD i [] = sure.getD i []) (hi : i < seen.length) : (l.foldl (turn sure) seen).getD i [] = sure.getD i [] := by
  induction l generalizing seen with
  | nil => exact h (fun w hw => by cases hw)
  | cons w l ih =>
    rw [List.foldl_cons]
    refine ih _ (fun hn => ?_) (by unfold turn; rw [List.length_set]; exact hi)
    unfold turn
    by_cases hw : w.1 = i
    · subst hw; rw [List.getD_eq_getElem?_getD, List.getElem?_set_self hi]; rfl
    · rw [set_get _ _ _ _ hw]
      refine h (fun y hy => ?_)
      rcases List.mem_cons.1 hy with rfl | hy
      · exact hw
      · exact hn y hy
theorem last_other {safe : List Sec} {wait : List (Nat × Sec)} {i : Nat} (h : ∀ w ∈ wait, w.1 ≠ i) : last safe wait i = safe.getD i [] := by
  unfold last
  generalize safe.getD i [] = x
  induction wait generalizing x with
  | nil => rfl
  | cons w l ih =>
    rw [List.foldl_cons, if_neg (h w (List.mem_cons_self ..))]
    exact ih (fun y hy => h y (List.mem_cons_of_mem _ hy)) _
/-- Behind all of it reads see what is sure. -/
theorem settled (d : S) (oc : Nat → Nat) : d.wait.foldl (turn (settle oc 0 d.wait d.safe)) (sees d) = settle oc 0 d.wait d.safe := by
  have hl := settle_length oc d.wait 0 d.safe
  apply List.ext_getElem
  · rw [turn_length, sees_length, hl]
  · intro i h1 h2
    have hi : i < d.safe.length := by omega
    have e := turn_at (settle oc 0 d.wait d.safe) i d.wait (sees d) (fun hn => by
      rw [settle_other oc i _ _ _ hn, List.getD_eq_getElem?_getD, List.getElem?_eq_getElem (by rw [sees_length]; exact hi), sees_at]
      exact last_other hn) (by rw [sees_length]; exact hi)
    rw [List.getD_eq_getElem?_getD, List.getElem?_eq_getElem h1, List.getD_eq_getElem?_getD, List.getElem?_eq_getElem h2] at e
    exact e
theorem sees_none {d : S} (h : d.wait = []) : sees d = d.safe := by
  apply List.ext_getElem
  · exact sees_length d
  · intro i h1 h2
    rw [sees_at]
    unfold see
    rw [h, last_nil, List.getD_eq_getElem?_getD, List.getElem?_eq_getElem h2]
    rfl
end Dv
