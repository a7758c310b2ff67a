/- The plain mathematics of devices, after the chapter's words: sectors, writes that wait, calls that fail, crashes; nothing of any program. -/
namespace Dv
abbrev Sec := List UInt8
/-- A device: what is sure, what waits (in order), how many calls, which of them fail, behind how many the power does (below 0: never). -/
structure S where
  safe : List Sec
  wait : List (Nat × Sec)
  n : Nat
  bad : List Int
  left : Int
def init (k : Nat) : S := ⟨List.replicate k (List.replicate 64 0), [], 0, [], -1⟩
def there (d : S) (at_ k : Int) : Bool := decide (0 ≤ at_ ∧ 0 ≤ k ∧ at_ ≤ d.safe.length ∧ k ≤ d.safe.length - at_)
/-- A call that is counted, and its error: 0, 31 (ErrIO), 32 (ErrPower: not counted). -/
def call (d : S) : S × Int :=
  if d.left = 0 then (d, 32)
  else ({ d with left := if 0 < d.left then d.left - 1 else d.left, n := d.n + 1 }, if d.bad.contains (d.n : Int) then 31 else 0)
def lay (at_ : Nat) : List Sec → List (Nat × Sec)
  | [] => []
  | x :: l => (at_, x) :: lay (at_ + 1) l
def write (d : S) (at_ : Int) (l : List Sec) : S × Int :=
  if there d at_ l.length = false ∨ l.all (fun x => decide (x.length = 64)) = false then (d, 2)
  else if (call d).2 ≠ 0 then call d
  else ({ (call d).1 with wait := d.wait ++ lay at_.toNat l }, 0)
/-- What a sector has by the latest writes. -/
def last (safe : List Sec) (wait : List (Nat × Sec)) (i : Nat) : Sec := wait.foldl (fun x w => if w.1 = i then w.2 else x) (safe.getD i [])
def see (d : S) (i : Nat) : Sec := last d.safe d.wait i
def read (d : S) (at_ k : Int) : S × List Sec × Int :=
  if there d at_ k = false then (d, [], 2)
  else if (call d).2 ≠ 0 then ((call d).1, [], (call d).2)
  else ((call d).1, (List.range k.toNat).map (fun j => see d (at_.toNat + j)), 0)
def done (safe : List Sec) (w : Nat × Sec) : List Sec := safe.set w.1 w.2
def flush (d : S) : S × Int :=
  if (call d).2 ≠ 0 then call d
  else ({ (call d).1 with safe := d.wait.foldl done d.safe, wait := [] }, 0)
def fail (d : S) (l : List Int) : S := { d with n := 0, bad := l }
def limit (d : S) (k : Int) : S := { d with left := if k < 0 then -1 else k }
def part (p : Int) : Nat := (min (max p 0) 64).toNat
/-- What a crash leaves of the writes, the k-th one first. -/
def left_ (keep : List Bool) (torn p : Int) : Nat → List (Nat × Sec) → List Sec → List Sec
  | _, [], safe => safe
  | k, w :: l, safe => left_ keep torn p (k + 1) l (if (k : Int) = torn then safe.set w.1 (w.2.take (part p) ++ (safe.getD w.1 []).drop (part p)) else if keep.getD k false then safe.set w.1 w.2 else safe)
def crash (d : S) (keep : List Bool) (torn p : Int) : S := ⟨left_ keep torn p 0 d.wait d.safe, [], 0, [], -1⟩

/-! ### what a device has stays -/
theorem set_get (l : List Sec) (i j : Nat) (x : Sec) (h : i ≠ j) : (l.set i x).getD j [] = l.getD j [] := by
  rw [List.getD_eq_getElem?_getD, List.getD_eq_getElem?_getD, List.getElem?_set_ne h]
theorem left_length (keep : List Bool) (torn p : Int) : ∀ (l : List (Nat × Sec)) (k : Nat) (safe : List Sec), (left_ keep torn p k l safe).length = safe.length
  | [], _, _ => rfl
  | w :: l, k, safe => by
    show (left_ keep torn p (k + 1) l _).length = _
    rw [left_length keep torn p l]
    split
    · simp
    · split <;> simp
/-- A sector that no write that waits is for. -/
theorem left_other (keep : List Bool) (torn p : Int) (i : Nat) : ∀ (l : List (Nat × Sec)) (k : Nat) (safe : List Sec), (∀ w ∈ l, w.1 ≠ i) → (left_ keep torn p k l safe).getD i [] = safe.getD i []
  | [], _, _, _ => rfl
  | w :: l, k, safe, h => by
    show (left_ keep torn p (k + 1) l _).getD i [] = _
    rw [left_other keep torn p i l _ _ (fun x hx => h x (List.mem_cons_of_mem _ hx))]
    have h1 := h w (List.mem_cons_self ..)
    split
    · exact set_get _ _ _ _ h1
    · split
      · exact set_get _ _ _ _ h1
      · rfl
theorem done_length (l : List (Nat × Sec)) (safe : List Sec) : (l.foldl done safe).length = safe.length := by
  induction l generalizing safe with
  | nil => rfl
  | cons w l ih => rw [List.foldl_cons, ih]; simp [done]
theorem last_snoc (safe : List Sec) (wait : List (Nat × Sec)) (i j : Nat) (x : Sec) : last safe (wait ++ [(j, x)]) i = if j = i then x else last safe wait i := by
  unfold last; rw [List.foldl_append]; rfl
theorem last_nil (safe : List Sec) (i : Nat) : last safe [] i = safe.getD i [] := rfl
/-- What was seen is sure behind a flush. -/
theorem flush_last (wait : List (Nat × Sec)) (safe : List Sec) (i : Nat) (hw : ∀ w ∈ wait, w.1 < safe.length) : (wait.foldl done safe).getD i [] = last safe wait i := by
  unfold last
  induction wait generalizing safe with
  | nil => rfl
  | cons w l ih =>
    rw [List.foldl_cons, ih _ (fun x hx => by unfold done; rw [List.length_set]; exact hw x (List.mem_cons_of_mem _ hx)), List.foldl_cons]
    congr 1
    have h1 := hw w (List.mem_cons_self ..)
    unfold done
    by_cases h : w.1 = i
    · subst h; rw [if_pos rfl, List.getD_eq_getElem?_getD, List.getElem?_set_self h1]; rfl
    · rw [if_neg h, set_get _ _ _ _ h]

/-! ### calls without failures -/
/-- No call fails, the power doesn't. -/
def Calm (d : S) : Prop := d.bad = [] ∧ d.left = -1
theorem call_calm {d : S} (h : Calm d) : call d = ({ d with n := d.n + 1 }, 0) := by
  obtain ⟨safe, wait, n, bad, left⟩ := d
  obtain ⟨rfl, rfl⟩ := h
  rfl
theorem calm_init (k : Nat) : Calm (init k) := ⟨rfl, rfl⟩
/-- One sector is written. -/
theorem write_one {d : S} (h : Calm d) (k : Nat) (hk : k < d.safe.length) (x : Sec) (hx : x.length = 64) : write d k [x] = ({ d with n := d.n + 1, wait := d.wait ++ [(k, x)] }, 0) := by
  unfold write
  rw [call_calm h]
  have h1 : there d (k : Int) (([x] : List Sec).length : Int) = true := by
    unfold there
    rw [decide_eq_true_eq]
    simp only [List.length_singleton]
    omega
  rw [h1]
  simp [hx, lay]
theorem flush_calm {d : S} (h : Calm d) : flush d = ({ d with n := d.n + 1, safe := d.wait.foldl done d.safe, wait := [] }, 0) := by
  unfold flush
  rw [call_calm h]
  rfl
theorem read_all {d : S} (h : Calm d) (k : Nat) (hk : k = d.safe.length) : read d 0 k = ({ d with n := d.n + 1 }, (List.range k).map (see d), 0) := by
  unfold read
  rw [call_calm h]
  have h1 : there d 0 (k : Int) = true := by
    unfold there
    rw [decide_eq_true_eq]
    omega
  rw [h1]
  simp
theorem calm_crash (d : S) (keep : List Bool) (torn p : Int) : Calm (crash d keep torn p) := ⟨rfl, rfl⟩

/-! ### the document's example -/
def f_ (c : UInt8) : Sec := List.replicate 64 c
def ex1 : S := ⟨[f_ 0, f_ 0, f_ 0], [(0, f_ 1)], 1, [], -1⟩
def ex2 : S := ⟨[f_ 1, f_ 0, f_ 0], [], 2, [], -1⟩
def ex3 : S := ⟨[f_ 1, f_ 0, f_ 0], [(0, f_ 2), (1, f_ 3)], 3, [], -1⟩
def ex4 : S := ⟨[f_ 1, f_ 3, f_ 0], [], 0, [], -1⟩
theorem ex_1 : write (init 3) 0 [f_ 1] = (ex1, 0) := by rfl
theorem ex_2 : flush ex1 = (ex2, 0) := by rfl
theorem ex_3 : write ex2 0 [f_ 2, f_ 3] = (ex3, 0) := by rfl
theorem ex_4 : crash ex3 [false, true] (-1) 0 = ex4 := by rfl
theorem ex_5 : read ex4 0 3 = ({ ex4 with n := 1 }, [f_ 1, f_ 3, f_ 0], 0) := by rfl

theorem f_len (c : UInt8) : (f_ c).length = 64 := List.length_replicate
/-! ### eight sectors, written, flushed, four of them written anew -/
def oct (a j : Nat) : UInt8 := UInt8.ofNat (a + j)
def row (a k : Nat) : List (Nat × Sec) := (List.range k).map fun j => (j, f_ (oct a j))
theorem row_succ (a k : Nat) : row a (k + 1) = row a k ++ [(k, f_ (oct a k))] := by unfold row; rw [List.range_succ, List.map_append]; rfl
def first (k : Nat) : S := ⟨List.replicate 8 (f_ 0), row 10 k, k, [], -1⟩
theorem first_zero : first 0 = init 8 := rfl
theorem first_write (k : Nat) (hk : k < 8) : write (first k) k [f_ (oct 10 k)] = (first (k + 1), 0) := by
  rw [write_one ⟨rfl, rfl⟩ k (by show k < (List.replicate 8 (f_ 0)).length; rw [List.length_replicate]; exact hk) _ (f_len _)]
  show (S.mk _ _ _ _ _, _) = (S.mk _ _ _ _ _, _)
  rw [row_succ]
  rfl
def safe8 : List Sec := (List.range 8).map fun j => f_ (oct 10 j)
/-- Behind the flush, with these writes waiting. -/
def anew (wt : List (Nat × Sec)) : S := ⟨safe8, wt, 9 + wt.length, [], -1⟩
theorem first_flush : flush (first 8) = (anew [], 0) := by rfl
theorem anew_write (wt : List (Nat × Sec)) (k : Nat) (hk : k < 8) (x : Sec) (hx : x.length = 64) : write (anew wt) k [x] = (anew (wt ++ [(k, x)]), 0) := by
  rw [write_one ⟨rfl, rfl⟩ k (by show k < safe8.length; exact hk) _ hx]
  show (S.mk _ _ _ _ _, _) = (S.mk _ _ _ _ _, _)
  rw [List.length_append]
  rfl
theorem safe8_len : safe8.length = 8 := rfl
theorem anew_safe (wt : List (Nat × Sec)) : (anew wt).safe.length ≤ 65536 := by
  have h : (anew wt).safe.length = 8 := safe8_len
  omega
def seen (wt : List (Nat × Sec)) (keep : List Bool) (torn p : Int) : List Sec := (List.range 8).map fun i => (crash (anew wt) keep torn p).safe.getD i []
theorem crash_read (wt : List (Nat × Sec)) (keep : List Bool) (torn p : Int) : read (crash (anew wt) keep torn p) 0 8 = ({ crash (anew wt) keep torn p with n := 1 }, seen wt keep torn p, 0) := by
  have h := read_all (calm_crash (anew wt) keep torn p) 8 (by show 8 = (left_ _ _ _ _ _ _).length; rw [left_length]; rfl)
  exact h
theorem seen_length (wt : List (Nat × Sec)) (keep : List Bool) (torn p : Int) : (seen wt keep torn p).length = 8 := by unfold seen; simp
theorem seen_old (wt : List (Nat × Sec)) (keep : List Bool) (torn p : Int) (i : Nat) (hi : i < 8) (h : (wt.any fun x => x.1 == i) = false) : (seen wt keep torn p)[i]'(by rw [seen_length]; exact hi) = f_ (oct 10 i) := by
  unfold seen
  rw [List.getElem_map, List.getElem_range]
  show (left_ keep torn p 0 wt safe8).getD i [] = _
  rw [left_other keep torn p i wt 0 safe8 (fun x hx e => by
    have := List.any_eq_false.1 h x hx
    simp [e] at this)]
  have : ∀ i, i < 8 → safe8.getD i [] = f_ (oct 10 i) := by decide
  exact this i hi
theorem crash_waits (wt : List (Nat × Sec)) (keep : List Bool) (torn p : Int) : (crash (anew wt) keep torn p).wait = [] := rfl

/-! ### calls that fail -/
def z2 : List Sec := [f_ 0, f_ 0]
def g1 : S := ⟨z2, [(0, f_ 1)], 1, [], -1⟩
def gf (n : Nat) : S := ⟨z2, [(0, f_ 1)], n, [0, 1, 3], -1⟩
theorem fails_1 : write (init 2) 0 [f_ 1] = (g1, 0) := by rfl
theorem fails_2 : fail g1 [0, 1, 3] = gf 0 := by rfl
theorem fails_3 (x : UInt8) : write (gf 0) 0 [f_ x] = (gf 1, 31) := by
  unfold write
  rw [show there (gf 0) 0 (([f_ x] : List Sec).length : Int) = true from rfl]
  simp [f_len]
  rfl
theorem fails_4 : flush (gf 1) = (gf 2, 31) := by rfl
theorem fails_5 : write (gf 2) 9 [] = (gf 2, 2) := by rfl
theorem fails_6 : read (gf 2) 0 1 = (gf 3, [f_ 1], 0) := by rfl
theorem fails_7 : read (gf 3) 0 1 = (gf 4, [], 31) := by rfl
/-- Behind Limit(k), i more writes. -/
def gl (k i : Nat) : S := ⟨z2, (0, f_ 1) :: (List.range i).map (fun j => (1, f_ (UInt8.ofNat j))), 4 + i, [0, 1, 3], (k : Int) - i⟩
theorem fails_8 (k : Nat) : limit (gf 4) k = gl k 0 := by
  unfold limit
  rw [if_neg (by omega)]
  show (S.mk _ _ _ _ _) = (S.mk _ _ _ _ _)
  simp [gf]
theorem gl_call (k i : Nat) (h : i < k) : call (gl k i) = ({ gl k i with left := (k : Int) - i - 1, n := 4 + i + 1 }, 0) := by
  unfold call
  rw [if_neg (by show ¬ (k : Int) - i = 0; omega)]
  have h1 : (gl k i).bad.contains ((gl k i).n : Int) = false := by
    show ([0, 1, 3] : List Int).contains ((4 + i : Nat) : Int) = false
    simp
    omega
  rw [h1]
  have h2 : (if 0 < (gl k i).left then (gl k i).left - 1 else (gl k i).left) = (k : Int) - i - 1 := by
    show (if 0 < (k : Int) - i then (k : Int) - i - 1 else (k : Int) - i) = _
    rw [if_pos (by omega)]
  rw [h2]
  rfl
theorem fails_9 (k i : Nat) (h : i < k) : write (gl k i) 1 [f_ (UInt8.ofNat i)] = (gl k (i + 1), 0) := by
  unfold write
  rw [gl_call k i h, show there (gl k i) 1 (([f_ (UInt8.ofNat i)] : List Sec).length : Int) = true from rfl]
  simp only [List.all_cons, List.all_nil, f_len, decide_true, Bool.and_true, Bool.true_eq_false, or_self, if_false, ne_eq, not_true_eq_false]
  show (S.mk _ _ _ _ _, _) = (S.mk _ _ _ _ _, _)
  have e1 : (k : Int) - i - 1 = (k : Int) - ((i + 1 : Nat) : Int) := by omega
  rw [e1, List.range_succ, List.map_append]
  rfl
theorem gl_off (k : Nat) : call (gl k k) = (gl k k, 32) := by
  unfold call
  rw [if_pos (by show (k : Int) - k = 0; omega)]
theorem fails_10 (k : Nat) : read (gl k k) 0 1 = (gl k k, [], 32) := by
  unfold read
  rw [gl_off, show there (gl k k) 0 1 = true from rfl]
  rfl
theorem fails_11 (k : Nat) (x : UInt8) : write (gl k k) 1 [f_ x] = (gl k k, 32) := by
  unfold write
  rw [gl_off, show there (gl k k) 1 (([f_ x] : List Sec).length : Int) = true from rfl]
  simp [f_len]
theorem fails_12 (k : Nat) : flush (gl k k) = (gl k k, 32) := by
  unfold flush
  rw [gl_off]
  rfl
theorem gl_waits (k : Nat) : (gl k k).wait.length = 1 + k := by show (_ :: _).length = _; simp; omega
theorem left_none (p : Int) : ∀ (l : List (Nat × Sec)) (k : Nat) (safe : List Sec), left_ [] (-1) p k l safe = safe
  | [], _, _ => rfl
  | w :: l, k, safe => by
    show left_ [] (-1) p (k + 1) l _ = _
    rw [if_neg (by omega), if_neg (by simp)]
    exact left_none p l _ _
theorem fails_13 (k : Nat) : crash (gl k k) [] (-1) 0 = init 2 := by
  unfold crash
  rw [left_none]
  rfl
theorem fails_14 : read (init 2) 0 2 = ({ init 2 with n := 1 }, [f_ 0, f_ 0], 0) := by rfl

/-! ### what was written last -/
structure Ord (d : S) (b : Nat → UInt8) : Prop where
  calm : Calm d
  len : d.safe.length = 8
  small : ∀ x ∈ d.wait, x.1 < 8
  seen : ∀ i, i < 8 → see d i = f_ (b i)
theorem ord_init : Ord (init 8) (fun _ => 0) := ⟨⟨rfl, rfl⟩, rfl, (fun x h => by cases h), by decide⟩
theorem ord_write {d : S} {b b' : Nat → UInt8} (h : Ord d b) (k : Nat) (hk : k < 8) (c : UInt8) (hb : ∀ i, b' i = if k = i then c else b i) :
    ∃ d', write d k [f_ c] = (d', 0) ∧ Ord d' b' ∧ d'.n = d.n + 1 ∧ d'.wait.length = d.wait.length + 1 ∧ d'.bad = [] := by
  refine ⟨_, write_one h.calm k (by rw [h.len]; exact hk) _ (f_len c), ⟨h.calm, h.len, fun x hx => ?_, fun i hi => ?_⟩, rfl, by simp, h.calm.1⟩
  · rcases List.mem_append.1 hx with hx | hx
    · exact h.small x hx
    · rw [List.mem_singleton] at hx; subst hx; exact hk
  · show last d.safe (d.wait ++ [(k, f_ c)]) i = _
    rw [last_snoc, hb]
    split
    · rfl
    · exact h.seen i hi
theorem ord_flush {d : S} {b : Nat → UInt8} (h : Ord d b) : ∃ d', flush d = (d', 0) ∧ Ord d' b ∧ d'.n = d.n + 1 ∧ d'.wait = [] := by
  refine ⟨_, flush_calm h.calm, ⟨h.calm, by show (d.wait.foldl done d.safe).length = 8; rw [done_length]; exact h.len, fun x hx => (by cases hx), fun i hi => ?_⟩, rfl, rfl⟩
  show last (d.wait.foldl done d.safe) [] i = _
  rw [last_nil, flush_last d.wait d.safe i (fun x hx => by rw [h.len]; exact h.small x hx)]
  exact h.seen i hi
theorem ord_read {d : S} {b : Nat → UInt8} (h : Ord d b) : ∃ d' l, read d 0 8 = (d', l, 0) ∧ Ord d' b ∧ d'.n = d.n + 1 ∧ d'.wait = d.wait ∧ l.length = 8 ∧ ∀ i (hi : i < l.length), l[i] = f_ (b i) := by
  refine ⟨_, _, read_all h.calm 8 h.len.symm, ⟨h.calm, h.len, h.small, h.seen⟩, rfl, rfl, by simp, fun i hi => ?_⟩
  rw [List.getElem_map, List.getElem_range]
  exact h.seen i (by simpa using hi)
end Dv
