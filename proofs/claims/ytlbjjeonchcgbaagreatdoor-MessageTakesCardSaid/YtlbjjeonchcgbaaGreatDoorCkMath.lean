/- The plain mathematics of package chunk: a chunked body, read step by step. -/
import Derived.Test.YtlbjjeonchcgbaaGreatDoorStMath
import Derived.Test.YtlbjjeonchcgbaaGreatDoorFdMath
namespace Ck
abbrev L := List UInt8

/-- Where a body stands: at a size line (so many octets in all so far), in a chunk (so many are to come), behind one, in the trailer (so many lines so far), at its end. -/
inductive S where
  | size (t : Nat)
  | data (t n : Nat)
  | tail (t : Nat)
  | trail (k : Nat)
  | over
deriving DecidableEq
/-- What the next step says. -/
inductive R where
  | more
  | err (e : Int)
  | ok (n : Nat) (o : L) (s : S)
deriving DecidableEq

def digits (s : L) : L := (s.take 8).takeWhile (Oct.dig 16)
def blank (c : UInt8) : Bool := decide (c = 32) || decide (c = 9)
/-- An extension or none. -/
def ext : L → Bool
  | [] => true
  | s => match s.dropWhile blank with
    | [] => false
    | c :: t => decide (c = 59) && Oct.allOf Oct.plain t
/-- What a size line says; -1: it is none. -/
def sizeOf (s : L) : Int :=
  if (Oct.number 16 4294967295 (digits s)).2 ≠ 0 then -1
  else if ext (s.drop (digits s).length) then (Oct.number 16 4294967295 (digits s)).1 else -1
def lineAt (b : L) : L × Int × Int := St.line 255 b
def sizeStep (t : Nat) (b : L) : R :=
  if (lineAt b).2.2 = 11 then .more
  else if (lineAt b).2.2 ≠ 0 then .err (lineAt b).2.2
  else if sizeOf (lineAt b).1 < 0 then .err 10
  else if sizeOf (lineAt b).1 = 0 then .ok (lineAt b).2.1.toNat [] (.trail 0)
  else if sizeOf (lineAt b).1 > 1048576 - t then .err 12
  else .ok (lineAt b).2.1.toNat [] (.data (t + (sizeOf (lineAt b).1).toNat) (sizeOf (lineAt b).1).toNat)
def fieldBad (s : L) : Bool := decide ((Fld.parse (s ++ [13, 10, 13, 10])).2.2 ≠ 0)
def trailStep (k : Nat) (b : L) : R :=
  if (lineAt b).2.2 = 11 then .more
  else if (lineAt b).2.2 ≠ 0 then .err (lineAt b).2.2
  else if (lineAt b).1 = [] then .ok (lineAt b).2.1.toNat [] .over
  else if fieldBad (lineAt b).1 = true then .err 10
  else if 128 ≤ k then .err 13
  else .ok (lineAt b).2.1.toNat [] (.trail (k + 1))
def step : S → L → R
  | .size t, b => sizeStep t b
  | .data _ _, [] => .more
  | .data t n, c :: _ => .ok 1 [c] (if n ≤ 1 then .tail t else .data t (n - 1))
  | .tail _, [] => .more
  | .tail _, [_] => .more
  | .tail t, a :: c :: _ => if a = 13 ∧ c = 10 then .ok 2 [] (.size t) else .err 10
  | .trail k, b => trailStep k b
  | .over, _ => .more

/-- So many steps: the octets of chunks, how many were taken, where it stands, the error. -/
def run : Nat → S → L → L × Nat × S × Int
  | 0, s, _ => ([], 0, s, 0)
  | f + 1, s, b => match step s b with
    | .more => ([], 0, s, 0)
    | .err e => ([], 0, s, e)
    | .ok n o s' => (o ++ (run f s' (b.drop n)).1, n + (run f s' (b.drop n)).2.1, (run f s' (b.drop n)).2.2)
def go (s : S) (b : L) : L × Nat × S × Int := run b.length s b
def isOver : S → Bool
  | .over => true
  | _ => false
/-- What is told of octets so far. -/
def told (b : L) : L × Nat × Bool × Int := if (go (.size 0) b).2.2.2 ≠ 0 then ([], 0, false, (go (.size 0) b).2.2.2) else ((go (.size 0) b).1, (go (.size 0) b).2.1, isOver (go (.size 0) b).2.2.1, 0)

/-! Lines. -/
theorem line_cases (most : Nat) (b : L) :
    (St.line most b = ([], 0, 11) ∧ b.length ≤ most ∧ St.upto 10 b = b.length) ∨ (St.line most b = ([], 0, 12) ∧ most < b.length ∧ ∀ j, j ≤ most → b[j]? ≠ some 10) ∨
    (St.line most b = ([], 0, 10) ∧ St.upto 10 b < b.length ∧ St.upto 10 b ≤ most) ∨
    (St.line most b = (b.take (St.upto 10 b - 1), ((St.upto 10 b + 1 : Nat) : Int), 0) ∧ 1 ≤ St.upto 10 b ∧ St.upto 10 b < b.length ∧ St.upto 10 b ≤ most) := by
  have hle := St.upto_le 10 b
  unfold St.line
  by_cases h : St.upto 10 b < b.length ∧ St.upto 10 b ≤ most
  · rw [if_pos h]
    by_cases h2 : 1 ≤ St.upto 10 b ∧ b[St.upto 10 b - 1]? = some 13
    · rw [if_pos h2]; exact .inr (.inr (.inr ⟨rfl, h2.1, h.1, h.2⟩))
    · rw [if_neg h2]; exact .inr (.inr (.inl ⟨rfl, h.1, h.2⟩))
  · rw [if_neg h]
    by_cases h2 : b.length ≤ most
    · rw [if_pos h2]; exact .inl ⟨rfl, h2, by omega⟩
    · rw [if_neg h2]
      refine .inr (.inl ⟨rfl, by omega, fun j hj e => ?_⟩)
      have hu : most < St.upto 10 b := by omega
      have h3 := St.upto_take 10 b 10
      have : b[j]? = (b.take (St.upto 10 b))[j]? := by rw [List.getElem?_take_of_lt (by omega)]
      rw [this] at e
      exact absurd rfl (h3 (List.mem_of_getElem? e))
theorem upto_more (d : UInt8) (c : L) : ∀ b : L, St.upto d b < b.length → St.upto d (b ++ c) = St.upto d b
  | [], h => by simp at h
  | a :: t, h => by
    by_cases ha : a = d
    · subst ha; rw [St.upto_hit, List.cons_append, St.upto_hit]
    · rw [St.upto_miss d a t ha] at h ⊢
      rw [List.cons_append, St.upto_miss d a _ ha, upto_more d c t (by simpa using h)]
theorem upto_far (d : UInt8) (c : L) : ∀ b : L, St.upto d b = b.length → b.length ≤ St.upto d (b ++ c)
  | [], _ => Nat.zero_le _
  | a :: t, h => by
    by_cases ha : a = d
    · subst ha; rw [St.upto_hit] at h; simp at h
    · rw [St.upto_miss d a t ha] at h
      rw [List.cons_append, St.upto_miss d a _ ha]
      have := upto_far d c t (by simpa using h)
      simp; omega
theorem line_more (most : Nat) (b c : L) (h : (St.line most b).2.2 ≠ 11) : St.line most (b ++ c) = St.line most b := by
  have hle := St.upto_le 10 b
  unfold St.line at h ⊢
  by_cases h1 : St.upto 10 b < b.length ∧ St.upto 10 b ≤ most
  · rw [if_pos h1] at h ⊢
    rw [upto_more 10 c b h1.1, if_pos ⟨by simp; omega, h1.2⟩, List.getElem?_append_left (by omega), List.take_append_of_le_length (by omega)]
  · rw [if_neg h1] at h ⊢
    by_cases h2 : b.length ≤ most
    · rw [if_pos h2] at h; exact absurd rfl h
    · rw [if_neg h2, if_neg, if_neg (by simp; omega)]
      rintro ⟨h3, h4⟩
      by_cases h5 : St.upto 10 b < b.length
      · rw [upto_more 10 c b h5] at h4; exact h1 ⟨h5, h4⟩
      · have := upto_far 10 c b (by omega)
        omega
theorem lineAt_more (b c : L) (h : (lineAt b).2.2 ≠ 11) : lineAt (b ++ c) = lineAt b := line_more 255 b c h
theorem lineAt_len {b : L} (h : (lineAt b).2.2 = 0) : 2 ≤ (lineAt b).2.1.toNat ∧ (lineAt b).2.1.toNat ≤ b.length ∧ (lineAt b).2.1.toNat ≤ 256 ∧ (lineAt b).1.length + 2 = (lineAt b).2.1.toNat := by
  unfold lineAt at h ⊢
  rcases line_cases 255 b with ⟨e, _⟩ | ⟨e, _⟩ | ⟨e, _⟩ | ⟨e, h1, h2, h3⟩
  · rw [e] at h; exact absurd h (by decide)
  · rw [e] at h; exact absurd h (by decide)
  · rw [e] at h; exact absurd h (by decide)
  · rw [e]
    simp only []
    rw [List.length_take]
    omega
theorem lineAt_nil : (lineAt []).2.2 = 11 := by decide

/-! Steps. -/
theorem step_len {s : S} {b : L} {n : Nat} {o : L} {s' : S} (h : step s b = .ok n o s') : 1 ≤ n ∧ n ≤ b.length := by
  cases s with
  | size t =>
    have h : sizeStep t b = _ := h
    unfold sizeStep at h
    split at h; · cases h
    split at h; · cases h
    rename_i h0
    have hl := lineAt_len (Decidable.of_not_not h0)
    split at h; · cases h
    split at h
    · injection h with h1; omega
    · split at h; · cases h
      injection h with h1; omega
  | data t n0 =>
    cases b with
    | nil => cases h
    | cons c r => injection h with h1; subst h1; simp
  | tail t =>
    match b, h with
    | [], h => cases h
    | [_], h => cases h
    | a :: c :: r, h =>
      have h : (if a = 13 ∧ c = 10 then R.ok 2 [] (.size t) else .err 10) = _ := h
      split at h
      · injection h with h1; subst h1; simp
      · cases h
  | trail k =>
    have h : trailStep k b = _ := h
    unfold trailStep at h
    split at h; · cases h
    split at h; · cases h
    rename_i h0
    have hl := lineAt_len (Decidable.of_not_not h0)
    split at h
    · injection h with h1; omega
    · split at h; · cases h
      split at h; · cases h
      injection h with h1; omega
  | over => cases h
theorem step_nil (s : S) : step s [] = .more := by
  cases s with
  | size t => show sizeStep t [] = _; unfold sizeStep; rw [if_pos lineAt_nil]
  | data t n => rfl
  | tail t => rfl
  | trail k => show trailStep k [] = _; unfold trailStep; rw [if_pos lineAt_nil]
  | over => rfl
theorem step_more {s : S} {b : L} (c : L) (h : step s b ≠ .more) : step s (b ++ c) = step s b := by
  cases s with
  | size t =>
    have h : sizeStep t b ≠ _ := h
    show sizeStep t (b ++ c) = sizeStep t b
    have h1 : (lineAt b).2.2 ≠ 11 := fun e => h (by unfold sizeStep; rw [if_pos e])
    unfold sizeStep
    rw [lineAt_more b c h1]
  | data t n =>
    cases b with
    | nil => exact absurd rfl h
    | cons a r => rfl
  | tail t =>
    match b, h with
    | [], h => exact absurd rfl h
    | [_], h => exact absurd rfl h
    | a :: d :: r, h => rfl
  | trail k =>
    have h : trailStep k b ≠ _ := h
    show trailStep k (b ++ c) = trailStep k b
    have h1 : (lineAt b).2.2 ≠ 11 := fun e => h (by unfold trailStep; rw [if_pos e])
    unfold trailStep
    rw [lineAt_more b c h1]
  | over => exact absurd rfl h
theorem run_nil (f : Nat) (s : S) : run f s [] = ([], 0, s, 0) := by
  cases f with
  | zero => rfl
  | succ f => unfold run; rw [step_nil]
/-- Steps beyond the octets' number change nothing. -/
theorem run_fuel : ∀ (f : Nat) (s : S) (b : L), b.length ≤ f → run f s b = run b.length s b
  | 0, s, b, h => by
    have : b = [] := List.length_eq_zero_iff.1 (by omega)
    subst this; rfl
  | f + 1, s, b, h => by
    cases b with
    | nil => rw [run_nil, run_nil]
    | cons c r =>
      show run (f + 1) s (c :: r) = run (r.length + 1) s (c :: r)
      unfold run
      cases hs : step s (c :: r) with
      | more => rfl
      | err e => rfl
      | ok n o s' =>
        have hn := step_len hs
        have hd : ((c :: r).drop n).length ≤ r.length := by rw [List.length_drop]; simp at hn ⊢; omega
        simp only []
        rw [run_fuel f s' _ (by simp at h; omega), ← run_fuel r.length s' _ hd]
termination_by f => f
theorem go_more {s : S} {b : L} (h : step s b = .more) : go s b = ([], 0, s, 0) := by
  unfold go
  cases hb : b.length with
  | zero => rfl
  | succ f => unfold run; rw [h]
theorem go_err {s : S} {b : L} {e : Int} (h : step s b = .err e) : go s b = ([], 0, s, e) := by
  unfold go
  cases hb : b.length with
  | zero =>
    have : b = [] := List.length_eq_zero_iff.1 hb
    subst this; rw [step_nil] at h; cases h
  | succ f => unfold run; rw [h]
theorem go_ok {s : S} {b : L} {n : Nat} {o : L} {s' : S} (h : step s b = .ok n o s') : go s b = (o ++ (go s' (b.drop n)).1, n + (go s' (b.drop n)).2.1, (go s' (b.drop n)).2.2) := by
  have hn := step_len h
  unfold go
  obtain ⟨f, hf⟩ : ∃ f, b.length = f + 1 := ⟨b.length - 1, by omega⟩
  rw [hf]
  conv => lhs; unfold run
  rw [h]
  simp only []
  rw [run_fuel f s' (b.drop n) (by rw [List.length_drop]; omega)]
theorem go_nil (s : S) : go s [] = ([], 0, s, 0) := go_more (step_nil s)
/-- So many octets are taken. -/
theorem go_len (s : S) (b : L) : (go s b).2.1 ≤ b.length ∧ (go s b).1.length ≤ (go s b).2.1 := by
  generalize hk : b.length = k
  induction k using Nat.strongRecOn generalizing s b with
  | _ k ih =>
    cases hs : step s b with
    | more => rw [go_more hs]; simp
    | err e => rw [go_err hs]; simp
    | ok n o s' =>
      have hn := step_len hs
      rw [go_ok hs]
      have := ih (b.drop n).length (by rw [List.length_drop]; omega) s' (b.drop n) rfl
      rw [List.length_drop] at this
      have ho : o.length ≤ n := by
        cases s with
        | size t =>
          have hs : sizeStep t b = _ := hs
          unfold sizeStep at hs
          (repeat' split at hs) <;> first | (cases hs; done) | (injection hs with h1 h2; subst h2; exact Nat.zero_le _)
        | data t m =>
          cases b with
          | nil => cases hs
          | cons c r => injection hs with h1 h2; subst h1 h2; simp
        | tail t =>
          match b, hs with
          | [], hs => cases hs
          | [_], hs => cases hs
          | a :: c :: r, hs =>
            have hs : (if a = 13 ∧ c = 10 then R.ok 2 [] (.size t) else .err 10) = _ := hs
            split at hs
            · injection hs with h1 h2; subst h2; simp
            · cases hs
        | trail j =>
          have hs : trailStep j b = _ := hs
          unfold trailStep at hs
          (repeat' split at hs) <;> first | (cases hs; done) | (injection hs with h1 h2; subst h2; exact Nat.zero_le _)
        | over => cases hs
      simp only [List.length_append]
      omega
/-- However octets come: what was taken of the first ones is taken of all. -/
theorem go_app (s : S) (b c : L) (h : (go s b).2.2.2 = 0) : go s (b ++ c) = ((go s b).1 ++ (go (go s b).2.2.1 (b.drop (go s b).2.1 ++ c)).1, (go s b).2.1 + (go (go s b).2.2.1 (b.drop (go s b).2.1 ++ c)).2.1, (go (go s b).2.2.1 (b.drop (go s b).2.1 ++ c)).2.2) := by
  generalize hk : b.length = k
  induction k using Nat.strongRecOn generalizing s b with
  | _ k ih =>
    cases hs : step s b with
    | more => rw [go_more hs]; simp
    | err e =>
      rw [go_err hs] at h
      -- an error of nought is none
      have h : e = 0 := h
      subst h
      rw [go_err hs]
      simp only [List.drop_zero, List.nil_append, Nat.zero_add]
    | ok n o s' =>
      have hn := step_len hs
      have hs2 : step s (b ++ c) = .ok n o s' := (step_more c (by rw [hs]; simp)).trans hs
      rw [go_ok hs] at h
      rw [go_ok hs2, go_ok hs, List.drop_append_of_le_length hn.2]
      have := ih (b.drop n).length (by rw [List.length_drop]; omega) s' (b.drop n) h rfl
      rw [this]
      simp only [List.drop_drop, List.append_assoc, Nat.add_assoc]
theorem go_app_err (s : S) (b c : L) (h : (go s b).2.2.2 ≠ 0) : (go s (b ++ c)).2.2.2 = (go s b).2.2.2 := by
  generalize hk : b.length = k
  induction k using Nat.strongRecOn generalizing s b with
  | _ k ih =>
    cases hs : step s b with
    | more => rw [go_more hs] at h; exact absurd rfl h
    | err e =>
      have hs2 : step s (b ++ c) = .err e := (step_more c (by rw [hs]; simp)).trans hs
      rw [go_err hs, go_err hs2]
    | ok n o s' =>
      have hn := step_len hs
      have hs2 : step s (b ++ c) = .ok n o s' := (step_more c (by rw [hs]; simp)).trans hs
      rw [go_ok hs] at h
      rw [go_ok hs2, go_ok hs, List.drop_append_of_le_length hn.2]
      exact ih (b.drop n).length (by rw [List.length_drop]; omega) s' (b.drop n) h rfl

/-! Step by step from a body's beginning. -/
def sD (t n : Nat) : S := if n = 0 then .tail t else .data t n
/-- So many octets were taken, and say so much; here it goes on. -/
structure At (l : L) (A : Nat) (acc : L) (s : S) : Prop where
  le : A ≤ l.length
  had : acc.length ≤ A
  eq : go (.size 0) l = (acc ++ (go s (l.drop A)).1, A + (go s (l.drop A)).2.1, (go s (l.drop A)).2.2)
theorem At.start (l : L) : At l 0 [] (.size 0) := ⟨Nat.zero_le _, Nat.le_refl _, by simp⟩
theorem step_out {s : S} {b : L} {n : Nat} {o : L} {s' : S} (h : step s b = .ok n o s') : o.length ≤ n := by
  cases s with
  | size t =>
    have hs : sizeStep t b = _ := h
    unfold sizeStep at hs
    (repeat' split at hs) <;> first | (cases hs; done) | (injection hs with h1 h2; subst h2; exact Nat.zero_le _)
  | data t m =>
    cases b with
    | nil => cases h
    | cons c r => injection h with h1 h2; subst h1 h2; simp
  | tail t =>
    match b, h with
    | [], h => cases h
    | [_], h => cases h
    | a :: c :: r, h =>
      have h : (if a = 13 ∧ c = 10 then R.ok 2 [] (.size t) else .err 10) = _ := h
      split at h
      · injection h with h1 h2; subst h2; simp
      · cases h
  | trail j =>
    have hs : trailStep j b = _ := h
    unfold trailStep at hs
    (repeat' split at hs) <;> first | (cases hs; done) | (injection hs with h1 h2; subst h2; exact Nat.zero_le _)
  | over => cases h
theorem At.next {l : L} {A : Nat} {acc : L} {s : S} (h : At l A acc s) {n : Nat} {o : L} {s' : S} (hs : step s (l.drop A) = .ok n o s') : At l (A + n) (acc ++ o) s' := by
  have hn := step_len hs
  have ho := step_out hs
  rw [List.length_drop] at hn
  refine ⟨by omega, by rw [List.length_append]; have := h.had; omega, ?_⟩
  rw [h.eq, go_ok hs, List.drop_drop]
  simp only [List.append_assoc, Nat.add_assoc]
theorem At.more {l : L} {A : Nat} {acc : L} {s : S} (h : At l A acc s) (hs : step s (l.drop A) = .more) : told l = (acc, A, isOver s, 0) := by
  unfold told
  rw [h.eq, go_more hs]
  simp
theorem At.err {l : L} {A : Nat} {acc : L} {s : S} (h : At l A acc s) {e : Int} (he : e ≠ 0) (hs : step s (l.drop A) = .err e) : told l = ([], 0, false, e) := by
  unfold told
  rw [h.eq, go_err hs]
  simp [he]
section
variable {b : L} {t k : Nat}
theorem size_more (h : (lineAt b).2.2 = 11) : step (.size t) b = .more := by show sizeStep t b = _; unfold sizeStep; rw [if_pos h]
theorem size_err (h : (lineAt b).2.2 ≠ 11) (h1 : (lineAt b).2.2 ≠ 0) : step (.size t) b = .err (lineAt b).2.2 := by show sizeStep t b = _; unfold sizeStep; rw [if_neg h, if_pos h1]
theorem size_form (h : (lineAt b).2.2 = 0) (h1 : sizeOf (lineAt b).1 < 0) : step (.size t) b = .err 10 := by
  show sizeStep t b = _; unfold sizeStep; rw [if_neg (by rw [h]; decide), if_neg (by rw [h]; decide), if_pos h1]
theorem size_last (h : (lineAt b).2.2 = 0) (h1 : sizeOf (lineAt b).1 = 0) : step (.size t) b = .ok (lineAt b).2.1.toNat [] (.trail 0) := by
  show sizeStep t b = _; unfold sizeStep; rw [if_neg (by rw [h]; decide), if_neg (by rw [h]; decide), if_neg (by omega), if_pos h1]
theorem size_long (h : (lineAt b).2.2 = 0) (h1 : 0 < sizeOf (lineAt b).1) (h2 : sizeOf (lineAt b).1 > 1048576 - t) : step (.size t) b = .err 12 := by
  show sizeStep t b = _; unfold sizeStep; rw [if_neg (by rw [h]; decide), if_neg (by rw [h]; decide), if_neg (by omega), if_neg (by omega), if_pos h2]
theorem size_next (h : (lineAt b).2.2 = 0) (h1 : 0 < sizeOf (lineAt b).1) (h2 : ¬ sizeOf (lineAt b).1 > 1048576 - t) : step (.size t) b = .ok (lineAt b).2.1.toNat [] (.data (t + (sizeOf (lineAt b).1).toNat) (sizeOf (lineAt b).1).toNat) := by
  show sizeStep t b = _; unfold sizeStep; rw [if_neg (by rw [h]; decide), if_neg (by rw [h]; decide), if_neg (by omega), if_neg (by omega), if_neg h2]
theorem trail_more (h : (lineAt b).2.2 = 11) : step (.trail k) b = .more := by show trailStep k b = _; unfold trailStep; rw [if_pos h]
theorem trail_err (h : (lineAt b).2.2 ≠ 11) (h1 : (lineAt b).2.2 ≠ 0) : step (.trail k) b = .err (lineAt b).2.2 := by show trailStep k b = _; unfold trailStep; rw [if_neg h, if_pos h1]
theorem trail_over (h : (lineAt b).2.2 = 0) (h1 : (lineAt b).1 = []) : step (.trail k) b = .ok (lineAt b).2.1.toNat [] .over := by
  show trailStep k b = _; unfold trailStep; rw [if_neg (by rw [h]; decide), if_neg (by rw [h]; decide), if_pos h1]
theorem trail_form (h : (lineAt b).2.2 = 0) (h1 : (lineAt b).1 ≠ []) (h2 : fieldBad (lineAt b).1 = true) : step (.trail k) b = .err 10 := by
  show trailStep k b = _; unfold trailStep; rw [if_neg (by rw [h]; decide), if_neg (by rw [h]; decide), if_neg h1, if_pos h2]
theorem trail_many (h : (lineAt b).2.2 = 0) (h1 : (lineAt b).1 ≠ []) (h2 : fieldBad (lineAt b).1 = false) (h3 : 128 ≤ k) : step (.trail k) b = .err 13 := by
  show trailStep k b = _; unfold trailStep; rw [if_neg (by rw [h]; decide), if_neg (by rw [h]; decide), if_neg h1, if_neg (by rw [h2]; simp), if_pos h3]
theorem trail_next (h : (lineAt b).2.2 = 0) (h1 : (lineAt b).1 ≠ []) (h2 : fieldBad (lineAt b).1 = false) (h3 : ¬ 128 ≤ k) : step (.trail k) b = .ok (lineAt b).2.1.toNat [] (.trail (k + 1)) := by
  show trailStep k b = _; unfold trailStep; rw [if_neg (by rw [h]; decide), if_neg (by rw [h]; decide), if_neg h1, if_neg (by rw [h2]; simp), if_neg h3]
theorem data_next {n : Nat} {l : L} {A : Nat} (hA : A < l.length) (hn : 0 < n) : step (sD t n) (l.drop A) = .ok 1 [l[A]] (sD t (n - 1)) := by
  rw [List.drop_eq_getElem_cons hA]
  unfold sD
  rw [if_neg (by omega)]
  show R.ok 1 [l[A]] (if n ≤ 1 then .tail t else .data t (n - 1)) = _
  by_cases h : n ≤ 1
  · rw [if_pos h, if_pos (by omega)]
  · rw [if_neg h, if_neg (by omega)]
theorem data_more {n : Nat} {l : L} : step (sD t n) (l.drop l.length) = .more := by rw [List.drop_length, step_nil]
theorem tail_more {l : L} {A : Nat} (hA : l.length < A + 2) : step (sD t 0) (l.drop A) = .more := by
  have hl : (l.drop A).length < 2 := by rw [List.length_drop]; omega
  match l.drop A, hl with
  | [], _ => rfl
  | [_], _ => rfl
  | _ :: _ :: _, hl => simp at hl; omega
theorem tail_two {l : L} {A : Nat} (hA : A + 1 < l.length) : l.drop A = l[A] :: l[A + 1] :: l.drop (A + 2) := by
  rw [List.drop_eq_getElem_cons (by omega : A < l.length), List.drop_eq_getElem_cons hA]
theorem tail_next {l : L} {A : Nat} (hA : A + 1 < l.length) (h1 : l[A] = 13) (h2 : l[A + 1] = 10) : step (sD t 0) (l.drop A) = .ok 2 [] (.size t) := by
  rw [tail_two hA, h1, h2]; rfl
theorem tail_form {l : L} {A : Nat} (hA : A + 1 < l.length) (h : l[A] ≠ 13 ∨ l[A + 1] ≠ 10) : step (sD t 0) (l.drop A) = .err 10 := by
  rw [tail_two hA]
  show (if l[A] = 13 ∧ l[A + 1] = 10 then R.ok 2 [] (.size t) else .err 10) = _
  rw [if_neg]
  rintro ⟨a, b⟩
  rcases h with h | h
  · exact h a
  · exact h b
theorem isOver_sD (t n : Nat) : isOver (sD t n) = false := by
  unfold sD; split <;> rfl
end
end Ck
