/- The plain mathematics of maps of sectors, after the chapter's words: what is free, the runs, what Take, Pieces, Hold, Give, Commit and Abort do. Nothing of any program. -/
namespace Sp

/-- A sector: 0 free, 1 taken, 2 taken anew; does it wait? -/
abbrev Cell := Nat × Bool
abbrev M := List Cell
/-- An extent as it comes in: any two numbers. -/
abbrev Ext := Int × Int
/-- A run: where, and how long. -/
abbrev Run := Nat × Nat
def ie (e : Run) : Ext := ((e.1 : Int), (e.2 : Int))
def new (n : Nat) : M := List.replicate n (0, false)
def isFree (c : Cell) : Bool := c.1 == 0
def free (m : M) : Nat := m.countP isFree
def waiting (m : M) : Nat := m.countP (fun c => c.2)
/-- One free sector more ahead. -/
def grow (k : Nat) : List Run → List Run
  | [] => [(k, 1)]
  | (a, n) :: t => if a = k + 1 then (k, n + 1) :: t else (k, 1) :: (a, n) :: t
/-- The runs of what stands from k on. -/
def runs (k : Nat) : M → List Run
  | [] => []
  | c :: r => if c.1 = 0 then grow k (runs (k + 1) r) else runs (k + 1) r
/-- n sectors from at on, turned. -/
def put (at_ n : Nat) (f : Cell → Cell) (m : M) : M := m.take at_ ++ ((m.drop at_).take n).map f ++ m.drop (at_ + n)
def anew (c : Cell) : Cell := (2, c.2)
def held (c : Cell) : Cell := (1, c.2)
def wait (c : Cell) : Cell := (c.1, true)
def puts (f : Cell → Cell) (es : List Run) (m : M) : M := es.foldl (fun m e => put e.1 e.2 f m) m
def take (N : Int) (m : M) : M × Ext × Bool :=
  match (runs 0 m).find? (fun e => decide (1 ≤ N ∧ N ≤ (e.2 : Int))) with
  | some e => (put e.1 N.toNat anew m, ((e.1 : Int), N), true)
  | none => (m, (0, 0), false)
/-- The first n of runs. -/
def cut : Nat → List Run → List Run
  | _, [] => []
  | n, e :: t => if n = 0 then [] else (e.1, min e.2 n) :: cut (n - e.2) t
def pieces (N most : Int) (m : M) : M × List Run × Bool :=
  if N < 1 ∨ (free m : Int) < N then (m, [], false)
  else if most < ((cut N.toNat (runs 0 m)).length : Int) then (m, [], false)
  else (puts anew (cut N.toNat (runs 0 m)) m, cut N.toNat (runs 0 m), true)
def RightE (len : Nat) (e : Ext) : Prop := 0 ≤ e.1 ∧ 1 ≤ e.2 ∧ e.1 < len ∧ e.2 ≤ len - e.1
def In (e : Ext) (i : Nat) : Prop := e.1 ≤ i ∧ (i : Int) < e.1 + e.2
def Off (e f : Ext) : Prop := e.1 + e.2 ≤ f.1 ∨ f.1 + f.2 ≤ e.1
def Apart (len : Nat) (es : List Ext) : Prop := (∀ e ∈ es, RightE len e) ∧ es.Pairwise Off
/-- May they be held? -/
def CanHold (m : M) (es : List Ext) : Prop := Apart m.length es ∧ ∀ e ∈ es, ∀ (i : Nat) (h : i < m.length), In e i → (m[i]).1 = 0
def CanGive (m : M) (es : List Ext) : Prop := Apart m.length es ∧ ∀ e ∈ es, ∀ (i : Nat) (h : i < m.length), In e i → (m[i]).1 ≠ 0 ∧ (m[i]).2 = false
def er (e : Ext) : Run := (e.1.toNat, e.2.toNat)
open Classical in
noncomputable def hold (es : List Ext) (m : M) : M × Bool := if CanHold m es then (puts held (es.map er) m, true) else (m, false)
open Classical in
noncomputable def give (es : List Ext) (m : M) : M × Bool := if CanGive m es then (puts wait (es.map er) m, true) else (m, false)
def done (c : Cell) : Cell := (if c.2 then 0 else if c.1 = 2 then 1 else c.1, false)
def off (c : Cell) : Cell := (if c.1 = 2 then 0 else c.1, false)
def commit (m : M) : M := m.map done
def abort (m : M) : M := m.map off

/-! ### what stands -/
theorem put_length (a n : Nat) (f : Cell → Cell) (m : M) : (put a n f m).length = m.length := by
  unfold put; simp only [List.length_append, List.length_take, List.length_map, List.length_drop]; omega
theorem puts_length (f : Cell → Cell) : ∀ (es : List Run) (m : M), (puts f es m).length = m.length
  | [], _ => rfl
  | e :: t, m => by show (puts f t (put e.1 e.2 f m)).length = _; rw [puts_length f t, put_length]
theorem commit_length (m : M) : (commit m).length = m.length := List.length_map ..
theorem abort_length (m : M) : (abort m).length = m.length := List.length_map ..
theorem take_length (N : Int) (m : M) : (take N m).1.length = m.length := by
  unfold take; split
  · exact put_length ..
  · rfl
theorem pieces_length (N k : Int) (m : M) : (pieces N k m).1.length = m.length := by
  unfold pieces; split
  · rfl
  · split
    · rfl
    · exact puts_length ..
theorem hold_length (es : List Ext) (m : M) : (hold es m).1.length = m.length := by
  unfold hold; split
  · exact puts_length ..
  · rfl
theorem give_length (es : List Ext) (m : M) : (give es m).1.length = m.length := by
  unfold give; split
  · exact puts_length ..
  · rfl
theorem put_get (a n : Nat) (f : Cell → Cell) (m : M) (i : Nat) : (put a n f m)[i]? = if a ≤ i ∧ i < a + n then (m[i]?).map f else m[i]? := by
  unfold put
  by_cases h1 : i < a
  · rw [if_neg (by omega)]
    by_cases h2 : i < m.length
    · rw [List.append_assoc, List.getElem?_append_left (by rw [List.length_take]; omega), List.getElem?_take, if_pos h1]
    · rw [List.getElem?_eq_none (by simp only [List.length_append, List.length_take, List.length_map, List.length_drop]; omega), List.getElem?_eq_none (by omega)]
  · by_cases h2 : i < m.length
    · have hl : (m.take a).length = a := by rw [List.length_take]; omega
      rw [List.append_assoc, List.getElem?_append_right (by omega), hl]
      by_cases h3 : i < a + n
      · rw [List.getElem?_append_left (by rw [List.length_map, List.length_take, List.length_drop]; omega), List.getElem?_map, List.getElem?_take, if_pos (by omega), List.getElem?_drop, if_pos (by omega), show a + (i - a) = i from by omega]
      · rw [List.getElem?_append_right (by rw [List.length_map, List.length_take, List.length_drop]; omega), if_neg (by omega), List.getElem?_drop, List.length_map, List.length_take, List.length_drop]
        congr 1; omega
    · rw [List.getElem?_eq_none (by simp only [List.length_append, List.length_take, List.length_map, List.length_drop]; omega), List.getElem?_eq_none (Nat.le_of_not_lt h2)]
      split <;> rfl
/-- What is put part by part. -/
theorem put_parts (f : Cell → Cell) (a b c : M) : put a.length b.length f (a ++ b ++ c) = a ++ b.map f ++ c := by
  unfold put
  rw [← List.drop_drop, List.append_assoc a b c, List.take_left' rfl, List.drop_left' rfl, List.take_left' rfl, List.drop_left' rfl]
theorem put_at {m a b c : M} {k n : Nat} (f : Cell → Cell) (h : m = a ++ b ++ c) (hk : a.length = k) (hn : b.length = n) : put k n f m = a ++ b.map f ++ c := by
  subst h hk hn; exact put_parts f a b c
/-- A part of a list, and what is about it. -/
theorem parts (m : M) (k n : Nat) (h : k + n ≤ m.length) : ∃ a b c, m = a ++ b ++ c ∧ a.length = k ∧ b.length = n :=
  ⟨m.take k, (m.drop k).take n, m.drop (k + n), by rw [List.append_assoc, ← List.drop_drop, List.take_append_drop, List.take_append_drop], by rw [List.length_take]; omega, by rw [List.length_take, List.length_drop]; omega⟩

/-! ### runs -/
theorem runs_ge : ∀ (m : M) (k : Nat), ∀ e ∈ runs k m, k ≤ e.1 ∧ 1 ≤ e.2 ∧ e.1 + e.2 ≤ k + m.length
  | [], _, e, h => by simp [runs] at h
  | c :: r, k, e, h => by
    have IH := runs_ge r (k + 1)
    unfold runs at h
    have hl : (c :: r).length = r.length + 1 := rfl
    split at h
    · cases hR : runs (k + 1) r with
      | nil => rw [hR] at h; simp [grow] at h; subst h; exact ⟨Nat.le_refl _, Nat.le_refl _, by simp [hl]⟩
      | cons x t =>
        obtain ⟨a, n⟩ := x
        rw [hR] at h IH
        simp only [grow] at h
        have hx := IH (a, n) List.mem_cons_self
        split at h
        · next hak =>
          rcases List.mem_cons.mp h with rfl | h
          · exact ⟨Nat.le_refl _, by simp, by simp only [hl]; simp only at hx; omega⟩
          · have := IH e (List.mem_cons_of_mem _ h); omega
        · rcases List.mem_cons.mp h with rfl | h
          · exact ⟨Nat.le_refl _, Nat.le_refl _, by simp [hl]⟩
          · have := IH e h; omega
    · have := IH e h; omega
theorem runs_rise : ∀ (m : M) (k : Nat), (runs k m).Pairwise (fun e f => e.1 + e.2 < f.1)
  | [], _ => List.Pairwise.nil
  | c :: r, k => by
    have IH := runs_rise r (k + 1)
    have G := runs_ge r (k + 1)
    unfold runs
    split
    · cases hR : runs (k + 1) r with
      | nil => simp [grow]
      | cons x t =>
        obtain ⟨a, n⟩ := x
        rw [hR] at IH G
        simp only [grow]
        have hc := List.pairwise_cons.mp IH
        split
        · next hak =>
          refine List.pairwise_cons.mpr ⟨fun f hf => ?_, hc.2⟩
          have := hc.1 f hf; simp only at this ⊢; omega
        · next hak =>
          refine List.pairwise_cons.mpr ⟨fun f hf => ?_, IH⟩
          rcases List.mem_cons.mp hf with rfl | hf
          · have := G (a, n) List.mem_cons_self; simp only at this ⊢; omega
          · have := hc.1 f hf; have := G (a, n) List.mem_cons_self; simp only at *; omega
    · exact IH
theorem runs_free : ∀ (m : M) (k : Nat), ∀ e ∈ runs k m, ∀ i, e.1 ≤ i → i < e.1 + e.2 → ∃ b, m[i - k]? = some (0, b)
  | [], _, e, h => by simp [runs] at h
  | c :: r, k, e, h => by
    have IH := runs_free r (k + 1)
    have G := runs_ge r (k + 1)
    have up : ∀ i b, k + 1 ≤ i → r[i - (k + 1)]? = some (0, b) → (c :: r)[i - k]? = some (0, b) := fun i b hi hb => by
      rw [show i - k = (i - (k + 1)) + 1 from by omega, List.getElem?_cons_succ]; exact hb
    intro i h1 h2
    unfold runs at h
    split at h
    · next h0 =>
      have first : i = k → ∃ b, (c :: r)[i - k]? = some (0, b) := fun hi => ⟨c.2, by subst hi; rw [Nat.sub_self, List.getElem?_cons_zero]; rw [← h0]⟩
      cases hR : runs (k + 1) r with
      | nil => rw [hR] at h; simp [grow] at h; subst h; exact first (by simp only at h1 h2; omega)
      | cons x t =>
        obtain ⟨a, n⟩ := x
        rw [hR] at h IH G
        simp only [grow] at h
        split at h
        · next hak =>
          rcases List.mem_cons.mp h with rfl | h
          · by_cases hik : i = k
            · exact first hik
            · simp only at h1 h2
              obtain ⟨b, hb⟩ := IH (a, n) List.mem_cons_self i (by simp only; omega) (by simp only; omega)
              exact ⟨b, up i b (by omega) hb⟩
          · obtain ⟨b, hb⟩ := IH e (List.mem_cons_of_mem _ h) i h1 h2
            exact ⟨b, up i b (by have := G e (List.mem_cons_of_mem _ h); omega) hb⟩
        · rcases List.mem_cons.mp h with rfl | h
          · exact first (by simp only at h1 h2; omega)
          · obtain ⟨b, hb⟩ := IH e h i h1 h2
            exact ⟨b, up i b (by have := G e h; omega) hb⟩
    · obtain ⟨b, hb⟩ := IH e h i h1 h2
      exact ⟨b, up i b (by have := G e h; omega) hb⟩
def size (es : List Run) : Nat := (es.map (·.2)).sum
theorem runs_size : ∀ (m : M) (k : Nat), size (runs k m) = free m
  | [], _ => rfl
  | c :: r, k => by
    have IH := runs_size r (k + 1)
    unfold runs
    have hf : free (c :: r) = free r + if c.1 = 0 then 1 else 0 := by
      unfold free; rw [List.countP_cons]; simp [isFree]
    rw [hf]
    split
    · cases hR : runs (k + 1) r with
      | nil => rw [hR] at IH; simp [grow, size] at IH ⊢; omega
      | cons x t =>
        obtain ⟨a, n⟩ := x
        rw [hR] at IH
        simp only [grow]
        split <;> simp [size] at IH ⊢ <;> omega
    · omega

/-! ### runs of parts -/
theorem grow_runs (k : Nat) (b : Bool) (r : M) : runs k ((0, b) :: r) = grow k (runs (k + 1) r) := by show (if (0 : Nat) = 0 then _ else _) = _; rw [if_pos rfl]
theorem skip_runs (k : Nat) (c : Cell) (r : M) (h : c.1 ≠ 0) : runs k (c :: r) = runs (k + 1) r := by show (if c.1 = 0 then _ else _) = _; rw [if_neg h]
theorem skips_runs : ∀ (a r : M) (k : Nat), (∀ c ∈ a, c.1 ≠ 0) → runs k (a ++ r) = runs (k + a.length) r
  | [], _, _, _ => rfl
  | c :: a, r, k, h => by
    rw [List.cons_append, skip_runs k c _ (h c List.mem_cons_self), skips_runs a r (k + 1) (fun x hx => h x (List.mem_cons_of_mem _ hx)), List.length_cons]
    congr 1; omega
theorem frees_runs : ∀ (a r : M) (k : Nat), (∀ c ∈ a, c.1 = 0) → (∀ c t, r = c :: t → c.1 ≠ 0) → a ≠ [] → runs k (a ++ r) = (k, a.length) :: runs (k + a.length) r
  | [], _, _, _, _, h => absurd rfl h
  | c :: a, r, k, h, hr, _ => by
    have h0 := h c List.mem_cons_self
    obtain ⟨cs, cw⟩ := c
    simp only at h0
    subst h0
    rw [List.cons_append, grow_runs]
    by_cases ha : a = []
    · subst ha
      rw [List.nil_append]
      have hg : ∀ e ∈ runs (k + 1) r, k + 1 < e.1 := fun e he => by
        cases r with
        | nil => simp [runs] at he
        | cons x t =>
          rw [skip_runs _ _ _ (hr x t rfl)] at he
          have := runs_ge t (k + 1 + 1) e he
          omega
      cases hR : runs (k + 1) r with
      | nil => simp [grow]
      | cons x t =>
        obtain ⟨x1, x2⟩ := x
        have := hg (x1, x2) (by rw [hR]; exact List.mem_cons_self)
        simp only at this
        simp only [grow]
        rw [if_neg (by omega)]
        simp
    · rw [frees_runs a r (k + 1) (fun x hx => h x (List.mem_cons_of_mem _ hx)) hr ha]
      simp only [grow, if_true, List.length_cons]
      rw [show k + 1 + a.length = k + (a.length + 1) from by omega]
theorem runs_none (k : Nat) (a : M) (h : ∀ c ∈ a, c.1 ≠ 0) : runs k a = [] := by
  have := skips_runs a [] k h
  rw [List.append_nil] at this; rw [this]; rfl
theorem runs_one (a b : M) (ha : ∀ c ∈ a, c.1 ≠ 0) (hb : ∀ c ∈ b, c.1 = 0) : runs 0 (a ++ b) = if b.length = 0 then [] else [(a.length, b.length)] := by
  rw [skips_runs a b 0 ha, Nat.zero_add]
  by_cases h : b = []
  · subst h; rfl
  · rw [if_neg (fun hl => h (List.length_eq_zero_iff.mp hl))]
    have := frees_runs b [] a.length hb (fun _ _ h => nomatch h) h
    rw [List.append_nil] at this
    rw [this]; rfl

/-! ### a scan: sector by sector -/
/-- One more free sector behind the last run. -/
def last (out : List Run) : List Run := match out.getLast? with
  | some e => out.dropLast ++ [(e.1, e.2 + 1)]
  | none => []
theorem runs_snoc_no : ∀ (m : M) (k : Nat) (c : Cell), c.1 ≠ 0 → runs k (m ++ [c]) = runs k m
  | [], k, c, h => by rw [List.nil_append, skip_runs k c [] h]; rfl
  | x :: m, k, c, h => by
    rw [List.cons_append]; unfold runs; rw [runs_snoc_no m (k + 1) c h]
theorem free_head (k : Nat) (x : Cell) (m : M) (h : x.1 = 0) : ∃ n t, runs k (x :: m) = (k, n + 1) :: t := by
  obtain ⟨x1, x2⟩ := x
  simp only at h; subst h
  rw [grow_runs]
  cases runs (k + 1) m with
  | nil => exact ⟨0, [], rfl⟩
  | cons e t =>
    obtain ⟨a, n⟩ := e
    simp only [grow]
    split
    · exact ⟨n, t, rfl⟩
    · exact ⟨0, _, rfl⟩
theorem runs_parts (k : Nat) (a b : M) (x y : Cell) (hy : x.1 ≠ 0 ∨ y.1 ≠ 0) : runs k (a ++ [x] ++ y :: b) = runs k (a ++ [x]) ++ runs (k + a.length + 1) (y :: b) := by
  induction a generalizing k with
  | nil =>
    rcases hy with hx | hy
    · simp only [List.nil_append, List.cons_append]
      rw [skip_runs k x _ hx, skip_runs k x _ hx]; rfl
    · by_cases hx : x.1 = 0
      · have := frees_runs [x] (y :: b) k (fun c hc => by simp at hc; rw [hc]; exact hx) (fun c t h => by cases h; exact hy) (by simp)
        simp only [List.nil_append]
        rw [this]
        have h2 := frees_runs [x] [] k (fun c hc => by simp at hc; rw [hc]; exact hx) (fun c t h => nomatch h) (by simp)
        rw [List.append_nil] at h2
        rw [h2]; rfl
      · simp only [List.nil_append, List.cons_append]
        rw [skip_runs k x _ hx, skip_runs k x _ hx]; rfl
  | cons c a ih =>
    have H := ih (k + 1)
    simp only [List.cons_append]
    by_cases h0 : c.1 = 0
    · obtain ⟨c1, c2⟩ := c
      simp only at h0; subst h0
      rw [grow_runs, grow_runs, H]
      simp only [List.length_cons]
      rw [show k + 1 + a.length + 1 = k + (a.length + 1) + 1 from by omega]
      have hne : ∀ e, e ∈ runs (k + (a.length + 1) + 1) (y :: b) → k + 1 < e.1 := fun e he => by have := runs_ge _ _ e he; omega
      cases hR : runs (k + 1) (a ++ [x]) with
      | nil =>
        cases hS : runs (k + (a.length + 1) + 1) (y :: b) with
        | nil => rfl
        | cons e t =>
          obtain ⟨e1, e2⟩ := e
          have := hne (e1, e2) (by rw [hS]; exact List.mem_cons_self)
          simp only at this
          simp only [List.nil_append, grow]
          rw [if_neg (by omega)]; rfl
      | cons e t =>
        obtain ⟨e1, e2⟩ := e
        simp only [List.cons_append, grow]
        split <;> rfl
    · rw [skip_runs k c _ h0, skip_runs k c _ h0, H, List.length_cons, show k + 1 + a.length + 1 = k + (a.length + 1) + 1 from by omega]
/-- A free sector behind one that isn't, or behind nothing. -/
theorem runs_snoc_new (m : M) (k : Nat) (c : Cell) (h : c.1 = 0) (hl : ∀ a x, m = a ++ [x] → x.1 ≠ 0) : runs k (m ++ [c]) = runs k m ++ [(k + m.length, 1)] := by
  have hc : ∀ q, runs q [c] = [(q, 1)] := fun q => by
    have h2 := frees_runs [c] [] q (fun x hx => by simp at hx; rw [hx]; exact h) (fun _ _ h => nomatch h) (by simp)
    rw [List.append_nil] at h2; rw [h2]; rfl
  rcases List.eq_nil_or_concat m with rfl | ⟨a, x, rfl⟩
  · rw [List.nil_append, hc]; rfl
  · rw [List.concat_eq_append] at hl ⊢
    rw [runs_parts k a [] x c (Or.inl (hl a x rfl)), hc, List.length_append, List.length_singleton, Nat.add_assoc]
/-- A free sector behind one that is free. -/
theorem runs_snoc_on : ∀ (m : M) (k : Nat) (x c : Cell), x.1 = 0 → c.1 = 0 → ∃ out e n, runs k (m ++ [x]) = out ++ [(e, n)] ∧ runs k (m ++ [x] ++ [c]) = out ++ [(e, n + 1)]
  | [], k, x, c, hx, hc => by
    have h1 := frees_runs [x] [] k (fun y hy => by simp at hy; rw [hy]; exact hx) (fun _ _ h => nomatch h) (by simp)
    have h2 := frees_runs [x, c] [] k (fun y hy => by simp at hy; rcases hy with rfl | rfl <;> assumption) (fun _ _ h => nomatch h) (by simp)
    rw [List.append_nil] at h1 h2
    exact ⟨[], k, 1, by rw [List.nil_append, h1]; rfl, by show runs k [x, c] = _; rw [h2]; rfl⟩
  | y :: m, k, x, c, hx, hc => by
    obtain ⟨out, e, n, h1, h2⟩ := runs_snoc_on m (k + 1) x c hx hc
    by_cases h0 : y.1 = 0
    · obtain ⟨y1, y2⟩ := y
      simp only at h0; subst h0
      simp only [List.cons_append, grow_runs, h1, h2]
      cases out with
      | nil =>
        simp only [List.nil_append, grow]
        split
        · exact ⟨[], k, n + 1, rfl, rfl⟩
        · exact ⟨[(k, 1)], e, n, rfl, rfl⟩
      | cons o t =>
        obtain ⟨o1, o2⟩ := o
        simp only [List.cons_append, grow]
        split
        · exact ⟨(k, o2 + 1) :: t, e, n, rfl, rfl⟩
        · exact ⟨(k, 1) :: (o1, o2) :: t, e, n, rfl, rfl⟩
    · refine ⟨out, e, n, ?_, ?_⟩
      · rw [List.cons_append, skip_runs k y _ h0, h1]
      · rw [List.cons_append, List.cons_append, skip_runs k y _ h0, h2]
end Sp
