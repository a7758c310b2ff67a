/- The plain mathematics of package vary: texts in the order of their octets, each once. -/
import Derived.Lib.SlicesCompact
import Derived.Lib.Join
namespace Vr
abbrev T := List UInt8

theorem t_irrefl (a : T) : ¬ a < a := List.lt_irrefl a
theorem t_trans {a b c : T} (h : a < b) (h' : b < c) : a < c := List.lt_trans h h'
theorem t_le {a b : T} : a ≤ b ↔ ¬ b < a := Iff.rfl
theorem t_tri {a b : T} (h1 : ¬ a < b) (h2 : ¬ b < a) : a = b := List.le_antisymm h2 h1
theorem t_lt_of_le_ne {a b : T} (h : a ≤ b) (hn : a ≠ b) : a < b := by
  by_cases h' : a < b
  · exact h'
  · exact absurd (t_tri h' h) hn
theorem t_le_lt {a b c : T} (h : a ≤ b) (h' : b < c) : a < c := by
  by_cases e : a = b
  · rw [e]; exact h'
  · exact t_trans (t_lt_of_le_ne h e) h'
theorem t_le_trans {a b c : T} (h : a ≤ b) (h' : b ≤ c) : a ≤ c := fun hc => h' (t_lt_of_le_ne (fun h2 => by exact absurd (t_le_lt h h2) (fun h3 => t_irrefl _ (t_trans h3 hc))) (fun e => by subst e; exact h hc))

/-- Strictly rising. -/
def Up (l : List T) : Prop := l.Pairwise (· < ·)

theorem up_ext {a b : List T} (ha : Up a) (hb : Up b) (h : ∀ x, x ∈ a ↔ x ∈ b) : a = b := by
  induction a generalizing b with
  | nil =>
    cases b with
    | nil => rfl
    | cons y b => exact absurd ((h y).2 (by simp)) (by simp)
  | cons x a ih =>
    cases b with
    | nil => exact absurd ((h x).1 (by simp)) (by simp)
    | cons y b =>
      obtain ⟨a1, a2⟩ := List.pairwise_cons.1 ha
      obtain ⟨b1, b2⟩ := List.pairwise_cons.1 hb
      have e : x = y := by
        rcases List.mem_cons.1 ((h x).1 (by simp)) with e | hx
        · exact e
        · rcases List.mem_cons.1 ((h y).2 (by simp)) with e | hy
          · exact e.symm
          · exact absurd (t_trans (b1 x hx) (a1 y hy)) (t_irrefl _)
      subst e
      congr 1
      refine ih a2 b2 (fun z => ⟨fun hz => ?_, fun hz => ?_⟩)
      · rcases List.mem_cons.1 ((h z).1 (by simp [hz])) with e | hz'
        · subst e; exact absurd (a1 z hz) (t_irrefl _)
        · exact hz'
      · rcases List.mem_cons.1 ((h z).2 (by simp [hz])) with e | hz'
        · subst e; exact absurd (b1 z hz) (t_irrefl _)
        · exact hz'

/-- Where a text belongs among texts that rise: how many are less. -/
def place (out : List T) (s : T) : Nat := (out.takeWhile (fun x => decide (x < s))).length
/-- With one text more. -/
def ins (out : List T) (s : T) : List T := if out[place out s]? = some s then out else out.take (place out s) ++ s :: out.drop (place out s)

theorem place_le (out : List T) (s : T) : place out s ≤ out.length := by
  unfold place; exact (List.takeWhile_prefix _).length_le
theorem take_place (out : List T) (s : T) : out.take (place out s) = out.takeWhile (fun x => decide (x < s)) := by
  unfold place
  exact (List.prefix_iff_eq_take.1 (List.takeWhile_prefix _)).symm
theorem drop_place (out : List T) (s : T) : out.drop (place out s) = out.dropWhile (fun x => decide (x < s)) := by
  have h : out.takeWhile (fun x => decide (x < s)) ++ out.dropWhile (fun x => decide (x < s)) = out := List.takeWhile_append_dropWhile
  have h2 := List.take_append_drop (place out s) out
  rw [take_place] at h2
  exact List.append_cancel_left (h2.trans h.symm)
theorem before_place {out : List T} {s : T} {x : T} (h : x ∈ out.take (place out s)) : x < s := by
  rw [take_place] at h
  have := List.all_eq_true.1 (List.all_takeWhile (p := fun x => decide (x < s)) (l := out)) x h
  simpa using this
theorem at_place {out : List T} {s x : T} (h : out[place out s]? = some x) : ¬ x < s := by
  have e : (out.drop (place out s)).head? = some x := by rw [List.head?_drop]; exact h
  rw [drop_place] at e
  have := List.head?_dropWhile_not (fun x => decide (x < s)) out
  rw [e] at this
  simpa using this
theorem place_of {out : List T} {s : T} {k : Nat} (hk : k ≤ out.length) (hb : ∀ x ∈ out.take k, x < s) (ha : ∀ x, out[k]? = some x → ¬ x < s) : place out s = k := by
  have e : out.takeWhile (fun x => decide (x < s)) = out.take k := by
    conv => lhs; rw [← List.take_append_drop k out]
    rw [List.takeWhile_append_of_pos (by intro x hx; simpa using hb x hx)]
    cases hd : out.drop k with
    | nil => simp
    | cons y r =>
      have hy : out[k]? = some y := by rw [← List.head?_drop, hd]; rfl
      rw [List.takeWhile_cons_of_neg (by simpa using ha y hy)]; simp
  unfold place; rw [e, List.length_take]; omega
theorem mem_ins (out : List T) (s x : T) : x ∈ ins out s ↔ x = s ∨ x ∈ out := by
  unfold ins
  split
  · rename_i h
    constructor
    · exact Or.inr
    · rintro (rfl | h')
      · exact List.mem_of_getElem? h
      · exact h'
  · conv => rhs; rw [← List.take_append_drop (place out s) out]
    simp only [List.mem_append, List.mem_cons]
    constructor
    · rintro (h | h | h)
      · exact .inr (.inl h)
      · exact .inl h
      · exact .inr (.inr h)
    · rintro (h | h | h)
      · exact .inr (.inl h)
      · exact .inl h
      · exact .inr (.inr h)
theorem up_ins {out : List T} (h : Up out) (s : T) : Up (ins out s) := by
  unfold ins
  split
  · exact h
  · rename_i hne
    have hcut := List.take_append_drop (place out s) out
    have h' : Up (out.take (place out s) ++ out.drop (place out s)) := by rw [hcut]; exact h
    unfold Up at h' ⊢
    rw [List.pairwise_append] at h' ⊢
    obtain ⟨h1, h2, h3⟩ := h'
    have hs : ∀ x ∈ out.drop (place out s), s < x := by
      cases hd : out.drop (place out s) with
      | nil => simp
      | cons y r =>
        have hy : out[place out s]? = some y := by rw [← List.head?_drop, hd]; rfl
        have hn := at_place hy
        have hys : s < y := by
          by_cases h5 : s < y
          · exact h5
          · exact absurd (by rw [hy, t_tri hn h5]) hne
        rw [hd] at h2
        intro x hx
        rcases List.mem_cons.1 hx with rfl | hx
        · exact hys
        · exact t_trans hys ((List.pairwise_cons.1 h2).1 x hx)
    refine ⟨h1, List.pairwise_cons.2 ⟨hs, h2⟩, ?_⟩
    intro a ha b hb
    rcases List.mem_cons.1 hb with rfl | hb
    · exact before_place ha
    · exact h3 a ha b hb
theorem ins_length (out : List T) (s : T) : (ins out s).length ≤ out.length + 1 := by
  unfold ins; split
  · omega
  · have := place_le out s
    simp; omega
/-- All of them, each once, as they rise. -/
def insAll (l : List T) : List T := l.foldl ins []
theorem fold_ins : ∀ (l out : List T), Up out → Up (l.foldl ins out) ∧ ∀ x, x ∈ l.foldl ins out ↔ x ∈ l ∨ x ∈ out
  | [], out, h => ⟨h, by simp⟩
  | s :: l, out, h => by
    obtain ⟨h1, h2⟩ := fold_ins l (ins out s) (up_ins h s)
    refine ⟨h1, fun x => ?_⟩
    rw [List.foldl_cons, h2, mem_ins, List.mem_cons]
    constructor
    · rintro (h | h | h)
      · exact .inl (.inr h)
      · exact .inl (.inl h)
      · exact .inr h
    · rintro ((h | h) | h)
      · exact .inr (.inl h)
      · exact .inl h
      · exact .inr (.inr h)
theorem up_insAll (l : List T) : Up (insAll l) := (fold_ins l [] List.Pairwise.nil).1
theorem mem_insAll (l : List T) (x : T) : x ∈ insAll l ↔ x ∈ l := by
  have := (fold_ins l [] List.Pairwise.nil).2 x
  unfold insAll; rw [this]; simp
theorem insAll_ext {a b : List T} (h : ∀ x, x ∈ a ↔ x ∈ b) : insAll a = insAll b := up_ext (up_insAll a) (up_insAll b) (fun x => by rw [mem_insAll, mem_insAll, h])
theorem insAll_length (l : List T) : (insAll l).length ≤ l.length := by
  have : ∀ (l out : List T), (l.foldl ins out).length ≤ out.length + l.length := by
    intro l
    induction l with
    | nil => intro out; simp
    | cons s l ih =>
      intro out
      have h1 := ih (ins out s)
      have h2 := ins_length out s
      rw [List.foldl_cons, List.length_cons]; omega
  have := this l []
  unfold insAll
  simpa using this
theorem insAll_snoc (l : List T) (k : Nat) (h : k < l.length) : insAll (l.take (k + 1)) = ins (insAll (l.take k)) l[k] := by
  unfold insAll; rw [List.take_succ_eq_append_getElem h, List.foldl_append]; rfl

/-! ### sorted, and each once -/
open Go.Lib in
theorem compact_up (d : Array T) (hs : ∀ i j, i ≤ j → j < d.size → d[i]! ≤ d[j]!) : ∀ m, m ≤ d.size → Up (compactUpTo d m) ∧ ∀ x, x ∈ compactUpTo d m ↔ ∃ j, j < m ∧ d[j]! = x := by
  intro m
  induction m with
  | zero => intro _; exact ⟨List.Pairwise.nil, fun x => by simp [compactUpTo]⟩
  | succ m ih =>
    intro hm
    obtain ⟨h1, h2⟩ := ih (by omega)
    rw [compactUpTo_succ]
    by_cases hk : keeps d m = true
    · rw [if_pos hk]
      constructor
      · unfold Up at h1 ⊢
        rw [List.pairwise_append]
        refine ⟨h1, by simp, ?_⟩
        intro a ha b hb
        obtain rfl : b = d[m]! := by simpa using hb
        obtain ⟨j, hj, rfl⟩ := (h2 a).1 ha
        have h3 : m ≠ 0 := by omega
        have h4 : d[m]! ≠ d[m - 1]! := by
          unfold keeps at hk
          rcases of_decide_eq_true hk with h | h
          · exact absurd h h3
          · exact h
        exact t_le_lt (hs j (m - 1) (by omega) (by omega)) (t_lt_of_le_ne (hs (m - 1) m (by omega) (by omega)) (Ne.symm h4))
      · intro x
        rw [List.mem_append, h2]
        constructor
        · rintro (⟨j, hj, rfl⟩ | h)
          · exact ⟨j, by omega, rfl⟩
          · exact ⟨m, by omega, (List.mem_singleton.1 h).symm⟩
        · rintro ⟨j, hj, rfl⟩
          by_cases e : j = m
          · subst e; exact .inr (by simp)
          · exact .inl ⟨j, by omega, rfl⟩
    · rw [if_neg hk, List.append_nil]
      refine ⟨h1, fun x => ?_⟩
      rw [h2]
      unfold keeps at hk
      rw [decide_eq_true_eq] at hk
      have h3 : m ≠ 0 := fun e => hk (.inl e)
      have h4 : d[m]! = d[m - 1]! := Classical.byContradiction fun h => hk (.inr h)
      constructor
      · rintro ⟨j, hj, rfl⟩; exact ⟨j, by omega, rfl⟩
      · rintro ⟨j, hj, rfl⟩
        by_cases e : j = m
        · subst e; exact ⟨j - 1, by omega, h4.symm⟩
        · exact ⟨j, by omega, rfl⟩
theorem le_total' (a b : T) : (decide (a ≤ b) || decide (b ≤ a)) = true := by
  rw [Bool.or_eq_true, decide_eq_true_eq, decide_eq_true_eq]
  by_cases h : b < a
  · exact .inr (fun h' => t_irrefl _ (t_trans h h'))
  · exact .inl h
theorem compact_sort (l : List T) : Go.Lib.compact (l.mergeSort fun x y => decide (x ≤ y)) = insAll l := by
  have hp : (l.mergeSort fun x y => decide (x ≤ y)).Pairwise (fun x y => decide (x ≤ y) = true) :=
    List.pairwise_mergeSort (le := fun (x y : T) => decide (x ≤ y)) (fun a b c h1 h2 => decide_eq_true (t_le_trans (of_decide_eq_true h1) (of_decide_eq_true h2))) le_total' l
  have hm : ∀ x, x ∈ (l.mergeSort fun x y => decide (x ≤ y)) ↔ x ∈ l := fun x => (List.mergeSort_perm l _).mem_iff
  generalize (l.mergeSort fun x y => decide (x ≤ y)) = z at hp hm
  have hs : ∀ i j, i ≤ j → j < z.toArray.size → z.toArray[i]! ≤ z.toArray[j]! := by
    intro i j hij hj
    have hj' : j < z.length := by simpa using hj
    have hi' : i < z.length := by omega
    have e1 : z.toArray[i]! = z[i] := by rw [getElem!_pos z.toArray i (by simpa using hi')]; simp
    have e2 : z.toArray[j]! = z[j] := by rw [getElem!_pos z.toArray j hj]; simp
    rw [e1, e2]
    by_cases e : i = j
    · subst e; exact t_irrefl _
    · exact of_decide_eq_true (List.pairwise_iff_getElem.1 hp i j hi' hj' (by omega))
  obtain ⟨h1, h2⟩ := compact_up z.toArray hs z.length (by simp)
  refine up_ext h1 (up_insAll l) (fun x => ?_)
  rw [mem_insAll, ← hm]
  refine (h2 x).trans ⟨?_, ?_⟩
  · rintro ⟨j, hj, rfl⟩
    rw [getElem!_pos z.toArray j (by simpa using hj)]; simp
  · intro hx
    obtain ⟨j, hj, rfl⟩ := List.mem_iff_getElem.1 hx
    exact ⟨j, hj, by rw [getElem!_pos z.toArray j (by simpa using hj)]; simp⟩
end Vr
