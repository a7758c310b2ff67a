/- The plain mathematics of package octet: pieces put together, and cut. -/
import Derived.Test.YtljpidpddlgkpaaDoorOctMathE
namespace Oct

/-- What comes out of a list as it is: a token, or a text between quotation marks. -/
def Atom (x : List UInt8) : Prop := token x = true ∨ ∃ y, allOf plain y = true ∧ x = quote y

theorem fold_token : ∀ (x : List UInt8), (∀ c ∈ x, tch c = true) → ∀ out cur, x.foldl scan1 (out, cur, false, false) = (out, cur ++ x, false, false)
  | [], _, out, cur => by simp
  | c :: x, h, out, cur => by
    obtain ⟨_, _, _, h44, h34, h92⟩ := tch_plain c (h c (by simp))
    have hn : nq false false c = (false, false) := by
      have h1 : (c == 34) = false := beq_eq_false_iff_ne.2 h34
      simp [nq, h1]
    have e : scan1 (out, cur, false, false) c = (out, cur ++ [c], false, false) := by
      unfold scan1; simp only [hn]; rw [if_neg (fun e => h44 e.2)]
    rw [List.foldl_cons, e, fold_token x (fun d hd => h d (by simp [hd]))]
    simp
theorem fold_escd : ∀ (y : List UInt8), ∀ out cur, (escd y).foldl scan1 (out, cur, true, false) = (out, cur ++ escd y, true, false)
  | [], out, cur => by simp [escd]
  | c :: y, out, cur => by
    have e : escd (c :: y) = esc c ++ escd y := by simp [escd]
    have s1 : (esc c).foldl scan1 (out, cur, true, false) = (out, cur ++ esc c, true, false) := by
      unfold esc
      by_cases hm : c = 34 ∨ c = 92
      · rw [if_pos hm]
        have a : scan1 (out, cur, true, false) 92 = (out, cur ++ [92], true, true) := rfl
        have b : scan1 (out, cur ++ [92], true, true) c = (out, cur ++ [92] ++ [c], true, false) := by
          have hn : nq true true c = (true, false) := rfl
          unfold scan1; simp only [hn]; rw [if_neg (by simp)]
        simp only [List.foldl_cons, List.foldl_nil, a, b]; simp
      · rw [if_neg hm]
        have hn : nq true false c = (true, false) := by
          have h1 : (c == 34) = false := beq_eq_false_iff_ne.2 (fun e => hm (Or.inl e))
          have h2 : (c == 92) = false := beq_eq_false_iff_ne.2 (fun e => hm (Or.inr e))
          simp [nq, h1, h2]
        simp only [List.foldl_cons, List.foldl_nil]
        unfold scan1; simp only [hn]; rw [if_neg (by simp)]
    rw [e, List.foldl_append, s1, fold_escd y]; simp
theorem fold_atom {x : List UInt8} (h : Atom x) (out : List (List UInt8)) (cur : List UInt8) : x.foldl scan1 (out, cur, false, false) = (out, cur ++ x, false, false) := by
  rcases h with h | ⟨y, _, rfl⟩
  · exact fold_token x (token_all x h).2 out cur
  · unfold quote
    have a : scan1 (out, cur, false, false) 34 = (out, cur ++ [34], true, false) := rfl
    have a' : (34 :: escd y).foldl scan1 (out, cur, false, false) = (out, cur ++ [34] ++ escd y, true, false) := by
      rw [List.foldl_cons, a, fold_escd]
    rw [List.foldl_append, a']
    have b : [34].foldl scan1 (out, cur ++ [34] ++ escd y, true, false) = (out, cur ++ [34] ++ escd y ++ [34], false, false) := rfl
    rw [b]; simp

theorem atom_ends {x : List UInt8} (h : Atom x) : x ≠ [] ∧ trim x = x := by
  rcases h with h | ⟨y, _, rfl⟩
  · refine ⟨(token_all x h).1, ?_⟩
    have := token_value x h
    simp only [value, Bool.and_eq_true, beq_iff_eq] at this
    exact this.2
  · refine ⟨by simp [quote], ?_⟩
    rw [trim_fix']
    constructor
    · intro c r e
      have : c = 34 := by simp only [quote, List.cons_append] at e; exact (List.cons.inj e).1.symm
      subst this; rfl
    · intro i c e
      have : c = 34 := by
        unfold quote at e
        have := List.append_inj_right' e rfl
        exact (List.cons.inj this).1.symm
      subst this; rfl
theorem emit_atom {x : List UInt8} (h : Atom x) (b b' : List UInt8) (hb : b.all blank = true) (hb' : b'.all blank = true) : emit (b ++ x ++ b') = [x] := by
  obtain ⟨h1, h2⟩ := atom_ends h
  have e : trim (b ++ x ++ b') = x := by rw [trim_blanks _ _ _ hb hb', h2]
  rw [emit_yes (by rw [e]; exact h1), e]
theorem emit_blank {b : List UInt8} (h : b.all blank = true) : emit b = [] := emit_no ((trim_eq_nil b).2 h)

/-- The first part: each piece, and behind it a blank, a comma, a tab, a comma, a blank. -/
def JA (l : List UInt8) (W : List (List UInt8)) : Prop := ∃ cur, cur.all blank = true ∧ l.foldl scan1 ([], [], false, false) = (W, cur, false, false)
/-- The second part, whatever stands ahead of it: a comma, a blank, and the piece. -/
def JB (l : List UInt8) (W : List (List UInt8)) : Prop := ∀ out cur, ∃ out' cur', l.foldl scan1 (out, cur, false, false) = (out', cur', false, false) ∧ out' ++ emit cur' = out ++ emit cur ++ W
theorem JA.nil : JA [] [] := ⟨[], rfl, rfl⟩
theorem JB.nil : JB [] [] := fun out cur => ⟨out, cur, rfl, by simp⟩
theorem JA.add {l x : List UInt8} {W : List (List UInt8)} (h : JA l W) (hx : Atom x) : JA (l ++ (x ++ [32, 44, 9, 44, 32])) (W ++ [x]) := by
  obtain ⟨cur, hc, hf⟩ := h
  refine ⟨[32], rfl, ?_⟩
  rw [List.foldl_append, hf, List.foldl_append, fold_atom hx]
  have s1 : scan1 (W, cur ++ x, false, false) 32 = (W, cur ++ x ++ [32], false, false) := rfl
  have s2 : scan1 (W, cur ++ x ++ [32], false, false) 44 = (W ++ emit (cur ++ x ++ [32]), [], false, false) := rfl
  rw [emit_atom hx cur [32] hc rfl] at s2
  have s3 : scan1 (W ++ [x], [], false, false) 9 = (W ++ [x], [9], false, false) := rfl
  have s4 : scan1 (W ++ [x], [9], false, false) 44 = (W ++ [x] ++ emit [9], [], false, false) := rfl
  rw [emit_blank (b := [9]) rfl, List.append_nil] at s4
  have s5 : scan1 (W ++ [x], [], false, false) 32 = (W ++ [x], [32], false, false) := rfl
  simp only [List.foldl_cons, List.foldl_nil, s1, s2, s3, s4, s5]
theorem JB.add {l x : List UInt8} {W : List (List UInt8)} (h : JB l W) (hx : Atom x) : JB (l ++ ([44, 32] ++ x)) (W ++ [x]) := by
  intro out cur
  obtain ⟨out', cur', hf, he⟩ := h out cur
  refine ⟨out' ++ emit cur', [32] ++ x, ?_, ?_⟩
  · rw [List.foldl_append, hf, List.foldl_append]
    have s1 : scan1 (out', cur', false, false) 44 = (out' ++ emit cur', [], false, false) := rfl
    have s2 : scan1 (out' ++ emit cur', [], false, false) 32 = (out' ++ emit cur', [32], false, false) := rfl
    simp only [List.foldl_cons, List.foldl_nil, s1, s2]
    exact fold_atom hx _ _
  · have := emit_atom hx [32] [] rfl rfl
    rw [List.append_nil] at this
    rw [this, he]; simp
theorem join_one {a b : List UInt8} {V W : List (List UInt8)} (ha : JA a V) (hb : JB b W) : splitAll [a ++ b] = V ++ W := by
  obtain ⟨cur, hc, hf⟩ := ha
  obtain ⟨out', cur', hf', he⟩ := hb V cur
  have e : splitText (a ++ b) = V ++ W := by
    unfold splitText scan
    rw [List.foldl_append, hf, hf']
    show out' ++ emit cur' = _
    rw [he, emit_blank hc, List.append_nil]
  simp [splitAll, e]
theorem join_two {a b : List UInt8} {V W : List (List UInt8)} (ha : JA a V) (hb : JB b W) : splitAll [a, b] = V ++ W := by
  obtain ⟨cur, hc, hf⟩ := ha
  obtain ⟨out', cur', hf', he⟩ := hb [] []
  have e1 : splitText a = V := by
    unfold splitText scan
    rw [hf]
    show V ++ emit cur = _
    rw [emit_blank hc, List.append_nil]
  have e2 : splitText b = W := by
    unfold splitText scan
    rw [hf']
    show out' ++ emit cur' = _
    rw [he]; simp [emit_blank (b := []) rfl]
  simp [splitAll, e1, e2]

end Oct
