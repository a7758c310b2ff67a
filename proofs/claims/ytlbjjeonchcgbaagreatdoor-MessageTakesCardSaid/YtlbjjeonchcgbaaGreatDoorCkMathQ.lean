/- The plain mathematics of package chunk: part by part, the program's way tells what step by step is told. -/
import Derived.Test.YtlbjjeonchcgbaaGreatDoorCkMathP
namespace Ck
open Go.Lib (hasSuffix trimSuffix)

theorem n10 : ¬ (10 : Int) = 0 := by decide
theorem n12 : ¬ (12 : Int) = 0 := by decide
theorem n13 : ¬ (13 : Int) = 0 := by decide
theorem go_part (t m : Nat) (rest : L) : ∀ p : L, go (sD t (p.length + m)) (p ++ rest) = sh p p.length (go (sD t m) rest)
  | [] => by rw [List.length_nil, sh_none, Nat.zero_add]; rfl
  | c :: p => by
    have hs : step (sD t ((c :: p).length + m)) ((c :: p) ++ rest) = .ok 1 [c] (sD t (p.length + m)) := by
      have := data_next (t := t) (n := (c :: p).length + m) (l := (c :: p) ++ rest) (A := 0) (by simp) (by rw [List.length_cons]; omega)
      have e : (c :: p).length + m - 1 = p.length + m := by rw [List.length_cons]; omega
      rw [e] at this
      simpa using this
    rw [go_step hs]
    show sh [c] 1 (go (sD t (p.length + m)) (p ++ rest)) = _
    rw [go_part t m rest p, sh_sh, List.length_cons, Nat.add_comm]; rfl
theorem tkSize_bad {t : Nat} {p : L} (h : hasSuffix p [13, 10] = false ∨ 8 < (digs (trimSuffix p [13, 10])).length ∨ Oct.value (Oct.trim (extn (trimSuffix p [13, 10]))) = false) : tkSize t p = (.size t, 10) := by
  unfold tkSize; rw [if_pos h]
theorem tkSize_not {t : Nat} {p : L} (h : ¬ (hasSuffix p [13, 10] = false ∨ 8 < (digs (trimSuffix p [13, 10])).length ∨ Oct.value (Oct.trim (extn (trimSuffix p [13, 10]))) = false)) {e : Int} (he : e ≠ 0)
    (hn : Oct.number 16 ((1048576 - t : Nat) : Int) (digs (trimSuffix p [13, 10])) = (0, e)) : tkSize t p = (.size t, e) := by
  unfold tkSize; rw [if_neg h, hn]; simp only []; rw [if_pos he]
theorem tkSize_yes {t : Nat} {p : L} (h : ¬ (hasSuffix p [13, 10] = false ∨ 8 < (digs (trimSuffix p [13, 10])).length ∨ Oct.value (Oct.trim (extn (trimSuffix p [13, 10]))) = false)) {v : Nat}
    (hn : Oct.number 16 ((1048576 - t : Nat) : Int) (digs (trimSuffix p [13, 10])) = ((v : Int), 0)) : tkSize t p = if v = 0 then (.trail 0, 0) else (.data (t + v) v, 0) := by
  unfold tkSize; rw [if_neg h, hn]; simp only []
  rw [if_neg (by decide)]
  by_cases hv : v = 0
  · subst hv; rfl
  · rw [if_neg (by omega), if_neg hv, Int.toNat_natCast]
/-- All that a size line may make. -/
theorem tkSize_cases (t : Nat) (p : L) :
    ((hasSuffix p [13, 10] = false ∨ 8 < (digs (trimSuffix p [13, 10])).length ∨ Oct.value (Oct.trim (extn (trimSuffix p [13, 10]))) = false) ∧ tkSize t p = (.size t, 10)) ∨
    (hasSuffix p [13, 10] = true ∧ (digs (trimSuffix p [13, 10])).length ≤ 8 ∧ Oct.value (Oct.trim (extn (trimSuffix p [13, 10]))) = true ∧
      ((sizeOf (trimSuffix p [13, 10]) < 0 ∧ Oct.number 16 ((1048576 - t : Nat) : Int) (digs (trimSuffix p [13, 10])) = (0, 10) ∧ tkSize t p = (.size t, 10)) ∨
       (∃ v : Nat, sizeOf (trimSuffix p [13, 10]) = v ∧ v ≤ 1048576 - t ∧ Oct.number 16 ((1048576 - t : Nat) : Int) (digs (trimSuffix p [13, 10])) = ((v : Int), 0) ∧ tkSize t p = if v = 0 then (.trail 0, 0) else (.data (t + v) v, 0)) ∨
       (∃ v : Nat, sizeOf (trimSuffix p [13, 10]) = v ∧ 1048576 - t < v ∧ Oct.number 16 ((1048576 - t : Nat) : Int) (digs (trimSuffix p [13, 10])) = (0, 12) ∧ tkSize t p = (.size t, 12)))) := by
  by_cases h : hasSuffix p [13, 10] = false ∨ 8 < (digs (trimSuffix p [13, 10])).length ∨ Oct.value (Oct.trim (extn (trimSuffix p [13, 10]))) = false
  · exact .inl ⟨h, tkSize_bad h⟩
  · right
    have h1 : hasSuffix p [13, 10] = true := by
      cases hh : hasSuffix p [13, 10] with
      | true => rfl
      | false => exact absurd (.inl hh) h
    have h2 : (digs (trimSuffix p [13, 10])).length ≤ 8 := by
      rcases Nat.lt_or_ge 8 (digs (trimSuffix p [13, 10])).length with hh | hh
      · exact absurd (.inr (.inl hh)) h
      · exact hh
    have h3 : Oct.value (Oct.trim (extn (trimSuffix p [13, 10]))) = true := by
      cases hh : Oct.value (Oct.trim (extn (trimSuffix p [13, 10]))) with
      | true => rfl
      | false => exact absurd (.inr (.inr hh)) h
    refine ⟨h1, h2, h3, ?_⟩
    rcases sizeOf_yes h2 h3 (1048576 - t) with ⟨a, b⟩ | ⟨v, a, b, c⟩ | ⟨v, a, b, c⟩
    · exact .inl ⟨a, b, tkSize_not h (by decide) b⟩
    · exact .inr (.inl ⟨v, a, b, c, tkSize_yes h c⟩)
    · exact .inr (.inr ⟨v, a, b, c, tkSize_not h (by decide) c⟩)
theorem step_size {t k : Nat} {l : L} (h : lineLen l = (k, 0)) (hk : 0 < k) (ht : t ≤ 1048576) : step (.size t) l = if (tkSize t (l.take k)).2 = 0 then .ok k [] (tkSize t (l.take k)).1 else .err (tkSize t (l.take k)).2 := by
  obtain ⟨_, _, _, hL⟩ := lineLen_some h hk
  generalize l.take k = p at *
  by_cases hs : hasSuffix p [13, 10] = true
  case neg =>
    have hs' : hasSuffix p [13, 10] = false := by simpa using hs
    rw [if_neg hs] at hL
    rw [tkSize_bad (.inl hs'), if_neg n10]
    have := size_err (b := l) (t := t) (by rw [hL]; decide) (by rw [hL]; decide)
    rw [hL] at this
    exact this
  case pos =>
    rw [if_pos hs] at hL
    have h0 : (lineAt l).2.2 = 0 := by rw [hL]
    have h1 : (lineAt l).1 = trimSuffix p [13, 10] := by rw [hL]
    have h2 : (lineAt l).2.1.toNat = k := by rw [hL]; rfl
    rcases tkSize_cases t p with ⟨a, hT⟩ | ⟨_, _, _, ⟨a, _, hT⟩ | ⟨v, a, b, c, hT⟩ | ⟨v, a, b, c, hT⟩⟩
    · rw [hT, if_neg n10]
      exact size_form h0 (by rw [h1]; exact sizeOf_no (by
        rcases a with a | a
        · rw [hs] at a; cases a
        · exact a))
    · rw [hT, if_neg n10]
      exact size_form h0 (by rw [h1]; exact a)
    · rw [hT]
      by_cases hv : v = 0
      · rw [if_pos hv, if_pos rfl]
        have := size_last (b := l) (t := t) h0 (by rw [h1, a, hv]; rfl)
        rw [h2] at this
        exact this
      · rw [if_neg hv, if_pos rfl]
        have := size_next (b := l) (t := t) h0 (by rw [h1, a]; omega) (by rw [h1, a]; omega)
        rw [h2, h1, a] at this
        exact this
    · rw [hT, if_neg n12]
      exact size_long h0 (by rw [h1, a]; omega) (by rw [h1, a]; omega)
/-- All that a trailer's line may make. -/
theorem tkTrail_err {n : Nat} {p : L} {e : Int} (he : e ≠ 0) {fs : List Fld.F} {m : Nat} (h : Fld.parse (p ++ [13, 10]) = (fs, m, e)) : tkTrail n p = (.trail n, e) := by
  unfold tkTrail; rw [h]; simp only []; rw [if_pos he]
theorem tkTrail_end {n : Nat} {p : L} {m : Nat} (h : Fld.parse (p ++ [13, 10]) = ([], m, 0)) : tkTrail n p = (.over, 0) := by
  unfold tkTrail; rw [h]; rfl
theorem tkTrail_ok {n : Nat} {p : L} {fs : List Fld.F} {m : Nat} (h : Fld.parse (p ++ [13, 10]) = (fs, m, 0)) (h0 : fs.length ≠ 0) : tkTrail n p = if n = 128 then (.trail n, 13) else (.trail (n + 1), 0) := by
  unfold tkTrail; rw [h]; simp only []; rw [if_neg (by decide), if_neg h0]
theorem step_trail {n k : Nat} {l : L} (h : lineLen l = (k, 0)) (hk : 0 < k) (hn : n ≤ 128) : step (.trail n) l = if (tkTrail n (l.take k)).2 = 0 then .ok k [] (tkTrail n (l.take k)).1 else .err (tkTrail n (l.take k)).2 := by
  obtain ⟨hku, hkl, hk6, hL⟩ := lineLen_some h hk
  have hpl : (l.take k).length = k := by rw [List.length_take]; omega
  have hno := St.upto_take 10 l
  have hcut := St.upto_drop 10 l (by omega)
  have hpe : l.take k = l.take (St.upto 10 l) ++ [10] := by
    rw [hku, List.take_add_one]
    have : (l.drop (St.upto 10 l))[0]? = some 10 := by rw [hcut]; rfl
    rw [List.getElem?_drop, Nat.add_zero] at this
    rw [this]; rfl
  by_cases hs : hasSuffix (l.take k) [13, 10] = true
  case neg =>
    have hs' : hasSuffix (l.take k) [13, 10] = false := by simpa using hs
    rw [if_neg hs] at hL
    rw [hpe] at hs' ⊢
    rw [tkTrail_err (by decide) (parse_lf _ hno (by rw [List.length_take]; omega) hs'), if_neg n10]
    have := trail_err (b := l) (k := n) (by rw [hL]; decide) (by rw [hL]; decide)
    rw [hL] at this
    exact this
  case pos =>
    rw [if_pos hs] at hL
    have hsc := suffix_cut hs
    have hse : ∀ c ∈ trimSuffix (l.take k) [13, 10], c ≠ 10 := by
      intro c hc
      have e2 : trimSuffix (l.take k) [13, 10] ++ [13] = l.take (St.upto 10 l) := by
        have : (trimSuffix (l.take k) [13, 10] ++ [13]) ++ [10] = l.take (St.upto 10 l) ++ [10] := by
          rw [← hpe]; conv => rhs; rw [hsc]
          simp
        exact List.append_cancel_right this
      exact hno c (by rw [← e2]; exact List.mem_append_left _ hc)
    have hsl : (trimSuffix (l.take k) [13, 10]).length + 2 = k := by
      have := congrArg List.length hsc
      rw [List.length_append, hpl] at this
      simpa using this.symm
    rw [hsc]
    clear hsc
    generalize trimSuffix (l.take k) [13, 10] = s at *
    have h0 : (lineAt l).2.2 = 0 := by rw [hL]
    have h1 : (lineAt l).1 = s := by rw [hL]
    have h2 : (lineAt l).2.1.toNat = k := by rw [hL]; rfl
    have e4 : (s ++ [13, 10]) ++ [13, 10] = s ++ 13 :: 10 :: [13, 10] := by simp
    have hP := parse_line s hse (by omega)
    have hF : fieldBad s = decide ((Fld.parse (s ++ 13 :: 10 :: [13, 10])).2.2 ≠ 0) := rfl
    by_cases hs0 : s = []
    · rw [if_pos hs0, ← e4] at hP
      rw [tkTrail_end hP, if_pos rfl]
      have := trail_over (b := l) (k := n) h0 (by rw [h1]; exact hs0)
      rw [h2] at this
      exact this
    · rw [if_neg hs0] at hP
      cases hf : Fld.fieldOf s with
      | none =>
        rw [hf] at hP
        simp only [] at hP
        rw [hP] at hF
        rw [← e4] at hP
        rw [tkTrail_err (by decide) hP, if_neg n10]
        exact trail_form h0 (by rw [h1]; exact hs0) (by rw [h1, hF]; decide)
      | some f =>
        rw [hf] at hP
        simp only [] at hP
        rw [hP] at hF
        rw [← e4] at hP
        rw [tkTrail_ok hP (by simp)]
        by_cases hn8 : n = 128
        · rw [if_pos hn8, if_neg n13]
          exact trail_many h0 (by rw [h1]; exact hs0) (by rw [h1, hF]; rfl) (by omega)
        · rw [if_neg hn8, if_pos rfl]
          have := trail_next (b := l) (k := n) h0 (by rw [h1]; exact hs0) (by rw [h1, hF]; rfl) (by omega)
          rw [h2] at this
          exact this

/-! The program's way. -/
theorem prog_stop {s : S} {l : L} (hg : Good s) (h : nx s l = (0, 0)) : go s l = ([], 0, s, 0) := by
  cases s with
  | size t => exact go_more (size_more (lineLen_none h))
  | data t n =>
    have h1 : min l.length n = 0 := congrArg Prod.fst h
    have h2 : 1 ≤ n := hg.1
    have : l = [] := List.length_eq_zero_iff.1 (by omega)
    subst this
    exact go_nil _
  | tail t =>
    have h1 : (if 2 ≤ l.length then 2 else 0) = 0 := congrArg Prod.fst h
    match l, h1 with
    | [], _ => exact go_nil _
    | [_], _ => exact go_more rfl
    | a :: b :: r, h1 => rw [if_pos (by simp)] at h1; cases h1
  | trail k => exact go_more (trail_more (lineLen_none h))
  | over => exact go_more rfl
theorem prog_long {s : S} {l : L} (h : (nx s l).2 ≠ 0) : (nx s l).2 = 12 ∧ go s l = ([], 0, s, 12) := by
  cases s with
  | size t =>
    obtain ⟨h1, h2⟩ := lineLen_long h
    refine ⟨h1, ?_⟩
    have := size_err (b := l) (t := t) (by rw [h2]; decide) (by rw [h2]; decide)
    rw [h2] at this
    exact go_err this
  | data t n => exact absurd rfl h
  | tail t => exact absurd rfl h
  | trail k =>
    obtain ⟨h1, h2⟩ := lineLen_long h
    refine ⟨h1, ?_⟩
    have := trail_err (b := l) (k := k) (by rw [h2]; decide) (by rw [h2]; decide)
    rw [h2] at this
    exact go_err this
  | over => exact absurd rfl h
theorem nx_le {s : S} {l : L} (h : (nx s l).2 = 0) : (nx s l).1 ≤ l.length := by
  have hl : ∀ l : L, (lineLen l).1 ≤ l.length := by
    intro l
    have := St.upto_le 10 l
    unfold lineLen
    split
    · show St.upto 10 l + 1 ≤ _; omega
    · split <;> exact Nat.zero_le _
  cases s with
  | size t => exact hl l
  | data t n => exact Nat.min_le_left _ _
  | tail t =>
    show (if 2 ≤ l.length then 2 else 0) ≤ _
    split <;> omega
  | trail k => exact hl l
  | over => exact Nat.zero_le _
theorem prog_part {s : S} {l : L} {k : Nat} (hg : Good s) (h : nx s l = (k, 0)) (hk : 0 < k) :
    go s l = (if (tk s (l.take k)).2 = 0 then sh (said s (l.take k)) k (go (tk s (l.take k)).1 (l.drop k)) else ([], 0, s, (tk s (l.take k)).2)) ∧ ((tk s (l.take k)).2 = 0 → Good (tk s (l.take k)).1) := by
  cases s with
  | size t =>
    have ht : t ≤ 1048576 := hg
    have hs := step_size (t := t) h hk ht
    show _ = (if (tkSize t (l.take k)).2 = 0 then sh [] k (go (tkSize t (l.take k)).1 (l.drop k)) else _) ∧ ((tkSize t (l.take k)).2 = 0 → Good (tkSize t (l.take k)).1)
    refine ⟨?_, ?_⟩
    · by_cases h0 : (tkSize t (l.take k)).2 = 0
      · rw [if_pos h0] at hs ⊢
        exact go_step hs
      · rw [if_neg h0] at hs ⊢
        exact go_err hs
    · intro h0
      rcases tkSize_cases t (l.take k) with ⟨_, hT⟩ | ⟨_, _, _, ⟨_, _, hT⟩ | ⟨v, a, b, c, hT⟩ | ⟨v, a, b, c, hT⟩⟩
      · rw [hT] at h0; exact absurd h0 n10
      · rw [hT] at h0; exact absurd h0 n10
      · rw [hT]
        by_cases hv : v = 0
        · rw [if_pos hv]; exact Nat.zero_le _
        · rw [if_neg hv]; exact ⟨by omega, by omega, by omega⟩
      · rw [hT] at h0; exact absurd h0 n12
  | data t n =>
    have hm : min l.length n = k := congrArg Prod.fst h
    have hn : 1 ≤ n := hg.1
    have hpl : (l.take k).length = k := by rw [List.length_take]; omega
    show _ = (if (0 : Int) = 0 then sh (l.take k) k (go (sD t (n - (l.take k).length)) (l.drop k)) else _) ∧ ((0 : Int) = 0 → Good (sD t (n - (l.take k).length)))
    rw [if_pos rfl, hpl]
    refine ⟨?_, fun _ => ?_⟩
    · have := go_part t (n - k) (l.drop k) (l.take k)
      rw [hpl, List.take_append_drop, show k + (n - k) = n by omega] at this
      have e : sD t n = .data t n := by unfold sD; rw [if_neg (by omega)]
      rw [e] at this
      exact this
    · unfold sD
      split
      · exact hg.2.2
      · exact ⟨by omega, Nat.le_trans (Nat.sub_le _ _) hg.2.1, hg.2.2⟩
  | tail t =>
    have h1 : (if 2 ≤ l.length then 2 else 0) = k := congrArg Prod.fst h
    match l, h1 with
    | [], h1 => rw [if_neg (by decide)] at h1; omega
    | [_], h1 => rw [if_neg (by simp)] at h1; omega
    | a :: b :: r, h1 =>
      rw [if_pos (by simp)] at h1
      subst h1
      show _ = (if (if [a, b] = [13, 10] then (S.size t, (0 : Int)) else (.tail t, 10)).2 = 0 then sh [] 2 (go (if [a, b] = [13, 10] then (S.size t, (0 : Int)) else (.tail t, 10)).1 r) else ([], 0, .tail t, (if [a, b] = [13, 10] then (S.size t, (0 : Int)) else (.tail t, 10)).2)) ∧ ((if [a, b] = [13, 10] then (S.size t, (0 : Int)) else (.tail t, 10)).2 = 0 → Good (if [a, b] = [13, 10] then (S.size t, (0 : Int)) else (.tail t, 10)).1)
      by_cases hab : a = 13 ∧ b = 10
      · obtain ⟨rfl, rfl⟩ := hab
        rw [if_pos rfl]
        exact ⟨go_tail t r, fun _ => hg⟩
      · have hne : ¬ [a, b] = [13, 10] := fun e => hab (by injection e with e1 e2; injection e2 with e2; exact ⟨e1, e2⟩)
        rw [if_neg hne]
        refine ⟨?_, fun h => absurd h n10⟩
        rw [if_neg n10]
        exact go_err (s := .tail t) (by show (if a = 13 ∧ b = 10 then R.ok 2 [] (.size t) else .err 10) = _; rw [if_neg hab])
  | trail n =>
    have hn : n ≤ 128 := hg
    have hs := step_trail (n := n) h hk hn
    show _ = (if (tkTrail n (l.take k)).2 = 0 then sh [] k (go (tkTrail n (l.take k)).1 (l.drop k)) else _) ∧ ((tkTrail n (l.take k)).2 = 0 → Good (tkTrail n (l.take k)).1)
    refine ⟨?_, ?_⟩
    · by_cases h0 : (tkTrail n (l.take k)).2 = 0
      · rw [if_pos h0] at hs ⊢
        exact go_step hs
      · rw [if_neg h0] at hs ⊢
        exact go_err hs
    · intro h0
      obtain ⟨⟨fs, m, e⟩, hP⟩ : ∃ x, Fld.parse (l.take k ++ [13, 10]) = x := ⟨_, rfl⟩
      by_cases he : e = 0
      · subst he
        by_cases hf : fs.length = 0
        · have : fs = [] := List.length_eq_zero_iff.1 hf
          subst this
          rw [tkTrail_end hP]; trivial
        · rw [tkTrail_ok hP hf] at h0 ⊢
          by_cases hn8 : n = 128
          · rw [if_pos hn8] at h0; exact absurd h0 n13
          · rw [if_neg hn8]; show n + 1 ≤ 128; omega
      · rw [tkTrail_err he hP] at h0; exact absurd h0 he
  | over =>
    have : (0 : Nat) = k := congrArg Prod.fst h
    omega
end Ck
