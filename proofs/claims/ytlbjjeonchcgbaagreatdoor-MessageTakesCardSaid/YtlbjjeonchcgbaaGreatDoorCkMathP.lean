/- The plain mathematics of package chunk: what is awaited, taken part by part, as the program takes it. -/
import Derived.Test.YtlbjjeonchcgbaaGreatDoorCkMathC
import Derived.Test.YtlbjjeonchcgbaaGreatDoorStMathP
namespace Ck
open Go.Lib (hasSuffix trimSuffix)

/-! What a size line says, cut at its semicolon. -/
def digs (s : L) : L := if St.upto 59 s < s.length then Oct.dropR (s.take (St.upto 59 s)) else s
def extn (s : L) : L := s.drop (St.upto 59 s + 1)
def Dig (c : UInt8) : Prop := Oct.dig 16 c = true
theorem blank_eq (c : UInt8) : blank c = Oct.blank c := by
  unfold blank Oct.blank
  by_cases h : c = 32 <;> by_cases h2 : c = 9 <;> simp [h, h2]
theorem dig_not (c : UInt8) (h : Oct.dig 16 c = true) : c ≠ 59 ∧ Oct.blank c = false ∧ c ≠ 10 := by
  have := Oct.all_octets (fun c => !Oct.dig 16 c || (c != 59 && !Oct.blank c && c != 10)) (by decide +kernel) c
  rw [h] at this
  simp at this
  exact ⟨this.1.1, this.1.2, this.2⟩
theorem blank_not (c : UInt8) (h : Oct.blank c = true) : c ≠ 59 ∧ Oct.dig 16 c = false ∧ Oct.plain c = true := by
  have := Oct.all_octets (fun c => !Oct.blank c || (c != 59 && !Oct.dig 16 c && Oct.plain c)) (by decide +kernel) c
  rw [h] at this
  simp at this
  exact ⟨this.1.1, this.1.2, this.2⟩
theorem drop_blanks (bl : L) (c : UInt8) (y : L) (h : ∀ b ∈ bl, Oct.blank b = true) (hc : Oct.blank c = false) : (bl ++ c :: y).dropWhile blank = c :: y := by
  induction bl with
  | nil => rw [List.nil_append, List.dropWhile_cons, blank_eq, hc]; rfl
  | cons b t ih => rw [List.cons_append, List.dropWhile_cons, blank_eq, h b (by simp)]; exact ih (fun x hx => h x (by simp [hx]))
theorem ext_yes {r : L} (h : ext r = true) : r = [] ∨ ∃ bl y, (∀ b ∈ bl, Oct.blank b = true) ∧ r = bl ++ 59 :: y ∧ Oct.allOf Oct.plain y = true := by
  cases r with
  | nil => exact .inl rfl
  | cons a r =>
    right
    have h : (match (a :: r).dropWhile blank with | [] => false | c :: t => decide (c = 59) && Oct.allOf Oct.plain t) = true := h
    have e := List.takeWhile_append_dropWhile (p := blank) (l := a :: r)
    cases hd : (a :: r).dropWhile blank with
    | nil => rw [hd] at h; cases h
    | cons c t =>
      rw [hd] at h e
      simp only [Bool.and_eq_true, decide_eq_true_eq] at h
      obtain ⟨rfl, h2⟩ := h
      refine ⟨_, t, fun b hb => ?_, e.symm, h2⟩
      rw [← blank_eq]
      exact List.all_eq_true.1 (List.all_takeWhile (p := blank) (l := a :: r)) b hb
theorem ext_of {bl y : L} (h : ∀ b ∈ bl, Oct.blank b = true) (hy : Oct.allOf Oct.plain y = true) : ext (bl ++ 59 :: y) = true := by
  have e : ext (bl ++ 59 :: y) = match (bl ++ 59 :: y).dropWhile blank with | [] => false | c :: t => decide (c = 59) && Oct.allOf Oct.plain t := by
    cases bl <;> rfl
  rw [e, drop_blanks bl 59 y h (by decide)]
  simpa using hy
theorem trim_plain (x : L) : Oct.value (Oct.trim x) = Oct.allOf Oct.plain x := by
  rw [Bool.eq_iff_iff]
  have hd : ∀ l : L, (∀ c ∈ l, Oct.plain c = true) → ∀ c ∈ Oct.dropL l, Oct.plain c = true := by
    intro l h c hc
    exact h c ((List.dropWhile_sublist _).subset hc)
  have hr : ∀ l : L, (∀ c ∈ l, Oct.plain c = true) → ∀ c ∈ Oct.dropR l, Oct.plain c = true := by
    intro l h c hc
    unfold Oct.dropR at hc
    rw [List.mem_reverse] at hc
    exact h c (by simpa using (List.dropWhile_sublist _).subset hc)
  have bd : ∀ l : L, (∀ c ∈ Oct.dropL l, Oct.plain c = true) → ∀ c ∈ l, Oct.plain c = true := by
    intro l h c hc
    rw [← List.takeWhile_append_dropWhile (p := Oct.blank) (l := l)] at hc
    rcases List.mem_append.1 hc with hc | hc
    · exact (blank_not c (List.all_eq_true.1 (List.all_takeWhile (p := Oct.blank) (l := l)) c hc)).2.2
    · exact h c hc
  have br : ∀ l : L, (∀ c ∈ Oct.dropR l, Oct.plain c = true) → ∀ c ∈ l, Oct.plain c = true := by
    intro l h c hc
    have := bd l.reverse (fun c hc => h c (by unfold Oct.dropR; rw [List.mem_reverse]; exact hc)) c (by simpa using hc)
    exact this
  unfold Oct.allOf
  constructor
  · intro h
    have h1 := (Fld.value_all h).1
    rw [Oct.trim_eq] at h1
    exact List.all_eq_true.2 (br x (bd _ h1))
  · intro h
    have h1 := hd _ (hr x (List.all_eq_true.1 h))
    rw [← Oct.trim_eq] at h1
    unfold Oct.value
    rw [Oct.trim_trim, List.all_eq_true.2 h1]
    simp
theorem dropR_cut (a : L) : ∃ bl, (∀ b ∈ bl, Oct.blank b = true) ∧ a = Oct.dropR a ++ bl := by
  refine ⟨(a.reverse.takeWhile Oct.blank).reverse, fun b hb => ?_, ?_⟩
  · rw [List.mem_reverse] at hb
    exact List.all_eq_true.1 (List.all_takeWhile (p := Oct.blank) (l := a.reverse)) b hb
  · unfold Oct.dropR
    rw [← List.reverse_append, List.takeWhile_append_dropWhile, List.reverse_reverse]
theorem dropR_digs {d bl : L} (hd : ∀ c ∈ d, Oct.dig 16 c = true) (hb : ∀ b ∈ bl, Oct.blank b = true) : Oct.dropR (d ++ bl) = d := by
  rw [Oct.dropR_blanks bl d (List.all_eq_true.2 hb), Oct.dropR_fix]
  rintro i c rfl
  exact (dig_not c (hd c (by simp))).2.1
/-- Digits, and what stands behind them. -/
theorem digs_of {d r : L} (hd : ∀ c ∈ d, Oct.dig 16 c = true) (h : r = [] ∨ ∃ bl y, (∀ b ∈ bl, Oct.blank b = true) ∧ r = bl ++ 59 :: y ∧ Oct.allOf Oct.plain y = true) :
    digs (d ++ r) = d ∧ Oct.value (Oct.trim (extn (d ++ r))) = true := by
  rcases h with rfl | ⟨bl, y, hb, rfl, hy⟩
  · rw [List.append_nil]
    have hu := St.upto_none 59 d (fun c hc => (dig_not c (hd c hc)).1)
    unfold digs extn
    rw [hu, if_neg (by omega), List.drop_of_length_le (by omega)]
    exact ⟨rfl, by decide⟩
  · have hn : ∀ c ∈ d ++ bl, c ≠ 59 := by
      intro c hc
      rcases List.mem_append.1 hc with hc | hc
      · exact (dig_not c (hd c hc)).1
      · exact (blank_not c (hb c hc)).1
    have e : d ++ (bl ++ 59 :: y) = (d ++ bl) ++ 59 :: y := by rw [List.append_assoc]
    have hu := St.upto_app 59 y (d ++ bl) hn
    unfold digs extn
    rw [e, hu, if_pos (by simp), List.take_left, dropR_digs hd hb]
    refine ⟨rfl, ?_⟩
    rw [show (d ++ bl) ++ 59 :: y = ((d ++ bl) ++ [59]) ++ y by simp, show (d ++ bl).length + 1 = ((d ++ bl) ++ [59]).length by rw [List.length_append (as := d ++ bl)]; rfl, List.drop_left, trim_plain, hy]
/-- .. and back. -/
theorem digs_back {s : L} (hd : ∀ c ∈ digs s, Oct.dig 16 c = true) (hl : (digs s).length ≤ 8) (hv : Oct.value (Oct.trim (extn s)) = true) :
    digits s = digs s ∧ ext (s.drop (digs s).length) = true := by
  have hle := St.upto_le 59 s
  by_cases hu : St.upto 59 s < s.length
  · have hcut := St.upto_drop 59 s hu
    have e1 : s = s.take (St.upto 59 s) ++ 59 :: s.drop (St.upto 59 s + 1) := by rw [← hcut, List.take_append_drop]
    obtain ⟨bl, hb, hbe⟩ := dropR_cut (s.take (St.upto 59 s))
    have hds : digs s = Oct.dropR (s.take (St.upto 59 s)) := by unfold digs; rw [if_pos hu]
    rw [← hds] at hbe
    rw [hbe, List.append_assoc] at e1
    have hy : Oct.allOf Oct.plain (s.drop (St.upto 59 s + 1)) = true := by rw [← trim_plain]; exact hv
    have hx : ∀ c, (bl ++ 59 :: s.drop (St.upto 59 s + 1)).head? = some c → Oct.dig 16 c = false := by
      intro c hc
      cases bl with
      | nil => cases hc; decide
      | cons b t => cases hc; exact (blank_not _ (hb _ (by simp))).2.1
    refine ⟨?_, ?_⟩
    · conv => lhs; rw [e1]
      exact digits_of hd hl hx
    · have hdd : s.drop (digs s).length = bl ++ 59 :: s.drop (St.upto 59 s + 1) := by
        have := List.drop_left (l₁ := digs s) (l₂ := bl ++ 59 :: s.drop (St.upto 59 s + 1))
        rw [← e1] at this; exact this
      rw [hdd]
      exact ext_of hb hy
  · have hds : digs s = s := by unfold digs; rw [if_neg hu]
    rw [hds] at hd hl ⊢
    have := digits_of hd hl (x := []) (fun c h => by cases h)
    rw [List.append_nil] at this
    exact ⟨this, by rw [List.drop_length]; rfl⟩
theorem digits_dig (s : L) : (∀ c ∈ digits s, Oct.dig 16 c = true) ∧ (digits s).length ≤ 8 ∧ s = digits s ++ s.drop (digits s).length := by
  refine ⟨fun c hc => List.all_eq_true.1 (List.all_takeWhile (p := Oct.dig 16) (l := s.take 8)) c hc, ?_, ?_⟩
  · have h1 := (List.takeWhile_sublist (Oct.dig 16) (l := s.take 8)).length_le
    rw [List.length_take] at h1
    exact Nat.le_trans h1 (Nat.min_le_left _ _)
  · have hp : digits s <+: s := (List.takeWhile_prefix _).trans (List.take_prefix _ _)
    obtain ⟨t, ht⟩ := hp
    have hdd : s.drop (digits s).length = t := by
      have := List.drop_left (l₁ := digits s) (l₂ := t)
      rw [ht] at this; exact this
    rw [hdd, ht]

/-! What digits say. -/
theorem num_val : ∀ (l : L) (n : Nat), (∀ c ∈ l, Oct.dig 16 c = true) → ∃ v : Nat, n ≤ v ∧ v < (n + 1) * 16 ^ l.length ∧ ∀ M : Nat, n ≤ M → Oct.num 16 (M : Int) (n : Int) l = if v ≤ M then some (v : Int) else none
  | [], n, _ => ⟨n, Nat.le_refl _, by simp, fun M h => by rw [if_pos h]; rfl⟩
  | c :: l, n, hd => by
    have hc := Oct.dig_lt 16 (hd c (by simp))
    obtain ⟨k, hk⟩ : ∃ k : Nat, Oct.worth c = k := ⟨_, rfl⟩
    have hk16 : k < 16 := by omega
    obtain ⟨v, h1, h2, h3⟩ := num_val l (n * 16 + k) (fun x hx => hd x (by simp [hx]))
    refine ⟨v, by omega, ?_, fun M hM => ?_⟩
    · have : (n * 16 + k + 1) * 16 ^ l.length ≤ ((n + 1) * 16) * 16 ^ l.length := Nat.mul_le_mul_right _ (by omega)
      rw [List.length_cons, Nat.pow_succ, Nat.mul_comm (16 ^ l.length) 16, ← Nat.mul_assoc]
      omega
    · have e : ((n : Int) * ((16 : Nat) : Int) + ((Oct.worth c : Nat) : Int)) = ((n * 16 + k : Nat) : Int) := by rw [hk]; omega
      by_cases hm : (M : Int) < (n : Int) * ((16 : Nat) : Int) + ((Oct.worth c : Nat) : Int)
      · rw [Oct.num_more 16 _ _ _ _ hm, if_neg (by rw [e] at hm; omega)]
      · rw [Oct.num_on 16 _ _ _ _ hm, e]
        exact h3 M (by rw [e] at hm; omega)
theorem number_val {d : L} (hd : ∀ c ∈ d, Oct.dig 16 c = true) (h0 : d ≠ []) (hl : d.length ≤ 8) : ∃ v : Nat, v ≤ 4294967295 ∧ ∀ M : Nat, Oct.number 16 (M : Int) d = if v ≤ M then ((v : Int), 0) else (0, 12) := by
  obtain ⟨v, h1, h2, h3⟩ := num_val d 0 hd
  have hp : 16 ^ d.length ≤ 16 ^ 8 := Nat.pow_le_pow_right (by decide) hl
  refine ⟨v, by omega, fun M => ?_⟩
  have h4 := h3 M (Nat.zero_le _)
  have hall : Oct.allOf (Oct.dig 16) d = true := List.all_eq_true.2 hd
  unfold Oct.number
  rw [if_neg (by rw [hall]; simp [h0]), if_neg (by omega)]
  have h4 : Oct.num 16 (M : Int) 0 d = _ := h4
  rw [h4]
  by_cases hv : v ≤ M
  · rw [if_pos hv, if_pos hv]
  · rw [if_neg hv, if_neg hv]

/-- A size line's text, as the program reads it. -/
theorem sizeOf_no {s : L} (h : 8 < (digs s).length ∨ Oct.value (Oct.trim (extn s)) = false) : sizeOf s < 0 := by
  unfold sizeOf
  by_cases h1 : (Oct.number 16 4294967295 (digits s)).2 ≠ 0
  · rw [if_pos h1]; decide
  · rw [if_neg h1]
    by_cases h2 : ext (s.drop (digits s).length) = true
    · exfalso
      obtain ⟨g1, g2, g3⟩ := digits_dig s
      have := digs_of g1 (ext_yes h2)
      rw [← g3] at this
      rcases h with h | h
      · rw [this.1] at h; omega
      · rw [this.2] at h; cases h
    · rw [if_neg h2]; decide
theorem sizeOf_yes {s : L} (h1 : (digs s).length ≤ 8) (h2 : Oct.value (Oct.trim (extn s)) = true) (M : Nat) :
    (sizeOf s < 0 ∧ Oct.number 16 (M : Int) (digs s) = (0, 10)) ∨ (∃ v : Nat, sizeOf s = v ∧ v ≤ M ∧ Oct.number 16 (M : Int) (digs s) = ((v : Int), 0)) ∨ ∃ v : Nat, sizeOf s = v ∧ M < v ∧ Oct.number 16 (M : Int) (digs s) = (0, 12) := by
  by_cases hd : ∀ c ∈ digs s, Oct.dig 16 c = true
  case neg =>
    left
    have hall : Oct.allOf (Oct.dig 16) (digs s) = false := by
      cases h : Oct.allOf (Oct.dig 16) (digs s) with
      | false => rfl
      | true => exact absurd (List.all_eq_true.1 h) hd
    refine ⟨?_, Oct.number_bad 16 M _ hall⟩
    unfold sizeOf
    by_cases g1 : (Oct.number 16 4294967295 (digits s)).2 ≠ 0
    · rw [if_pos g1]; decide
    · rw [if_neg g1, if_neg]
      · decide
      · intro g2
        obtain ⟨k1, _, k3⟩ := digits_dig s
        have := (digs_of k1 (ext_yes g2)).1
        rw [← k3] at this
        rw [this] at hd
        exact hd k1
  case pos =>
    obtain ⟨e1, e2⟩ := digs_back hd h1 h2
    by_cases h0 : digs s = []
    · left
      have hn : ∀ m : Int, Oct.number 16 m ([] : L) = (0, 10) := fun m => by unfold Oct.number; simp
      refine ⟨?_, by rw [h0]; exact hn _⟩
      unfold sizeOf
      rw [e1, h0, hn, if_pos (by decide)]; decide
    · right
      obtain ⟨v, hv, hnum⟩ := number_val hd h0 h1
      have hs : sizeOf s = v := by
        unfold sizeOf
        have h42 := hnum 4294967295
        rw [if_pos hv] at h42
        have h42 : Oct.number 16 4294967295 (digs s) = ((v : Int), 0) := h42
        rw [e1, h42, if_neg (by simp), e2]; rfl
      by_cases hm : v ≤ M
      · exact .inl ⟨v, hs, hm, by rw [hnum M, if_pos hm]⟩
      · exact .inr ⟨v, hs, by omega, by rw [hnum M, if_neg hm]⟩

/-! What the program takes. -/
/-- What is awaited: how much of it stands there, or an error. -/
def lineLen (l : L) : Nat × Int := if St.upto 10 l < l.length ∧ St.upto 10 l ≤ 255 then (St.upto 10 l + 1, 0) else if 256 ≤ l.length then (0, 12) else (0, 0)
def nx : S → L → Nat × Int
  | .size _, l => lineLen l
  | .data _ n, l => (min l.length n, 0)
  | .tail _, l => (if 2 ≤ l.length then 2 else 0, 0)
  | .trail _, l => lineLen l
  | .over, _ => (0, 0)
/-- What a part makes of it, or an error. -/
def tkSize (t : Nat) (p : L) : S × Int :=
  if hasSuffix p [13, 10] = false ∨ 8 < (digs (trimSuffix p [13, 10])).length ∨ Oct.value (Oct.trim (extn (trimSuffix p [13, 10]))) = false then (.size t, 10)
  else if (Oct.number 16 ((1048576 - t : Nat) : Int) (digs (trimSuffix p [13, 10]))).2 ≠ 0 then (.size t, (Oct.number 16 ((1048576 - t : Nat) : Int) (digs (trimSuffix p [13, 10]))).2)
  else if (Oct.number 16 ((1048576 - t : Nat) : Int) (digs (trimSuffix p [13, 10]))).1 = 0 then (.trail 0, 0)
  else (.data (t + (Oct.number 16 ((1048576 - t : Nat) : Int) (digs (trimSuffix p [13, 10]))).1.toNat) (Oct.number 16 ((1048576 - t : Nat) : Int) (digs (trimSuffix p [13, 10]))).1.toNat, 0)
def tkTrail (k : Nat) (p : L) : S × Int :=
  if (Fld.parse (p ++ [13, 10])).2.2 ≠ 0 then (.trail k, (Fld.parse (p ++ [13, 10])).2.2)
  else if (Fld.parse (p ++ [13, 10])).1.length = 0 then (.over, 0)
  else if k = 128 then (.trail k, 13) else (.trail (k + 1), 0)
def tk : S → L → S × Int
  | .size t, p => tkSize t p
  | .data t n, p => (sD t (n - p.length), 0)
  | .tail t, p => if p = [13, 10] then (.size t, 0) else (.tail t, 10)
  | .trail k, p => tkTrail k p
  | .over, _ => (.over, 0)
def said : S → L → L
  | .data _ _, p => p
  | _, _ => []
/-- Where a body may stand. -/
def Good : S → Prop
  | .size t => t ≤ 1048576
  | .data t n => 1 ≤ n ∧ n ≤ t ∧ t ≤ 1048576
  | .tail t => t ≤ 1048576
  | .trail k => k ≤ 128
  | .over => True

/-! Lines. -/
theorem lineLen_some {l : L} {k : Nat} (h : lineLen l = (k, 0)) (hk : 0 < k) : k = St.upto 10 l + 1 ∧ k ≤ l.length ∧ k ≤ 256 ∧
    lineAt l = if hasSuffix (l.take k) [13, 10] = true then (trimSuffix (l.take k) [13, 10], (k : Int), 0) else ([], 0, 10) := by
  unfold lineLen at h
  by_cases hu : St.upto 10 l < l.length ∧ St.upto 10 l ≤ 255
  · rw [if_pos hu] at h
    injection h with h1 h2
    subst h1
    refine ⟨rfl, by omega, by omega, ?_⟩
    have hne : St.upto 10 (l.take (255 + 1)) ≠ (l.take (255 + 1)).length := by
      rw [St.upto_first, List.length_take, if_pos (by omega)]
      omega
    exact (St.first_some hne).2.2.2
  · rw [if_neg hu] at h
    split at h
    · injection h with h1 h2; omega
    · injection h with h1 h2; omega
theorem lineLen_none {l : L} (h : lineLen l = (0, 0)) : (lineAt l).2.2 = 11 := by
  have hle := St.upto_le 10 l
  unfold lineLen at h
  split at h
  · injection h with h1 h2; omega
  · split at h
    · injection h with h1 h2; cases h2
    · rename_i h1 h2
      unfold lineAt St.line
      rw [if_neg h1, if_pos (by omega)]
theorem lineLen_long {l : L} (h : (lineLen l).2 ≠ 0) : (lineLen l).2 = 12 ∧ (lineAt l).2.2 = 12 := by
  unfold lineLen at h ⊢
  split at h
  · exact absurd rfl h
  · split at h
    · rename_i h1 h2
      rw [if_neg h1, if_pos h2]
      refine ⟨rfl, ?_⟩
      unfold lineAt St.line
      rw [if_neg h1, if_neg (by omega)]
    · exact absurd rfl h
theorem suffix_cut {p : L} (h : hasSuffix p [13, 10] = true) : p = trimSuffix p [13, 10] ++ [13, 10] := by
  have h0 := h
  unfold hasSuffix at h
  rw [List.isSuffixOf_iff_suffix] at h
  obtain ⟨s, hs⟩ := h
  unfold trimSuffix
  rw [if_pos h0]
  rw [← hs]
  simp

/-! A trailer's line. -/
theorem isC_app (s : L) (r : L) (h : ∀ c ∈ s, c ≠ 10) (i : Nat) (hi : i < s.length) : ¬ Fld.isC (s ++ 13 :: 10 :: r) i := by
  rintro ⟨_, h2⟩
  by_cases h3 : i + 1 < s.length
  · rw [List.getElem?_append_left h3] at h2
    exact h _ (List.mem_of_getElem? h2) rfl
  · rw [List.getElem?_append_right (by omega), show i + 1 - s.length = 0 by omega] at h2
    cases h2
theorem endAt_line (s r : L) (h : ∀ c ∈ s, c ≠ 10) : Fld.endAt (s ++ 13 :: 10 :: r) 0 = some s.length := by
  refine Fld.endAt_some (Nat.zero_le _) ⟨?_, ?_⟩ (fun j _ hj => isC_app s r h j hj)
  · rw [List.getElem?_append_right (Nat.le_refl _)]; simp
  · rw [List.getElem?_append_right (by omega)]; simp
theorem parse_line (s : L) (h : ∀ c ∈ s, c ≠ 10) (hl : s.length ≤ 60000) : Fld.parse (s ++ 13 :: 10 :: [13, 10]) = if s = [] then (([], 2, 0) : List Fld.F × Nat × Int) else match Fld.fieldOf s with
    | none => ([], 0, 10)
    | some f => ([f], s.length + 4, 0) := by
  have he := endAt_line s [13, 10] h
  by_cases h0 : s = []
  · subst h0
    rw [if_pos rfl]
    exact (Fld.At.start _).last he (by decide)
  · rw [if_neg h0]
    have hp : 0 < s.length := List.length_pos_iff.2 h0
    have hdt : ((s ++ 13 :: 10 :: [13, 10]).take s.length).drop 0 = s := by rw [List.drop_zero, List.take_left]
    cases hf : Fld.fieldOf s with
    | none => exact (Fld.At.start _).form he (by omega) (by omega) (by rw [hdt]; exact hf)
    | some f =>
      have hA := (Fld.At.start _).next he (by simp) (Nat.zero_le _) (by omega) (by omega) (by rw [hdt]; exact hf) (by decide)
      have he2 : Fld.endAt (s ++ 13 :: 10 :: [13, 10]) (s.length + 2) = some (s.length + 2) := by
        refine Fld.endAt_some (Nat.le_refl _) ⟨?_, ?_⟩ (fun j h1 h2 => by omega)
        · rw [List.getElem?_append_right (by omega), show s.length + 2 - s.length = 2 by omega]; rfl
        · rw [List.getElem?_append_right (by omega), show s.length + 2 + 1 - s.length = 3 by omega]; rfl
      have := hA.last he2 (by omega)
      exact this
/-- A line that doesn't end with CR LF is no field's. -/
theorem fieldOf_lf (s : L) (h : (10 : UInt8) ∈ s) : Fld.fieldOf s = none := by
  unfold Fld.fieldOf
  by_cases hc : Fld.colon s = s.length
  · rw [if_pos hc]
  · rw [if_neg hc, if_neg]
    intro hr
    obtain ⟨h1, h2⟩ := Fld.right_tok hr
    obtain ⟨h1, h1'⟩ := Oct.token_all _ h1
    have h2 : Oct.value (Oct.trim (s.drop (Fld.colon s + 1))) = true := h2
    rw [trim_plain] at h2
    have hx : (10 : UInt8) ∈ s.take (Fld.colon s) ++ s.drop (Fld.colon s) := by rw [List.take_append_drop]; exact h
    have hle := Fld.colon_le s
    have hcol : ∀ l : L, Fld.colon l ≠ l.length → l.drop (Fld.colon l) = 58 :: l.drop (Fld.colon l + 1) := by
      intro l
      induction l with
      | nil => intro h; exact absurd rfl h
      | cons c r ih =>
        intro h
        unfold Fld.colon at h ⊢
        by_cases hc : c = 58
        · subst hc; rw [if_pos rfl]; rfl
        · rw [if_neg hc] at h ⊢
          rw [List.drop_succ_cons, List.drop_succ_cons]
          exact ih (fun e => h (by rw [e]; rfl))
    rcases List.mem_append.1 hx with hx | hx
    · exact absurd (h1' 10 hx) (by decide)
    · rw [hcol s hc] at hx
      rcases List.mem_cons.1 hx with hx | hx
      · cases hx
      · exact absurd (List.all_eq_true.1 h2 10 hx) (by decide)
theorem parse_lf (x : L) (h : ∀ c ∈ x, c ≠ 10) (hl : x.length ≤ 60000) (hs : hasSuffix (x ++ [10]) [13, 10] = false) : Fld.parse ((x ++ [10]) ++ [13, 10]) = ([], 0, 10) := by
  have hne : ∀ i, i < (x ++ [10]).length → ¬ Fld.isC ((x ++ [10]) ++ [13, 10]) i := by
    rintro i hi ⟨h1, h2⟩
    have hll : (x ++ [10]).length = x.length + 1 := by simp
    by_cases h3 : i + 1 < x.length
    · rw [List.append_assoc, List.getElem?_append_left h3] at h2
      exact h _ (List.mem_of_getElem? h2) rfl
    · by_cases h4 : i + 1 = x.length
      · -- the LF behind a CR
        rw [List.append_assoc, List.getElem?_append_left (by omega)] at h1
        have e : x = x.take i ++ [13] := by
          have := List.take_add_one (l := x) (i := i)
          rw [h1, h4, List.take_length] at this
          exact this
        have : hasSuffix (x ++ [10]) [13, 10] = true := by
          unfold hasSuffix
          rw [List.isSuffixOf_iff_suffix]
          exact ⟨x.take i, by conv => rhs; rw [e]
                              simp⟩
        rw [this] at hs; cases hs
      · have h5 : i = x.length := by omega
        subst h5
        rw [List.append_assoc, List.getElem?_append_right (Nat.le_refl _)] at h1
        simp at h1
  have he : Fld.endAt ((x ++ [10]) ++ [13, 10]) 0 = some (x ++ [10]).length := by
    refine Fld.endAt_some (Nat.zero_le _) ⟨?_, ?_⟩ (fun j _ hj => hne j hj)
    · rw [List.getElem?_append_right (Nat.le_refl _)]; simp
    · rw [List.getElem?_append_right (by omega)]; simp
  have hdt : (((x ++ [10]) ++ [13, 10]).take (x ++ [10]).length).drop 0 = x ++ [10] := by rw [List.drop_zero, List.take_left]
  have hll : (x ++ [10]).length = x.length + 1 := by simp
  exact (Fld.At.start _).form he (by omega) (by omega) (by rw [hdt]; exact fieldOf_lf _ (by simp))
end Ck
