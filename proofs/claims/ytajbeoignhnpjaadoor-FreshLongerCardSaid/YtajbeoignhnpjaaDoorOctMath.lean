/- What lies below, out of the texts of the layers under this one: OctMath, OctMathB, OctMathC, OctMathD, OctMathE, OctMathF, OctMathG. -/
import Derived.Lib.SlTrimSet
import Derived.Lib.Bytealg
import Derived.Lib.ItoaNum
namespace Oct

/-- May a value have this octet? -/
def plain (c : UInt8) : Bool := c == 9 || (decide (32 ≤ c) && c != 127)
def blank (c : UInt8) : Bool := c == 32 || c == 9
/-- The octets of a token beside letters and digits. -/
def marks : List UInt8 := [33, 35, 36, 37, 38, 39, 42, 43, 45, 46, 94, 95, 96, 124, 126]
def alnum (c : UInt8) : Bool := (decide (97 ≤ c) && decide (c ≤ 122)) || (decide (65 ≤ c) && decide (c ≤ 90)) || (decide (48 ≤ c) && decide (c ≤ 57))
def tch (c : UInt8) : Bool := alnum c || marks.contains c
def token (l : List UInt8) : Bool := !l.isEmpty && l.all tch
def trim (l : List UInt8) : List UInt8 := Go.Lib.trimS l [32, 9]
def value (l : List UInt8) : Bool := l.all plain && trim l == l
def low (c : UInt8) : UInt8 := if 65 ≤ c ∧ c ≤ 90 then c + 32 else c
def lower (l : List UInt8) : List UInt8 := l.map low

theorem nat8 (c : UInt8) (n : UInt8) : (c == n) = ((c.toNat : Int) == (n.toNat : Int)) := by
  rw [Bool.eq_iff_iff, beq_iff_eq, beq_iff_eq, ← UInt8.toNat_inj]; omega
theorem le8 (c n : UInt8) : decide (c ≤ n) = decide ((c.toNat : Int) ≤ (n.toNat : Int)) := by
  rw [Bool.eq_iff_iff, decide_eq_true_iff, decide_eq_true_iff, UInt8.le_iff_toNat_le]; omega
/-- The octet's tests as numbers. -/
theorem plain_int (c : UInt8) : plain c = ((c.toNat : Int) == 9 || (decide (32 ≤ (c.toNat : Int)) && !((c.toNat : Int) == 127))) := by
  unfold plain; rw [bne, nat8, nat8, le8]; rfl
theorem blank_int (c : UInt8) : blank c = ((c.toNat : Int) == 32 || (c.toNat : Int) == 9) := by
  unfold blank; rw [nat8, nat8]; rfl
theorem alnum_int (c : UInt8) : alnum c = ((decide (97 ≤ (c.toNat : Int)) && decide ((c.toNat : Int) ≤ 122)) || (decide (65 ≤ (c.toNat : Int)) && decide ((c.toNat : Int) ≤ 90)) || (decide (48 ≤ (c.toNat : Int)) && decide ((c.toNat : Int) ≤ 57))) := by
  unfold alnum; rw [le8, le8, le8, le8, le8, le8]; rfl

theorem blank_eq (c : UInt8) : ([32, 9] : List UInt8).contains c = blank c := by
  simp [blank, List.contains, List.elem]
  cases h : (c == 32) <;> cases h' : (c == 9) <;> simp_all

def dropL (l : List UInt8) : List UInt8 := l.dropWhile blank
def dropR (l : List UInt8) : List UInt8 := (l.reverse.dropWhile blank).reverse
theorem trimL_eq (l : List UInt8) : Go.Lib.trimLeftS l [32, 9] = dropL l := by
  unfold Go.Lib.trimLeftS dropL; congr 1; funext c; exact blank_eq c
theorem trimR_eq (l : List UInt8) : Go.Lib.trimRightS l [32, 9] = dropR l := by
  unfold Go.Lib.trimRightS dropR; congr 2; funext c; exact blank_eq c
theorem trim_eq (l : List UInt8) : trim l = dropL (dropR l) := by
  unfold trim Go.Lib.trimS; rw [trimL_eq, trimR_eq]

theorem dropL_cons_blank (c : UInt8) (l : List UInt8) (h : blank c = true) : dropL (c :: l) = dropL l := by simp [dropL, h]
theorem dropL_cons_not (c : UInt8) (l : List UInt8) (h : blank c = false) : dropL (c :: l) = c :: l := by simp [dropL, h]
theorem dropR_append_blank (c : UInt8) (l : List UInt8) (h : blank c = true) : dropR (l ++ [c]) = dropR l := by simp [dropR, h]
theorem dropR_append_not (c : UInt8) (l : List UInt8) (h : blank c = false) : dropR (l ++ [c]) = l ++ [c] := by simp [dropR, h]
theorem dropR_nil : dropR [] = [] := rfl
theorem dropL_nil : dropL [] = [] := rfl

/-- A list is empty or has a last octet. -/
theorem snoc_cases (l : List UInt8) : l = [] ∨ ∃ i c, l = i ++ [c] := by
  cases h : l.reverse with
  | nil => left; simpa using h
  | cons c r => right; refine ⟨r.reverse, c, ?_⟩; have := congrArg List.reverse h; simpa using this

theorem snoc_ind {P : List UInt8 → Prop} (h0 : P []) (h1 : ∀ l c, P l → P (l ++ [c])) (l : List UInt8) : P l := by
  have : ∀ r : List UInt8, P r.reverse := by
    intro r
    induction r with
    | nil => simpa using h0
    | cons c r ih => rw [List.reverse_cons]; exact h1 _ _ ih
  simpa using this l.reverse

/-- Which lists have no blank at their ends. -/
def clean (l : List UInt8) : Bool := (l.head?.map blank).getD false == false && (l.getLast?.map blank).getD false == false

theorem dropL_len (l : List UInt8) : (dropL l).length ≤ l.length := by
  unfold dropL; exact (List.dropWhile_sublist _).length_le
theorem dropR_len (l : List UInt8) : (dropR l).length ≤ l.length := by
  unfold dropR
  rw [List.length_reverse]
  have := (List.dropWhile_sublist (p := blank) (l := l.reverse)).length_le
  simpa using this

theorem dropL_fix (l : List UInt8) : dropL l = l ↔ (∀ c r, l = c :: r → blank c = false) := by
  constructor
  · intro h c r e
    subst e
    cases hb : blank c with
    | false => rfl
    | true =>
      rw [dropL_cons_blank c r hb] at h
      have := dropL_len r
      rw [h] at this; simp at this; omega
  · intro h
    cases l with
    | nil => rfl
    | cons c r => exact dropL_cons_not c r (h c r rfl)

theorem dropR_fix (l : List UInt8) : dropR l = l ↔ (∀ i c, l = i ++ [c] → blank c = false) := by
  constructor
  · intro h i c e
    subst e
    cases hb : blank c with
    | false => rfl
    | true =>
      rw [dropR_append_blank c i hb] at h
      have := dropR_len i
      rw [h] at this; simp at this; omega
  · intro h
    rcases snoc_cases l with rfl | ⟨i, c, rfl⟩
    · rfl
    · exact dropR_append_not c i (h i c rfl)

theorem dropL_no (l : List UInt8) : ∀ c r, dropL l = c :: r → blank c = false := by
  induction l with
  | nil => intro c r h; simp [dropL] at h
  | cons d l ih =>
    intro c r h
    cases hb : blank d with
    | true => rw [dropL_cons_blank d l hb] at h; exact ih c r h
    | false => rw [dropL_cons_not d l hb] at h; cases h; exact hb
theorem dropL_idem (l : List UInt8) : dropL (dropL l) = dropL l := (dropL_fix _).2 (dropL_no l)
theorem dropR_idem (l : List UInt8) : dropR (dropR l) = dropR l := by
  refine snoc_ind (P := fun l => dropR (dropR l) = dropR l) rfl (fun l c ih => ?_) l
  cases hb : blank c with
  | true => rw [dropR_append_blank c l hb]; exact ih
  | false => rw [dropR_append_not c l hb, dropR_append_not c l hb]

/-- What is left of a list of which the last octet is no blank: its last octet is none. -/
theorem dropL_last (l : List UInt8) (h : ∀ i c, l = i ++ [c] → blank c = false) : ∀ i c, dropL l = i ++ [c] → blank c = false := by
  induction l with
  | nil => intro i c e; simp [dropL] at e
  | cons d l ih =>
    intro i c e
    cases hb : blank d with
    | true =>
      rw [dropL_cons_blank d l hb] at e
      exact ih (fun i' c' e' => h (d :: i') c' (by rw [e']; rfl)) i c e
    | false => rw [dropL_cons_not d l hb] at e; exact h i c e
theorem dropR_last (l : List UInt8) : ∀ i c, dropR l = i ++ [c] → blank c = false := (dropR_fix _).1 (dropR_idem l)

/-- Trimmed once is trimmed. -/
theorem dropR_trim (l : List UInt8) : dropR (trim l) = trim l := by
  rw [trim_eq]; exact (dropR_fix _).2 (dropL_last _ (dropR_last l))
theorem dropL_trim (l : List UInt8) : dropL (trim l) = trim l := by rw [trim_eq]; exact dropL_idem _
theorem trim_trim (l : List UInt8) : trim (trim l) = trim l := by
  rw [trim_eq (trim l), dropR_trim, dropL_trim]

theorem trim_fix (l : List UInt8) : trim l = l ↔ dropL l = l ∧ dropR l = l := by
  constructor
  · intro h; exact ⟨by rw [← h]; exact dropL_trim l, by rw [← h]; exact dropR_trim l⟩
  · intro ⟨h1, h2⟩; rw [trim_eq, h2, h1]

/-- A trimmed text as the document says it: no blank at its beginning, none at its end. -/
theorem trim_fix' (l : List UInt8) : trim l = l ↔ (∀ c r, l = c :: r → blank c = false) ∧ (∀ i c, l = i ++ [c] → blank c = false) := by
  rw [trim_fix, dropL_fix, dropR_fix]

/-- Blanks around. -/
theorem dropL_blanks (b l : List UInt8) (h : b.all blank = true) : dropL (b ++ l) = dropL l := by
  induction b with
  | nil => rfl
  | cons c b ih =>
    simp only [List.all_cons, Bool.and_eq_true] at h
    rw [List.cons_append, dropL_cons_blank _ _ h.1, ih h.2]
theorem dropR_blanks (b l : List UInt8) (h : b.all blank = true) : dropR (l ++ b) = dropR l := by
  revert h
  refine snoc_ind (P := fun b => b.all blank = true → dropR (l ++ b) = dropR l) (fun _ => by simp) (fun b c ih h => ?_) b
  simp only [List.all_append, List.all_cons, List.all_nil, Bool.and_true, Bool.and_eq_true] at h
  rw [← List.append_assoc, dropR_append_blank _ _ h.2, ih h.1]

theorem dropL_all (l : List UInt8) (h : l.all blank = true) : dropL l = [] := by
  have := dropL_blanks l [] h; simpa [dropL] using this
theorem dropR_all (l : List UInt8) (h : l.all blank = true) : dropR l = [] := by
  have := dropR_blanks l [] h; simpa [dropR] using this
theorem dropL_eq_nil (l : List UInt8) (h : dropL l = []) : l.all blank = true := by
  induction l with
  | nil => rfl
  | cons c l ih =>
    cases hb : blank c with
    | true => rw [dropL_cons_blank c l hb] at h; simp [hb, ih h]
    | false => rw [dropL_cons_not c l hb] at h; cases h
theorem dropR_eq_nil (l : List UInt8) (h : dropR l = []) : l.all blank = true := by
  unfold dropR at h
  have h' : l.reverse.dropWhile blank = [] := by simpa using h
  have := dropL_eq_nil l.reverse h'
  simpa using this
theorem trim_eq_nil (l : List UInt8) : trim l = [] ↔ l.all blank = true := by
  constructor
  · intro h
    rw [trim_eq] at h
    have h1 := dropL_eq_nil _ h
    by_cases he : dropR l = []
    · exact dropR_eq_nil l he
    · rcases snoc_cases (dropR l) with h0 | ⟨i, c, hc⟩
      · exact absurd h0 he
      · have := dropR_last l i c hc
        rw [hc] at h1; simp [this] at h1
  · intro h; rw [trim_eq, dropR_all l h]; rfl

/-- The two ends may be trimmed in either order. -/
theorem dropL_dropR (l : List UInt8) : dropL (dropR l) = dropR (dropL l) := by
  by_cases h : l.all blank = true
  · rw [dropR_all l h, dropL_all l h]; rfl
  · induction l with
    | nil => rfl
    | cons c l ih =>
      cases hb : blank c with
      | true =>
        have hl : ¬ l.all blank = true := by intro h'; exact h (by simp [hb, h'])
        have hne : dropR l ≠ [] := fun e => hl (dropR_eq_nil l e)
        have hcr : dropR (c :: l) = c :: dropR l := by
          unfold dropR
          rw [List.reverse_cons]
          have hd : ∀ (a b : List UInt8), a.dropWhile blank ≠ [] → (a ++ b).dropWhile blank = a.dropWhile blank ++ b := by
            intro a b
            induction a with
            | nil => intro h; simp at h
            | cons x a ih =>
              intro h
              cases hx : blank x with
              | true => simp [hx] at h ⊢; exact ih h
              | false => simp [hx]
          rw [hd l.reverse [c] (by intro e; exact hne (by unfold dropR; rw [e]; rfl))]
          simp
        rw [hcr, dropL_cons_blank _ _ hb, dropL_cons_blank _ _ hb]
        exact ih hl
      | false =>
        rw [dropL_cons_not c l hb]
        refine (dropL_fix _).2 ?_
        intro d r e
        rcases snoc_cases l with h0 | ⟨i, x, hx⟩
        · subst h0
          have : dropR [c] = [c] := dropR_append_not c [] hb
          rw [this] at e; cases e; exact hb
        · have hpre : dropR (c :: l) <+: (c :: l) := by
            unfold dropR
            have := List.dropWhile_suffix blank (l := (c :: l).reverse)
            have := List.reverse_prefix.2 this
            simpa using this
          rw [e] at hpre
          have := hpre
          rcases this with ⟨t, ht⟩
          simp at ht
          rw [ht.1]; exact hb

theorem trim_eq' (l : List UInt8) : trim l = dropR (dropL l) := by rw [trim_eq, dropL_dropR]

theorem trim_blanks (b l b' : List UInt8) (h : b.all blank = true) (h' : b'.all blank = true) : trim (b ++ l ++ b') = trim l := by
  rw [trim_eq, dropR_blanks _ _ h', dropL_dropR, dropL_blanks _ _ h, ← trim_eq']

/-- Small letters. -/
theorem low_low (c : UInt8) : low (low c) = low c := by
  unfold low
  by_cases h : 65 ≤ c ∧ c ≤ 90
  · have h2 : ¬ (65 ≤ c + 32 ∧ c + 32 ≤ 90) := by
      have h3 : (c + 32).toNat = c.toNat + 32 := by
        rw [UInt8.toNat_add]; have := UInt8.le_iff_toNat_le.1 h.2; simp at this; simp; omega
      rintro ⟨_, h4⟩
      have a := UInt8.le_iff_toNat_le.1 h.1
      have b := UInt8.le_iff_toNat_le.1 h4
      rw [h3] at b; simp at a b; omega
    rw [if_pos h, if_neg h2]
  · rw [if_neg h, if_neg h]
theorem lower_lower (l : List UInt8) : lower (lower l) = lower l := by simp [lower, low_low]
theorem lower_length (l : List UInt8) : (lower l).length = l.length := by simp [lower]

/-- All of the 256 octets. -/
theorem all_octets (p : UInt8 → Bool) (h : (List.range 256).all (fun n => p (UInt8.ofNat n)) = true) (c : UInt8) : p c = true := by
  have := List.all_eq_true.1 h c.toNat (by simp; exact c.toNat_lt)
  simpa using this

theorem tch_plain (c : UInt8) (h : tch c = true) : plain c = true ∧ blank c = false ∧ tch (low c) = true ∧ c ≠ 44 ∧ c ≠ 34 ∧ c ≠ 92 := by
  have := all_octets (fun c => !tch c || (plain c && !blank c && tch (low c) && c != 44 && c != 34 && c != 92)) (by decide +kernel) c
  simp only [h, Bool.not_true, Bool.false_or, Bool.and_eq_true, Bool.not_eq_true', bne_iff_ne, ne_eq] at this
  obtain ⟨⟨⟨⟨⟨h1, h2⟩, h3⟩, h4⟩, h5⟩, h6⟩ := this
  exact ⟨h1, h2, h3, h4, h5, h6⟩

theorem token_all (l : List UInt8) (h : token l = true) : l ≠ [] ∧ ∀ c ∈ l, tch c = true := by
  simp only [token, Bool.and_eq_true, Bool.not_eq_true', List.isEmpty_eq_false_iff, List.all_eq_true] at h
  exact h

theorem token_value (l : List UInt8) (h : token l = true) : value l = true := by
  obtain ⟨_, hall⟩ := token_all l h
  simp only [value, Bool.and_eq_true, List.all_eq_true, beq_iff_eq]
  refine ⟨fun c hc => (tch_plain c (hall c hc)).1, ?_⟩
  rw [trim_fix']
  exact ⟨fun c r e => (tch_plain c (hall c (by rw [e]; simp))).2.1, fun i c e => (tch_plain c (hall c (by rw [e]; simp))).2.1⟩
theorem token_lower (l : List UInt8) (h : token l = true) : token (lower l) = true := by
  obtain ⟨hne, hall⟩ := token_all l h
  simp only [token, lower, Bool.and_eq_true, Bool.not_eq_true', List.isEmpty_eq_false_iff, List.all_eq_true, List.mem_map, ne_eq, List.map_eq_nil_iff]
  refine ⟨hne, ?_⟩
  rintro c ⟨d, hd, rfl⟩
  exact (tch_plain d (hall d hd)).2.2.1

/-- OctetTrims's part that is plain. -/
theorem trims (s b : List UInt8) (hb : trim b = []) : trim (trim s) = trim s ∧ trim (b ++ s ++ b) = trim s ∧ lower (lower s) = lower s ∧ (lower s).length = s.length ∧ (token s = true → value s = true ∧ token (lower s) = true) := by
  have h := (trim_eq_nil b).1 hb
  exact ⟨trim_trim s, trim_blanks b s b h h, lower_lower s, lower_length s, fun ht => ⟨token_value s ht, token_lower s ht⟩⟩


/-- What a digit is worth; 16: it is none. -/
def worth (c : UInt8) : Nat := if 48 ≤ c.toNat ∧ c.toNat ≤ 57 then c.toNat - 48 else if 97 ≤ c.toNat ∧ c.toNat ≤ 102 then c.toNat - 87 else if 65 ≤ c.toNat ∧ c.toNat ≤ 70 then c.toNat - 55 else 16
theorem worth_le (c : UInt8) : worth c ≤ 16 := by unfold worth; (repeat' split) <;> omega

/-- The same, with 99 for none. -/
def digit (c : UInt8) : Nat := if 48 ≤ c.toNat ∧ c.toNat ≤ 57 then c.toNat - 48 else if 97 ≤ c.toNat ∧ c.toNat ≤ 102 then c.toNat - 87 else if 65 ≤ c.toNat ∧ c.toNat ≤ 70 then c.toNat - 55 else 99
theorem digit_worth (c : UInt8) : worth c = digit c ∧ worth c < 16 ∨ worth c = 16 ∧ digit c = 99 := by unfold worth digit; (repeat' split) <;> omega

theorem marks_hit {c : UInt8} {k : Nat} (hk : k < 15) (h : marks.getD k 0 = c) : true = tch c := by
  have hl : k < marks.length := hk
  rw [List.getD_eq_getElem?_getD, List.getElem?_eq_getElem hl] at h
  simp at h
  unfold tch
  rw [List.contains_iff_mem.2 (h ▸ List.getElem_mem hl)]; simp
theorem marks_miss {c : UInt8} (ha : alnum c = false) (h : ∀ j, j < 15 → marks.getD j 0 ≠ c) : false = tch c := by
  unfold tch
  rw [ha]
  cases hc : marks.contains c with
  | false => rfl
  | true =>
    have hm := List.contains_iff_mem.1 hc
    obtain ⟨j, hj, e⟩ := List.getElem_of_mem hm
    exact absurd (by rw [List.getD_eq_getElem?_getD, List.getElem?_eq_getElem hj]; simpa using e) (h j hj)
theorem marks_ix {c : UInt8} (ha : alnum c = false) : decide (0 ≤ Go.Lib.indexByte [33, 35, 36, 37, 38, 39, 42, 43, 45, 46, 94, 95, 96, 124, 126] c) = tch c := by
  have := all_octets (fun c => alnum c || decide (0 ≤ Go.Lib.indexByte [33, 35, 36, 37, 38, 39, 42, 43, 45, 46, 94, 95, 96, 124, 126] c) == tch c) (by decide +kernel) c
  simpa [ha] using this

/-- All of a text's octets pass (behind a name of its own, which the walk leaves as it stands). -/
def allOf (p : UInt8 → Bool) (l : List UInt8) : Bool := l.all p
/- The octets of a string, one further. -/
theorem take_snoc (s : ByteArray) (k : Nat) (h : k < s.size) : s.data.toList.take (k + 1) = s.data.toList.take k ++ [s[k]] := by
  rw [List.take_succ_eq_append_getElem (by simpa using h)]; rfl
theorem all_snoc (p : UInt8 → Bool) (s : ByteArray) (k : Nat) (h : k < s.size) : allOf p (s.data.toList.take (k + 1)) = (allOf p (s.data.toList.take k) && p s[k]) := by
  unfold allOf; rw [take_snoc s k h]; simp
theorem take_all (s : ByteArray) (k : Nat) (h : s.size ≤ k) : s.data.toList.take k = s.data.toList := List.take_of_length_le (by simpa using h)
theorem all_miss (p : UInt8 → Bool) (s : ByteArray) (k : Nat) (h : k < s.size) (hp : p s[k] = false) : allOf p s.data.toList = false := by
  unfold allOf
  rw [List.all_eq_false]
  refine ⟨s[k], ?_, by rw [hp]; simp⟩
  show s.data[k] ∈ s.data.toList
  exact Array.getElem_mem_toList (by simpa using h)
theorem length_size (s : ByteArray) : s.data.toList.length = s.size := by simp
theorem token_size (s : ByteArray) : token s.data.toList = (decide ((0 : Int) < s.size) && allOf tch s.data.toList) := by
  unfold token allOf
  congr 1
  rw [Bool.eq_iff_iff]
  simp only [Bool.not_eq_true', List.isEmpty_eq_false_iff, decide_eq_true_eq, ne_eq]
  rw [← List.length_eq_zero_iff, length_size]; omega
theorem token_str (s : ByteArray) : token s.data.toList = (!s.toList.isEmpty && allOf tch s.data.toList) := by
  rw [Go.Lib.toList_data]; rfl

end Oct

namespace Oct

theorem trim_len (l : List UInt8) : (trim l).length ≤ l.length := by
  rw [trim_eq]; exact Nat.le_trans (dropL_len _) (dropR_len _)
theorem cons_first (t : ByteArray) (h : 0 < t.size) : t.data.toList = t[0] :: t.data.toList.drop 1 := by
  have hl : 0 < t.data.toList.length := by rw [length_size]; exact h
  have := List.drop_eq_getElem_cons hl
  rw [List.drop_zero] at this
  exact this
theorem snoc_last (t : ByteArray) (h : 0 < t.size) : t.data.toList = t.data.toList.take (t.size - 1) ++ [t[t.size - 1]] := by
  have := take_snoc t (t.size - 1) (by omega)
  rw [← this, show t.size - 1 + 1 = t.size by omega]
  exact (take_all t t.size (Nat.le_refl _)).symm
theorem cut_first (t : ByteArray) : (t.extract 1 t.size).data.toList = t.data.toList.drop 1 := by
  rw [Go.Lib.extract_data, List.take_of_length_le]
  rw [List.length_drop, length_size]; omega
theorem cut_last (t : ByteArray) : (t.extract 0 (t.size - 1)).data.toList = t.data.toList.take (t.size - 1) := by
  rw [Go.Lib.extract_data]; simp
theorem dropL_first (t : ByteArray) (h : 0 < t.size) (hp : blank t[0] = true) : dropL (t.extract 1 t.size).data.toList = dropL t.data.toList := by
  rw [cut_first]
  conv => rhs; rw [cons_first t h]
  exact (dropL_cons_blank _ _ hp).symm
theorem dropL_stop (t : ByteArray) (h : 0 < t.size) (hp : blank t[0] = false) : dropL t.data.toList = t.data.toList := by
  rw [cons_first t h]; exact dropL_cons_not _ _ hp
theorem dropR_last' (t : ByteArray) (h : 0 < t.size) (hp : blank t[t.size - 1] = true) : dropR (t.extract 0 (t.size - 1)).data.toList = dropR t.data.toList := by
  rw [cut_last]
  conv => rhs; rw [snoc_last t h]
  exact (dropR_append_blank _ _ hp).symm
theorem dropR_stop (t : ByteArray) (h : 0 < t.size) (hp : blank t[t.size - 1] = false) : dropR t.data.toList = t.data.toList := by
  rw [snoc_last t h]; exact dropR_append_not _ _ hp
theorem empty_list (t : ByteArray) (h : ¬ 0 < t.size) : t.data.toList = [] := by
  apply List.eq_nil_of_length_eq_zero; rw [length_size]; omega
theorem size_zero (t : ByteArray) (h : t.size = 0) : t = ByteArray.empty := by
  obtain ⟨⟨l⟩⟩ := t
  have : l = [] := List.eq_nil_of_length_eq_zero h
  subst this; rfl
theorem value_all (l : List UInt8) : value l = (allOf plain l && trim l == l) := rfl
theorem value_ends (s : ByteArray) (h : 0 < s.size) : (trim s.data.toList == s.data.toList) = (!blank s[0] && !blank s[s.size - 1]) := by
  rw [Bool.eq_iff_iff, beq_iff_eq, trim_fix']
  simp only [Bool.and_eq_true, Bool.not_eq_true']
  constructor
  · intro ⟨h1, h2⟩
    exact ⟨h1 _ _ (cons_first s h), h2 _ _ (snoc_last s h)⟩
  · intro ⟨h1, h2⟩
    constructor
    · intro c r e
      rw [cons_first s h] at e
      cases e; exact h1
    · intro i c e
      rw [snoc_last s h] at e
      have := List.append_inj_right' e rfl
      cases this; exact h2
theorem lower_snoc (s : ByteArray) (k : Nat) (h : k < s.size) : lower (s.data.toList.take (k + 1)) = lower (s.data.toList.take k) ++ [low s[k]] := by
  rw [take_snoc s k h]; simp [lower]
theorem low_yes (c : UInt8) (h1 : (65 : Int) ≤ c.toNat) (h2 : (c.toNat : Int) ≤ 90) : (c.toNat : Int) + 32 = ((low c).toNat : Int) := by
  have : low c = c + 32 := by
    unfold low; rw [if_pos]
    exact ⟨UInt8.le_iff_toNat_le.2 (by show 65 ≤ _; omega), UInt8.le_iff_toNat_le.2 (by show _ ≤ 90; omega)⟩
  rw [this, UInt8.toNat_add]
  have : (32 : UInt8).toNat = 32 := rfl
  rw [this]; omega
theorem low_no (c : UInt8) (h : ¬ ((65 : Int) ≤ c.toNat ∧ (c.toNat : Int) ≤ 90)) : (c.toNat : Int) = ((low c).toNat : Int) := by
  have : low c = c := by
    unfold low; rw [if_neg]
    rintro ⟨h1, h2⟩
    have a := UInt8.le_iff_toNat_le.1 h1
    have b := UInt8.le_iff_toNat_le.1 h2
    exact h ⟨by have : (65 : UInt8).toNat = 65 := rfl; omega, by have : (90 : UInt8).toNat = 90 := rfl; omega⟩
  rw [this]
/-- The first k octets in small letters. -/
def lowTo (l : List UInt8) (k : Nat) : List UInt8 := lower (l.take k) ++ l.drop k
theorem lowTo_zero (l : List UInt8) : lowTo l 0 = l := by simp [lowTo, lower]
theorem lowTo_length (l : List UInt8) (k : Nat) : (lowTo l k).length = l.length := by simp [lowTo, lower]; omega
theorem lowTo_all (s : ByteArray) : lowTo s.data.toList s.size = lower s.data.toList := by
  unfold lowTo; rw [take_all s s.size (Nat.le_refl _), List.drop_of_length_le (by rw [length_size]; omega), List.append_nil]
theorem drop_cons (s : ByteArray) (k : Nat) (h : k < s.size) : s.data.toList.drop k = s[k] :: s.data.toList.drop (k + 1) := by
  rw [List.drop_eq_getElem_cons (by rw [length_size]; exact h)]; rfl
theorem lowTo_at (s : ByteArray) (k : Nat) (h : k < s.size) {hk : k < (lowTo s.data.toList k).length} : (lowTo s.data.toList k)[k] = s[k] := by
  have e : (lowTo s.data.toList k)[k]? = some s[k] := by
    unfold lowTo
    rw [drop_cons s k h, List.getElem?_append_right (by rw [lower_length, List.length_take]; omega)]
    rw [lower_length, List.length_take, length_size, show k - min k s.size = 0 by omega]; rfl
  rw [List.getElem?_eq_getElem hk] at e
  exact Option.some.inj e
theorem lowTo_next (s : ByteArray) (k : Nat) (h : k < s.size) : lowTo s.data.toList (k + 1) = (lowTo s.data.toList k).set k (low s[k]) := by
  unfold lowTo
  rw [lower_snoc s k h, drop_cons s k h, List.set_append_right _ _ (by rw [lower_length, List.length_take]; omega)]
  rw [lower_length, List.length_take, length_size, show k - min k s.size = 0 by omega]
  simp
theorem lowTo_same (s : ByteArray) (k : Nat) (h : k < s.size) (hn : ¬ ((65 : Int) ≤ s[k].toNat ∧ (s[k].toNat : Int) ≤ 90)) : lowTo s.data.toList (k + 1) = lowTo s.data.toList k := by
  have e : low s[k] = s[k] := UInt8.toNat_inj.1 (by have := low_no s[k] hn; omega)
  rw [lowTo_next s k h, e]
  have := lowTo_at s k h (hk := by rw [lowTo_length, length_size]; exact h)
  conv => lhs; rw [← this]
  exact List.set_getElem_self _

end Oct

namespace Oct

theorem all_at (p : UInt8 → Bool) (s : ByteArray) (k : Nat) (h : k < s.size) (ha : allOf p s.data.toList = true) : p s[k] = true := by
  have := List.all_eq_true.1 ha s[k] (Array.getElem_mem_toList (by simpa using h))
  exact this
theorem nonempty (s : ByteArray) (h : 0 < s.size) : s.toList.isEmpty = false := by
  rw [Go.Lib.toList_data, cons_first s h]; rfl
def esc (c : UInt8) : List UInt8 := if c = 34 ∨ c = 92 then [92, c] else [c]
def escd (l : List UInt8) : List UInt8 := l.flatMap esc
def quote (l : List UInt8) : List UInt8 := 34 :: escd l ++ [34]
theorem escd_nil : escd [] = [] := rfl
theorem escd_len (l : List UInt8) : (escd l).length ≤ 2 * l.length := by
  induction l with
  | nil => simp [escd]
  | cons c l ih =>
    simp only [escd, List.flatMap_cons, List.length_append, List.length_cons] at ih ⊢
    have : (esc c).length ≤ 2 := by unfold esc; split <;> simp
    omega
theorem quote_len (l : List UInt8) : (quote l).length ≤ 2 * l.length + 2 := by
  have := escd_len l
  simp only [quote, List.length_append, List.length_cons, List.length_nil]; omega
/-- What stands there behind k octets. -/
def quoteTo (l : List UInt8) (k : Nat) : List UInt8 := 34 :: escd (l.take k)
theorem quoteTo_len (l : List UInt8) (k : Nat) : (quoteTo l k).length ≤ 2 * k + 1 := by
  have h1 := escd_len (l.take k)
  have h2 := List.length_take_le k l
  simp only [quoteTo, List.length_cons]; omega
theorem quoteTo_zero (l : List UInt8) : quoteTo l 0 = [34] := rfl
theorem quoteTo_mark (s : ByteArray) (k : Nat) (h : k < s.size) (hm : (s[k].toNat : Int) = 34 ∨ (s[k].toNat : Int) = 92) : quoteTo s.data.toList (k + 1) = quoteTo s.data.toList k ++ [92] ++ [s[k]] := by
  have e : esc s[k] = [92, s[k]] := by
    unfold esc; rw [if_pos]
    rcases hm with hm | hm
    · left; exact UInt8.toNat_inj.1 (by show _ = 34; omega)
    · right; exact UInt8.toNat_inj.1 (by show _ = 92; omega)
  unfold quoteTo escd
  rw [take_snoc s k h]; simp [e]
theorem quoteTo_mark' (s : ByteArray) (k : Nat) (h : k < s.size) (c : UInt8) (hc : c = 34 ∨ c = 92) (hm : (s[k].toNat : Int) = c.toNat) : quoteTo s.data.toList (k + 1) = quoteTo s.data.toList k ++ [92] ++ [c] := by
  have e : s[k] = c := UInt8.toNat_inj.1 (by omega)
  rw [quoteTo_mark s k h (hc.elim (fun q => Or.inl (by rw [hm, q]; rfl)) (fun q => Or.inr (by rw [hm, q]; rfl))), e]
theorem quoteTo_plain (s : ByteArray) (k : Nat) (h : k < s.size) (h1 : ¬ (s[k].toNat : Int) = 34) (h2 : ¬ (s[k].toNat : Int) = 92) : quoteTo s.data.toList (k + 1) = quoteTo s.data.toList k ++ [s[k]] := by
  have e : esc s[k] = [s[k]] := by
    unfold esc; rw [if_neg]
    rintro (e | e)
    · rw [e] at h1; exact h1 rfl
    · rw [e] at h2; exact h2 rfl
  unfold quoteTo escd
  rw [take_snoc s k h]; simp [e]
theorem quoteTo_all (s : ByteArray) : quoteTo s.data.toList s.size ++ [34] = quote s.data.toList := by
  unfold quoteTo quote; rw [take_all s s.size (Nat.le_refl _)]

/-- What a quoted text says, read on from behind its first mark: the text, and how many octets; e: the next octet counts for nothing. -/
def unq : Bool → List UInt8 → Option (List UInt8 × Nat)
  | _, [] => none
  | e, c :: r =>
    if plain c = false then none
    else if e then (unq false r).map fun x => (c :: x.1, x.2 + 1)
    else if c = 92 then (unq true r).map fun x => (x.1, x.2 + 1)
    else if c = 34 then some ([], 1)
    else (unq false r).map fun x => (c :: x.1, x.2 + 1)

def unquote : List UInt8 → Option (List UInt8 × Nat)
  | [] => none
  | c :: r => if c = 34 then (unq false r).map fun x => (x.1, x.2 + 1) else none

/-- What is left to be read, with what has been read. -/
def unqAt (acc : List UInt8) (k : Nat) (e : Bool) (r : List UInt8) : Option (List UInt8 × Nat) := (unq e r).map fun x => (acc ++ x.1, k + x.2)

theorem unqAt_nil (acc : List UInt8) (k : Nat) (e : Bool) : unqAt acc k e [] = none := rfl
theorem unqAt_bad (acc : List UInt8) (k : Nat) (e : Bool) (c : UInt8) (r : List UInt8) (h : plain c = false) : unqAt acc k e (c :: r) = none := by
  simp [unqAt, unq, h]
theorem unqAt_esc (acc : List UInt8) (k : Nat) (c : UInt8) (r : List UInt8) (h : plain c = true) : unqAt acc k true (c :: r) = unqAt (acc ++ [c]) (k + 1) false r := by
  simp only [unqAt, unq, h, Bool.true_eq_false, if_false, if_true, Option.map_map]
  congr 1; funext x; simp; omega
theorem unqAt_mark (acc : List UInt8) (k : Nat) (r : List UInt8) : unqAt acc k false (92 :: r) = unqAt acc (k + 1) true r := by
  have : plain 92 = true := rfl
  simp only [unqAt, unq, this, Bool.true_eq_false, if_false]
  simp only [Bool.false_eq_true, if_false, if_true, Option.map_map]
  congr 1; funext x; simp; omega
theorem unqAt_end (acc : List UInt8) (k : Nat) (r : List UInt8) : unqAt acc k false (34 :: r) = some (acc, k + 1) := by
  have : plain 34 = true := rfl
  simp [unqAt, unq, this]
theorem unqAt_plain (acc : List UInt8) (k : Nat) (c : UInt8) (r : List UInt8) (h : plain c = true) (h1 : c ≠ 92) (h2 : c ≠ 34) : unqAt acc k false (c :: r) = unqAt (acc ++ [c]) (k + 1) false r := by
  simp only [unqAt, unq, h, Bool.true_eq_false, if_false, if_neg h1, if_neg h2, Option.map_map, Bool.false_eq_true]
  congr 1; funext x; simp; omega

theorem unquote_not (s : ByteArray) (h : ¬ 0 < s.size) : unquote s.data.toList = none := by rw [empty_list s h]; rfl
theorem unquote_not' (s : ByteArray) (h : 0 < s.size) (h0 : ¬ (s[0].toNat : Int) = 34) : unquote s.data.toList = none := by
  rw [cons_first s h]
  have : s[0] ≠ 34 := fun e => h0 (by rw [e]; rfl)
  simp only [unquote, if_neg this]
theorem unquote_at (s : ByteArray) (h : 0 < s.size) (h0 : (s[0].toNat : Int) = 34) : unquote s.data.toList = unqAt [] 1 false (s.data.toList.drop 1) := by
  rw [cons_first s h]
  have : s[0] = 34 := UInt8.toNat_inj.1 (by show _ = 34; omega)
  simp only [unquote, this, if_true, unqAt, List.drop_succ_cons, List.drop_zero, List.nil_append]
  congr 1; funext x; rw [Nat.add_comm]

/-- What was quoted says itself, whatever stands behind. -/
theorem unqAt_escd (l t : List UInt8) (h : allOf plain l = true) : ∀ acc k, unqAt acc k false (escd l ++ 34 :: t) = some (acc ++ l, k + (escd l).length + 1) := by
  induction l with
  | nil => intro acc k; rw [escd_nil, List.nil_append, unqAt_end]; simp
  | cons c l ih =>
    intro acc k
    have hc : plain c = true ∧ allOf plain l = true := by simpa [allOf] using h
    have e : escd (c :: l) = esc c ++ escd l := by simp [escd]
    rw [e, List.append_assoc]
    by_cases hm : c = 34 ∨ c = 92
    · have e2 : esc c = [92, c] := by unfold esc; rw [if_pos hm]
      rw [e2]
      show unqAt acc k false (92 :: (c :: (escd l ++ 34 :: t))) = _
      rw [unqAt_mark, unqAt_esc _ _ _ _ hc.1, ih hc.2]
      simp; omega
    · have e2 : esc c = [c] := by unfold esc; rw [if_neg hm]
      rw [e2]
      show unqAt acc k false (c :: (escd l ++ 34 :: t)) = _
      rw [unqAt_plain _ _ _ _ hc.1 (fun e => hm (Or.inr e)) (fun e => hm (Or.inl e)), ih hc.2]
      simp; omega
theorem unquote_quote (l t : List UInt8) (h : allOf plain l = true) : unquote (quote l ++ t) = some (l, (quote l).length) := by
  have e : quote l ++ t = 34 :: (escd l ++ 34 :: t) := by simp [quote]
  have e2 := unqAt_escd l t h [] 1
  rw [e]
  simp only [unquote, if_true]
  have e3 : (unq false (escd l ++ 34 :: t)).map (fun x => (x.1, x.2 + 1)) = unqAt [] 1 false (escd l ++ 34 :: t) := by
    unfold unqAt; congr 1; funext x; simp; omega
  rw [e3, e2]
  simp [quote]; omega

end Oct

namespace Oct

def dig (b : Nat) (c : UInt8) : Bool := decide (worth c < b)
/-- n, and behind it the digits; none: more than most. -/
def num (b : Nat) (most : Int) : Int → List UInt8 → Option Int
  | n, [] => some n
  | n, c :: r => if most < n * b + worth c then none else num b most (n * b + worth c) r
def number (b : Nat) (most : Int) (l : List UInt8) : Int × Int :=
  if l = [] ∨ allOf (dig b) l = false then (0, 10) else if most < 0 then (0, 12) else match num b most 0 l with
    | none => (0, 12)
    | some n => (n, 0)

theorem number_empty (b : Nat) (most : Int) (s : ByteArray) (h : ¬ 0 < s.size) : number b most s.data.toList = (0, 10) := by
  unfold number; rw [empty_list s h]; simp
theorem number_bad (b : Nat) (most : Int) (l : List UInt8) (h : allOf (dig b) l = false) : number b most l = (0, 10) := by
  unfold number; simp [h]
theorem number_neg (b : Nat) (most : Int) (s : ByteArray) (h : 0 < s.size) (hd : allOf (dig b) s.data.toList = true) (hm : most < 0) : number b most s.data.toList = (0, 12) := by
  unfold number
  have : ¬ (s.data.toList = [] ∨ allOf (dig b) s.data.toList = false) := by rw [hd, cons_first s h]; simp
  rw [if_neg this, if_pos hm]
theorem number_num (b : Nat) (most : Int) (s : ByteArray) (h : 0 < s.size) (hd : allOf (dig b) s.data.toList = true) (hm : 0 ≤ most) : number b most s.data.toList = match num b most 0 s.data.toList with | none => (0, 12) | some n => (n, 0) := by
  unfold number
  have : ¬ (s.data.toList = [] ∨ allOf (dig b) s.data.toList = false) := by rw [hd, cons_first s h]; simp
  rw [if_neg this, if_neg (by omega)]
theorem num_none (b : Nat) (most : Int) (s : ByteArray) (h : 0 < s.size) (hd : allOf (dig b) s.data.toList = true) (hm : 0 ≤ most) (hn : num b most 0 s.data.toList = none) : number b most s.data.toList = (0, 12) := by
  rw [number_num b most s h hd hm, hn]
theorem num_some (b : Nat) (most : Int) (s : ByteArray) (h : 0 < s.size) (hd : allOf (dig b) s.data.toList = true) (hm : 0 ≤ most) {n : Int} (hn : num b most 0 s.data.toList = some n) : number b most s.data.toList = (n, 0) := by
  rw [number_num b most s h hd hm, hn]
theorem num_more (b : Nat) (most n : Int) (c : UInt8) (r : List UInt8) (h : most < n * b + worth c) : num b most n (c :: r) = none := by simp only [num]; rw [if_pos h]
theorem num_on (b : Nat) (most n : Int) (c : UInt8) (r : List UInt8) (h : ¬ most < n * b + worth c) : num b most n (c :: r) = num b most (n * b + worth c) r := by simp only [num]; rw [if_neg h]
theorem num_nil (b : Nat) (most n : Int) : num b most n [] = some n := rfl
theorem dig_lt (b : Nat) {c : UInt8} (h : dig b c = true) : worth c < b := by simpa [dig] using h
theorem worth_nat {c : UInt8} : worth c = worth c := rfl
theorem dig_digit (b : Nat) (_hb : b ≤ 16) {c : UInt8} (h : dig b c = true) : (digit c : Int) < b := by
  have h1 := dig_lt b h
  rcases digit_worth c with ⟨h2, _⟩ | ⟨h2, _⟩ <;> omega
theorem digit_eq (b : Nat) (_hb : b ≤ 16) {c : UInt8} (h : dig b c = true) : worth c = digit c := by
  have h1 := dig_lt b h
  rcases digit_worth c with ⟨h2, _⟩ | ⟨h2, _⟩ <;> omega
theorem digit_dig (b : Nat) (_hb : b ≤ 16) {c : UInt8} (h : dig b c = false) : (b : Int) ≤ digit c := by
  have h1 : ¬ worth c < b := by simpa [dig] using h
  rcases digit_worth c with ⟨h2, _⟩ | ⟨h2, _⟩ <;> omega

end Oct

namespace Oct

def emit (l : List UInt8) : List (List UInt8) := if trim l = [] then [] else [trim l]
theorem emit_no {l : List UInt8} (h : trim l = []) : emit l = [] := by unfold emit; rw [if_pos h]
theorem emit_yes {l : List UInt8} (h : ¬ trim l = []) : emit l = [trim l] := by unfold emit; rw [if_neg h]

/-- Within quotation marks? Does the next octet count for nothing? Behind one octet. -/
def nq (q e : Bool) (c : UInt8) : Bool × Bool := if e then (q, false) else if q && c == 92 then (q, true) else if c == 34 then (!q, false) else (q, false)

theorem u8_eq {c : UInt8} {n : UInt8} (h : (c.toNat : Int) = n.toNat) : c = n := UInt8.toNat_inj.1 (by omega)
theorem nq_esc (q : Bool) (c : UInt8) : nq q true c = (q, false) := rfl
theorem nq_quote (q : Bool) (c : UInt8) (h : (c.toNat : Int) = 34) : nq q false c = (!q, false) := by
  rw [u8_eq (n := 34) h]; cases q <;> rfl
theorem nq_mark (c : UInt8) (h : (c.toNat : Int) = 92) : nq true false c = (true, true) := by
  rw [u8_eq (n := 92) h]; rfl
theorem nq_out (c : UInt8) (h : ¬ (c.toNat : Int) = 34) : nq false false c = (false, false) := by
  have : (c == 34) = false := beq_eq_false_iff_ne.2 (fun e => h (by rw [e]; rfl))
  simp [nq, this]
theorem nq_else (q : Bool) (c : UInt8) (h : ¬ (c.toNat : Int) = 34) (h2 : ¬ (c.toNat : Int) = 92) : nq q false c = (q, false) := by
  have h1 : (c == 34) = false := beq_eq_false_iff_ne.2 (fun e => h (by rw [e]; rfl))
  have h3 : (c == 92) = false := beq_eq_false_iff_ne.2 (fun e => h2 (by rw [e]; rfl))
  simp [nq, h1, h3]

/-- What a text's octets have come to: the pieces, the piece that is begun, within marks, escaped. -/
def scan1 (st : List (List UInt8) × List UInt8 × Bool × Bool) (c : UInt8) : List (List UInt8) × List UInt8 × Bool × Bool :=
  if (nq st.2.2.1 st.2.2.2 c).1 = false ∧ c = 44 then (st.1 ++ emit st.2.1, [], nq st.2.2.1 st.2.2.2 c) else (st.1, st.2.1 ++ [c], nq st.2.2.1 st.2.2.2 c)
def scan (l : List UInt8) : List (List UInt8) × List UInt8 × Bool × Bool := l.foldl scan1 ([], [], false, false)
def splitText (l : List UInt8) : List (List UInt8) := (scan l).1 ++ emit (scan l).2.1
def splitAll (ls : List (List UInt8)) : List (List UInt8) := ls.flatMap splitText

theorem scan_snoc (s : ByteArray) (k : Nat) (h : k < s.size) : scan (s.data.toList.take (k + 1)) = scan1 (scan (s.data.toList.take k)) s[k] := by
  unfold scan; rw [take_snoc s k h, List.foldl_append]; rfl
/-- The state behind k octets, the piece begun at place f. -/
def At (s : ByteArray) (f k : Nat) (out : List (List UInt8)) (q e : Bool) : Prop := f ≤ k ∧ scan (s.data.toList.take k) = (out, (s.data.toList.take k).drop f, q, e)
theorem At.zero (s : ByteArray) : At s 0 0 [] false false := ⟨Nat.le_refl 0, rfl⟩
theorem drop_snoc (s : ByteArray) (f k : Nat) (hf : f ≤ k) (h : k < s.size) : (s.data.toList.take (k + 1)).drop f = (s.data.toList.take k).drop f ++ [s[k]] := by
  rw [take_snoc s k h, List.drop_append_of_le_length]
  rw [List.length_take, length_size]; omega
theorem drop_self (s : ByteArray) (k : Nat) : (s.data.toList.take k).drop k = [] := List.drop_of_length_le (List.length_take_le k _)
theorem At.cut {s : ByteArray} {f k : Nat} {out : List (List UInt8)} {q e : Bool} (h : At s f k out q e) (hk : k < s.size) (hq : (nq q e s[k]).1 = false) (hc : s[k] = 44) : At s (k + 1) (k + 1) (out ++ emit ((s.data.toList.take k).drop f)) (nq q e s[k]).1 (nq q e s[k]).2 := by
  refine ⟨Nat.le_refl _, ?_⟩
  rw [scan_snoc s k hk, h.2, drop_self]
  unfold scan1
  rw [if_pos ⟨hq, hc⟩]
theorem At.on {s : ByteArray} {f k : Nat} {out : List (List UInt8)} {q e : Bool} (h : At s f k out q e) (hk : k < s.size) (hq : ¬ ((nq q e s[k]).1 = false ∧ s[k] = 44)) : At s f (k + 1) out (nq q e s[k]).1 (nq q e s[k]).2 := by
  refine ⟨Nat.le_succ_of_le h.1, ?_⟩
  rw [scan_snoc s k hk, h.2, drop_snoc s f k h.1 hk]
  unfold scan1
  rw [if_neg hq]
theorem At.done {s : ByteArray} {f : Nat} {out : List (List UInt8)} {q e : Bool} (h : At s f s.size out q e) : splitText s.data.toList = out ++ emit (s.data.toList.drop f) := by
  have h2 := h.2
  rw [take_all s s.size (Nat.le_refl _)] at h2
  unfold splitText; rw [h2]

/-- How many pieces there are at most. -/
theorem emit_len (l : List UInt8) : (emit l).length ≤ 1 := by unfold emit; split <;> simp
theorem scan_len : ∀ (l : List UInt8) (st : List (List UInt8) × List UInt8 × Bool × Bool), (l.foldl scan1 st).1.length ≤ st.1.length + l.length
  | [], st => by simp
  | c :: l, st => by
    have h := scan_len l (scan1 st c)
    have h1 : (scan1 st c).1.length ≤ st.1.length + 1 := by
      unfold scan1
      split
      · have := emit_len st.2.1; simp; omega
      · simp
    simp only [List.foldl_cons, List.length_cons]; omega
theorem At.len {s : ByteArray} {f k : Nat} {out : List (List UInt8)} {q e : Bool} (h : At s f k out q e) : out.length ≤ k := by
  have h1 := scan_len (s.data.toList.take k) ([], [], false, false)
  have h2 := h.2
  unfold scan at h2
  rw [h2] at h1
  have := List.length_take_le k s.data.toList
  simp only [List.length_nil] at h1; omega
theorem splitText_len (l : List UInt8) : (splitText l).length ≤ l.length + 1 := by
  have h1 := scan_len l ([], [], false, false)
  have h2 := emit_len (scan l).2.1
  unfold splitText
  rw [List.length_append]
  unfold scan at h2 ⊢
  simp only [List.length_nil] at h1; omega
theorem splitAll_len (ls : List (List UInt8)) (h : ∀ l ∈ ls, l.length ≤ 1000000) : (splitAll ls).length ≤ 1000001 * ls.length := by
  induction ls with
  | nil => simp [splitAll]
  | cons l ls ih =>
    have h1 := splitText_len l
    have h2 := h l (by simp)
    have h3 := ih (fun l' hl' => h l' (by simp [hl']))
    have e : splitAll (l :: ls) = splitText l ++ splitAll ls := by simp [splitAll]
    rw [e, List.length_append, List.length_cons]; omega
theorem splitAll_snoc (ls : List (List UInt8)) (k : Nat) (h : k < ls.length) : splitAll (ls.take (k + 1)) = splitAll (ls.take k) ++ splitText ls[k] := by
  have e := List.take_succ_eq_append_getElem h
  unfold splitAll
  rw [e, List.flatMap_append, List.flatMap_cons, List.flatMap_nil, List.append_nil]

end Oct

namespace Oct

/-- What comes out of a list as it is: a token, or a text between quotation marks. -/
def Atom (x : List UInt8) : Prop := token x = true ∨ ∃ y, allOf plain y = true ∧ x = quote y

theorem fold_token : ∀ (x : List UInt8), (∀ c ∈ x, tch c = true) → ∀ out cur, x.foldl scan1 (out, cur, false, false) = (out, cur ++ x, false, false)
  | [], _, out, cur => by simp
  | c :: x, h, out, cur => by
    obtain ⟨_, _, _, h44, h34, h92⟩ := tch_plain c (h c (by simp))
    have hn : nq false false c = (false, false) := by
      have h1 : (c == 34) = false := beq_eq_false_iff_ne.2 h34
      simp [nq, h1]
    have e : scan1 (out, cur, false, false) c = (out, cur ++ [c], false, false) := by
      unfold scan1; simp only [hn]; rw [if_neg (fun e => h44 e.2)]
    rw [List.foldl_cons, e, fold_token x (fun d hd => h d (by simp [hd]))]
    simp
theorem fold_escd : ∀ (y : List UInt8), ∀ out cur, (escd y).foldl scan1 (out, cur, true, false) = (out, cur ++ escd y, true, false)
  | [], out, cur => by simp [escd]
  | c :: y, out, cur => by
    have e : escd (c :: y) = esc c ++ escd y := by simp [escd]
    have s1 : (esc c).foldl scan1 (out, cur, true, false) = (out, cur ++ esc c, true, false) := by
      unfold esc
      by_cases hm : c = 34 ∨ c = 92
      · rw [if_pos hm]
        have a : scan1 (out, cur, true, false) 92 = (out, cur ++ [92], true, true) := rfl
        have b : scan1 (out, cur ++ [92], true, true) c = (out, cur ++ [92] ++ [c], true, false) := by
          have hn : nq true true c = (true, false) := rfl
          unfold scan1; simp only [hn]; rw [if_neg (by simp)]
        simp only [List.foldl_cons, List.foldl_nil, a, b]; simp
      · rw [if_neg hm]
        have hn : nq true false c = (true, false) := by
          have h1 : (c == 34) = false := beq_eq_false_iff_ne.2 (fun e => hm (Or.inl e))
          have h2 : (c == 92) = false := beq_eq_false_iff_ne.2 (fun e => hm (Or.inr e))
          simp [nq, h1, h2]
        simp only [List.foldl_cons, List.foldl_nil]
        unfold scan1; simp only [hn]; rw [if_neg (by simp)]
    rw [e, List.foldl_append, s1, fold_escd y]; simp
theorem fold_atom {x : List UInt8} (h : Atom x) (out : List (List UInt8)) (cur : List UInt8) : x.foldl scan1 (out, cur, false, false) = (out, cur ++ x, false, false) := by
  rcases h with h | ⟨y, _, rfl⟩
  · exact fold_token x (token_all x h).2 out cur
  · unfold quote
    have a : scan1 (out, cur, false, false) 34 = (out, cur ++ [34], true, false) := rfl
    have a' : (34 :: escd y).foldl scan1 (out, cur, false, false) = (out, cur ++ [34] ++ escd y, true, false) := by
      rw [List.foldl_cons, a, fold_escd]
    rw [List.foldl_append, a']
    have b : [34].foldl scan1 (out, cur ++ [34] ++ escd y, true, false) = (out, cur ++ [34] ++ escd y ++ [34], false, false) := rfl
    rw [b]; simp

theorem atom_ends {x : List UInt8} (h : Atom x) : x ≠ [] ∧ trim x = x := by
  rcases h with h | ⟨y, _, rfl⟩
  · refine ⟨(token_all x h).1, ?_⟩
    have := token_value x h
    simp only [value, Bool.and_eq_true, beq_iff_eq] at this
    exact this.2
  · refine ⟨by simp [quote], ?_⟩
    rw [trim_fix']
    constructor
    · intro c r e
      have : c = 34 := by simp only [quote, List.cons_append] at e; exact (List.cons.inj e).1.symm
      subst this; rfl
    · intro i c e
      have : c = 34 := by
        unfold quote at e
        have := List.append_inj_right' e rfl
        exact (List.cons.inj this).1.symm
      subst this; rfl
theorem emit_atom {x : List UInt8} (h : Atom x) (b b' : List UInt8) (hb : b.all blank = true) (hb' : b'.all blank = true) : emit (b ++ x ++ b') = [x] := by
  obtain ⟨h1, h2⟩ := atom_ends h
  have e : trim (b ++ x ++ b') = x := by rw [trim_blanks _ _ _ hb hb', h2]
  rw [emit_yes (by rw [e]; exact h1), e]
theorem emit_blank {b : List UInt8} (h : b.all blank = true) : emit b = [] := emit_no ((trim_eq_nil b).2 h)

/-- The first part: each piece, and behind it a blank, a comma, a tab, a comma, a blank. -/
def JA (l : List UInt8) (W : List (List UInt8)) : Prop := ∃ cur, cur.all blank = true ∧ l.foldl scan1 ([], [], false, false) = (W, cur, false, false)
/-- The second part, whatever stands ahead of it: a comma, a blank, and the piece. -/
def JB (l : List UInt8) (W : List (List UInt8)) : Prop := ∀ out cur, ∃ out' cur', l.foldl scan1 (out, cur, false, false) = (out', cur', false, false) ∧ out' ++ emit cur' = out ++ emit cur ++ W
theorem JA.nil : JA [] [] := ⟨[], rfl, rfl⟩
theorem JB.nil : JB [] [] := fun out cur => ⟨out, cur, rfl, by simp⟩
theorem JA.add {l x : List UInt8} {W : List (List UInt8)} (h : JA l W) (hx : Atom x) : JA (l ++ (x ++ [32, 44, 9, 44, 32])) (W ++ [x]) := by
  obtain ⟨cur, hc, hf⟩ := h
  refine ⟨[32], rfl, ?_⟩
  rw [List.foldl_append, hf, List.foldl_append, fold_atom hx]
  have s1 : scan1 (W, cur ++ x, false, false) 32 = (W, cur ++ x ++ [32], false, false) := rfl
  have s2 : scan1 (W, cur ++ x ++ [32], false, false) 44 = (W ++ emit (cur ++ x ++ [32]), [], false, false) := rfl
  rw [emit_atom hx cur [32] hc rfl] at s2
  have s3 : scan1 (W ++ [x], [], false, false) 9 = (W ++ [x], [9], false, false) := rfl
  have s4 : scan1 (W ++ [x], [9], false, false) 44 = (W ++ [x] ++ emit [9], [], false, false) := rfl
  rw [emit_blank (b := [9]) rfl, List.append_nil] at s4
  have s5 : scan1 (W ++ [x], [], false, false) 32 = (W ++ [x], [32], false, false) := rfl
  simp only [List.foldl_cons, List.foldl_nil, s1, s2, s3, s4, s5]
theorem JB.add {l x : List UInt8} {W : List (List UInt8)} (h : JB l W) (hx : Atom x) : JB (l ++ ([44, 32] ++ x)) (W ++ [x]) := by
  intro out cur
  obtain ⟨out', cur', hf, he⟩ := h out cur
  refine ⟨out' ++ emit cur', [32] ++ x, ?_, ?_⟩
  · rw [List.foldl_append, hf, List.foldl_append]
    have s1 : scan1 (out', cur', false, false) 44 = (out' ++ emit cur', [], false, false) := rfl
    have s2 : scan1 (out' ++ emit cur', [], false, false) 32 = (out' ++ emit cur', [32], false, false) := rfl
    simp only [List.foldl_cons, List.foldl_nil, s1, s2]
    exact fold_atom hx _ _
  · have := emit_atom hx [32] [] rfl rfl
    rw [List.append_nil] at this
    rw [this, he]; simp
theorem join_one {a b : List UInt8} {V W : List (List UInt8)} (ha : JA a V) (hb : JB b W) : splitAll [a ++ b] = V ++ W := by
  obtain ⟨cur, hc, hf⟩ := ha
  obtain ⟨out', cur', hf', he⟩ := hb V cur
  have e : splitText (a ++ b) = V ++ W := by
    unfold splitText scan
    rw [List.foldl_append, hf, hf']
    show out' ++ emit cur' = _
    rw [he, emit_blank hc, List.append_nil]
  simp [splitAll, e]
theorem join_two {a b : List UInt8} {V W : List (List UInt8)} (ha : JA a V) (hb : JB b W) : splitAll [a, b] = V ++ W := by
  obtain ⟨cur, hc, hf⟩ := ha
  obtain ⟨out', cur', hf', he⟩ := hb [] []
  have e1 : splitText a = V := by
    unfold splitText scan
    rw [hf]
    show V ++ emit cur = _
    rw [emit_blank hc, List.append_nil]
  have e2 : splitText b = W := by
    unfold splitText scan
    rw [hf']
    show out' ++ emit cur' = _
    rw [he]; simp [emit_blank (b := []) rfl]
  simp [splitAll, e1, e2]

end Oct

namespace Oct

def hexl : List UInt8 := [48, 49, 50, 51, 52, 53, 54, 55, 56, 57, 97, 98, 99, 100, 101, 102]
/-- The digit of a number below 16. -/
def ch (r : Nat) : UInt8 := hexl.getD r 0
theorem ch_small (r : Nat) (h : r < 10) : ((ch r).toNat : Int) = 48 + r := by
  rcases r with _ | _ | _ | _ | _ | _ | _ | _ | _ | _ | r
  all_goals first | rfl | omega
theorem ch_great (r : Nat) (h : 10 ≤ r) (h2 : r < 16) : ((ch r).toNat : Int) = 87 + r := by
  rcases r with _ | _ | _ | _ | _ | _ | _ | _ | _ | _ | _ | _ | _ | _ | _ | _ | r
  all_goals first | rfl | omega
theorem ch_worth (r : Nat) (h : r < 16) : worth (ch r) = r := by
  rcases r with _ | _ | _ | _ | _ | _ | _ | _ | _ | _ | _ | _ | _ | _ | _ | _ | r
  all_goals first | rfl | omega

theorem ch_at (r : Nat) (h : r < 16) {hb : r < (⟨#[48, 49, 50, 51, 52, 53, 54, 55, 56, 57, 97, 98, 99, 100, 101, 102, 103, 104, 105, 106, 107, 108, 109, 110, 111, 112, 113, 114, 115, 116, 117, 118, 119, 120, 121, 122]⟩ : ByteArray).size} : (⟨#[48, 49, 50, 51, 52, 53, 54, 55, 56, 57, 97, 98, 99, 100, 101, 102, 103, 104, 105, 106, 107, 108, 109, 110, 111, 112, 113, 114, 115, 116, 117, 118, 119, 120, 121, 122]⟩ : ByteArray)[r]'hb = ch r := by
  rcases r with _ | _ | _ | _ | _ | _ | _ | _ | _ | _ | _ | _ | _ | _ | _ | _ | r
  all_goals first | rfl | omega
/-- The digits of u to the base b (2 or more), the first ahead; one digit for 0. -/
def dgs (b u : Nat) : List UInt8 := if _h : u < b ∨ b < 2 then [ch u] else dgs b (u / b) ++ [ch (u % b)]
  termination_by u
  decreasing_by
    have : ¬ (u < b ∨ b < 2) := _h
    exact Nat.div_lt_self (by omega) (by omega)
theorem dgs_last {b u : Nat} (h : u < b) : dgs b u = [ch u] := by rw [dgs, dif_pos (Or.inl h)]
theorem dgs_more {b u : Nat} (hb : 2 ≤ b) (h : b ≤ u) : dgs b u = dgs b (u / b) ++ [ch (u % b)] := by rw [dgs, dif_neg (by omega)]

theorem dgs_dec (u : Nat) : Go.Lib.decDigits u = dgs 10 u := by
  induction u using Nat.strongRecOn with
  | _ u ih =>
    by_cases h : u < 10
    · rw [dgs_last h, Go.Lib.decDigits, dif_pos h]
      congr 1
      apply UInt8.toNat_inj.1
      have := ch_small u h
      rw [UInt8.toNat_ofNat']
      omega
    · rw [dgs_more (by decide) (by omega), Go.Lib.decDigits, dif_neg h, ih (u / 10) (by omega)]
      congr 2
      apply UInt8.toNat_inj.1
      have := ch_small (u % 10) (by omega)
      rw [UInt8.toNat_ofNat']
      omega

theorem dgs_dig (b : Nat) (hb : 2 ≤ b) (hb2 : b ≤ 16) (u : Nat) : allOf (dig b) (dgs b u) = true := by
  induction u using Nat.strongRecOn with
  | _ u ih =>
    by_cases h : u < b
    · rw [dgs_last h]; simp [allOf, dig, ch_worth u (by omega), h]
    · rw [dgs_more hb (by omega)]
      have h1 := ih (u / b) (Nat.div_lt_self (by omega) (by omega))
      have h2 : u % b < b := Nat.mod_lt _ (by omega)
      unfold allOf at h1 ⊢
      rw [List.all_append, h1]
      simp [dig, ch_worth (u % b) (by omega), h2]
theorem dgs_ne (b : Nat) (u : Nat) : dgs b u ≠ [] := by
  rw [dgs]; split <;> simp
theorem dgs_len16 (u : Nat) (h : u < 2 ^ 63) : (dgs 16 u).length ≤ 100 := by
  have : ∀ (k v : Nat), v < 16 ^ (k + 1) → (dgs 16 v).length ≤ k + 1 := by
    intro k
    induction k with
    | zero => intro v hv; rw [dgs_last (by simpa using hv)]; simp
    | succ k ih =>
      intro v hv
      by_cases h : v < 16
      · rw [dgs_last h]; simp
      · rw [dgs_more (by decide) (by omega), List.length_append]
        have := ih (v / 16) (by rw [Nat.pow_succ] at hv; omega)
        simp; omega
  have := this 15 u (by omega)
  omega
theorem dgs_len10 (u : Nat) (h : u < 2 ^ 63) : (dgs 10 u).length ≤ 100 := by
  have : ∀ (k v : Nat), v < 10 ^ (k + 1) → (dgs 10 v).length ≤ k + 1 := by
    intro k
    induction k with
    | zero => intro v hv; rw [dgs_last (by simpa using hv)]; simp
    | succ k ih =>
      intro v hv
      by_cases h : v < 10
      · rw [dgs_last h]; simp
      · rw [dgs_more (by decide) (by omega), List.length_append]
        have := ih (v / 10) (by rw [Nat.pow_succ] at hv; omega)
        simp; omega
  have := this 19 u (by omega)
  omega

theorem num_snoc (b : Nat) (most : Int) (l : List UInt8) (c : UInt8) : ∀ n, num b most n (l ++ [c]) = (num b most n l).bind fun m => if most < m * b + worth c then none else some (m * b + worth c) := by
  induction l with
  | nil => intro n; simp [num]
  | cons d l ih =>
    intro n
    rw [List.cons_append]
    simp only [num]
    by_cases h : most < n * b + worth d
    · rw [if_pos h, if_pos h]; rfl
    · rw [if_neg h, if_neg h]; exact ih _
theorem num_dgs (b : Nat) (hb : 2 ≤ b) (hb2 : b ≤ 16) (most : Int) (u : Nat) (hu : (u : Int) ≤ most) : num b most 0 (dgs b u) = some (u : Int) := by
  induction u using Nat.strongRecOn with
  | _ u ih =>
    by_cases h : u < b
    · rw [dgs_last h]
      simp only [num, ch_worth u (by omega)]
      rw [if_neg (by omega)]; simp
    · rw [dgs_more hb (by omega), num_snoc]
      have hd := Nat.div_add_mod u b
      have hlt : u / b < u := Nat.div_lt_self (by omega) (by omega)
      rw [ih (u / b) hlt (by omega)]
      have hm : u % b < b := Nat.mod_lt _ (by omega)
      have e : ((u / b : Nat) : Int) * b + (u % b : Nat) = u := by
        rw [← Int.natCast_mul, Nat.mul_comm, ← Int.natCast_add, hd]
      show (if most < ((u / b : Nat) : Int) * b + (worth (ch (u % b)) : Nat) then none else some (((u / b : Nat) : Int) * b + (worth (ch (u % b)) : Nat))) = _
      rw [ch_worth (u % b) (by omega), e, if_neg (by omega)]
theorem number_dgs (b : Nat) (hb : 2 ≤ b) (hb2 : b ≤ 16) (most : Int) (u : Nat) (hu : (u : Int) ≤ most) : number b most (dgs b u) = ((u : Int), 0) := by
  unfold number
  rw [if_neg (by rw [dgs_dig b hb hb2 u]; simp [dgs_ne]), if_neg (by omega), num_dgs b hb hb2 most u hu]

theorem ch_is48 (b v : Nat) (h : v % b < 10) : (48 : Int) + (v : Int) % b = ((ch (v % b)).toNat : Int) := by
  rw [ch_small _ h]; omega
theorem ch_is87 (b v : Nat) (h : 10 ≤ v % b ∧ v % b < 16) : (87 : Int) + (v : Int) % b = ((ch (v % b)).toNat : Int) := by
  rw [ch_great _ h.1 h.2]; omega
theorem step16 {v l : Nat} (h : 16 ≤ v) (hv : l ≤ 15 ∧ v < 16 ^ (16 - l)) : l + 1 ≤ 15 ∧ v / 16 < 16 ^ (16 - (l + 1)) := by
  have h1 : l + 1 ≤ 15 := by
    rcases Nat.lt_or_ge l 15 with h2 | h2
    · omega
    · have e : l = 15 := by omega
      subst e
      have : v < 16 ^ 1 := hv.2
      omega
  refine ⟨h1, ?_⟩
  have e : 16 - l = (16 - (l + 1)) + 1 := by omega
  have h3 := hv.2
  rw [e, Nat.pow_succ] at h3
  omega
/-- What Print answers. -/
def base (b : Int) : Nat := if b = 16 then 16 else 10
def print (n b : Int) : List UInt8 := dgs (base b) n.toNat

end Oct
